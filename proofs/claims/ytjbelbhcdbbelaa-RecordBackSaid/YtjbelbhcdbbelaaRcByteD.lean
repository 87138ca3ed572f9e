/- Contracts of reading a number and a Write out of the log's bytes. -/
import Derived.Test.YtjbelbhcdbbelaaRcTxn
namespace Go.Proofs.Ytjbelbhcdbbelaa.Rec
set_option maxRecDepth 20000
open Go.RowKit
open Go.Proofs.Ytjbelbhcdbbelaa.Mem Go.Proofs.Ytjbelbhcdbbelaa.Crc

theorem numberAt_any (A : Option Addr) (N c B : Nat) (bs : List UInt8) (w : World) (at_ n : Nat) (h : Holds w B A N bs) (hc : N ≤ c) (hm : c ≤ maxLen) (h0 : 0 < n) (h8 : n ≤ 8) (hat : at_ + n ≤ N) :
    Calls Try.prog 20 #[.slice A N c, .int .i64 (at_ : Int), .int .i64 (n : Int)] w fun e w' => e = .returned (.int .u64 (numFrom bs at_ n : Int)) ∧ w = w' := by
  unfold maxLen at hm
  obtain ⟨b, off, rfl⟩ := Holds.addr h (by omega)
  have hd := Holds.drop h hat
  have HD := Lib.hid hd; clear hd
  have H := Lib.hid h; clear h
  go_enter Try.func20, Try.ntmps20
  go_wp2_with fail
  refine (number_any _ n (c - at_) B _ w HD.out h8).mono ?_
  rintro e w' ⟨rfl, rfl⟩
  go_wp2
  go_ret
  exact ⟨rfl, rfl⟩

set_option maxRecDepth 100000 in
theorem write_any (k : Nat) (A : Option Addr) (n c B : Nat) (bs : List UInt8) (w : World) (hk : k < 4294967296) (h : Holds w B A n bs) (h4 : 4 ≤ n) (hn : n ≤ 140737488355328) (hB : B ≤ w.heap.size) :
    Calls Try.prog 21 #[.int .u64 (k : Int), .slice A n c] w fun e w' => ∃ A' c', e = .returned (.agg #[.int .i64 (outNum k : Int), .slice A' n c']) ∧ Owned w' w.heap.size (.slice A' n c') (outData k bs) ∧ Below w.heap.size w w' := by
  obtain rfl : bs.length = n := h.1
  have hol := outData_len k bs h4
  have HOL := Lib.hid hol; clear hol
  have H := Lib.hid h; clear h
  by_cases hb : 2147483648 ≤ k
  · have hon : ((outNum k : Nat) : Int) = (k : Int) - 2147483648 := by unfold outNum; rw [if_pos hb]; omega
    have hod : outData k bs = over bs 0 markL := by unfold outData; rw [if_pos hb]
    rw [hon]
    rw [hod] at HOL
    rw [hod]
    clear hon hod
    have hb : (2147483648 : Int) ≤ (k : Int) := by omega
    have hk : (k : Int) < 4294967296 := by omega
    generalize (k : Int) = K at hb hk ⊢
    go_enter Try.func21, Try.ntmps21
    go_wp2_with fail
    have hx := H.out.below (((Below.refl w.heap.size w).alloc (Nat.le_refl _) (.cells #[.int .i64 0, .slice none 0 0] 40)).mono hB)
    have hr0 := heap_alloc_new w (.cells #[.int .i64 0, .slice none 0 0] 40)
    have hz0 : (w.alloc (.cells #[.int .i64 0, .slice none 0 0] 40)).heap.size = w.heap.size + 1 := by simp
    have hb0 : Below w.heap.size w (w.alloc (.cells #[.int .i64 0, .slice none 0 0] 40)) := (Below.refl w.heap.size w).alloc (Nat.le_refl _) _
    generalize w.alloc (.cells #[.int .i64 0, .slice none 0 0] 40) = w0 at hx hr0 hz0 hb0 ⊢
    have HR0 := Lib.hid hr0; clear hr0
    have HX := Lib.hid hx; clear hx
    have HZ0 := Lib.hid hz0; clear hz0
    have HB0 := Lib.hid hb0; clear hb0
    refine (bclone_any A bs.length c B bs w0 HX.out hn (by have := HZ0.out; omega)).mono ?_
    rintro e w1 ⟨A1, c1, rfl, ho1, hb1⟩
    obtain ⟨g, cap, cur, hv, hg0, -⟩ := Owned.cut ho1 (by omega)
    injection hv with e1 e2 e3
    clear e2
    subst e1 e3
    obtain ⟨w2, hrun, ho2, hb2⟩ := run_copy_const w1 3 w0.heap.size g _ c1 bs markL bs.length c1 ho1 (by decide) h4 h4
    have hr2 : w2.heap[w.heap.size]? = some (.cells #[.int .i64 0, .slice none 0 0] 40 (0, 0)) := by
      rw [hb2.block _ (by have := HZ0.out; omega), hb1.block _ (by have := HZ0.out; omega)]; exact HR0.out
    have hrun' : (Builtin.copy_ #[27, 9] 3 #[.slice (some ⟨g, 0, none⟩) bs.length c1, .string ⟨#[85, 76, 79, 71]⟩]).run Try.prog w1 = .ok (goInt 4) w2 := hrun
    clear hrun
    have HB2 : Hid (Below w.heap.size w w2) := Lib.hid (HB0.out.trans ((hb1.trans hb2).mono (by have := HZ0.out; omega)))
    have HO2 := Lib.hid ho2; clear ho2 ho1 hb1 hb2
    have q0 : w2.cell? ⟨w.heap.size, 0, none⟩ = some (.int .i64 0) := cell_of_row w2 w.heap.size 0 _ _ _ hr2
    have q1 : w2.cell? ⟨w.heap.size, 1, none⟩ = some (.slice none 0 0) := cell_of_row w2 w.heap.size 1 _ _ _ hr2
    have f0 := frozen_of_row w2 w.heap.size 0 _ _ hr2
    have f1 := frozen_of_row w2 w.heap.size 1 _ _ hr2
    have HR2 := Lib.hid hr2; clear hr2
    go_wp2_with fail
    refine bodyPost_ret (v := .agg #[.int .i64 (K - 2147483648), .slice (some ⟨g, 0, none⟩) bs.length c1]) (by simp [results, go_sem, q0, q1]) rfl ⟨_, _, rfl, ?_, (HB2.out.setCell (by simp) _).setCell (by simp) _⟩
    have hz := HZ0.out
    exact Owned.other (Owned.other (Owned.mono HO2.out (by omega)) (fun k e => by simp [Value.ownBlock] at e; omega)) (fun k e => by simp [Value.ownBlock] at e; omega)
  · have hon : ((outNum k : Nat) : Int) = (k : Int) := by unfold outNum; rw [if_neg hb]
    have hod : outData k bs = bs := by unfold outData; rw [if_neg hb]
    rw [hon]
    rw [hod] at HOL
    rw [hod]
    clear hon hod
    have hb : ¬ (2147483648 : Int) ≤ (k : Int) := by omega
    have hk : (k : Int) < 4294967296 := by omega
    have hk0 : 0 ≤ (k : Int) := by omega
    generalize (k : Int) = K at hb hk hk0 ⊢
    go_enter Try.func21, Try.ntmps21
    go_wp2_with fail
    have hx := H.out.below (((Below.refl w.heap.size w).alloc (Nat.le_refl _) (.cells #[.int .i64 0, .slice none 0 0] 40)).mono hB)
    have hr0 := heap_alloc_new w (.cells #[.int .i64 0, .slice none 0 0] 40)
    have hz0 : (w.alloc (.cells #[.int .i64 0, .slice none 0 0] 40)).heap.size = w.heap.size + 1 := by simp
    have hb0 : Below w.heap.size w (w.alloc (.cells #[.int .i64 0, .slice none 0 0] 40)) := (Below.refl w.heap.size w).alloc (Nat.le_refl _) _
    generalize w.alloc (.cells #[.int .i64 0, .slice none 0 0] 40) = w0 at hx hr0 hz0 hb0 ⊢
    have HR0 := Lib.hid hr0; clear hr0
    have HX := Lib.hid hx; clear hx
    have HZ0 := Lib.hid hz0; clear hz0
    have HB0 := Lib.hid hb0; clear hb0
    refine (bclone_any A bs.length c B bs w0 HX.out hn (by have := HZ0.out; omega)).mono ?_
    rintro e w2 ⟨A1, c1, rfl, ho2, hb1⟩
    obtain ⟨g, cap, cur, hv, hg0, -⟩ := Owned.cut ho2 (by omega)
    injection hv with e1 e2 e3
    clear e2
    subst e1 e3
    have hr2 : w2.heap[w.heap.size]? = some (.cells #[.int .i64 0, .slice none 0 0] 40 (0, 0)) := by
      rw [hb1.block _ (by have := HZ0.out; omega)]; exact HR0.out
    have HB2 : Hid (Below w.heap.size w w2) := Lib.hid (HB0.out.trans (hb1.mono (by have := HZ0.out; omega)))
    have HO2 := Lib.hid ho2; clear ho2 hb1
    have q0 : w2.cell? ⟨w.heap.size, 0, none⟩ = some (.int .i64 0) := cell_of_row w2 w.heap.size 0 _ _ _ hr2
    have q1 : w2.cell? ⟨w.heap.size, 1, none⟩ = some (.slice none 0 0) := cell_of_row w2 w.heap.size 1 _ _ _ hr2
    have f0 := frozen_of_row w2 w.heap.size 0 _ _ hr2
    have f1 := frozen_of_row w2 w.heap.size 1 _ _ hr2
    have HR2 := Lib.hid hr2; clear hr2
    go_wp2_with fail
    refine bodyPost_ret (v := .agg #[.int .i64 K, .slice (some ⟨g, 0, none⟩) bs.length c1]) (by simp [results, go_sem, q0, q1]) rfl ⟨_, _, rfl, ?_, (HB2.out.setCell (by simp) _).setCell (by simp) _⟩
    have hz := HZ0.out
    exact Owned.other (Owned.other (Owned.mono HO2.out (by omega)) (fun k e => by simp [Value.ownBlock] at e; omega)) (fun k e => by simp [Value.ownBlock] at e; omega)
end Go.Proofs.Ytjbelbhcdbbelaa.Rec
