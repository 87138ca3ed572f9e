/- Contract of the program's told: what bytes tell of a record. -/
import Derived.Test.YtjbelbhcdbbelaaRcHeld
import Derived.Test.YtjbelbhcdbbelaaRcByteD
import Derived.Test.YtjbelbhcdbbelaaRcEnc
namespace Go.Proofs.Ytjbelbhcdbbelaa.Rec
set_option maxRecDepth 20000
open Go.RowKit
open Go.Proofs.Ytjbelbhcdbbelaa.Mem Go.Proofs.Ytjbelbhcdbbelaa.Crc

theorem numberV_any (AT L : Int) (A : Option Addr) (N c B : Nat) (bs : List UInt8) (w : World) (at_ n : Nat) (hAT : AT = (at_ : Int)) (hL : L = (n : Int)) (h : Holds w B A N bs) (hc : N ≤ c) (hm : c ≤ 9223372036854775807) (h0 : 0 < n) (h8 : n ≤ 8) (hat : at_ + n ≤ N) :
    Calls Try.prog 20 #[.slice A N c, .int .i64 AT, .int .i64 L] w fun e w' => e = .returned (.int .u64 (numFrom bs at_ n : Int)) ∧ w = w' := by
  subst hAT hL
  exact numberAt_any A N c B bs w at_ n h hc (by unfold maxLen; omega) h0 h8 hat

def zeroTx : Value := .agg #[.int .u64 0, .slice none 0 0, .slice none 0 0]
/-- Nothing is told. -/
def Untold (w : World) (e : Ending) (w' : World) : Prop := e = .returned (.tuple #[zeroTx, .bool false]) ∧ Below w.heap.size w w'

set_option maxRecDepth 100000 in
theorem told_unmarked (A : Option Addr) (N c B : Nat) (bs : List UInt8) (seq : Nat) (w : World) (h : Holds w B A N bs) (hB : B ≤ w.heap.size) (hc : N ≤ c) (hlk : looks bs = false) :
    Calls Try.prog 14 #[.slice A N c, .int .u64 (seq : Int)] w (Untold w) := by
  have hb0 := (Below.refl w.heap.size w).alloc (Nat.le_refl _) (.cells #[.int .u64 0, .slice none 0 0, .slice none 0 0] 26)
  have hbk := heap_alloc_new w (.cells #[.int .u64 0, .slice none 0 0, .slice none 0 0] 26)
  have hs0 : w.heap.size < (w.alloc (.cells #[.int .u64 0, .slice none 0 0, .slice none 0 0] 26)).heap.size := by simp
  have h1 := h.below (hb0.mono hB)
  have H1 := Lib.hid h1; clear h1
  have HB0 := Lib.hid hb0; clear hb0
  have HBK := Lib.hid hbk; clear hbk
  have HL := Lib.hid hlk; clear hlk h
  go_enter Try.func14, Try.ntmps14
  go_wp2_with fail
  generalize w.alloc (.cells #[.int .u64 0, .slice none 0 0, .slice none 0 0] 26) = W at H1 HB0 HBK hs0 ⊢
  refine (marked_any A N c B bs W H1.out (by omega) hc).mono ?_
  rintro e W1 ⟨rfl, hb1⟩
  rw [HL.out]
  have hbk1 := (hb1.block _ hs0).trans HBK.out
  have HB1 : Hid (Below w.heap.size w W1) := Lib.hid (HB0.out.trans (hb1.mono (by omega)))
  have q0 : W1.cell? ⟨w.heap.size, 0, none⟩ = some (.int .u64 0) := cell_of_row W1 w.heap.size 0 _ _ _ hbk1
  have q1 : W1.cell? ⟨w.heap.size, 1, none⟩ = some (.slice none 0 0) := cell_of_row W1 w.heap.size 1 _ _ _ hbk1
  have q2 : W1.cell? ⟨w.heap.size, 2, none⟩ = some (.slice none 0 0) := cell_of_row W1 w.heap.size 2 _ _ _ hbk1
  have f0 := frozen_of_row W1 w.heap.size 0 _ _ hbk1
  have f1 := frozen_of_row W1 w.heap.size 1 _ _ hbk1
  have f2 := frozen_of_row W1 w.heap.size 2 _ _ hbk1
  clear hb1 hbk1
  go_wp2_with fail
  refine bodyPost_ret (v := .tuple #[.agg #[.int .u64 0, .slice none 0 0, .slice none 0 0], .bool false]) (by simp [results, go_sem, q0, q1, q2]) rfl ⟨rfl, ?_⟩
  exact ((HB1.out.setCell (by simp) _).setCell (by simp) _).setCell (by simp) _

set_option maxRecDepth 100000 in
theorem told_short (A : Option Addr) (N c B : Nat) (bs : List UInt8) (seq : Nat) (w : World) (h : Holds w B A N bs) (hB : B ≤ w.heap.size) (hc : N ≤ c) (hlk : looks bs = true) (hN : N < 512) :
    Calls Try.prog 14 #[.slice A N c, .int .u64 (seq : Int)] w (Untold w) := by
  have hb0 := (Below.refl w.heap.size w).alloc (Nat.le_refl _) (.cells #[.int .u64 0, .slice none 0 0, .slice none 0 0] 26)
  have hbk := heap_alloc_new w (.cells #[.int .u64 0, .slice none 0 0, .slice none 0 0] 26)
  have hs0 : w.heap.size < (w.alloc (.cells #[.int .u64 0, .slice none 0 0, .slice none 0 0] 26)).heap.size := by simp
  have h1 := h.below (hb0.mono hB)
  have H1 := Lib.hid h1; clear h1
  have HB0 := Lib.hid hb0; clear hb0
  have HBK := Lib.hid hbk; clear hbk
  have HL := Lib.hid hlk; clear hlk h
  go_enter Try.func14, Try.ntmps14
  go_wp2_with fail
  generalize w.alloc (.cells #[.int .u64 0, .slice none 0 0, .slice none 0 0] 26) = W at H1 HB0 HBK hs0 ⊢
  refine (marked_any A N c B bs W H1.out (by omega) hc).mono ?_
  rintro e W1 ⟨rfl, hb1⟩
  rw [HL.out]
  have hbk1 := (hb1.block _ hs0).trans HBK.out
  have HB1 : Hid (Below w.heap.size w W1) := Lib.hid (HB0.out.trans (hb1.mono (by omega)))
  have q0 : W1.cell? ⟨w.heap.size, 0, none⟩ = some (.int .u64 0) := cell_of_row W1 w.heap.size 0 _ _ _ hbk1
  have q1 : W1.cell? ⟨w.heap.size, 1, none⟩ = some (.slice none 0 0) := cell_of_row W1 w.heap.size 1 _ _ _ hbk1
  have q2 : W1.cell? ⟨w.heap.size, 2, none⟩ = some (.slice none 0 0) := cell_of_row W1 w.heap.size 2 _ _ _ hbk1
  have f0 := frozen_of_row W1 w.heap.size 0 _ _ hbk1
  have f1 := frozen_of_row W1 w.heap.size 1 _ _ hbk1
  have f2 := frozen_of_row W1 w.heap.size 2 _ _ hbk1
  clear hb1 hbk1
  have hN2 : (N : Int) < 512 := by omega
  go_wp2_with fail
  refine bodyPost_ret (v := .tuple #[.agg #[.int .u64 0, .slice none 0 0, .slice none 0 0], .bool false]) (by simp [results, go_sem, q0, q1, q2]) rfl ⟨rfl, ?_⟩
  exact ((HB1.out.setCell (by simp) _).setCell (by simp) _).setCell (by simp) _

set_option maxRecDepth 100000 in
theorem told_counts (A : Option Addr) (N c B : Nat) (bs : List UInt8) (seq : Nat) (w : World) (h : Holds w B A N bs) (hB : B ≤ w.heap.size) (hc : N ≤ c) (hm : c ≤ 9223372036854775807) (hlk : looks bs = true) (hN : 512 ≤ N) (hbad : ¬ (nW bs + nR bs ≤ 58 ∧ (nW bs + 2) * 256 ≤ N)) :
    Calls Try.prog 14 #[.slice A N c, .int .u64 (seq : Int)] w (Untold w) := by
  have hb0 := (Below.refl w.heap.size w).alloc (Nat.le_refl _) (.cells #[.int .u64 0, .slice none 0 0, .slice none 0 0] 26)
  have hbk := heap_alloc_new w (.cells #[.int .u64 0, .slice none 0 0, .slice none 0 0] 26)
  have hs0 : w.heap.size < (w.alloc (.cells #[.int .u64 0, .slice none 0 0, .slice none 0 0] 26)).heap.size := by simp
  have h1 := h.below (hb0.mono hB)
  have H1 := Lib.hid h1; clear h1
  have HB0 := Lib.hid hb0; clear hb0
  have HBK := Lib.hid hbk; clear hbk
  have HL := Lib.hid hlk; clear hlk h
  go_enter Try.func14, Try.ntmps14
  go_wp2_with fail
  generalize w.alloc (.cells #[.int .u64 0, .slice none 0 0, .slice none 0 0] 26) = W at H1 HB0 HBK hs0 ⊢
  refine (marked_any A N c B bs W H1.out (by omega) hc).mono ?_
  rintro e W1 ⟨rfl, hb1⟩
  rw [HL.out]
  have hbk1 := (hb1.block _ hs0).trans HBK.out
  have HB1 : Hid (Below w.heap.size w W1) := Lib.hid (HB0.out.trans (hb1.mono (by omega)))
  have q0 : W1.cell? ⟨w.heap.size, 0, none⟩ = some (.int .u64 0) := cell_of_row W1 w.heap.size 0 _ _ _ hbk1
  have q1 : W1.cell? ⟨w.heap.size, 1, none⟩ = some (.slice none 0 0) := cell_of_row W1 w.heap.size 1 _ _ _ hbk1
  have q2 : W1.cell? ⟨w.heap.size, 2, none⟩ = some (.slice none 0 0) := cell_of_row W1 w.heap.size 2 _ _ _ hbk1
  have f0 := frozen_of_row W1 w.heap.size 0 _ _ hbk1
  have f1 := frozen_of_row W1 w.heap.size 1 _ _ hbk1
  have f2 := frozen_of_row W1 w.heap.size 2 _ _ hbk1
  have h2 := H1.out.below (hb1.mono (show B ≤ W.heap.size by omega))
  have H2 := Lib.hid h2; clear h2
  clear hb1 hbk1
  have hN2 : ¬ (N : Int) < 512 := by omega
  have hw1 := nW_lt bs
  have hr1 := nR_lt bs
  have hwe : numFrom bs 16 2 = nW bs := rfl
  have hre : numFrom bs 18 2 = nR bs := rfl
  have HWE := Lib.hid hwe; clear hwe
  have HRE := Lib.hid hre; clear hre
  generalize nW bs = nw at hw1 HWE hbad ⊢
  generalize nR bs = nr at hr1 HRE hbad ⊢
  go_wp2_with fail
  refine (numberV_any 16 2 A N c B bs W1 16 2 rfl rfl H2.out hc hm (by omega) (by omega) (by omega)).mono ?_
  rintro e w' ⟨rfl, rfl⟩
  rw [HWE.out]
  go_wp2_with fail
  refine (numberV_any 18 2 A N c B bs W1 18 2 rfl rfl H2.out hc hm (by omega) (by omega) (by omega)).mono ?_
  rintro e w' ⟨rfl, rfl⟩
  rw [HRE.out]
  by_cases hsum : nw + nr ≤ 58
  · have hs1 : ¬ (58 : Int) < (nw : Int) + (nr : Int) := by omega
    have hd1 : decide ((58 : Int) < (nw : Int) + (nr : Int)) = false := by simpa using hs1
    have hs2 : (N : Int) < ((nw : Int) + 2) * 256 := by omega
    clear hbad
    go_wp2_with fail
    refine bodyPost_ret (v := .tuple #[.agg #[.int .u64 0, .slice none 0 0, .slice none 0 0], .bool false]) (by simp [results, go_sem, q0, q1, q2]) rfl ⟨rfl, ?_⟩
    exact ((HB1.out.setCell (by simp) _).setCell (by simp) _).setCell (by simp) _
  · have hs1 : (58 : Int) < (nw : Int) + (nr : Int) := by omega
    clear hbad
    go_wp2_with fail
    refine bodyPost_ret (v := .tuple #[.agg #[.int .u64 0, .slice none 0 0, .slice none 0 0], .bool false]) (by simp [results, go_sem, q0, q1, q2]) rfl ⟨rfl, ?_⟩
    exact ((HB1.out.setCell (by simp) _).setCell (by simp) _).setCell (by simp) _
end Go.Proofs.Ytjbelbhcdbbelaa.Rec
