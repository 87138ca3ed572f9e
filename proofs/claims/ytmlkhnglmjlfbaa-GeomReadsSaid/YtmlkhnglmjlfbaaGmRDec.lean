/- Contract of the document's reading of a superblock. -/
import Derived.Test.YtmlkhnglmjlfbaaGmDec
namespace Go.Proofs.Ytmlkhnglmjlfbaa.Gm
set_option maxRecDepth 20000
open Go.RowKit
open Go.Proofs.Ytmlkhnglmjlfbaa.Mem Go.Proofs.Ytmlkhnglmjlfbaa.Crc Go.Proofs.Ytmlkhnglmjlfbaa.Rec
attribute [local go_sem ↓] ldG_eq stG_eq eqG_eq

set_option maxRecDepth 100000 in
theorem rat_any (b0 off c B : Nat) (bs : List UInt8) (w : World) (h : Holds w B (some ⟨b0, off, none⟩) 256 bs) (hc : 256 ≤ c) (hm : c ≤ maxLen) :
    Calls Try.prog 27 #[.slice (some ⟨b0, off, none⟩) 256 c, .int .i64 8, .int .i64 4] w fun e w' => e = .returned (.int .i64 (said bs : Int)) ∧ w = w' := by
  unfold maxLen at hm
  have hsl := said_lt bs
  have hd := Holds.drop (k := 8) (m := 4) h (by omega)
  have HD := Lib.hid hd; clear hd h
  obtain ⟨N, hN⟩ : ∃ N, N = said bs := ⟨_, rfl⟩
  have hnat : numAt ((bs.drop 8).take 4) 4 = N := by rw [hN]; rfl
  rw [← hN] at hsl ⊢
  have hw : IntKind.i64.wrap (N : Int) = (N : Int) := by rw [IntKind.wrap_i64]; omega
  clear hN hsl
  go_enter Try.func27, Try.ntmps27
  go_wp2_with fail
  with_reducible refine (refnumber_any _ 4 (c - 8) B _ w HD.out (by omega)).mono ?_
  rintro e w1 ⟨rfl, rfl⟩
  rw [hnat]
  go_wp2
  go_ret
  exact ⟨rfl, rfl⟩

set_option maxRecDepth 100000 in
theorem rdecode_short (A : Option Addr) (n c : Nat) (w : World) (hn : n ≠ 256) :
    Calls Try.prog 18 #[.slice A n c] w fun e w' => e = .returned (.tuple #[.agg gm0.c, .int .i64 13]) ∧ Below w.heap.size w w' := by
  have hI : ¬ (n : Int) = 256 := by omega
  go_enter Try.func18, Try.ntmps18
  have l0 := run_stG_new w gm0
  rw [gm0_c] at l0
  go_wp2
  exact bodyPost_ret (results_geom rfl _ _ _ _ (.int .i64 13) rfl rfl rfl (heap_alloc_new w _)) rfl ⟨rfl, (Below.refl _ _).alloc (Nat.le_refl _) _⟩

set_option maxRecDepth 100000 in
set_option maxHeartbeats 1000000 in
theorem rdecode_full (A : Option Addr) (c B : Nat) (bs : List UInt8) (w : World) (h : Holds w B A 256 bs) (hc : 256 ≤ c) (hm : c ≤ maxLen) (hB : B ≤ w.heap.size) :
    Calls Try.prog 18 #[.slice A 256 c] w fun e w' => e = .returned (decE bs) ∧ Below w.heap.size w w' := by
  have hsl := said_lt bs
  obtain ⟨b0, off, rfl⟩ := Holds.addr h (by omega)
  have H := Lib.hid h; clear h
  obtain ⟨W, hW⟩ : ∃ W, W = w.alloc (.cells #[.int .i64 0, .int .i64 0, .int .i64 0, .int .i64 0, .int .i64 0, .int .i64 0, .int .i64 0, .int .i64 0] 23) := ⟨_, rfl⟩
  have hxW : W.heap[w.heap.size]? = some (.cells gm0.c 23 (0, 0)) := hW ▸ heap_alloc_new w _
  have hbW : Below w.heap.size w W := hW ▸ (Below.refl _ _).alloc (Nat.le_refl _) _
  have hzW : W.heap.size = w.heap.size + 1 := by rw [hW]; simp
  have HX := Lib.hid hxW; clear hxW
  have HBW := Lib.hid hbW; clear hbW
  have HZ := Lib.hid hzW; clear hzW
  have HW := Lib.hid hW; clear hW
  have HSL := Lib.hid hsl; clear hsl
  go_enter Try.func18, Try.ntmps18
  go_wp2_with fail
  rw [← HW.out]
  with_reducible refine (rat_any b0 off c B bs W (H.out.below (HBW.out.mono hB)) hc hm).mono ?_
  rintro e w1 ⟨rfl, rfl⟩
  obtain ⟨N, hN⟩ : ∃ N, N = said bs := ⟨_, rfl⟩
  rw [← hN]
  have HN := Lib.hid hN; clear hN
  rcases Decidable.em ((N : Int) < 128 ∨ 1024 < (N : Int)) with h1 | h1
  · have HF : Hid (decE bs = .tuple #[.agg gm0.c, .int .i64 13]) := Lib.hid (by unfold decE isSup; rw [← HN.out, if_neg (by simp; omega)])
    have H1 := Lib.hid h1; clear h1
    go_wp2_with fail
    with_reducible refine (rlayout_no (N : Int) W H1.out).mono ?_
    rintro e w2 ⟨rfl, hb2⟩
    have hx2 : (w2.alloc (.cells gm0.c 23)).heap[w.heap.size]? = some (.cells gm0.c 23 (0, 0)) := by
      rw [heap_alloc_old _ _ (by have := HZ.out; have := hb2.size; omega), hb2.block _ (by have := HZ.out; omega)]; exact HX.out
    obtain ⟨w3, hst, hx3, hb3⟩ := run_stG_at _ _ gm0 gm0 hx2
    have HB3 : Hid (Below w.heap.size w w3) := Lib.hid (((HBW.out.trans (hb2.mono HBW.out.size)).alloc (Nat.le_trans HBW.out.size hb2.size) _).trans (hb3 _ (Nat.le_refl _)))
    have HX3 := Lib.hid hx3
    have l0 := run_stG_new w2 gm0
    have hst' : (stG (.pointer (some ⟨w.heap.size, 0, none⟩)) (.agg #[.int .i64 0, .int .i64 0, .int .i64 0, .int .i64 0, .int .i64 0, .int .i64 0, .int .i64 0, .int .i64 0])).run Try.prog (w2.alloc (.cells gm0.c 23)) = .ok () w3 := hst
    clear hb2 hx2 hx3 hb3 hst
    go_wp2
    exact bodyPost_ret (results_geom rfl _ _ _ _ (.int .i64 13) rfl rfl rfl HX3.out) rfl ⟨by rw [HF.out], HB3.out⟩
  · have h1' : 128 ≤ N := by omega
    have h2' : N ≤ 1024 := by omega
    have H1 := Lib.hid h1'; clear h1'
    have H2 := Lib.hid h2'; clear h2' h1
    go_wp2_with fail
    with_reducible refine (rlayout_ok (N : Int) W (by have := H1.out; omega) (by have := H2.out; omega)).mono ?_
    rintro e w2 ⟨rfl, hb2⟩
    obtain ⟨w2', hw2'⟩ : ∃ x, x = w2.alloc (.cells (lay (N : Int)).c 23) := ⟨_, rfl⟩
    have l0 := run_stG_new w2 (lay (N : Int))
    rw [← hw2'] at l0
    have hxr : w2'.heap[w.heap.size]? = some (.cells gm0.c 23 (0, 0)) := by
      rw [hw2', heap_alloc_old _ _ (by have := HZ.out; have := hb2.size; omega), hb2.block _ (by have := HZ.out; omega)]; exact HX.out
    have hxg : w2'.heap[w2.heap.size]? = some (.cells (lay (N : Int)).c 23 (0, 0)) := by rw [hw2']; exact heap_alloc_new w2 _
    have hz2 : w2'.heap.size = w2.heap.size + 1 := by rw [hw2']; simp
    have hlt2 : w.heap.size < w2.heap.size := by have := HZ.out; have := hb2.size; omega
    have hb2' : Below w.heap.size w w2' := by rw [hw2']; exact (HBW.out.trans (hb2.mono HBW.out.size)).alloc (Nat.le_trans HBW.out.size hb2.size) _
    have l1 := run_ldG w2' w2.heap.size (lay (N : Int)) hxg
    have HXR := Lib.hid hxr; clear hxr
    have HXG := Lib.hid hxg; clear hxg
    have HB2 := Lib.hid hb2'; clear hb2' hb2
    have HLT := Lib.hid hlt2; clear hlt2
    have HZ2 := Lib.hid hz2; clear hz2
    clear hw2'
    go_wp2_with fail
    with_reducible refine (rencode_ok N w2' H1.out H2.out).mono ?_
    rintro e w4 ⟨A4, c4, rfl, ho4, hb4⟩
    have HB4 : Hid (Below w.heap.size w w4) := Lib.hid (HB2.out.trans (hb4.mono HB2.out.size))
    have HXR4 := Lib.hid ((hb4.block _ (by have := HZ2.out; have := HLT.out; omega)).trans HXR.out)
    have HXG4 := Lib.hid ((hb4.block _ (by have := HZ2.out; omega)).trans HXG.out)
    have t1 := run_text w4 w4.heap.size A4 256 c4 (sup N) (Owned.reads ho4)
    have t2 := run_text w4 B (some ⟨b0, off, none⟩) 256 c bs (H.out.below (HB4.out.mono hB))
    clear ho4 hb4 l0 l1
    by_cases hq : bs = sup N
    · have HF : Hid (decE bs = .tuple #[.agg (lay (N : Int)).c, .int .i64 0]) := Lib.hid (by unfold decE isSup; rw [← HN.out, if_pos (decide_eq_true ⟨H1.out, H2.out, hq⟩)])
      rw [← hq] at t1
      clear hq
      have l1 := run_ldG w4 w2.heap.size (lay (N : Int)) HXG4.out
      obtain ⟨w6, hst, hx6, hb6⟩ := run_stG_at w4 w.heap.size (lay (N : Int)) gm0 HXR4.out
      have HB6 : Hid (Below w.heap.size w w6) := Lib.hid (HB4.out.trans (hb6 _ (Nat.le_refl _)))
      have HX6 := Lib.hid hx6
      clear hx6 hb6
      go_wp2
      exact bodyPost_ret (results_geom rfl _ _ _ _ (.int .i64 0) rfl rfl rfl HX6.out) rfl ⟨by rw [HF.out], HB6.out⟩
    · have HF : Hid (decE bs = .tuple #[.agg gm0.c, .int .i64 13]) := Lib.hid (by unfold decE isSup; rw [← HN.out, if_neg (by simp; intro _ _; exact hq)])
      have hne : (bs == sup N) = false := beq_eq_false_iff_ne.2 hq
      obtain ⟨w6, hst, hx6, hb6⟩ := run_stG_at w4 w.heap.size gm0 gm0 HXR4.out
      have hst' : (stG (.pointer (some ⟨w.heap.size, 0, none⟩)) (.agg #[.int .i64 0, .int .i64 0, .int .i64 0, .int .i64 0, .int .i64 0, .int .i64 0, .int .i64 0, .int .i64 0])).run Try.prog w4 = .ok () w6 := hst
      have HB6 : Hid (Below w.heap.size w w6) := Lib.hid (HB4.out.trans (hb6 _ (Nat.le_refl _)))
      have HX6 := Lib.hid hx6
      clear hx6 hb6 hst hq
      go_wp2
      exact bodyPost_ret (results_geom rfl _ _ _ _ (.int .i64 13) rfl rfl rfl HX6.out) rfl ⟨by rw [HF.out], HB6.out⟩
end Go.Proofs.Ytmlkhnglmjlfbaa.Gm
