/- Contracts of reading a superblock: the program's Decode and the document's. -/
import Derived.Test.YtmlkhnglmjlfbaaGmREnc
import Derived.Deep.MidRow
namespace Go.Proofs.Ytmlkhnglmjlfbaa.Gm
set_option maxRecDepth 20000
open Go.RowKit
open Go.Proofs.Ytmlkhnglmjlfbaa.Mem Go.Proofs.Ytmlkhnglmjlfbaa.Crc Go.Proofs.Ytmlkhnglmjlfbaa.Rec
attribute [local go_sem ↓] ldG_eq stG_eq eqG_eq

/-- The number of blocks that bytes say. -/
def said (bs : List UInt8) : Nat := numAt ((bs.drop 8).take 4) 4
theorem said_lt (bs : List UInt8) : said bs < 4294967296 := by
  have := numAt_lt ((bs.drop 8).take 4) 4
  simpa [said] using this
/-- Bytes are a superblock. -/
def isSup (bs : List UInt8) : Bool := decide (128 ≤ said bs ∧ said bs ≤ 1024 ∧ bs = sup (said bs))
def decE (bs : List UInt8) : Value := if isSup bs then .tuple #[.agg (lay (said bs : Int)).c, .int .i64 0] else .tuple #[.agg gm0.c, .int .i64 13]

theorem gm0_c : gm0.c = #[.int .i64 0, .int .i64 0, .int .i64 0, .int .i64 0, .int .i64 0, .int .i64 0, .int .i64 0, .int .i64 0] := rfl
/-- A store of a whole geometry into a variable of one's own. -/
theorem run_stG_at (W : World) (g : Nat) (h h' : Gm) (hg : W.heap[g]? = some (.cells h'.c 23 (0, 0))) :
    ∃ W', (stG (.pointer (some ⟨g, 0, none⟩)) (.agg h.c)).run Try.prog W = .ok () W' ∧ W'.heap[g]? = some (.cells h.c 23 (0, 0)) ∧ ∀ B, B ≤ g → Below B W W' := by
  have hs := run_storeAt_mid (P := Try.prog) W g 0 23 h.c ?_ (by kernel_rfl) (by simp [Gm.c, Value.oneCell'])
  · refine ⟨_, hs, ?_, fun B hB => setCells_below g _ _ _ _ _ hB (Below.refl B W)⟩
    rw [setCells_heap g _ 0 W _ _ hg (by exact Nat.le_refl _)]
    rfl
  · intro j hj
    have : j < h'.c.size := hj
    rw [Nat.zero_add]
    exact ⟨by rw [cell_of_row _ _ _ _ _ _ hg, Array.getElem?_eq_getElem this]; rfl, frozen_of_row _ _ _ _ _ hg⟩

set_option maxRecDepth 100000 in
theorem decode_short (A : Option Addr) (n c : Nat) (w : World) (hn : n ≠ 256) :
    Calls Try.prog 17 #[.slice A n c] w fun e w' => e = .returned (.tuple #[.agg gm0.c, .int .i64 13]) ∧ Below w.heap.size w w' := by
  have hI : ¬ (n : Int) = 256 := by omega
  go_enter Try.func17, Try.ntmps17
  have l0 := run_stG_new w gm0
  rw [gm0_c] at l0
  go_wp2
  exact bodyPost_ret (results_geom rfl _ _ _ _ (.int .i64 13) rfl rfl rfl (heap_alloc_new w _)) rfl ⟨rfl, (Below.refl _ _).alloc (Nat.le_refl _) _⟩

set_option maxRecDepth 100000 in
set_option maxHeartbeats 1000000 in
theorem decode_full (A : Option Addr) (c B : Nat) (bs : List UInt8) (w : World) (h : Holds w B A 256 bs) (hc : 256 ≤ c) (hm : c ≤ maxLen) (hB : B ≤ w.heap.size) :
    Calls Try.prog 17 #[.slice A 256 c] w fun e w' => e = .returned (decE bs) ∧ Below w.heap.size w w' := by
  unfold maxLen at hm
  have hsl := said_lt bs
  obtain ⟨b0, off, rfl⟩ := Holds.addr h (by omega)
  have hd := Holds.drop (k := 8) (m := 4) h (by omega)
  have H := Lib.hid h; clear h
  have HD := Lib.hid hd; clear hd
  obtain ⟨W, hW⟩ : ∃ W, W = w.alloc (.cells #[.int .i64 0, .int .i64 0, .int .i64 0, .int .i64 0, .int .i64 0, .int .i64 0, .int .i64 0, .int .i64 0] 23) := ⟨_, rfl⟩
  have hxW : W.heap[w.heap.size]? = some (.cells gm0.c 23 (0, 0)) := hW ▸ heap_alloc_new w _
  have hbW : Below w.heap.size w W := hW ▸ (Below.refl _ _).alloc (Nat.le_refl _) _
  have hzW : W.heap.size = w.heap.size + 1 := by rw [hW]; simp
  have HX := Lib.hid hxW; clear hxW
  have HBW := Lib.hid hbW; clear hbW
  have HZ := Lib.hid hzW; clear hzW
  have HW := Lib.hid hW; clear hW
  have HSL := Lib.hid hsl; clear hsl
  go_enter Try.func17, Try.ntmps17
  go_wp2_with fail
  rw [← HW.out]
  with_reducible refine (number_any _ 4 (c - 8) B _ W (HD.out.below (HBW.out.mono hB)) (by omega)).mono ?_
  rintro e w1 ⟨rfl, rfl⟩
  obtain ⟨N, hN⟩ : ∃ N, N = said bs := ⟨_, rfl⟩
  have hnat : numAt ((bs.drop 8).take 4) 4 = N := by rw [hN]; rfl
  rw [hnat]
  have hsl := HSL.out
  rw [← hN] at hsl
  have hw : IntKind.i64.wrap (N : Int) = (N : Int) := by rw [IntKind.wrap_i64]; omega
  have HN := Lib.hid hN; clear hN hnat HSL
  rcases Decidable.em ((N : Int) < 128 ∨ 1024 < (N : Int)) with h1 | h1
  · have HF : Hid (decE bs = .tuple #[.agg gm0.c, .int .i64 13]) := Lib.hid (by unfold decE isSup; rw [← HN.out, if_neg (by simp; omega)])
    have H1 := Lib.hid h1; clear h1 hsl
    go_wp2_with fail
    with_reducible refine (layout_no (N : Int) W H1.out).mono ?_
    rintro e w2 ⟨rfl, hb2⟩
    have hx2 : (w2.alloc (.cells gm0.c 23)).heap[w.heap.size]? = some (.cells gm0.c 23 (0, 0)) := by
      rw [heap_alloc_old _ _ (by have := HZ.out; have := hb2.size; omega), hb2.block _ (by have := HZ.out; omega)]; exact HX.out
    obtain ⟨w3, hst, hx3, hb3⟩ := run_stG_at _ _ gm0 gm0 hx2
    have HB3 : Hid (Below w.heap.size w w3) := Lib.hid (((HBW.out.trans (hb2.mono HBW.out.size)).alloc (Nat.le_trans HBW.out.size hb2.size) _).trans (hb3 _ (Nat.le_refl _)))
    have HX3 := Lib.hid hx3
    have l0 := run_stG_new w2 gm0
    have hst' : (stG (.pointer (some ⟨w.heap.size, 0, none⟩)) (.agg #[.int .i64 0, .int .i64 0, .int .i64 0, .int .i64 0, .int .i64 0, .int .i64 0, .int .i64 0, .int .i64 0])).run Try.prog (w2.alloc (.cells gm0.c 23)) = .ok () w3 := hst
    clear hb2 hx2 hx3 hb3 hw hst
    go_wp2
    exact bodyPost_ret (results_geom rfl _ _ _ _ (.int .i64 13) rfl rfl rfl HX3.out) rfl ⟨by rw [HF.out], HB3.out⟩
  · have h1' : 128 ≤ N := by omega
    have h2' : N ≤ 1024 := by omega
    have H1 := Lib.hid h1'; clear h1'
    have H2 := Lib.hid h2'; clear h2' h1 hsl
    go_wp2_with fail
    with_reducible refine (layout_ok (N : Int) W (by have := H1.out; omega) (by have := H2.out; omega)).mono ?_
    rintro e w2 ⟨rfl, hb2⟩
    obtain ⟨w2', hw2'⟩ : ∃ x, x = w2.alloc (.cells (lay (N : Int)).c 23) := ⟨_, rfl⟩
    have l0 := run_stG_new w2 (lay (N : Int))
    rw [← hw2'] at l0
    have hxr : w2'.heap[w.heap.size]? = some (.cells gm0.c 23 (0, 0)) := by
      rw [hw2', heap_alloc_old _ _ (by have := HZ.out; have := hb2.size; omega), hb2.block _ (by have := HZ.out; omega)]; exact HX.out
    have hxg : w2'.heap[w2.heap.size]? = some (.cells (lay (N : Int)).c 23 (0, 0)) := by rw [hw2']; exact heap_alloc_new w2 _
    have hz2 : w2'.heap.size = w2.heap.size + 1 := by rw [hw2']; simp
    have hlt2 : w.heap.size < w2.heap.size := by have := HZ.out; have := hb2.size; omega
    have hb2' : Below w.heap.size w w2' := by rw [hw2']; exact (HBW.out.trans (hb2.mono HBW.out.size)).alloc (Nat.le_trans HBW.out.size hb2.size) _
    have l1 := run_ldG w2' w2.heap.size (lay (N : Int)) hxg
    have HXR := Lib.hid hxr; clear hxr
    have HXG := Lib.hid hxg; clear hxg
    have HB2 := Lib.hid hb2'; clear hb2' hb2
    have HLT := Lib.hid hlt2; clear hlt2
    have HZ2 := Lib.hid hz2; clear hz2
    clear hw2'
    go_wp2_with fail
    with_reducible refine (superblock_any N w2' H2.out).mono ?_
    rintro e w4 ⟨A4, c4, rfl, ho4, hb4⟩
    rw [sup_len] at ho4 ⊢
    have HB4 : Hid (Below w.heap.size w w4) := Lib.hid (HB2.out.trans (hb4.mono HB2.out.size))
    have HXR4 := Lib.hid ((hb4.block _ (by have := HZ2.out; have := HLT.out; omega)).trans HXR.out)
    have HXG4 := Lib.hid ((hb4.block _ (by have := HZ2.out; omega)).trans HXG.out)
    have HR4 := Lib.hid (Owned.reads ho4)
    clear ho4 hb4 l0 l1
    go_wp2_with fail
    with_reducible refine (equal_any (some ⟨b0, off, none⟩) A4 256 256 c c4 B w4.heap.size bs (sup N) w4 (H.out.below (HB4.out.mono hB)) HR4.out).mono ?_
    rintro e w5 ⟨rfl, rfl⟩
    by_cases hq : bs = sup N
    · have hE : eqB bs (sup N) = true := by unfold eqB; simp [hq]
      have HF : Hid (decE bs = .tuple #[.agg (lay (N : Int)).c, .int .i64 0]) := Lib.hid (by unfold decE isSup; rw [← HN.out, if_pos (decide_eq_true ⟨H1.out, H2.out, hq⟩)])
      rw [hE]
      clear hq hE
      have l1 := run_ldG w4 w2.heap.size (lay (N : Int)) HXG4.out
      obtain ⟨w6, hst, hx6, hb6⟩ := run_stG_at w4 w.heap.size (lay (N : Int)) gm0 HXR4.out
      have HB6 : Hid (Below w.heap.size w w6) := Lib.hid (HB4.out.trans (hb6 _ (Nat.le_refl _)))
      have HX6 := Lib.hid hx6
      clear hx6 hb6
      go_wp2
      exact bodyPost_ret (results_geom rfl _ _ _ _ (.int .i64 0) rfl rfl rfl HX6.out) rfl ⟨by rw [HF.out], HB6.out⟩
    · have hE : eqB bs (sup N) = false := by unfold eqB; simp [hq]
      have HF : Hid (decE bs = .tuple #[.agg gm0.c, .int .i64 13]) := Lib.hid (by unfold decE isSup; rw [← HN.out, if_neg (by simp; intro _ _; exact hq)])
      rw [hE]
      clear hq hE
      obtain ⟨w6, hst, hx6, hb6⟩ := run_stG_at w4 w.heap.size gm0 gm0 HXR4.out
      have hst' : (stG (.pointer (some ⟨w.heap.size, 0, none⟩)) (.agg #[.int .i64 0, .int .i64 0, .int .i64 0, .int .i64 0, .int .i64 0, .int .i64 0, .int .i64 0, .int .i64 0])).run Try.prog w4 = .ok () w6 := hst
      have HB6 : Hid (Below w.heap.size w w6) := Lib.hid (HB4.out.trans (hb6 _ (Nat.le_refl _)))
      have HX6 := Lib.hid hx6
      clear hx6 hb6 hst
      go_wp2
      exact bodyPost_ret (results_geom rfl _ _ _ _ (.int .i64 13) rfl rfl rfl HX6.out) rfl ⟨by rw [HF.out], HB6.out⟩
end Go.Proofs.Ytmlkhnglmjlfbaa.Gm
