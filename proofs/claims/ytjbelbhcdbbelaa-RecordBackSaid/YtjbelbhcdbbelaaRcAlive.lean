/- Contract of the fixed fact with which every statement of layer 3 begins. -/
import Derived.Test.YtjbelbhcdbbelaaRcBack
namespace Go.Proofs.Ytjbelbhcdbbelaa.Rec
set_option maxRecDepth 20000
open Go.RowKit
open Go.Proofs.Ytjbelbhcdbbelaa.Mem Go.Proofs.Ytjbelbhcdbbelaa.Crc

def t7 : Tx := ⟨7, [], [5]⟩
theorem t7_may : t7.May := ⟨(by decide), (by decide), (by intro x hx; cases hx), (by intro x hx; simp [Tx.nums, t7] at hx; omega), (by decide)⟩
theorem t7_len : t7.enc.length = 512 := enc_len t7 t7_may
theorem t7_at : t7.enc[0]? = some 85 ∧ t7.enc[8]? = some 7 ∧ t7.enc[260]? = some 2 := by
  obtain ⟨R, C, hR, hC, hf⟩ := enc_form t7 t7_may
  have hsl : t7.slots.length = 8 := slots_len t7
  have hR' : R.length = 232 := by omega
  have e1 : t7.enc = headL 1 7 ++ (bytesL 0 2 ++ (bytesL 1 2 ++ (numBs [] ++ (revBs [5] ++ (R ++ (bodyL [] ++ C)))))) := hf
  have hh : headL 1 7 = [85, 76, 79, 71, 1, 0, 0, 0, 7, 0, 0, 0, 0, 0, 0, 0] := by decide
  have e2 : t7.enc = (headL 1 7 ++ (bytesL 0 2 ++ (bytesL 1 2 ++ (numBs [] ++ (revBs [5] ++ (R ++ bodyL [])))))) ++ C := by
    rw [e1]; simp only [List.append_assoc]
  have hl : (headL 1 7 ++ (bytesL 0 2 ++ (bytesL 1 2 ++ (numBs [] ++ (revBs [5] ++ (R ++ bodyL [])))))).length = 256 := by
    simp only [List.length_append, headL_len, bytesL_len, numBs_len, revBs_len, hR', bodyL]
    rfl
  have hC2 : C[4]? = some 2 := by
    rw [hC, ownL_eq _ _ _ (by rw [bytesL_len]; omega)]
    unfold ownP headL
    rfl
  refine ⟨?_, ?_, ?_⟩
  · rw [e1, hh]; rfl
  · rw [e1, hh]; rfl
  · rw [e2, List.getElem?_append_right (by omega), hl]; exact hC2

theorem t7_mayB : t7.mayB = true := (mayB_iff _).2 t7_may
theorem t7_dec : decB t7.enc 7 = true ∧ tellL t7.enc 7 = t7 ∧ nW t7.enc = 0 ∧ nR t7.enc = 1 := by
  have h := dec_back t7 t7_may []
  obtain ⟨h1, h2, _, _⟩ := tell_enc t7 t7_may []
  rw [List.append_nil] at h h1 h2
  exact ⟨h.1, h.2, h1, h2⟩
theorem t7_told (w : World) : Calls Try.prog 5 #[.agg #[.int .u64 7, .slice none 0 0, .slice (some ⟨w.heap.size, 0, none⟩) 1 1]] (w.alloc (.cells #[.int .i64 5] 3)) fun e w' =>
    ∃ b off c, e = .returned (.tuple #[.slice (some ⟨b, off, none⟩) 512 c, .int .i64 0]) ∧ Holds w' w'.heap.size (some ⟨b, off, none⟩) 512 t7.enc ∧ 512 ≤ c ∧ c ≤ 9223372036854775807 ∧ Below w.heap.size w w' := by
  have hb0 := (Below.refl w.heap.size w).alloc (Nat.le_refl _) (.cells #[.int .i64 5] 3)
  have hc : (w.alloc (.cells #[.int .i64 5] 3)).cell? ⟨w.heap.size, 0, none⟩ = some (.int .i64 5) := cell_of_row _ _ _ _ _ _ (heap_alloc_new w _)
  have ht : TxAt (w.alloc (.cells #[.int .i64 5] 3)) (w.heap.size + 1) t7 none 0 0 (some ⟨w.heap.size, 0, none⟩) 1 1 :=
    ⟨⟨rfl, fun h => absurd h (by omega)⟩, ⟨rfl, fun _ => ⟨_, _, rfl, by omega, fun k x hx => by
      match k, hx with
      | 0, hx => simp [t7] at hx; subst hx; exact hc⟩⟩, by decide, by omega, fun x hx => by simp [t7] at hx, fun x hx => by simp [t7] at hx; subst hx; exact ⟨by omega, by omega⟩⟩
  refine (enc_any t7 none (some ⟨w.heap.size, 0, none⟩) 0 0 1 1 _ _ ht (by simp)).mono ?_
  rintro e w' (⟨hm, _⟩ | ⟨_, A, c, rfl, ho, hb⟩)
  · rw [t7_mayB] at hm; cases hm
  · rw [t7_len] at ho ⊢
    have hh := Owned.reads ho
    have hf := Owned.fits ho
    obtain ⟨b, off, hA, hlt, hc⟩ := hh.2 (by omega)
    subst hA
    exact ⟨b, off, c, rfl, hh, hf.1, hf.2, hb0.trans (hb.mono (by simp))⟩

theorem t7_again (w : World) (b off c : Nat) (h : Holds w w.heap.size (some ⟨b, off, none⟩) 512 t7.enc) (h1 : 512 ≤ c) (h2 : c ≤ 9223372036854775807) :
    Calls Try.prog 6 #[.slice (some ⟨b, off, none⟩) 512 c, .int .u64 7] w fun e w' =>
      ∃ Aw cw b' off' cr, e = .returned (.tuple #[.agg #[.int .u64 7, .slice Aw 0 cw, .slice (some ⟨b', off', none⟩) 1 cr], .int .i64 2, .bool true]) ∧ w'.cell? ⟨b', off', none⟩ = some (.int .i64 5) ∧ b' < w'.heap.size ∧ Below w.heap.size w w' := by
  have hd := dec_any (some ⟨b, off, none⟩) 512 c w.heap.size t7.enc 7 w h (Nat.le_refl _) h1 h2 (by decide)
  obtain ⟨hdB, hdL, hW, hR⟩ := t7_dec
  refine hd.mono ?_
  rintro e w' (⟨_, Aw, cw, Ar, cr, vs, rfl, ho, hb⟩ | ⟨hn, _⟩)
  · have ht := ho.holds (by decide)
    rw [hdL, hW, hR] at ht
    rw [hW, hR]
    obtain ⟨b', off', hA, hlt, hc⟩ := ht.rs.2 (by omega)
    subst hA
    exact ⟨Aw, cw, b', off', cr, rfl, hc 0 5 rfl, hlt, hb⟩
  · rw [hdB] at hn; cases hn

set_option maxRecDepth 100000 in
theorem alive_any (w : World) : Calls Try.prog 4 #[] w fun e w' => e = .returned (.bool true) ∧ Below w.heap.size w w' := by
  go_enter Try.func4, Try.ntmps4
  go_wp2_with fail
  refine (t7_told w).mono ?_
  rintro e w1 ⟨b, off, c, rfl, hh, h1, h2, hb1⟩
  obtain ⟨b2, off2, e2, hbl, hcell⟩ := hh.2 (by omega)
  injection e2 with e2; injection e2 with e3 e4 _; subst e3 e4
  obtain ⟨d0, d8, d260⟩ := t7_at
  have hl := t7_len
  have g : ∀ k (x : UInt8), t7.enc[k]? = some x → w1.cell? ⟨b, off + k, none⟩ = some (.int .u8 (x.toNat : Int)) := fun k x hx => by
    obtain ⟨hk, e⟩ := List.getElem?_eq_some_iff.1 hx
    rw [hcell k hk, e]
  have HD := Lib.hid (t7_again w1 b off c hh h1 h2)
  have HB1 := Lib.hid hb1
  have HG0 := Lib.hid (g 0 _ d0)
  have HG8 := Lib.hid (g 8 _ d8)
  have HG260 := Lib.hid (g 260 _ d260)
  have HL := Lib.hid hbl
  clear hh hcell g d0 d8 d260 hl hb1 hbl
  go_wp2_with fail
  refine HD.out.mono ?_
  rintro e w2 ⟨Aw, cw, b', off', cr, rfl, c5, hlt, hb2⟩
  have c0 : w2.cell? ⟨b, off, none⟩ = some (.int .u8 85) := (hb2.cell (p := ⟨b, off + 0, none⟩) HL.out).trans HG0.out
  have c8 : w2.cell? ⟨b, off + 8, none⟩ = some (.int .u8 7) := (hb2.cell (p := ⟨b, off + 8, none⟩) HL.out).trans HG8.out
  have c260 : w2.cell? ⟨b, off + 260, none⟩ = some (.int .u8 2) := (hb2.cell (p := ⟨b, off + 260, none⟩) HL.out).trans HG260.out
  have hlt1 : b < w2.heap.size := Nat.lt_of_lt_of_le HL.out hb2.size
  have HB2 := Lib.hid hb2
  clear hb2
  go_wp2
  go_ret
  exact ⟨rfl, HB1.out.trans ((HB2.out.mono HB1.out.size).alloc (HB1.out.trans (HB2.out.mono HB1.out.size)).size _)⟩
end Go.Proofs.Ytjbelbhcdbbelaa.Rec
