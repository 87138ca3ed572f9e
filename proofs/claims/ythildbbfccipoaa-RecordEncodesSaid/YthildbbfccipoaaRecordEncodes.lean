/- The blocks of a record are what the document says: proved for every record. -/
import Derived.Test.YthildbbfccipoaaRfGiven
import Derived.Deep.RegionWith
import Derived.Deep.RegionHeld
namespace Go.Proofs.Ythildbbfccipoaa.RecordEncodes
open Go.ChangeShapes Go.WideShapes Go.ChangeAt Go.RowKit
open Go.Proofs.Ythildbbfccipoaa.Mem Go.Proofs.Ythildbbfccipoaa.Rec Go.Proofs.Ythildbbfccipoaa.Lift

set_option maxRecDepth 100000 in
set_option maxHeartbeats 4000000 in
theorem walk (t : Tx) (Aw Ar : Option Addr) (nw cw nr cr : Nat) (w : World) (ht : TxAt w w.heap.size t Aw nw cw Ar nr cr) (hW : Wide t) :
    Calls Try.prog 5 #[.agg #[.int .u64 (t.seq : Int), .slice Aw nw cw, .slice Ar nr cr]] w fun e w' => e = .returned (.bool true) ∧ Below w.heap.size w w' := by
  obtain ⟨ts, hts⟩ : ∃ s : Int, s = (t.seq : Int) := ⟨_, rfl⟩
  rw [← hts]
  obtain ⟨cur, hcur⟩ : ∃ c, c = #[Value.int .u64 ts, .slice Aw nw cw, .slice Ar nr cr] := ⟨_, rfl⟩
  obtain ⟨W, hWe⟩ : ∃ W, W = w.alloc (.cells cur 52) := ⟨_, rfl⟩
  have hb0 : Below w.heap.size w W := by rw [hWe]; exact (Below.refl w.heap.size w).alloc (Nat.le_refl _) _
  have hs0 : w.heap.size < W.heap.size := by rw [hWe]; simp
  have hbk : W.heap[w.heap.size]? = some (.cells cur 52) := by rw [hWe]; exact heap_alloc_new w _
  have HT := Lib.hid ht; clear ht
  have HWI := Lib.hid hW; clear hW
  have HTS := Lib.hid hts; clear hts
  go_enter Try.func5, Try.ntmps5
  go_wp2_with fail
  rw [← hcur, ← hWe]
  have P0 : Hid (∀ v, Below W.heap.size W v → v.cell? ⟨w.heap.size, 0, none⟩ = some (.int .u64 ts) ∧ v.cell? ⟨w.heap.size, 1, none⟩ = some (.slice Aw nw cw) ∧ v.cell? ⟨w.heap.size, 2, none⟩ = some (.slice Ar nr cr)) := Lib.hid (fun v hv => by
    have hh : v.heap[w.heap.size]? = some (.cells cur 52) := (hv.block _ hs0).trans hbk
    rw [hcur] at hh
    exact ⟨cell_of_row _ _ _ _ _ _ hh, cell_of_row _ _ _ _ _ _ hh, cell_of_row _ _ _ _ _ _ hh⟩)
  have HB0 := Lib.hid hb0; clear hb0
  have HS0 := Lib.hid hs0; clear hs0
  clear hcur hWe hbk
  refine (alive_any W).mono ?_
  rintro e w1 ⟨rfl, hb1⟩
  have HTA : Hid (∀ v, Below W.heap.size W v → TxAt v w.heap.size t Aw nw cw Ar nr cr) := Lib.hid (fun v hv => HT.out.below (HB0.out.trans (hv.mono HB0.out.size)))
  have hww : Below W.heap.size W w1 := hb1
  have HC : Hid (∀ v, Below w1.heap.size w1 v → Calls Try.prog 28 #[.agg #[.int .u64 ts, .slice Aw nw cw, .slice Ar nr cr]] v fun e w' =>
      ∃ Bw dw Br dr, e = .returned (.agg #[.int .u64 ts, .slice Bw nw dw, .slice Br nr dr]) ∧ (∀ v', Kept v.heap.size w' v' → w'.heap.size = v'.heap.size → TxAt v' v'.heap.size t Bw nw dw Br nr dr) ∧ Below w1.heap.size w1 w' ∧ Below v.heap.size v w') := Lib.hid (by
    intro v hv
    have hv2 : Below W.heap.size W v := hww.trans (hv.mono hww.size)
    rw [HTS.out]
    refine (copy_owns t Aw Ar nw cw nr cr w.heap.size v (HTA.out v hv2) HWI.out (Nat.le_trans HB0.out.size hv2.size)).mono ?_
    rintro e w' ⟨Bw, dw, Br, dr, vs, rfl, _, hk, hb⟩
    exact ⟨Bw, dw, Br, dr, rfl, hk, hv.trans (hb.mono hv.size), hb⟩)
  obtain ⟨p0, p1, p2⟩ := P0.out w1 hww
  have HWW := Lib.hid hww; clear hww hb1
  go_wp2_with fail
  refine (HC.out w1 (Below.refl _ _)).mono ?_
  clear HC p0 p1 p2
  rintro e w2 ⟨Bw, dw, Br, dr, rfl, hk, hb2, -⟩
  obtain ⟨cur2, hcur2⟩ : ∃ c, c = #[Value.int .u64 ts, .slice Bw nw dw, .slice Br nr dr] := ⟨_, rfl⟩
  obtain ⟨X, hX⟩ : ∃ V, V = w2.alloc (.cells cur2 52) := ⟨_, rfl⟩
  have hbA : Below w2.heap.size w2 X := by rw [hX]; exact (Below.refl _ w2).alloc (Nat.le_refl _) _
  have hg0 : X.heap[w2.heap.size]? = some (.cells cur2 52) := by rw [hX]; exact heap_alloc_new w2 _
  have hXT : TxAt X X.heap.size t Bw nw dw Br nr dr := ((hk w2 (fun _ _ _ => rfl) rfl).below hbA).more hbA.size
  have hX1 : Below W.heap.size W X := HWW.out.trans ((hb2.trans (hbA.mono hb2.size)).mono HWW.out.size)
  have P2 : Hid (∀ v, Below X.heap.size X v → v.cell? ⟨w2.heap.size, 0, none⟩ = some (.int .u64 ts) ∧ v.cell? ⟨w2.heap.size, 1, none⟩ = some (.slice Bw nw dw) ∧ v.cell? ⟨w2.heap.size, 2, none⟩ = some (.slice Br nr dr)) := Lib.hid (fun v hv => by
    have hh : v.heap[w2.heap.size]? = some (.cells cur2 52) := (hv.block _ (Array.getElem?_eq_some_iff.1 hg0).1).trans hg0
    rw [hcur2] at hh
    exact ⟨cell_of_row _ _ _ _ _ _ hh, cell_of_row _ _ _ _ _ _ hh, cell_of_row _ _ _ _ _ _ hh⟩)
  have HXT := Lib.hid hXT; clear hXT
  have HX1 := Lib.hid hX1; clear hX1
  have HXX := Lib.hid hX; clear hX
  have HC2 := Lib.hid hcur2; clear hcur2
  clear hk hb2 hbA hg0 HWW
  go_wp2_with fail
  rw [← HC2.out, ← HXX.out]
  obtain ⟨p0, p1, p2⟩ := P2.out X (Below.refl _ _)
  have HE := Lib.hid (enc_both t Bw Br nw dw nr dr X.heap.size X HXT.out (Nat.le_refl _))
  rw [← HTS.out, ← HC2.out] at HE
  go_wp2_with fail
  with_reducible refine HE.out.mono ?_
  clear HE p0 p1 p2
  rintro e w3 ⟨A, n, c, rfl, hn, hA, hnc, hb3⟩
  have HA := Lib.hid hA; clear hA
  have HN := Lib.hid hn; clear hn
  obtain ⟨k, hk⟩ : ∃ k, errOf t = k := ⟨_, rfl⟩
  rw [hk]
  have HK := Lib.hid hk; clear hk
  have hw3 := HX1.out.trans (hb3.mono HX1.out.size)
  obtain ⟨p0, p1, p2⟩ := P0.out w3 hw3
  have HF := Lib.hid (encr_both t Aw Ar nw cw nr cr w.heap.size w3 (HTA.out w3 hw3) (Nat.le_trans HB0.out.size hw3.size))
  rw [← HTS.out] at HF
  have HB3 := Lib.hid hb3; clear hb3 hw3
  go_wp2_with fail
  with_reducible refine HF.out.mono ?_
  clear HF p0 p1 p2
  rintro e w4 ⟨A4, n4, c4, rfl, hn4, hA4, hnc4, hb4⟩
  rw [HK.out]
  clear hn4
  have HX4 : Hid (Below X.heap.size X w4) := Lib.hid (HB3.out.trans (hb4.mono HB3.out.size))
  have HA4 := Lib.hid hA4; clear hA4
  have HA' : Hid (Holds w4 w3.heap.size A n (blocksOf t)) := Lib.hid (HA.out.below hb4)
  have HZ34 : Hid (w3.heap.size ≤ w4.heap.size) := Lib.hid hb4.size
  clear hb4
  obtain ⟨S, hS⟩ : ∃ s : ByteArray, s = ⟨(blocksOf t).toArray⟩ := ⟨_, rfl⟩
  have HP : Hid (∀ V, Below w4.heap.size w4 V → (V.cell? ⟨w.heap.size, 0, none⟩ = some (.int .u64 ts) ∧ V.cell? ⟨w.heap.size, 1, none⟩ = some (.slice Aw nw cw) ∧ V.cell? ⟨w.heap.size, 2, none⟩ = some (.slice Ar nr cr) ∧ V.cell? ⟨w2.heap.size, 0, none⟩ = some (.int .u64 ts) ∧ V.cell? ⟨w2.heap.size, 1, none⟩ = some (.slice Bw nw dw) ∧ V.cell? ⟨w2.heap.size, 2, none⟩ = some (.slice Br nr dr) ∧ (convert 33 9 (.slice A n c)).run Try.prog V = .ok (.string S) V ∧ (convert 33 9 (.slice A4 n4 c4)).run Try.prog V = .ok (.string S) V)) := Lib.hid (fun V hV => by
    have hXV := HX4.out.trans (hV.mono HX4.out.size)
    obtain ⟨a0, a1, a2⟩ := P0.out V (HX1.out.trans (hXV.mono HX1.out.size))
    obtain ⟨b0, b1, b2⟩ := P2.out V hXV
    have ta := run_text V w3.heap.size A n c _ (HA'.out.below (hV.mono HZ34.out))
    have tb := run_text V w4.heap.size A4 n4 c4 _ (HA4.out.below hV)
    rw [← hS] at ta tb
    exact ⟨a0, a1, a2, b0, b1, b2, ta, tb⟩)
  have HXw : Hid (Below w.heap.size w w4) := Lib.hid (HB0.out.trans ((HX1.out.trans (HX4.out.mono HX1.out.size)).mono HB0.out.size))
  have H1 : Hid (∀ V, Below w4.heap.size w4 V → Calls Try.prog 31 #[.agg #[.int .u64 ts, .slice Bw nw dw, .slice Br nr dr], .agg #[.int .u64 ts, .slice Aw nw cw, .slice Ar nr cr]] V fun e w' => e = .returned (.bool true) ∧ Below w4.heap.size w4 w') := Lib.hid (fun V hV => by
    have hXV := HX4.out.trans (hV.mono HX4.out.size)
    have hwV := HXw.out.trans (hV.mono HXw.out.size)
    rw [HTS.out]
    refine (same_any t t Bw Br nw dw nr dr X.heap.size Aw Ar nw cw nr cr w.heap.size V (HXT.out.below hXV) hXV.size (HT.out.below hwV) hwV.size (by have := HXT.out.fits; omega) (by have := HXT.out.fits; omega)).mono ?_
    rintro e w' ⟨rfl, hb⟩
    rw [(sameB_iff t t).2 rfl]
    exact ⟨rfl, hV.trans (hb.mono hV.size)⟩)
  have HSS := Lib.hid hS; clear hS
  obtain ⟨a0, a1, a2, b0, b1, b2, ta, tb⟩ := HP.out w4 (Below.refl _ _)
  go_wp2_with fail
  with_reducible refine (H1.out w4 (Below.refl _ _)).mono ?_
  rintro e V1 ⟨rfl, hv⟩
  have HV1 := Lib.hid hv
  clear hv a0 a1 a2 b0 b1 b2 ta tb
  go_wp2
  go_ret
  exact ⟨rfl, HXw.out.trans (HV1.out.mono HXw.out.size)⟩

theorem walks : Walks 5 Try.f5 All := by
  intro H enc W base args ds p hval hA hsz _
  rw [Try.params5] at hA hval hsz
  obtain ⟨v0, vs0, d0, ds0, p0, q0, hargs, rfl, rfl, h0, r0⟩ := trodAll_cons hA
  obtain ⟨rfl, rfl, rfl⟩ := trodAll_nil r0
  obtain rfl : args = #[v0] := by cases args; simp_all
  obtain ⟨t, Aw, nw, cw, Ar, nr, cr, rfl, ht, hW⟩ := txn_open_wide (hval 0 _ v0 rfl rfl) h0 (txn_weights hsz (j := 0) rfl rfl)
  exact walk t Aw Ar nw cw nr cr W ht hW

set_option maxRecDepth 100000 in
theorem proved : Rows.RecordEncodesSaid :=
  OpenClaim.holds_of_wide 5 Try.f5 rfl rfl rfl rfl rfl rfl rfl ⟨rfl, rfl, rfl, rfl, rfl⟩ rfl rfl rfl rfl rfl (by kernel_rfl) Try.func5 (by kernel_rfl)
    (of_decide_eq_true (by kernel_rfl)) (by unfold Func.isWrapper; first | (rw [if_pos (by decide +kernel)]; kernel_rfl) | (rw [if_neg (by decide +kernel)]; exact ⟨rfl, rfl⟩))
    (fun os started H enc _ => lifted (s := Rows.recordEncodesSpec) walks (by kernel_rfl) rfl rfl (fun H ds hl => by match ds, hl with | [d1], _ => rfl) (by kernel_rfl) Try.func5 os started H enc
      (ChangeSpec.witness6 (enc := enc) (C := Try.checked) false ⟨#[], #[.agg #[.int .u64 0, .slice none 0 0, .slice none 0 0]], []⟩ 8 (by kernel_rfl) (by kernel_rfl) (by kernel_rfl) (by kernel_rfl)))
#print axioms proved
end Go.Proofs.Ythildbbfccipoaa.RecordEncodes
