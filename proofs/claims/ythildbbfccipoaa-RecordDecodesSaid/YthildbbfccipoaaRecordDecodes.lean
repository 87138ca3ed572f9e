/- A record is read out of any bytes, or refused, as the document says: proved for all bytes and every number. -/
import Derived.Test.YthildbbfccipoaaRfDec
import Derived.Test.YthildbbfccipoaaRcAlive
import Derived.Test.YthildbbfccipoaaRcLift
namespace Go.Proofs.Ythildbbfccipoaa.RecordDecodes
open Go.ChangeShapes Go.WideShapes Go.ChangeAt Go.RowKit
open Go.Proofs.Ythildbbfccipoaa.Mem Go.Proofs.Ythildbbfccipoaa.Rec Go.Proofs.Ythildbbfccipoaa.Lift

def decT (bs : List UInt8) (seq : Nat) : Tx := if decB bs seq = true then tellL bs seq else ⟨0, [], []⟩
def decN (bs : List UInt8) (seq : Nat) : Int := if decB bs seq = true then ((nW bs + 2 : Nat) : Int) else 0
def Read (w : World) (bs : List UInt8) (seq : Nat) (e : Ending) (w' : World) : Prop := ∃ Aw nw cw Ar nr cr,
  e = .returned (.tuple #[.agg #[.int .u64 ((decT bs seq).seq : Int), .slice Aw nw cw, .slice Ar nr cr], .int .i64 (decN bs seq), .bool (decB bs seq)]) ∧ TxAt w' w'.heap.size (decT bs seq) Aw nw cw Ar nr cr ∧ Below w.heap.size w w'
theorem read_of {w w' : World} {bs : List UInt8} {seq : Nat} {e : Ending} (hs : seq < 18446744073709551616) (h : DecPost w bs seq e w') : Read w bs seq e w' := by
  rcases h with ⟨hd, Aw, cw, Ar, cr, vs, rfl, ho, hb⟩ | ⟨hd, rfl, hb⟩
  · refine ⟨Aw, nW bs, cw, Ar, nR bs, cr, by simp only [decT, decN, hd, if_true]; rfl, ?_, hb⟩
    simp only [decT, hd, if_true]
    exact ho.holds hs
  · refine ⟨none, 0, 0, none, 0, 0, by simp [decT, decN, hd, zeroTx], ?_, hb⟩
    simp only [decT, hd, Bool.false_eq_true, if_false]
    exact ⟨⟨rfl, fun h => absurd h (by omega)⟩, ⟨rfl, fun h => absurd h (by omega)⟩, by show 0 < 18446744073709551616; omega, by omega, fun x hx => by simp at hx, fun x hx => by simp at hx⟩

set_option maxRecDepth 100000 in
set_option maxHeartbeats 1000000 in
theorem walk (A : Option Addr) (n c : Nat) (bs : List UInt8) (seq : Nat) (w : World) (h : Holds w w.heap.size A n bs) (hc : n ≤ c) (hm : c ≤ 9223372036854775807) (hn : n ≤ 140737488351232) (hseq : seq < 18446744073709551616) :
    Calls Try.prog 6 #[.slice A n c, .int .u64 (seq : Int)] w fun e w' => e = .returned (.bool true) ∧ Below w.heap.size w w' := by
  have H := Lib.hid h; clear h
  have HSQ := Lib.hid hseq; clear hseq
  go_enter Try.func6, Try.ntmps6
  go_wp2_with fail
  refine (alive_any w).mono ?_
  rintro e w1 ⟨rfl, hb1⟩
  have HB1 := Lib.hid hb1; clear hb1
  have hoe : Owned (w1.alloc (.cells #[] 5)) w1.heap.size (.slice (some ⟨w1.heap.size, 0, none⟩) 0 0) [] := owned_made w1 [] w1.heap.size (Nat.le_refl _) (by unfold maxLen; simp)
  have hbe : Below w1.heap.size w1 (w1.alloc (.cells #[] 5)) := (Below.refl _ w1).alloc (Nat.le_refl _) _
  have HR1 := Lib.hid (H.out.below (HB1.out.trans (hbe.mono HB1.out.size)))
  go_wp2_with (at_builtin; refine wpList_addall (o := ⟨some 16, _, _, _, _, _⟩) rfl _ _ rfl w1.heap.size _ [] rfl hoe w.heap.size A n c bs rfl HR1.out (by simp; omega) hbe.size ?_)
  intro v2 w2 ho2 hb2
  have ho2' : Owned w2 w1.heap.size v2 bs := ho2
  clear ho2
  obtain ⟨A2, c2, rfl⟩ := Owned.shape ho2'
  have hbl : bs.length = n := H.out.1
  rw [hbl] at ho2' ⊢
  clear hbl
  have HB2 : Hid (Below w.heap.size w w2) := Lib.hid (HB1.out.trans ((hbe.trans hb2).mono HB1.out.size))
  have hfits := Owned.fits ho2'
  have HR2 := Lib.hid (Owned.reads ho2')
  clear hoe hbe hb2 ho2' HR1
  have HD := Lib.hid ((dec_any A2 n c2 w2.heap.size bs seq w2 HR2.out (Nat.le_refl _) hfits.1 hfits.2 HSQ.out).mono (fun e w' h => read_of HSQ.out h))
  clear hfits
  obtain ⟨T, hT⟩ : ∃ T, decT bs seq = T := ⟨_, rfl⟩
  obtain ⟨D, hD⟩ : ∃ D, decN bs seq = D := ⟨_, rfl⟩
  obtain ⟨q, hq⟩ : ∃ q, decB bs seq = q := ⟨_, rfl⟩
  have hRD : ∀ (v : World) e w', Read v bs seq e w' → ∃ Aw nw cw Ar nr cr,
      e = .returned (.tuple #[.agg #[.int .u64 (T.seq : Int), .slice Aw nw cw, .slice Ar nr cr], .int .i64 D, .bool q]) ∧ TxAt w' w'.heap.size T Aw nw cw Ar nr cr ∧ Below v.heap.size v w' := fun v e w' h => by
    unfold Read at h
    rw [hT, hD, hq] at h
    exact h
  have HRD := Lib.hid hRD; clear hRD hT hD hq
  go_wp2_with fail
  with_reducible refine HD.out.mono ?_
  clear HD
  intro e w3 hR
  obtain ⟨Aw, nw, cw, Ar, nr, cr, rfl, hx3, hb3⟩ := HRD.out _ _ _ hR
  clear hR
  obtain ⟨ts, hts⟩ : ∃ s : Int, s = (T.seq : Int) := ⟨_, rfl⟩
  rw [← hts]
  obtain ⟨cur, hcur⟩ : ∃ x, x = #[Value.int .u64 ts, .slice Aw nw cw, .slice Ar nr cr] := ⟨_, rfl⟩
  obtain ⟨X, hX⟩ : ∃ V, V = w3.alloc (.cells cur 52) := ⟨_, rfl⟩
  have hbA : Below w3.heap.size w3 X := by rw [hX]; exact (Below.refl _ w3).alloc (Nat.le_refl _) _
  have hg0 : X.heap[w3.heap.size]? = some (.cells cur 52) := by rw [hX]; exact heap_alloc_new w3 _
  have HXT := Lib.hid (hx3.below hbA)
  have P3 : Hid (∀ v, Below X.heap.size X v → v.cell? ⟨w3.heap.size, 0, none⟩ = some (.int .u64 ts) ∧ v.cell? ⟨w3.heap.size, 1, none⟩ = some (.slice Aw nw cw) ∧ v.cell? ⟨w3.heap.size, 2, none⟩ = some (.slice Ar nr cr)) := Lib.hid (fun v hv => by
    have hh : v.heap[w3.heap.size]? = some (.cells cur 52) := (hv.block _ (Array.getElem?_eq_some_iff.1 hg0).1).trans hg0
    rw [hcur] at hh
    exact ⟨cell_of_row _ _ _ _ _ _ hh, cell_of_row _ _ _ _ _ _ hh, cell_of_row _ _ _ _ _ _ hh⟩)
  have HBX : Hid (Below w2.heap.size w2 X) := Lib.hid (hb3.trans (hbA.mono hb3.size))
  have hX3 : w3.heap.size ≤ X.heap.size := hbA.size
  have HX3 := Lib.hid hX3; clear hX3
  clear hbA hg0 hx3 hb3
  have HCUR := Lib.hid hcur; clear hcur
  have HXE := Lib.hid hX; clear hX
  have HE := Lib.hid ((refdec_any A n c w.heap.size bs seq X (H.out.below (HB2.out.trans (HBX.out.mono HB2.out.size))) (Nat.le_trans HB2.out.size HBX.out.size) hc hm HSQ.out).mono (fun e w' h => read_of HSQ.out h))
  have HTS := Lib.hid hts; clear hts
  go_wp2_with fail
  rw [← HCUR.out, ← HXE.out]
  with_reducible refine HE.out.mono ?_
  clear HE
  intro e w4 hR
  obtain ⟨Bw, mw, dw, Br, mr, dr, rfl, hx4, hb4⟩ := HRD.out _ _ _ hR
  clear hR
  rw [← HTS.out]
  obtain ⟨cur2, hcur2⟩ : ∃ x, x = #[Value.int .u64 ts, .slice Bw mw dw, .slice Br mr dr] := ⟨_, rfl⟩
  obtain ⟨Y, hY⟩ : ∃ V, V = w4.alloc (.cells cur2 52) := ⟨_, rfl⟩
  have hbA : Below w4.heap.size w4 Y := by rw [hY]; exact (Below.refl _ w4).alloc (Nat.le_refl _) _
  have hg0 : Y.heap[w4.heap.size]? = some (.cells cur2 52) := by rw [hY]; exact heap_alloc_new w4 _
  have HYT := Lib.hid (hx4.below hbA)
  have HY4 : Hid (w4.heap.size ≤ Y.heap.size) := Lib.hid hbA.size
  have HBY : Hid (Below X.heap.size X Y) := Lib.hid (hb4.trans (hbA.mono hb4.size))
  have HBw : Hid (Below w.heap.size w Y) := Lib.hid (HB2.out.trans ((HBX.out.trans (HBY.out.mono HBX.out.size)).mono HB2.out.size))
  obtain ⟨S, hS⟩ : ∃ s : ByteArray, s = ⟨bs.toArray⟩ := ⟨_, rfl⟩
  have HP : Hid (∀ V, Below Y.heap.size Y V → (V.cell? ⟨w3.heap.size, 0, none⟩ = some (.int .u64 ts) ∧ V.cell? ⟨w3.heap.size, 1, none⟩ = some (.slice Aw nw cw) ∧ V.cell? ⟨w3.heap.size, 2, none⟩ = some (.slice Ar nr cr) ∧ V.cell? ⟨w4.heap.size, 0, none⟩ = some (.int .u64 ts) ∧ V.cell? ⟨w4.heap.size, 1, none⟩ = some (.slice Bw mw dw) ∧ V.cell? ⟨w4.heap.size, 2, none⟩ = some (.slice Br mr dr) ∧ (convert 33 9 (.slice A2 n c2)).run Try.prog V = .ok (.string S) V ∧ (convert 33 9 (.slice A n c)).run Try.prog V = .ok (.string S) V)) := Lib.hid (fun V hV => by
    have hXV := HBY.out.trans (hV.mono HBY.out.size)
    obtain ⟨a0, a1, a2⟩ := P3.out V hXV
    have hh : V.heap[w4.heap.size]? = some (.cells cur2 52) := (hV.block _ (Array.getElem?_eq_some_iff.1 hg0).1).trans hg0
    rw [hcur2] at hh
    have ta := run_text V w2.heap.size A2 n c2 _ (HR2.out.below (HBX.out.trans (hXV.mono HBX.out.size)))
    have tb := run_text V w.heap.size A n c _ (H.out.below (HBw.out.trans (hV.mono HBw.out.size)))
    rw [← hS] at ta tb
    exact ⟨a0, a1, a2, cell_of_row _ _ _ _ _ _ hh, cell_of_row _ _ _ _ _ _ hh, cell_of_row _ _ _ _ _ _ hh, ta, tb⟩)
  have H1 : Hid (∀ V, Below Y.heap.size Y V → Calls Try.prog 31 #[.agg #[.int .u64 ts, .slice Aw nw cw, .slice Ar nr cr], .agg #[.int .u64 ts, .slice Bw mw dw, .slice Br mr dr]] V fun e w' => e = .returned (.bool true) ∧ Below Y.heap.size Y w') := Lib.hid (fun V hV => by
    have hXV := HBY.out.trans (hV.mono HBY.out.size)
    rw [HTS.out]
    refine (same_any T T Aw Ar nw cw nr cr w3.heap.size Bw Br mw dw mr dr w4.heap.size V (HXT.out.below (hXV.mono HX3.out)) (Nat.le_trans HX3.out hXV.size) (HYT.out.below (hV.mono HY4.out)) (Nat.le_trans HY4.out hV.size) (by have := HXT.out.fits; omega) (by have := HXT.out.fits; omega)).mono ?_
    rintro e w' ⟨rfl, hb⟩
    rw [(sameB_iff T T).2 rfl]
    exact ⟨rfl, hV.trans (hb.mono hV.size)⟩)
  have hf := HP.out Y (Below.refl _ _)
  have hH := H1.out Y (Below.refl _ _)
  rw [hY, hcur2] at hf hH
  obtain ⟨a0, a1, a2, b0, b1, b2, -, -⟩ := hf
  have HH1 := Lib.hid hH; clear hH
  clear hbA hg0 hx4 hb4 hS
  have HC2 := Lib.hid hcur2; clear hcur2
  have HYE := Lib.hid hY; clear hY
  go_wp2_with fail
  with_reducible refine HH1.out.mono ?_
  rintro e V1 ⟨rfl, hv⟩
  rw [← HC2.out, ← HYE.out] at hv
  obtain ⟨-, -, -, -, -, -, ta, tb⟩ := HP.out V1 hv
  have HV1 := Lib.hid hv
  clear hv a0 a1 a2 b0 b1 b2
  go_wp2
  go_ret
  exact ⟨rfl, HBw.out.trans (HV1.out.mono HBw.out.size)⟩

theorem walks : Walks 6 Try.f6 All := by
  intro H enc W base args ds p hval hA hsz _
  rw [Try.params6] at hA hval hsz
  obtain ⟨v0, vs0, d0, ds0, p0, q0, hargs, rfl, rfl, h0, r0⟩ := trodAll_cons hA
  obtain ⟨v1, vs1, d1, ds1, p1, q1, rfl, rfl, rfl, h1, r1⟩ := trodAll_cons r0
  obtain ⟨rfl, rfl, rfl⟩ := trodAll_nil r1
  obtain rfl : args = #[v0, v1] := by cases args; simp_all
  obtain ⟨fuel, hf⟩ := h0
  have hw := reach_bytes hsz (j := 0) rfl rfl
  obtain ⟨A, n, c, bs, rfl, hb, hnc, hn⟩ := open_bytes (hval 0 _ v0 rfl rfl) ⟨fuel, hf⟩ _ hw
  obtain ⟨A3, n3, c3, bs3, hv, -, -, hc⟩ := bytes_part hf
  injection hv with e1 e2 e3
  subst e1 e2 e3
  obtain ⟨x, rfl, rfl, rfl, hx⟩ := open_int Try.underlying49 (hval 1 _ v1 rfl rfl) h1
  have bx := wf_u64 hx
  obtain ⟨v, rfl⟩ := Int.eq_ofNat_of_zero_le bx.1
  exact walk A n c bs v W hb hnc hc hn (by omega)

set_option maxRecDepth 100000 in
theorem proved : Rows.RecordDecodesSaid :=
  OpenClaim.holds_of_wide 6 Try.f6 rfl rfl rfl rfl rfl rfl rfl ⟨rfl, rfl, rfl, rfl, rfl⟩ rfl rfl rfl rfl rfl (by kernel_rfl) Try.func6 (by kernel_rfl)
    (of_decide_eq_true (by kernel_rfl)) (by unfold Func.isWrapper; first | (rw [if_pos (by decide +kernel)]; kernel_rfl) | (rw [if_neg (by decide +kernel)]; exact ⟨rfl, rfl⟩))
    (fun os started H enc _ => lifted (s := Rows.recordDecodesSpec) walks (by kernel_rfl) rfl rfl (fun H ds hl => by match ds, hl with | [d1, d2], _ => rfl) (by kernel_rfl) Try.func6 os started H enc
      (ChangeSpec.witness6 (enc := enc) (C := Try.checked) false ⟨#[], #[.slice none 0 0, .int .u64 0], []⟩ 8 (by kernel_rfl) (by kernel_rfl) (by kernel_rfl) (by kernel_rfl)))
#print axioms proved
end Go.Proofs.Ythildbbfccipoaa.RecordDecodes
