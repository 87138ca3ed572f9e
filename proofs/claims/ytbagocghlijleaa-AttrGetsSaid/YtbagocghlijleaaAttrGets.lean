/- AttrGets: for every list of attributes, every attribute and every name: where the attribute can be set, it is got until it is dropped, and the value of every other name stays; otherwise nothing is answered. For every list within the reach of memory. -/
import Derived.Test.YtbagocghlijleaaAtAlive
import Derived.Test.YtbagocghlijleaaAtArg
import Derived.ChangeMaps5
namespace Go.Proofs.Ytbagocghlijleaa.AttrGets
set_option maxRecDepth 20000
open Go.ChangeShapes Go.WideShapes Go.ChangeAt Go.RowKit
open Go.Proofs.Ytbagocghlijleaa.Mem Go.Proofs.Ytbagocghlijleaa.Crc Go.Proofs.Ytbagocghlijleaa.Rec Go.Proofs.Ytbagocghlijleaa.At Go.Proofs.Ytbagocghlijleaa.Lift Go.Proofs.Ytbagocghlijleaa.Reg
attribute [local go_sem ↓] ldX_eq stX_eq eqX_eq neqX_eq

set_option maxRecDepth 100000 in
set_option maxHeartbeats 8000000 in
theorem walk (A : Option Addr) (n c : Nat) (l : List Pr) (p : Pr) (O : ByteArray) (w : World) (h : HoldsX w w.heap.size A n l) (hn : n ≤ 4398046510976) :
    Calls Try.prog 6 #[.slice A n c, .agg p.c, .string O] w fun E w' => E = .returned (.bool true) ∧ Below w.heap.size w w' := by
  have hln := h.1
  obtain ⟨post, hpost⟩ : ∃ post : Ending → World → Prop, post = fun E w' => E = .returned (.bool true) ∧ Below w.heap.size w w' := ⟨_, rfl⟩
  rw [← hpost]
  have HP := Lib.hid hpost; clear hpost
  obtain ⟨W0, hW0⟩ : ∃ W0, W0 = w.alloc (.cells p.c 24) := ⟨_, rfl⟩
  have hv0 : VarX W0 w.heap.size p := by rw [hW0]; exact VarX.new w p
  have hb0 : Below w.heap.size w W0 := by rw [hW0]; exact (Below.refl _ w).alloc (Nat.le_refl _) _
  have hz0 : W0.heap.size = w.heap.size + 1 := by rw [hW0]; simp
  have hh : ∀ V, Below w.heap.size w V → HoldsX V w.heap.size A n l ∧ w.heap.size ≤ V.heap.size := fun V hV => ⟨h.below hV, hV.size⟩
  have HH := Lib.hid hh; clear hh h
  have HLN := Lib.hid hln; clear hln
  have hset := fun V (hV : Below w.heap.size w V) => Set_any A n c w.heap.size l p V (HH.out V hV).1 (HH.out V hV).2 hn
  obtain ⟨S, hS⟩ : ∃ S : ByteArray, S = ⟨p.t.toArray⟩ := ⟨_, rfl⟩
  obtain ⟨U, hU⟩ : ∃ U : ByteArray, U = ⟨p.v.toArray⟩ := ⟨_, rfl⟩
  have hSd : S.data.toList = p.t := by rw [hS]
  have hSl : S.toList = p.t := by rw [hS, text_list]
  have hvar : ∀ V, VarX V w.heap.size p → (ldX (.pointer (some ⟨w.heap.size, 0, none⟩))).run Try.prog V = .ok (.agg p.c) V ∧ V.cell? ⟨w.heap.size, 0, none⟩ = some (.string S) ∧ V.cell? ⟨w.heap.size, 1, none⟩ = some (.string U) := fun V hV => ⟨hV.load, by rw [hS]; exact hV.cells.1, by rw [hU]; exact hV.cells.2⟩
  obtain ⟨X, hX⟩ : ∃ X, X = p.c := ⟨_, rfl⟩
  rw [← hX] at hW0 ⊢
  simp only [← hX] at hvar hset
  have HVAR := Lib.hid hvar; clear hvar
  have HSET := Lib.hid hset; clear hset
  have HSD := Lib.hid hSd; clear hSd
  have HSL := Lib.hid hSl; clear hSl
  have HUE := Lib.hid hU; clear hU hS hX
  have HV0 := Lib.hid hv0; clear hv0
  have HB0 := Lib.hid hb0; clear hb0
  have HZ0 := Lib.hid hz0; clear hz0
  have HW0 := Lib.hid hW0; clear hW0
  obtain ⟨gx, hgx⟩ : ∃ gx, gx = w.heap.size := ⟨_, rfl⟩
  have HGX := Lib.hid hgx; clear hgx
  rw [← HGX.out] at HVAR HV0
  go_enter Try.func6, Try.ntmps6
  go_wp2_with fail
  rw [← HW0.out, ← HGX.out]
  with_reducible refine (alive_any W0).mono ?_
  rintro E1 w1 ⟨rfl, hb1⟩
  have HB1 : Hid (Below w.heap.size w w1) := Lib.hid (HB0.out.trans (hb1.mono HB0.out.size))
  have HV1 : Hid (VarX w1 gx p) := Lib.hid (HV0.out.keep hb1 HV0.out.lt)
  clear hb1 HV0 HW0
  obtain ⟨q0, -⟩ := HVAR.out w1 HV1.out
  go_wp2_with fail
  with_reducible refine (HSET.out w1 HB1.out).mono ?_
  rintro E2 w2 ⟨A2, c2, rfl, ho2, hb2⟩
  have HB2 : Hid (Below w.heap.size w w2) := Lib.hid (HB1.out.trans (hb2.mono HB1.out.size))
  have HV2 : Hid (VarX w2 gx p) := Lib.hid (HV1.out.keep hb2 HV1.out.lt)
  have HO2 := Lib.hid ho2
  clear hb2 HV1 q0 HSET ho2
  rcases set_ways l p with hs | hs | ⟨a, hs⟩
  · rw [hs] at HO2 ⊢
    dsimp only [List.length_nil]
    clear HO2 hs
    go_wp2
    rw [HP.out]
    exact ⟨rfl, HB2.out⟩
  · rw [hs] at HO2 ⊢
    dsimp only [List.length_nil]
    clear HO2 hs
    go_wp2
    rw [HP.out]
    exact ⟨rfl, HB2.out⟩
  obtain ⟨hra, hea, hga, hoa, hda, hgd, hdd⟩ := set_gets hs
  have hfew : a.length ≤ 83 := by
    have h1 := sizeL_ge a ((right_iff a).1 hra).1
    obtain ⟨_, h2, _⟩ := enc_zero (l := a) (by rw [hea])
    omega
  rw [hs] at HO2 ⊢
  dsimp only at HO2 ⊢
  obtain ⟨m, hm⟩ : ∃ m, m = a.length := ⟨_, rfl⟩
  rw [← hm] at HO2 hfew ⊢
  have HM := Lib.hid hm; clear hm hs
  have HS2 : Hid (w2.heap.size = w2.heap.size) := Lib.hid rfl
  have hra2 : ∀ V, Below w2.heap.size w2 V → HoldsX V w2.heap.size A2 m a ∧ w2.heap.size ≤ V.heap.size := fun V hV => ⟨HO2.out.reads.below hV, hV.size⟩
  have HA2 := Lib.hid hra2; clear hra2
  -- the calls on what was answered
  have hget := fun V (hV : Below w2.heap.size w2 V) => Get_any A2 m c2 w2.heap.size a S V (HA2.out V hV).1 (HA2.out V hV).2 (by omega)
  simp only [HSD.out, hga] at hget
  simp only [← HUE.out] at hget
  have HGET := Lib.hid hget; clear hget
  have hgeto := fun V (hV : Below w2.heap.size w2 V) => Get_any A2 m c2 w2.heap.size a O V (HA2.out V hV).1 (HA2.out V hV).2 (by omega)
  have HGETO := Lib.hid hgeto; clear hgeto
  have hgetl := fun V (hV : Below w.heap.size w V) => Get_any A n c w.heap.size l O V (HH.out V hV).1 (HH.out V hV).2 (by omega)
  have HGETL := Lib.hid hgetl; clear hgetl
  have hdrop := fun V (hV : Below w2.heap.size w2 V) => Drop_any A2 m c2 w2.heap.size a S V (HA2.out V hV).1 (HA2.out V hV).2 (by omega)
  simp only [HSD.out, hda] at hdrop
  have HDROP := Lib.hid hdrop; clear hdrop
  have henc := fun V (hV : Below w2.heap.size w2 V) => encode_any A2 m c2 w2.heap.size a V (HA2.out V hV).1 (HA2.out V hV).2 (by omega)
  simp only [hea] at henc
  have HENC := Lib.hid henc; clear henc
  have hdl : (delA a p.t).length ≤ 83 := by
    have : (delA a p.t).length ≤ a.length := by unfold delA; rw [List.length_append, List.length_take, List.length_drop]; omega
    have := HM.out; omega
  have HDL := Lib.hid hdl; clear hdl
  have HGD := Lib.hid hgd; clear hgd
  have HDD := Lib.hid hdd; clear hdd
  have HOA := Lib.hid hoa; clear hoa
  clear hra hea hga hda
  obtain ⟨-, q0, -⟩ := HVAR.out w2 HV2.out
  go_wp2_with fail
  with_reducible refine (HGET.out w2 (Below.refl _ _)).mono ?_
  rintro E3 w3 ⟨rfl, hb3⟩
  have HB23 := Lib.hid hb3
  have HB3 : Hid (Below w.heap.size w w3) := Lib.hid (HB2.out.trans (hb3.mono HB2.out.size))
  have HV3 : Hid (VarX w3 gx p) := Lib.hid (HV2.out.keep hb3 HV2.out.lt)
  clear hb3 q0 HGET
  obtain ⟨-, q0, q1⟩ := HVAR.out w3 HV3.out
  dsimp only
  obtain ⟨q, hq⟩ : ∃ q, (O.toList == S.toList) = q := ⟨_, rfl⟩
  have hqt : q = false → O.data.toList ≠ p.t := fun h e => by
    rw [← hq, beq_eq_false_iff_ne] at h
    exact h (by rw [HSL.out, ← e]; simp [ByteArray.toList_eq])
  have HQT := Lib.hid hqt; clear hqt
  cases q with
  | true =>
    go_wp2_with fail
    with_reducible refine (HDROP.out w3 HB23.out).mono ?_
    rintro E6 w6 ⟨A6, c6, rfl, ho6, hb6⟩
    have HB26 : Hid (Below w2.heap.size w2 w6) := Lib.hid (HB23.out.trans (hb6.mono HB23.out.size))
    have HB6 : Hid (Below w.heap.size w w6) := Lib.hid (HB3.out.trans (hb6.mono HB3.out.size))
    have HV6 : Hid (VarX w6 gx p) := Lib.hid (HV3.out.keep hb6 HV3.out.lt)
    clear hb6 q0 q1 HDROP
    dsimp only at ho6 ⊢
    have hdl := HDL.out
    have hgd := HGD.out
    have hdd := HDD.out
    generalize delA a p.t = b at ho6 hdl hgd hdd ⊢
    obtain ⟨k, hk⟩ : ∃ k, k = b.length := ⟨_, rfl⟩
    rw [← hk] at ho6 hdl ⊢
    clear hk
    have hb6r : ∀ V, Below w6.heap.size w6 V → HoldsX V w6.heap.size A6 k b ∧ w6.heap.size ≤ V.heap.size := fun V hV => ⟨ho6.reads.below hV, hV.size⟩
    have HR6 := Lib.hid hb6r; clear hb6r ho6
    have hget2 := fun V (hV : Below w6.heap.size w6 V) => Get_any A6 k c6 w6.heap.size b S V (HR6.out V hV).1 (HR6.out V hV).2 (by omega)
    simp only [HSD.out, hgd] at hget2
    have HGET2 := Lib.hid hget2; clear hget2
    have hdrop2 := fun V (hV : Below w6.heap.size w6 V) => Drop_any A6 k c6 w6.heap.size b S V (HR6.out V hV).1 (HR6.out V hV).2 (by omega)
    simp only [HSD.out, hdd] at hdrop2
    have HDROP2 := Lib.hid hdrop2; clear hdrop2 hgd hdd
    obtain ⟨-, q0, -⟩ := HVAR.out w6 HV6.out
    go_wp2_with fail
    with_reducible refine (HGET2.out w6 (Below.refl _ _)).mono ?_
    rintro E7 w7 ⟨rfl, hb7⟩
    have HB67 := Lib.hid hb7
    have HB7 : Hid (Below w.heap.size w w7) := Lib.hid (HB6.out.trans (hb7.mono HB6.out.size))
    have HB27 : Hid (Below w2.heap.size w2 w7) := Lib.hid (HB26.out.trans (hb7.mono HB26.out.size))
    have HV7 : Hid (VarX w7 gx p) := Lib.hid (HV6.out.keep hb7 HV6.out.lt)
    clear hb7 q0 HGET2
    dsimp only
    obtain ⟨-, q0, -⟩ := HVAR.out w7 HV7.out
    go_wp2_with fail
    with_reducible refine (HDROP2.out w7 HB67.out).mono ?_
    rintro E8 w8 ⟨A8, c8, rfl, ho8, hb8⟩
    have HB8 : Hid (Below w.heap.size w w8) := Lib.hid (HB7.out.trans (hb8.mono HB7.out.size))
    have HB28 : Hid (Below w2.heap.size w2 w8) := Lib.hid (HB27.out.trans (hb8.mono HB27.out.size))
    clear hb8 ho8 q0 HDROP2
    dsimp only
    go_wp2_with fail
    with_reducible refine (HENC.out w8 HB28.out).mono ?_
    rintro E9 w9 ⟨A9, c9, rfl, ho9, hb9⟩
    have HB9 : Hid (Below w.heap.size w w9) := Lib.hid (HB8.out.trans (hb9.mono HB8.out.size))
    clear hb9 ho9 HENC
    dsimp only
    generalize (blockL a).length = z9
    go_wp2
    rw [HP.out]
    exact ⟨rfl, HB9.out⟩
  | false =>
    have hoe := HOA.out O.data.toList (HQT.out rfl)
    go_wp2_with fail
    with_reducible refine (HGETL.out w3 HB3.out).mono ?_
    rintro E4 w4 ⟨rfl, hb4⟩
    have HB24 : Hid (Below w2.heap.size w2 w4) := Lib.hid (HB23.out.trans ((hb4.mono (Nat.le_refl _)).mono HB23.out.size))
    have HB4 : Hid (Below w.heap.size w w4) := Lib.hid (HB3.out.trans (hb4.mono HB3.out.size))
    have HV4 : Hid (VarX w4 gx p) := Lib.hid (HV3.out.keep hb4 HV3.out.lt)
    clear hb4 HGETL q0 q1
    go_wp2_with fail
    with_reducible refine (HGETO.out w4 HB24.out).mono ?_
    rintro E5 w5 ⟨rfl, hb5⟩
    have HB25 : Hid (Below w2.heap.size w2 w5) := Lib.hid (HB24.out.trans (hb5.mono HB24.out.size))
    have HB5 : Hid (Below w.heap.size w w5) := Lib.hid (HB4.out.trans (hb5.mono HB4.out.size))
    have HV5 : Hid (VarX w5 gx p) := Lib.hid (HV4.out.keep hb5 HV4.out.lt)
    clear hb5 HGETO
    rw [← hoe]
    obtain ⟨G, hG⟩ : ∃ G : ByteArray, G = ⟨(getL l O.data.toList).1.toArray⟩ := ⟨_, rfl⟩
    rw [← hG]
    generalize (getL l O.data.toList).2 = ge
    clear hG hoe
    obtain ⟨-, q0, -⟩ := HVAR.out w5 HV5.out
    go_wp2_with fail
    with_reducible refine (HDROP.out w5 HB25.out).mono ?_
    rintro E6 w6 ⟨A6, c6, rfl, ho6, hb6⟩
    have HB26 : Hid (Below w2.heap.size w2 w6) := Lib.hid (HB25.out.trans (hb6.mono HB25.out.size))
    have HB6 : Hid (Below w.heap.size w w6) := Lib.hid (HB5.out.trans (hb6.mono HB5.out.size))
    have HV6 : Hid (VarX w6 gx p) := Lib.hid (HV5.out.keep hb6 HV5.out.lt)
    clear hb6 q0 HDROP
    dsimp only at ho6 ⊢
    have hdl := HDL.out
    have hgd := HGD.out
    have hdd := HDD.out
    generalize delA a p.t = b at ho6 hdl hgd hdd ⊢
    obtain ⟨k, hk⟩ : ∃ k, k = b.length := ⟨_, rfl⟩
    rw [← hk] at ho6 hdl ⊢
    clear hk
    have hb6r : ∀ V, Below w6.heap.size w6 V → HoldsX V w6.heap.size A6 k b ∧ w6.heap.size ≤ V.heap.size := fun V hV => ⟨ho6.reads.below hV, hV.size⟩
    have HR6 := Lib.hid hb6r; clear hb6r ho6
    have hget2 := fun V (hV : Below w6.heap.size w6 V) => Get_any A6 k c6 w6.heap.size b S V (HR6.out V hV).1 (HR6.out V hV).2 (by omega)
    simp only [HSD.out, hgd] at hget2
    have HGET2 := Lib.hid hget2; clear hget2
    have hdrop2 := fun V (hV : Below w6.heap.size w6 V) => Drop_any A6 k c6 w6.heap.size b S V (HR6.out V hV).1 (HR6.out V hV).2 (by omega)
    simp only [HSD.out, hdd] at hdrop2
    have HDROP2 := Lib.hid hdrop2; clear hdrop2 hgd hdd
    obtain ⟨-, q0, -⟩ := HVAR.out w6 HV6.out
    go_wp2_with fail
    with_reducible refine (HGET2.out w6 (Below.refl _ _)).mono ?_
    rintro E7 w7 ⟨rfl, hb7⟩
    have HB67 := Lib.hid hb7
    have HB7 : Hid (Below w.heap.size w w7) := Lib.hid (HB6.out.trans (hb7.mono HB6.out.size))
    have HB27 : Hid (Below w2.heap.size w2 w7) := Lib.hid (HB26.out.trans (hb7.mono HB26.out.size))
    have HV7 : Hid (VarX w7 gx p) := Lib.hid (HV6.out.keep hb7 HV6.out.lt)
    clear hb7 q0 HGET2
    dsimp only
    obtain ⟨-, q0, -⟩ := HVAR.out w7 HV7.out
    go_wp2_with fail
    with_reducible refine (HDROP2.out w7 HB67.out).mono ?_
    rintro E8 w8 ⟨A8, c8, rfl, ho8, hb8⟩
    have HB8 : Hid (Below w.heap.size w w8) := Lib.hid (HB7.out.trans (hb8.mono HB7.out.size))
    have HB28 : Hid (Below w2.heap.size w2 w8) := Lib.hid (HB27.out.trans (hb8.mono HB27.out.size))
    clear hb8 ho8 q0 HDROP2
    dsimp only
    go_wp2_with fail
    with_reducible refine (HENC.out w8 HB28.out).mono ?_
    rintro E9 w9 ⟨A9, c9, rfl, ho9, hb9⟩
    have HB9 : Hid (Below w.heap.size w w9) := Lib.hid (HB8.out.trans (hb9.mono HB8.out.size))
    clear hb9 ho9 HENC
    dsimp only
    generalize (blockL a).length = z9
    go_wp2
    rw [HP.out]
    exact ⟨rfl, HB9.out⟩

theorem walks : Walks 6 Try.f6 All := by
  intro H enc W base args ds p hval hA hsz _
  rw [Try.params6] at hA hval hsz
  obtain ⟨v0, vs0, d0, ds0, p0, q0, hargs, rfl, rfl, h0, r0⟩ := trodAll_cons hA
  obtain ⟨v1, vs1, d1, ds1, p1, q1, rfl, rfl, rfl, h1, r1⟩ := trodAll_cons r0
  obtain ⟨v2, vs2, d2, ds2, p2, q2, rfl, rfl, rfl, h2, r2⟩ := trodAll_cons r1
  obtain ⟨rfl, rfl, rfl⟩ := trodAll_nil r2
  obtain rfl : args = #[v0, v1, v2] := by cases args; simp_all
  obtain ⟨A0, n0, c0, l0, rfl, hl0, hr0, hn0, hc0⟩ := exts_open (hval 0 _ v0 rfl rfl) h0 _ (reach_exts hsz (j := 0) rfl rfl)
  obtain ⟨e1, rfl, he1⟩ := ext_by_value (hval 1 _ v1 rfl rfl) h1
  obtain ⟨s2, rfl, rfl, rfl, hs2⟩ := Go.ChangeMaps.open_string Try.underlying9 (hval 2 _ v2 rfl rfl) h2
  exact walk A0 n0 c0 l0 e1 s2 W hl0 (by omega)

set_option maxRecDepth 100000 in
theorem proved : Rows.AttrGetsSaid :=
  OpenClaim.holds_of_wide 6 Try.f6 rfl rfl rfl rfl rfl rfl rfl ⟨rfl, rfl, rfl, rfl, rfl⟩ rfl rfl rfl rfl rfl (by kernel_rfl) Try.func6 (by kernel_rfl)
    (of_decide_eq_true (by kernel_rfl)) (by unfold Func.isWrapper; first | (rw [if_pos (by decide +kernel)]; kernel_rfl) | (rw [if_neg (by decide +kernel)]; exact ⟨rfl, rfl⟩))
    (fun os started H enc _ => lifted (s := Rows.attrGetsSpec) walks (by kernel_rfl) rfl rfl (fun H ds hl => by match ds, hl with | [d1, d2, d3], _ => rfl) (by kernel_rfl) Try.func6 os started H enc
      (ChangeSpec.witness6 (enc := enc) (C := Try.checked) false ⟨#[], #[.slice none 0 0, .agg #[.string ⟨#[]⟩, .string ⟨#[]⟩], .string ⟨#[]⟩], []⟩ 8 (by kernel_rfl) (by kernel_rfl) (by kernel_rfl) (by kernel_rfl)))
#print axioms proved
end Go.Proofs.Ytbagocghlijleaa.AttrGets
