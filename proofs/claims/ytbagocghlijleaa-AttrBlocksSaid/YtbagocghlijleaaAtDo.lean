/- Set, Drop and Get: the program's calls. -/
import Derived.Test.YtbagocghlijleaaAtFind
import Derived.Test.YtbagocghlijleaaAtRight
namespace Go.Proofs.Ytbagocghlijleaa.At
set_option maxRecDepth 20000
open Go.RowKit
open Go.Proofs.Ytbagocghlijleaa.Mem Go.Proofs.Ytbagocghlijleaa.Crc Go.Proofs.Ytbagocghlijleaa.Rec Go.Proofs.Ytbagocghlijleaa.Reg
open Go.Proofs.Ytbagocghlijleaa.Lf (less)
attribute [local go_sem ↓] ldX_eq stX_eq

set_option maxHeartbeats 1000000 in
theorem clone_any (A : Option Addr) (n c B : Nat) (l : List Pr) (w : World) (h : HoldsX w B A n l) (hn : n ≤ 4398046511104) (hB : B ≤ w.heap.size) :
    Calls Try.prog 22 #[.slice A n c] w fun e w' => ∃ A' c', e = .returned (.slice A' n c') ∧ OwnX w' w.heap.size (.slice A' n c') l ∧ Below w.heap.size w w' := by
  obtain rfl : l.length = n := h.1
  rcases A with _ | a
  · have h0 : l.length = 0 := by
      rcases Nat.eq_zero_or_pos l.length with e | e
      · exact e
      · obtain ⟨b, off, e, _⟩ := h.2 e; cases e
    obtain rfl : l = [] := List.eq_nil_of_length_eq_zero h0
    have hq : ∀ W, (binOp .eql 22 (.slice none 0 c) (.slice none 0 0)).run Try.prog W = .ok (.bool true) W := fun W => Lib.run_eql_slice_nil W _ _ none 0 c 0 0 Try.underlying22
    clear h h0
    go_enter Try.func22, Try.ntmps22
    go_wp2
    go_ret
    exact ⟨none, 0, rfl, OwnX.nil _ _, Below.refl _ _⟩
  · have hq : ∀ W, (binOp .eql 22 (.slice (some a) l.length c) (.slice none 0 0)).run Try.prog W = .ok (.bool false) W := fun W => Lib.run_eql_slice_nil W _ _ (some a) l.length c 0 0 Try.underlying22
    obtain ⟨v2, w2, hrun, ho2, hg2⟩ := run_addX (w.alloc (.cells #[] 24)) 22 w.heap.size _ [] (ownX_empty w) B (some a) l.length c l (h.below (((Below.refl w.heap.size w).alloc (Nat.le_refl _) _).mono hB)) (by simpa using hn) (by simp)
    rw [List.nil_append] at ho2
    obtain ⟨A2, c2, rfl⟩ := ho2.shape
    have hb2 : Below w.heap.size w w2 := ((Below.refl w.heap.size w).alloc (Nat.le_refl _) _).trans (hg2.below (by simp) (fun k hk => by injection hk with hk; simp at hk; omega))
    have HO := Lib.hid ho2
    have HB := Lib.hid hb2
    clear ho2 hb2 hg2 h
    generalize l.length = n at *
    go_enter Try.func22, Try.ntmps22
    go_wp2_with (at_builtin; refine wpList_apprun rfl _ _ _ _ (by rfl) _ _ (by rfl) (by rfl) _ _ hrun ?_)
    clear hrun
    go_wp2
    go_ret
    exact ⟨A2, c2, rfl, HO.out, HB.out⟩

/-- Attributes and an error, as answered. -/
def Pairs2 (w : World) (y : List Pr × Int) (e : Ending) (w' : World) : Prop :=
  ∃ A c, e = .returned (.tuple #[.slice A y.1.length c, .int .i64 y.2]) ∧ OwnX w' w.heap.size (.slice A y.1.length c) y.1 ∧ Below w.heap.size w w'
theorem set_one {l : List Pr} (p : Pr) (h : right l = false) : setL l p = ([], 1) := by unfold setL; rw [if_neg (by rw [h]; simp)]
theorem set_two {l : List Pr} {p : Pr} (h : okP p = false) : setL l p = ([], 1) := by unfold setL; rw [if_neg (by rw [h]; simp)]
theorem set_far {l : List Pr} {p : Pr} (h : right l = true) (h2 : okP p = true) (h3 : ¬ sizeL (putA l p) ≤ 250) : setL l p = ([], 15) := by unfold setL; rw [if_pos ⟨h, h2⟩, if_neg h3]
theorem set_yes {l : List Pr} {p : Pr} (h : right l = true) (h2 : okP p = true) (h3 : sizeL (putA l p) ≤ 250) : setL l p = (putA l p, 0) := by unfold setL; rw [if_pos ⟨h, h2⟩, if_pos h3]
theorem posA_lt {l : List Pr} {t : List UInt8} (h : hasA l t = true) : posA l t < l.length := (hasA_at h).choose

set_option maxRecDepth 100000 in
set_option maxHeartbeats 8000000 in
theorem Set_any (A : Option Addr) (n c B : Nat) (l : List Pr) (p : Pr) (w : World) (h : HoldsX w B A n l) (hB : B ≤ w.heap.size) (hn : n ≤ 4398046510976) :
    Calls Try.prog 9 #[.slice A n c, .agg p.c] w (Pairs2 w (setL l p)) := by
  have hln := h.1
  obtain ⟨post, hpost⟩ : ∃ post, post = Pairs2 w (setL l p) := ⟨_, rfl⟩
  rw [← hpost]
  have HP := Lib.hid hpost; clear hpost
  obtain ⟨W0, hW0⟩ : ∃ W0, W0 = w.alloc (.cells p.c 24) := ⟨_, rfl⟩
  have hv0 : VarX W0 w.heap.size p := by rw [hW0]; exact VarX.new w p
  have hb0 : Below w.heap.size w W0 := by rw [hW0]; exact (Below.refl _ w).alloc (Nat.le_refl _) _
  have hz0 : W0.heap.size = w.heap.size + 1 := by rw [hW0]; simp
  have hh : ∀ V, Below w.heap.size w V → HoldsX V B A n l ∧ B ≤ V.heap.size := fun V hV => ⟨h.below (hV.mono hB), Nat.le_trans hB hV.size⟩
  have HH := Lib.hid hh; clear hh h
  have HLN := Lib.hid hln; clear hln
  obtain ⟨S, hS⟩ : ∃ S : ByteArray, S = ⟨p.t.toArray⟩ := ⟨_, rfl⟩
  have hSd : S.data.toList = p.t := by rw [hS]
  have hvar : ∀ V, VarX V w.heap.size p → (ldX (.pointer (some ⟨w.heap.size, 0, none⟩))).run Try.prog V = .ok (.agg p.c) V ∧ V.cell? ⟨w.heap.size, 0, none⟩ = some (.string S) := fun V hV => ⟨hV.load, by rw [hS]; exact hV.cells.1⟩
  have hmay := fun V => may_any p V
  have hins := fun (W : World) (base : Nat) (hb : base ≤ W.heap.size) (A : Option Addr) (n c : Nat) (hown : OwnC PK W base (.slice A n c) l) (i : Nat) (hi : i ≤ n) (vb : Nat) (hv : W.heap[vb]? = some (.cells p.c 24 (0, 0))) (hvb : ∀ k, (Value.slice A n c).ownBlock = some k → k ≠ vb) (hlen : n + 1 ≤ 4398046511104) => insP_any W base hb A n c l hown i hi p vb hv hvb hlen
  have hput := fun (w : World) (base g n cap : Nat) (ho : OwnX w base (.slice (some ⟨g, 0, none⟩) n cap) l) (j : Nat) (hj : j < l.length) => put_own PK_ok (ownPK.2 ho) j hj p p.c rfl (j * 2) rfl
  obtain ⟨X, hX⟩ : ∃ X, X = p.c := ⟨_, rfl⟩
  rw [← hX] at hW0 ⊢
  simp only [← hX] at hvar hmay hins hput
  have HXE : Hid (X = #[.string S, .string ⟨p.v.toArray⟩]) := Lib.hid (by rw [hX, hS]; rfl)
  have HX := Lib.hid hX; clear hX
  have HVAR := Lib.hid hvar; clear hvar
  have HMAY := Lib.hid hmay; clear hmay
  have HINS := Lib.hid hins; clear hins
  have HPUT := Lib.hid hput; clear hput
  have HSD := Lib.hid hSd; clear hSd hS
  have HV0 := Lib.hid hv0; clear hv0
  have HB0 := Lib.hid hb0; clear hb0
  have HZ0 := Lib.hid hz0; clear hz0
  have HW0 := Lib.hid hW0; clear hW0
  obtain ⟨gx, hgx⟩ : ∃ gx, gx = w.heap.size := ⟨_, rfl⟩
  have HGX := Lib.hid hgx; clear hgx
  rw [← HGX.out] at HVAR HV0
  have hright := right_any A n c B l W0 (HH.out W0 HB0.out).1 (HH.out W0 HB0.out).2 (by omega)
  have HRIGHT := Lib.hid hright; clear hright
  go_enter Try.func9, Try.ntmps9
  go_wp2_with fail
  rw [← HW0.out, ← HGX.out]
  with_reducible refine HRIGHT.out.mono ?_
  rintro E1 w1 ⟨rfl, hb1⟩
  have HB1 : Hid (Below w.heap.size w w1) := Lib.hid (HB0.out.trans (hb1.mono HB0.out.size))
  have HV1 : Hid (VarX w1 gx p) := Lib.hid (HV0.out.keep hb1 HV0.out.lt)
  clear hb1 HV0 HRIGHT HW0
  obtain ⟨rt, hrt⟩ : ∃ rt, rt = right l := ⟨_, rfl⟩
  rw [← hrt]
  cases rt with
  | false =>
    have HE := Lib.hid (set_one p hrt.symm)
    clear hrt
    go_wp2
    rw [HP.out, HE.out]
    exact ⟨none, 0, rfl, OwnX.nil _ _, HB1.out⟩
  | true =>
  have HR : Hid (right l = true) := Lib.hid hrt.symm
  clear hrt
  obtain ⟨q0, -⟩ := HVAR.out w1 HV1.out
  go_wp2_with fail
  with_reducible refine (HMAY.out w1).mono ?_
  rintro E2 w2 ⟨rfl, hb2⟩
  have HB2 : Hid (Below w.heap.size w w2) := Lib.hid (HB1.out.trans (hb2.mono HB1.out.size))
  have HV2 : Hid (VarX w2 gx p) := Lib.hid (HV1.out.keep hb2 HV1.out.lt)
  clear hb2 HV1 q0
  obtain ⟨ok, hok⟩ : ∃ ok, ok = okP p := ⟨_, rfl⟩
  rw [← hok]
  cases ok with
  | false =>
    have HE := Lib.hid (set_two (l := l) hok.symm)
    clear hok
    go_wp2
    rw [HP.out, HE.out]
    exact ⟨none, 0, rfl, OwnX.nil _ _, HB2.out⟩
  | true =>
  have HOK : Hid (okP p = true) := Lib.hid hok.symm
  clear hok
  have hcl := clone_any A n c B l w2 (HH.out w2 HB2.out).1 (by omega) (HH.out w2 HB2.out).2
  have HCL := Lib.hid hcl; clear hcl
  go_wp2_with fail
  with_reducible refine HCL.out.mono ?_
  rintro E3 w3 ⟨A3, c3, rfl, ho3, hb3⟩
  have HB3 : Hid (Below w.heap.size w w3) := Lib.hid (HB2.out.trans (hb3.mono HB2.out.size))
  have HV3 : Hid (VarX w3 gx p) := Lib.hid (HV2.out.keep hb3 HV2.out.lt)
  have HG2 : Hid (gx < w2.heap.size) := Lib.hid HV2.out.lt
  have HO3 := Lib.hid ho3
  have HS23 := Lib.hid hb3.size
  clear hb3 HV2 ho3 HCL
  have hfind := find_any A n c B l S w3 (HH.out w3 HB3.out).1 (HH.out w3 HB3.out).2 (by omega) ((right_iff l).1 HR.out).2
  rw [HSD.out] at hfind
  have HFIND := Lib.hid hfind; clear hfind
  obtain ⟨-, q1⟩ := HVAR.out w3 HV3.out
  go_wp2_with fail
  with_reducible refine HFIND.out.mono ?_
  rintro E4 w4 ⟨rfl, hb4⟩
  have HB4 : Hid (Below w.heap.size w w4) := Lib.hid (HB3.out.trans (hb4.mono HB3.out.size))
  have HV4 : Hid (VarX w4 gx p) := Lib.hid (HV3.out.keep hb4 HV3.out.lt)
  have HO4 := Lib.hid (HO3.out.below hb4)
  have HS34 := Lib.hid hb4.size
  clear hb4 HV3 HO3 HFIND q1
  have hrp := right_put HR.out HOK.out
  obtain ⟨q0, -⟩ := HVAR.out w4 HV4.out
  have HS24 : Hid (w2.heap.size ≤ w4.heap.size) := Lib.hid (Nat.le_trans HS23.out HS34.out)
  obtain ⟨pos, hpos⟩ : ∃ pos, pos = posA l p.t := ⟨_, rfl⟩
  rw [← hpos]
  have hpn : pos ≤ n := by rw [hpos]; have := posA_le l p.t; have := HLN.out; omega
  cases hhas : hasA l p.t with
  | true =>
    have hlt : pos < n := by rw [hpos]; have := posA_lt hhas; have := HLN.out; omega
    have ho4 := HO4.out
    obtain ⟨g, rfl, hg1, hg2, hfz⟩ := ho4.form (by omega)
    obtain ⟨w5, hst, ho5, hg5, hz5⟩ := HPUT.out w4 w2.heap.size g n c3 ho4 pos (by have := HLN.out; omega)
    have hst' : (stX (.pointer (some ⟨g, pos * 2, none⟩)) (.agg X)).run Try.prog w4 = .ok () w5 := hst
    have hpi : (0 : Int) ≤ (pos : Int) := by omega
    have hpi2 : (pos : Int) < (n : Int) := by omega
    obtain ⟨M, hM⟩ : ∃ M, M = l.set pos p := ⟨_, rfl⟩
    have hmp : M = putA l p := by rw [hM]; unfold putA; rw [if_pos hhas, ← hpos]
    have HMP := Lib.hid hmp
    have HRM : Hid (right M = true) := Lib.hid (by rw [hmp]; exact hrp)
    have HML : Hid (n = M.length) := Lib.hid (by rw [hM, List.length_set]; exact HLN.out.symm)
    replace ho5 : OwnX w5 w2.heap.size (.slice (some ⟨g, 0, none⟩) n c3) M := by rw [hM]; exact ho5
    have HB5 : Hid (Below w.heap.size w w5) := Lib.hid (HB4.out.grown hg5 HB4.out.size (fun i hi => by injection hi with hi; have := HB2.out.size; omega))
    have HOLD := Lib.hid ho5; clear ho5 hst hM hmp hrp hhas hpos hfz hg1 hg2 hg5 hz5 ho4 HO4
    have ho5 := HOLD.out
    have hfit := fits_any (some ⟨g, 0, none⟩) n c3 w5.heap.size M w5 ho5.reads (Nat.le_refl _) (((right_iff M).1 HRM.out).1) (by omega)
    have HFIT := Lib.hid hfit; clear hfit
    have HO5 := Lib.hid (ho5.mono HB2.out.size); clear ho5
    go_wp2_with fail
    with_reducible refine HFIT.out.mono ?_
    rintro E6 w6 ⟨rfl, hb6⟩
    have HB6 : Hid (Below w.heap.size w w6) := Lib.hid (HB5.out.trans (hb6.mono HB5.out.size))
    have HO6 := Lib.hid (HO5.out.below hb6)
    clear hb6 HFIT
    by_cases hz : sizeL M ≤ 250
    · rw [decide_eq_true hz]
      have HE : Hid (setL l p = (M, 0)) := Lib.hid (by rw [HMP.out] at hz ⊢; exact set_yes HR.out HOK.out hz)
      clear hz
      go_wp2
      rw [HP.out, HE.out]
      unfold Pairs2
      dsimp only
      rw [← HML.out]
      exact ⟨(some ⟨g, 0, none⟩), c3, rfl, HO6.out, HB6.out⟩
    · rw [decide_eq_false hz]
      have HE : Hid (setL l p = ([], 15)) := Lib.hid (by rw [HMP.out] at hz; exact set_far HR.out HOK.out hz)
      clear hz
      go_wp2
      rw [HP.out, HE.out]
      exact ⟨none, 0, rfl, OwnX.nil _ _, HB6.out⟩
  | false =>
    obtain ⟨W4, hW4⟩ : ∃ W4, W4 = w4.alloc (.cells X 24) := ⟨_, rfl⟩
    have hbW : Below w4.heap.size w4 W4 := by rw [hW4]; exact (Below.refl _ w4).alloc (Nat.le_refl _) _
    have hoW := HO4.out.below hbW
    have hcall := HINS.out W4 w2.heap.size (Nat.le_trans HS24.out hbW.size) A3 n c3 (ownPK.2 hoW) pos hpn w4.heap.size (by rw [hW4, HX.out]; exact heap_alloc_new w4 _) (fun i hi => by have := (HO4.out.lt i hi).2; omega) (by omega)
    have HCALL := Lib.hid hcall; clear hcall
    obtain ⟨M, hM⟩ : ∃ M, M = l.take pos ++ p :: l.drop pos := ⟨_, rfl⟩
    have hmp : M = putA l p := by rw [hM]; unfold putA; rw [if_neg (by rw [hhas]; simp), ← hpos]; rfl
    have HMP := Lib.hid hmp
    have HRM : Hid (right M = true) := Lib.hid (by rw [hmp]; exact hrp)
    have hmlen : M.length = n + 1 := by rw [hM, List.length_append, List.length_cons, List.length_take, List.length_drop]; have := HLN.out; omega
    rw [← hM] at HCALL
    have HBW : Hid (Below w.heap.size w W4) := Lib.hid (HB4.out.trans (hbW.mono HB4.out.size))
    have HOW := Lib.hid hoW
    rw [HXE.out] at hW4 q0 ⊢
    have HW4 := Lib.hid hW4
    clear hM hmp hrp hhas hpos hoW hbW hW4
    go_wp2_with fail
    rw [← HW4.out]
    with_reducible refine HCALL.out.mono ?_
    rintro E5 w5 ⟨v5, rfl, ho5, hg5⟩
    replace ho5 : OwnX w5 w2.heap.size v5 M := ho5
    have HB5 : Hid (Below w.heap.size w w5) := Lib.hid (HBW.out.trans (hg5.below HBW.out.size (fun i hi => Nat.le_trans HB2.out.size (HOW.out.lt i hi).1)))
    obtain ⟨A5, c5, rfl⟩ := ho5.shape
    rw [hmlen] at ho5 ⊢
    have HML : Hid (n + 1 = M.length) := Lib.hid hmlen.symm
    clear hg5 HCALL HOW hmlen q0
    have hfit := fits_any A5 (n + 1) c5 w5.heap.size M w5 ho5.reads (Nat.le_refl _) (((right_iff M).1 HRM.out).1) (by omega)
    have HFIT := Lib.hid hfit; clear hfit
    have HO5 := Lib.hid (ho5.mono HB2.out.size); clear ho5
    go_wp2_with fail
    with_reducible refine HFIT.out.mono ?_
    rintro E6 w6 ⟨rfl, hb6⟩
    have HB6 : Hid (Below w.heap.size w w6) := Lib.hid (HB5.out.trans (hb6.mono HB5.out.size))
    have HO6 := Lib.hid (HO5.out.below hb6)
    clear hb6 HFIT
    by_cases hz : sizeL M ≤ 250
    · rw [decide_eq_true hz]
      have HE : Hid (setL l p = (M, 0)) := Lib.hid (by rw [HMP.out] at hz ⊢; exact set_yes HR.out HOK.out hz)
      clear hz
      go_wp2
      rw [HP.out, HE.out]
      unfold Pairs2
      dsimp only
      rw [← HML.out]
      exact ⟨A5, c5, rfl, HO6.out, HB6.out⟩
    · rw [decide_eq_false hz]
      have HE : Hid (setL l p = ([], 15)) := Lib.hid (by rw [HMP.out] at hz; exact set_far HR.out HOK.out hz)
      clear hz
      go_wp2
      rw [HP.out, HE.out]
      exact ⟨none, 0, rfl, OwnX.nil _ _, HB6.out⟩

def placeL (l : List Pr) (t : List UInt8) : Int × Int := if right l = true then (if hasA l t = true then ((posA l t : Int), 0) else (0, 15)) else (0, 1)
set_option maxRecDepth 100000 in
set_option maxHeartbeats 8000000 in
theorem placeOf_any (A : Option Addr) (n c B : Nat) (l : List Pr) (S : ByteArray) (w : World) (h : HoldsX w B A n l) (hB : B ≤ w.heap.size) (hn : n ≤ 4398046511104) :
    Calls Try.prog 30 #[.slice A n c, .string S] w fun e w' => e = .returned (.tuple #[.int .i64 (placeL l S.data.toList).1, .int .i64 (placeL l S.data.toList).2]) ∧ Below w.heap.size w w' := by
  obtain ⟨t, ht⟩ : ∃ t, t = S.data.toList := ⟨_, rfl⟩
  rw [← ht]
  have hh : ∀ V, Below w.heap.size w V → HoldsX V B A n l ∧ B ≤ V.heap.size := fun V hV => ⟨h.below (hV.mono hB), Nat.le_trans hB hV.size⟩
  have hright := right_any A n c B l w h hB hn
  obtain ⟨post, hpost⟩ : ∃ post : Ending → World → Prop, post = fun e w' => e = .returned (.tuple #[.int .i64 (placeL l t).1, .int .i64 (placeL l t).2]) ∧ Below w.heap.size w w' := ⟨_, rfl⟩
  rw [← hpost]
  have HP := Lib.hid hpost; clear hpost
  have HT := Lib.hid ht; clear ht
  have HH := Lib.hid hh; clear hh h
  cases hrt : right l with
  | false =>
    rw [hrt] at hright
    have HE : Hid (placeL l t = (0, 1)) := Lib.hid (by unfold placeL; rw [if_neg (by rw [hrt]; simp)])
    have HRIGHT := Lib.hid hright; clear hright hrt
    go_enter Try.func30, Try.ntmps30
    go_wp2_with fail
    with_reducible refine HRIGHT.out.mono ?_
    rintro E1 w1 ⟨rfl, hb1⟩
    go_wp2
    rw [HP.out, HE.out]
    exact ⟨rfl, hb1⟩
  | true =>
    rw [hrt] at hright
    have HRIGHT := Lib.hid hright; clear hright
    have hfind := fun V (hV : Below w.heap.size w V) => find_any A n c B l S V (HH.out V hV).1 (HH.out V hV).2 hn ((right_iff l).1 hrt).2
    simp only [← HT.out] at hfind
    have HFIND := Lib.hid hfind; clear hfind
    have HR := Lib.hid hrt; clear hrt
    go_enter Try.func30, Try.ntmps30
    go_wp2_with fail
    with_reducible refine HRIGHT.out.mono ?_
    rintro E1 w1 ⟨rfl, hb1⟩
    have HB1 := Lib.hid hb1; clear hb1 HRIGHT
    go_wp2_with fail
    with_reducible refine (HFIND.out w1 HB1.out).mono ?_
    rintro E2 w2 ⟨rfl, hb2⟩
    have HB2 : Hid (Below w.heap.size w w2) := Lib.hid (HB1.out.trans (hb2.mono HB1.out.size))
    clear hb2 HFIND
    cases hhas : hasA l t with
    | false =>
      have HE : Hid (placeL l t = (0, 15)) := Lib.hid (by unfold placeL; rw [if_pos HR.out, if_neg (by rw [hhas]; simp)])
      clear hhas
      go_wp2
      rw [HP.out, HE.out]
      exact ⟨rfl, HB2.out⟩
    | true =>
      have HE : Hid (placeL l t = ((posA l t : Int), 0)) := Lib.hid (by unfold placeL; rw [if_pos HR.out, if_pos hhas])
      clear hhas
      go_wp2
      rw [HP.out, HE.out]
      exact ⟨rfl, HB2.out⟩

theorem place_ways (l : List Pr) (t : List UInt8) : (placeL l t = (0, 1) ∧ dropL l t = ([], 1) ∧ getL l t = ([], 1)) ∨ (placeL l t = (0, 15) ∧ dropL l t = ([], 15) ∧ getL l t = ([], 15)) ∨ (∃ h : posA l t < l.length, placeL l t = ((posA l t : Int), 0) ∧ dropL l t = (delA l t, 0) ∧ getL l t = ((l[posA l t]).v, 0)) := by
  unfold placeL dropL getL
  by_cases h1 : right l = true
  · rw [if_pos h1, if_pos h1, if_pos h1]
    by_cases h2 : hasA l t = true
    · rw [if_pos h2, if_pos h2, if_pos h2]
      exact .inr (.inr ⟨posA_lt h2, rfl, rfl, by rw [getD_at (posA_lt h2)]⟩)
    · rw [if_neg h2, if_neg h2, if_neg h2]
      exact .inr (.inl ⟨rfl, rfl, rfl⟩)
  · rw [if_neg h1, if_neg h1, if_neg h1]
    exact .inl ⟨rfl, rfl, rfl⟩

set_option maxRecDepth 100000 in
set_option maxHeartbeats 8000000 in
theorem Drop_any (A : Option Addr) (n c B : Nat) (l : List Pr) (S : ByteArray) (w : World) (h : HoldsX w B A n l) (hB : B ≤ w.heap.size) (hn : n ≤ 4398046511104) :
    Calls Try.prog 11 #[.slice A n c, .string S] w (Pairs2 w (dropL l S.data.toList)) := by
  have hln := h.1
  have hpl := placeOf_any A n c B l S w h hB hn
  obtain ⟨t, ht⟩ : ∃ t, t = S.data.toList := ⟨_, rfl⟩
  rw [← ht] at hpl ⊢
  have hcl := fun V (hV : Below w.heap.size w V) => clone_any A n c B l V (h.below (hV.mono hB)) hn (Nat.le_trans hB hV.size)
  obtain ⟨post, hpost⟩ : ∃ post, post = Pairs2 w (dropL l t) := ⟨_, rfl⟩
  rw [← hpost]
  have HP := Lib.hid hpost; clear hpost
  have HLN := Lib.hid hln; clear hln ht h
  rcases place_ways l t with ⟨e1, e2, -⟩ | ⟨e1, e2, -⟩ | ⟨hlt, e1, e2, -⟩
  · rw [e1] at hpl
    have HPL := Lib.hid hpl; clear hpl
    have HE := Lib.hid e2; clear e2 e1
    go_enter Try.func11, Try.ntmps11
    go_wp2_with fail
    with_reducible refine HPL.out.mono ?_
    rintro E1 w1 ⟨rfl, hb1⟩
    dsimp only
    go_wp2
    rw [HP.out, HE.out]
    exact ⟨none, 0, rfl, OwnX.nil _ _, hb1⟩
  · rw [e1] at hpl
    have HPL := Lib.hid hpl; clear hpl
    have HE := Lib.hid e2; clear e2 e1
    go_enter Try.func11, Try.ntmps11
    go_wp2_with fail
    with_reducible refine HPL.out.mono ?_
    rintro E1 w1 ⟨rfl, hb1⟩
    dsimp only
    go_wp2
    rw [HP.out, HE.out]
    exact ⟨none, 0, rfl, OwnX.nil _ _, hb1⟩
  · rw [e1] at hpl
    have HPL := Lib.hid hpl; clear hpl
    have HE := Lib.hid e2; clear e2 e1
    have HCL := Lib.hid hcl; clear hcl
    have hda : delA l t = l.take (posA l t) ++ l.drop (posA l t + 1) := rfl
    obtain ⟨pos, hpos⟩ : ∃ pos, pos = posA l t := ⟨_, rfl⟩
    rw [← hpos] at HPL hlt hda
    have hpn : pos < n := by have := HLN.out; omega
    have HDA := Lib.hid hda; clear hda hpos
    have hw1 : IntKind.i64.wrap ((pos : Int) + 1) = (pos : Int) + 1 := by rw [IntKind.wrap_i64]; omega
    go_enter Try.func11, Try.ntmps11
    go_wp2_with fail
    with_reducible refine HPL.out.mono ?_
    rintro E1 w1 ⟨rfl, hb1⟩
    have HB1 := Lib.hid hb1; clear hb1 HPL
    dsimp only
    go_wp2_with fail
    with_reducible refine (HCL.out w1 HB1.out).mono ?_
    rintro E2 w2 ⟨A2, c2, rfl, ho2, hb2⟩
    have HB2 : Hid (Below w.heap.size w w2) := Lib.hid (HB1.out.trans (hb2.mono HB1.out.size))
    have hcall := delP_any w2 w1.heap.size A2 n c2 l (ownPK.2 ho2) pos hpn hn
    have HCALL := Lib.hid hcall; clear hcall hb2
    have HO2 := Lib.hid ho2; clear ho2 HCL
    go_wp2_with fail
    with_reducible refine HCALL.out.mono ?_
    rintro E3 w3 ⟨v3, rfl, ho3, hg3⟩
    rw [← HDA.out] at ho3
    have HB3 : Hid (Below w.heap.size w w3) := Lib.hid (HB2.out.trans (hg3.below HB2.out.size (fun i hi => Nat.le_trans HB1.out.size (HO2.out.lt i hi).1)))
    replace ho3 : OwnX w3 w1.heap.size v3 (delA l t) := ho3
    obtain ⟨A3, c3, rfl⟩ := ho3.shape
    have HO3 := Lib.hid (ho3.mono HB1.out.size); clear ho3 hg3 HCALL HO2
    generalize delA l t = M at HO3 HE ⊢
    obtain ⟨m, hm⟩ : ∃ m, m = M.length := ⟨_, rfl⟩
    rw [← hm] at HO3 ⊢
    have HM := Lib.hid hm; clear hm
    go_wp2
    rw [HP.out, HE.out]
    unfold Pairs2
    dsimp only
    rw [← HM.out]
    exact ⟨A3, c3, rfl, HO3.out, HB3.out⟩

set_option maxRecDepth 100000 in
set_option maxHeartbeats 8000000 in
theorem Get_any (A : Option Addr) (n c B : Nat) (l : List Pr) (S : ByteArray) (w : World) (h : HoldsX w B A n l) (hB : B ≤ w.heap.size) (hn : n ≤ 4398046511104) :
    Calls Try.prog 13 #[.slice A n c, .string S] w fun e w' => e = .returned (.tuple #[.string ⟨(getL l S.data.toList).1.toArray⟩, .int .i64 (getL l S.data.toList).2]) ∧ Below w.heap.size w w' := by
  have hln := h.1
  have hpl := placeOf_any A n c B l S w h hB hn
  obtain ⟨t, ht⟩ : ∃ t, t = S.data.toList := ⟨_, rfl⟩
  rw [← ht] at hpl ⊢
  have hh : ∀ V, Below w.heap.size w V → HoldsX V B A n l := fun V hV => h.below (hV.mono hB)
  obtain ⟨post, hpost⟩ : ∃ post : Ending → World → Prop, post = fun e w' => e = .returned (.tuple #[.string ⟨(getL l t).1.toArray⟩, .int .i64 (getL l t).2]) ∧ Below w.heap.size w w' := ⟨_, rfl⟩
  rw [← hpost]
  have HP := Lib.hid hpost; clear hpost
  have HLN := Lib.hid hln; clear hln ht
  rcases place_ways l t with ⟨e1, -, e2⟩ | ⟨e1, -, e2⟩ | ⟨hlt, e1, -, e2⟩
  · rw [e1] at hpl
    have HPL := Lib.hid hpl; clear hpl h hh
    have HE := Lib.hid e2; clear e2 e1
    go_enter Try.func13, Try.ntmps13
    go_wp2_with fail
    with_reducible refine HPL.out.mono ?_
    rintro E1 w1 ⟨rfl, hb1⟩
    dsimp only
    go_wp2
    rw [HP.out, HE.out]
    exact ⟨rfl, hb1⟩
  · rw [e1] at hpl
    have HPL := Lib.hid hpl; clear hpl h hh
    have HE := Lib.hid e2; clear e2 e1
    go_enter Try.func13, Try.ntmps13
    go_wp2_with fail
    with_reducible refine HPL.out.mono ?_
    rintro E1 w1 ⟨rfl, hb1⟩
    dsimp only
    go_wp2
    rw [HP.out, HE.out]
    exact ⟨rfl, hb1⟩
  · rw [e1] at hpl
    obtain ⟨b, off, rfl, hbB⟩ := h.addr (by have := HLN.out; omega)
    have HPL := Lib.hid hpl; clear hpl
    have HE := Lib.hid e2; clear e2 e1
    have hcell : ∀ V, Below w.heap.size w V → V.cell? ⟨b, off + posA l t * 2 + 1, none⟩ = some (.string ⟨(l[posA l t]).v.toArray⟩) := fun V hV => ((hh V hV).cell (posA l t) hlt).2
    obtain ⟨U, hU⟩ : ∃ U : ByteArray, U = ⟨(l[posA l t]).v.toArray⟩ := ⟨_, rfl⟩
    rw [← hU] at hcell
    have HU := Lib.hid hU; clear hU
    generalize posA l t = pos at hlt HPL hcell
    have HCELL := Lib.hid hcell; clear hcell h hh
    have hp0 : (0 : Int) ≤ (pos : Int) := by omega
    have hpn : (pos : Int) < (n : Int) := by have := HLN.out; omega
    go_enter Try.func13, Try.ntmps13
    go_wp2_with fail
    with_reducible refine HPL.out.mono ?_
    rintro E1 w1 ⟨rfl, hb1⟩
    have q0 := HCELL.out w1 hb1
    have HB1 := Lib.hid hb1; clear hb1 HPL
    dsimp only
    go_wp2
    rw [HP.out, HE.out, HU.out]
    exact ⟨rfl, HB1.out⟩
end Go.Proofs.Ytbagocghlijleaa.At
