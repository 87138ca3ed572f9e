/- PathMore: for every path and every name, the path with a stroke and the name behind it has the parts of both, or is refused. For texts within the reach of memory. -/
import Derived.Test.YtamhbjpoganhnaaPhAlive
import Derived.Test.YtamhbjpoganhnaaPhArg
import Derived.Test.YtamhbjpoganhnaaPhBack
namespace Go.Proofs.Ytamhbjpoganhnaa.PathMore
set_option maxRecDepth 20000
open Go.ChangeShapes Go.WideShapes Go.ChangeAt Go.RowKit Go.Deep
open Go.Proofs.Ytamhbjpoganhnaa.Mem Go.Proofs.Ytamhbjpoganhnaa.Ph Go.Proofs.Ytamhbjpoganhnaa.Lf Go.Proofs.Ytamhbjpoganhnaa.Lift Go.Proofs.Ytamhbjpoganhnaa.Reg

theorem wpList_appg {w : World} {ops : Array Oper} {rest : List Oper} {o : Oper} {a : Act} {Q : Exit → Act → World → Prop} (hw : Region.wanted o (yielded ops a.tmps) = true) (d x : Operand) (dT sT : TypeId)
    (ho : o.op = .call { callee := .builtin .append, args := #[d, x], argTypes := #[dT, sT] }) (vd vx : Value) (hd : a.eval d = vd) (hx : a.eval x = vx) (v : Value) (w' : World) (hrun : (Builtin.append_ #[dT, sT] o.type #[vd, vx]).run Try.prog w = .ok v w')
    (h : wpList Try.prog ops Q rest (a.put o.dst v) w') : wpList Try.prog ops Q (o :: rest) a w := by
  unfold wpList
  rw [if_pos hw]
  left
  unfold Oper.wp execOp
  simp only [ho, resolve, invoke, builtin, Sem.run_bind, Sem.run_pure, Result.andThen_ok, List.map_toArray, List.map_cons, List.map_nil, hd, hx, hrun]
  exact h
set_option maxRecDepth 100000 in
set_option maxHeartbeats 8000000 in
theorem walk (p q : List UInt8) (w : World) (hp : p.length ≤ 140737488351232) (hq : q.length ≤ 140737488351232) :
    Calls Try.prog 7 #[.string ⟨p.toArray⟩, .string ⟨q.toArray⟩] w fun E w' => E = .returned (.bool true) ∧ Below w.heap.size w w' := by
  obtain ⟨post, hpost⟩ : ∃ post : Ending → World → Prop, post = fun E w' => E = .returned (.bool true) ∧ Below w.heap.size w w' := ⟨_, rfl⟩
  rw [← hpost]
  have HP := Lib.hid hpost; clear hpost
  have hs := fun V => split_S p V (by unfold maxLen; omega)
  have hs2 := fun V => split_S (p ++ 47 :: q) V (by unfold maxLen; simp; omega)
  have hs3 := fun V => split_S (47 :: q) V (by unfold maxLen; simp; omega)
  have hok := @parts_ok p
  have hok3 := @parts_ok (47 :: q)
  have hno := @parts_not p
  have hmore := @split_more p q
  have a1 : ∀ W, (Op.stringOp .add ⟨p.toArray⟩ ⟨#[47]⟩).run Try.prog W = .ok (.string ⟨(p ++ [47]).toArray⟩) W := fun W => by
    have := run_string_add_sum (P := Try.prog) (w := W) ⟨p.toArray⟩ ⟨#[47]⟩ (by simp [ByteArray.size]; omega)
    rw [this, show (⟨#[47]⟩ : ByteArray) = ⟨([47] : List UInt8).toArray⟩ from rfl, ByteArray.mk_append_mk]
  have a2 : ∀ W, (Op.stringOp .add ⟨(p ++ [47]).toArray⟩ ⟨q.toArray⟩).run Try.prog W = .ok (.string ⟨(p ++ 47 :: q).toArray⟩) W := fun W => by
    have := run_string_add_sum (P := Try.prog) (w := W) ⟨(p ++ [47]).toArray⟩ ⟨q.toArray⟩ (by simp [ByteArray.size]; omega)
    rw [this, ByteArray.mk_append_mk, List.append_assoc]
    rfl
  have a3 : ∀ W, (Op.stringOp .add ⟨#[47]⟩ ⟨q.toArray⟩).run Try.prog W = .ok (.string ⟨(47 :: q).toArray⟩) W := fun W => by
    have := run_string_add_sum (P := Try.prog) (w := W) ⟨#[47]⟩ ⟨q.toArray⟩ (by simp [ByteArray.size]; omega)
    rw [this, show (⟨#[47]⟩ : ByteArray) = ⟨([47] : List UInt8).toArray⟩ from rfl, ByteArray.mk_append_mk]
    rfl
  generalize splitP p = r at *
  obtain ⟨l, d, e⟩ := r
  generalize splitP (p ++ 47 :: q) = r2 at *
  obtain ⟨m, d2, f⟩ := r2
  generalize splitP (47 :: q) = r3 at *
  obtain ⟨nn, d3, g⟩ := r3
  dsimp only at hs hs2 hs3 hok hok3 hno hmore
  have HS := Lib.hid hs; clear hs
  have HS2 := Lib.hid hs2; clear hs2
  have HS3 := Lib.hid hs3; clear hs3
  have HOK := Lib.hid hok; clear hok
  have HOK3 := Lib.hid hok3; clear hok3
  have HMORE := Lib.hid hmore; clear hmore
  clear hp hq
  generalize (⟨p.toArray⟩ : ByteArray) = P at *
  generalize (⟨q.toArray⟩ : ByteArray) = Q at *
  generalize (⟨(p ++ [47]).toArray⟩ : ByteArray) = P1 at *
  generalize (⟨(p ++ 47 :: q).toArray⟩ : ByteArray) = PQ at *
  generalize (⟨(47 :: q).toArray⟩ : ByteArray) = SQ at *
  go_enter Try.func7, Try.ntmps7
  go_wp2_with fail
  with_reducible refine (alive_any w).mono ?_
  rintro E1 w1 ⟨rfl, hb1⟩
  have HB1 := Lib.hid hb1; clear hb1
  go_wp2_with fail
  with_reducible refine (HS.out w1).mono ?_
  rintro E2 w2 ⟨A2, c2, rfl, ho2, hb2⟩
  have HB2 : Hid (Below w.heap.size w w2) := Lib.hid (HB1.out.trans (hb2.mono HB1.out.size))
  have HO2 := Lib.hid (ho2.reads skOk)
  clear ho2 hb2 HS
  go_wp2_with fail
  with_reducible refine (HS2.out w2).mono ?_
  rintro E3 w3 ⟨A3, c3, rfl, ho3, hb3⟩
  have HB3 : Hid (Below w.heap.size w w3) := Lib.hid (HB2.out.trans (hb3.mono HB2.out.size))
  have HO3 := Lib.hid (ho3.reads skOk)
  have HO23 := Lib.hid (HO2.out.below hb3)
  have HW3 := Lib.hid hb3.size
  clear ho3 hb3 HS2
  rcases Decidable.em (e = 0) with h0 | h0
  rotate_left
  · have hl := hno h0
    subst hl
    have hz : (e == 0) = false := beq_false_of_ne h0
    have hz2 : (e != 0) = true := by simp [hz, bne]
    dsimp only [List.length_nil] at *
    clear hno
    rcases Decidable.em (f = 0) with hf | hf
    · subst hf
      go_wp2
      rw [HP.out]
      exact ⟨by simp, HB3.out⟩
    · have hy : (f == 0) = false := beq_false_of_ne hf
      go_wp2
      rw [HP.out]
      exact ⟨by simp, HB3.out⟩
  rcases Decidable.em (f = 0) with hf | hf
  rotate_left
  · have hy : (f == 0) = false := beq_false_of_ne hf
    subst h0
    clear hno
    go_wp2
    rw [HP.out]
    exact ⟨by simp, HB3.out⟩
  obtain ⟨hg, hd, hm⟩ := HMORE.out h0 hf
  obtain ⟨hall, hpl, h256, -⟩ := HOK.out h0
  obtain ⟨hall3, hpl3, h2563, -⟩ := HOK3.out hg
  have hlen : ∀ z : List (List UInt8), z.all okP = true → (pathB z).length ≤ 256 → z.length ≤ 256 := fun z hz h => by
    have := joinB_bound z hz
    unfold pathB at h
    split at h
    · rename_i he; rw [he]; simp
    · omega
  have hln := hlen l hall (by omega)
  have hln3 := hlen nn hall3 (by omega)
  subst h0 hf hg
  subst hd hm
  clear hall hall3 hpl hpl3 h256 h2563 hlen hno HMORE HOK HOK3
  go_wp2_with fail
  with_reducible refine (HS3.out w3).mono ?_
  rintro E4 w4 ⟨A4, c4, rfl, ho4, hb4⟩
  have HB4 : Hid (Below w.heap.size w w4) := Lib.hid (HB3.out.trans (hb4.mono HB3.out.size))
  have HO4 := Lib.hid (ho4.reads skOk)
  have HO34 := Lib.hid (HO3.out.below hb4)
  have HO24 := Lib.hid (HO23.out.below (hb4.mono HW3.out))
  have HW4 := Lib.hid hb4.size
  clear ho4 hb4 HS3 HO2 HO3 HO23
  obtain ⟨V0, hV0⟩ : ∃ V0, V0 = w4.alloc (.cells #[] 9) := ⟨_, rfl⟩
  have hb40 : Below w4.heap.size w4 V0 := hV0 ▸ (Below.refl _ w4).alloc (Nat.le_refl _) _
  have ho0 : OwnC SK V0 w4.heap.size (.slice (some ⟨w4.heap.size, 0, none⟩) 0 0) [] := hV0 ▸ ownC_empty SK w4
  obtain ⟨v1, V1, hrun1, hown1, hg1⟩ := run_addS V0 23 w4.heap.size _ [] ho0 _ A2 l.length c2 l (HO24.out.below (hb40.mono (Nat.le_trans HW3.out HW4.out))) (by simp; omega) hb40.size
  rw [List.nil_append] at hown1
  have hbv1 : Below w4.heap.size V0 V1 := hg1.below hb40.size (fun k hk => (ho0.lt k hk).1)
  obtain ⟨v2, V2, hrun2, hown2, hg2⟩ := run_addS V1 23 w4.heap.size v1 l hown1 _ A4 nn.length c4 nn (HO4.out.below (hb40.trans hbv1)) (by omega) (hb40.trans hbv1).size
  have hbv2 : Below w4.heap.size V1 V2 := hg2.below (hb40.trans hbv1).size (fun k hk => (hown1.lt k hk).1)
  obtain ⟨B1, k1, hv1⟩ := hown1.shape
  obtain ⟨B2, k2, hv2⟩ := hown2.shape
  have hbV : Below w4.heap.size w4 V2 := (hb40.trans hbv1).trans hbv2
  rw [hv2] at hown2
  have hsame := same_any A3 B2 _ _ c3 k2 _ _ (l ++ nn) (l ++ nn) V2 (HO34.out.below (hbV.mono HW4.out)) (hown2.reads skOk) (Nat.le_trans HW4.out hbV.size) (Nat.le_refl _) (by rw [List.length_append]; omega)
  rw [decide_eq_true rfl] at hsame
  have HSAME := Lib.hid hsame; clear hsame
  have HBV : Hid (Below w.heap.size w V2) := Lib.hid (HB4.out.trans (hbV.mono HB4.out.size))
  rw [hv1] at hrun1 hrun2
  rw [hv2] at hrun2
  rw [hV0] at hrun1
  clear hown1 hown2 ho0 hg1 hg2 hbv1 hbv2 hb40 hbV hv1 hv2 hV0 HO24 HO34 HO4
  have hla : (l ++ nn).length = l.length + nn.length := List.length_append
  rw [hla] at HSAME hrun2
  clear hla
  generalize l.length = N at *
  generalize nn.length = M at *
  go_wp2_with (first | (at_builtin; first | (refine wpList_appg (by kernel_rfl) _ _ _ _ (by rfl) _ _ (by rfl) (by rfl) _ _ hrun1 ?_; clear hrun1) | refine wpList_appg (by kernel_rfl) _ _ _ _ (by rfl) _ _ (by rfl) (by rfl) _ _ hrun2 ?_) | (with_reducible refine HSAME.out.mono ?_; rintro E5 w5 ⟨rfl, hb5⟩; have HB5 : Hid (Below w.heap.size w w5) := Lib.hid (HBV.out.trans (hb5.mono HBV.out.size)); clear hb5 HSAME))
  rw [HP.out]
  exact ⟨by simp, HB5.out⟩

theorem walks : Walks 7 Try.f7 All := by
  intro H enc W base args ds p hval hA hsz _
  rw [Try.params7] at hA hval hsz
  obtain ⟨v0, vs0, d0, ds0, p0, q0, hargs, rfl, rfl, h0, r0⟩ := trodAll_cons hA
  obtain ⟨v1, vs1, d1, ds1, p1, q1, rfl, rfl, rfl, h1, r1⟩ := trodAll_cons r0
  obtain ⟨rfl, rfl, rfl⟩ := trodAll_nil r1
  obtain rfl : args = #[v0, v1] := by cases args; simp_all
  obtain ⟨s0, rfl, rfl, rfl, hs0⟩ := Go.ChangeMaps.open_string Try.underlying9 (hval 0 _ v0 rfl rfl) h0
  have hz0 := sized_string hsz (j := 0) rfl rfl
  obtain ⟨s1, rfl, rfl, rfl, hs1⟩ := Go.ChangeMaps.open_string Try.underlying9 (hval 1 _ v1 rfl rfl) h1
  have hz1 := sized_string hsz (j := 1) rfl rfl
  have e0 : s0.data.toList.length = s0.size := Array.length_toList
  have e1 : s1.data.toList.length = s1.size := Array.length_toList
  rw [show reachBytes = 140737488351232 from rfl] at hz0 hz1
  have hw := walk s0.data.toList s1.data.toList W hz0 hz1
  rw [text_back, text_back] at hw
  exact hw

set_option maxRecDepth 100000 in
theorem proved : Rows.PathMoreSaid :=
  OpenClaim.holds_of_wide 7 Try.f7 rfl rfl rfl rfl rfl rfl rfl ⟨rfl, rfl, rfl, rfl, rfl⟩ rfl rfl rfl rfl rfl (by kernel_rfl) Try.func7 (by kernel_rfl)
    (of_decide_eq_true (by kernel_rfl)) (by unfold Func.isWrapper; first | (rw [if_pos (by decide +kernel)]; kernel_rfl) | (rw [if_neg (by decide +kernel)]; exact ⟨rfl, rfl⟩))
    (fun os started H enc _ => lifted (s := Rows.pathMoreSpec) walks (by kernel_rfl) rfl rfl (fun H ds hl => by match ds, hl with | [d1, d2], _ => rfl) (by kernel_rfl) Try.func7 os started H enc
      (ChangeSpec.witness6 (enc := enc) (C := Try.checked) false ⟨#[], #[.string ⟨#[]⟩, .string ⟨#[]⟩], []⟩ 8 (by kernel_rfl) (by kernel_rfl) (by kernel_rfl) (by kernel_rfl)))
#print axioms proved
end Go.Proofs.Ytamhbjpoganhnaa.PathMore
