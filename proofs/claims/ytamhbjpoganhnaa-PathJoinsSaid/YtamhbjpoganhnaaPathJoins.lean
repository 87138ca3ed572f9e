/- PathJoins: for every list of parts, what Join and Plain tell is what the document says; what is told by Plain may be written over, and what was handed in stays. For every list within the reach of memory. -/
import Derived.Test.YtamhbjpoganhnaaPhAlive
import Derived.Test.YtamhbjpoganhnaaPhArg
import Derived.Test.YtamhbjpoganhnaaPhBack
namespace Go.Proofs.Ytamhbjpoganhnaa.PathJoins
set_option maxRecDepth 20000
open Go.ChangeShapes Go.WideShapes Go.ChangeAt Go.RowKit Go.Deep
open Go.Proofs.Ytamhbjpoganhnaa.Mem Go.Proofs.Ytamhbjpoganhnaa.Ph Go.Proofs.Ytamhbjpoganhnaa.Lf Go.Proofs.Ytamhbjpoganhnaa.Lift Go.Proofs.Ytamhbjpoganhnaa.Reg

theorem sk_map : ∀ l : List (List UInt8), SK.cells l = l.map fun t => Value.string ⟨t.toArray⟩
  | [] => rfl
  | x :: l => by
    have := sk_map l
    unfold Rk.cells at this ⊢
    rw [List.flatMap_cons, this]
    rfl
/-- A cell of a row of one's own, written. -/
theorem own_set {w : World} {base g n c : Nat} {l : List (List UInt8)} (h : OwnC SK w base (.slice (some ⟨g, 0, none⟩) n c) l) (k : Nat) (x : List UInt8) :
    OwnC SK (w.setCell ⟨g, k, none⟩ (.string ⟨x.toArray⟩)) base (.slice (some ⟨g, 0, none⟩) n c) (l.set k x) := by
  obtain rfl := h.fits.1
  obtain ⟨h3, _⟩ := World.ownsRow.stored h k (.string ⟨x.toArray⟩)
  unfold OwnC
  rw [List.length_set, sk_map, List.map_set, ← sk_map]
  exact h3
theorem wpList_appg {w : World} {ops : Array Oper} {rest : List Oper} {o : Oper} {a : Act} {Q : Exit → Act → World → Prop} (hw : Region.wanted o (yielded ops a.tmps) = true) (d x : Operand) (dT sT : TypeId)
    (ho : o.op = .call { callee := .builtin .append, args := #[d, x], argTypes := #[dT, sT] }) (vd vx : Value) (hd : a.eval d = vd) (hx : a.eval x = vx) (v : Value) (w' : World) (hrun : (Builtin.append_ #[dT, sT] o.type #[vd, vx]).run Try.prog w = .ok v w')
    (h : wpList Try.prog ops Q rest (a.put o.dst v) w') : wpList Try.prog ops Q (o :: rest) a w := by
  unfold wpList
  rw [if_pos hw]
  left
  unfold Oper.wp execOp
  simp only [ho, resolve, invoke, builtin, Sem.run_bind, Sem.run_pure, Result.andThen_ok, List.map_toArray, List.map_cons, List.map_nil, hd, hx, hrun]
  exact h
set_option maxRecDepth 100000 in
set_option maxHeartbeats 8000000 in
theorem walk (A : Option Addr) (n c : Nat) (l : List (List UInt8)) (w : World) (h : HoldsC SK w w.heap.size A n l) (hn : n ≤ 8796093021952) (hmx : ∀ x ∈ l, x.length ≤ maxLen) :
    Calls Try.prog 4 #[.slice A n c] w fun E w' => E = .returned (.bool true) ∧ Below w.heap.size w w' := by
  obtain ⟨post, hpost⟩ : ∃ post : Ending → World → Prop, post = fun E w' => E = .returned (.bool true) ∧ Below w.heap.size w w' := ⟨_, rfl⟩
  rw [← hpost]
  have HP := Lib.hid hpost; clear hpost
  have hln := h.1
  have hh : ∀ V, Below w.heap.size w V → HoldsC SK V w.heap.size A n l ∧ w.heap.size ≤ V.heap.size := fun V hV => ⟨h.below hV, hV.size⟩
  have HH := Lib.hid hh; clear hh h
  have HMX := Lib.hid hmx; clear hmx
  go_enter Try.func4, Try.ntmps4
  go_wp2_with fail
  with_reducible refine (alive_any w).mono ?_
  rintro E1 w1 ⟨rfl, hb1⟩
  have HB1 := Lib.hid hb1; clear hb1
  obtain ⟨V0, hV0⟩ : ∃ V0, V0 = w1.alloc (.cells #[] 9) := ⟨_, rfl⟩
  have hb10 : Below w1.heap.size w1 V0 := hV0 ▸ (Below.refl _ w1).alloc (Nat.le_refl _) _
  have ho0 : OwnC SK V0 w1.heap.size (.slice (some ⟨w1.heap.size, 0, none⟩) 0 0) [] := hV0 ▸ ownC_empty SK w1
  have hB0 : Below w.heap.size w V0 := HB1.out.trans (hb10.mono HB1.out.size)
  obtain ⟨vg, V1, hrun, hown, hg⟩ := run_addS V0 23 w1.heap.size _ [] ho0 _ A n c l (HH.out V0 hB0).1 (by simp; omega) hb10.size
  rw [List.nil_append] at hown
  have hbv1 : Below w1.heap.size V0 V1 := hg.below hb10.size (fun k hk => (ho0.lt k hk).1)
  obtain ⟨G, kG, hvg⟩ := hown.shape
  rw [hln] at hvg
  rw [hvg] at hown hrun
  rw [hV0] at hrun
  have HB2 : Hid (Below w.heap.size w V1) := Lib.hid (hB0.trans (hbv1.mono HB1.out.size))
  have HG := Lib.hid (hown.reads skOk)
  have hkG := hown.fits.2.1
  clear hown hg hbv1 hvg ho0 hb10 hB0 hV0
  have hj := join_any G n kG V1.heap.size l V1 HG.out (Nat.le_refl _) hn hkG HMX.out
  unfold Join2 at hj
  have HJ := Lib.hid hj; clear hj
  have hjr : ∀ V, Below w.heap.size w V → Calls Try.prog 13 #[.slice A n c] V (Join2 V (joinP l)) := fun V hV => rjoin_any A n c w.heap.size l V (HH.out V hV).1 (HH.out V hV).2 hn HMX.out
  unfold Join2 at hjr
  have HJR := Lib.hid hjr; clear hjr
  generalize (⟨((joinP l).1).toArray⟩ : ByteArray) = X at *
  generalize (joinP l).2 = e at *
  have hpl := plain_len l
  have hpn : (plainP l).length ≤ 8796093021952 := by omega
  have HLN := Lib.hid hln; clear hln hpl
  go_wp2_with (at_builtin; refine wpList_apprun rfl _ _ _ _ (by rfl) _ _ (by rfl) (by rfl) _ _ hrun ?_; clear hrun)
  with_reducible refine HJ.out.mono ?_
  rintro E3 w3 ⟨rfl, hb3⟩
  have HB3 : Hid (Below w.heap.size w w3) := Lib.hid (HB2.out.trans (hb3.mono HB2.out.size))
  have HG3 := Lib.hid (HG.out.below hb3)
  have HW3 := Lib.hid hb3.size
  clear hb3 HJ HG
  go_wp2_with fail
  with_reducible refine (HJR.out w3 HB3.out).mono ?_
  rintro E4 w4 ⟨rfl, hb4⟩
  have HB4 : Hid (Below w.heap.size w w4) := Lib.hid (HB3.out.trans (hb4.mono HB3.out.size))
  have HG4 := Lib.hid (HG3.out.below (hb4.mono HW3.out))
  have HW4 : Hid (V1.heap.size ≤ w4.heap.size) := Lib.hid (Nat.le_trans HW3.out hb4.size)
  clear hb4 HJR HG3 HW3
  have hp4 := plain_S G n kG V1.heap.size l w4 HG4.out HW4.out hn
  have HP4 := Lib.hid hp4; clear hp4
  go_wp2_with fail
  with_reducible refine HP4.out.mono ?_
  rintro E5 w5 ⟨A5, c5, rfl, ho5, hb5⟩
  have HB5 : Hid (Below w.heap.size w w5) := Lib.hid (HB4.out.trans (hb5.mono HB4.out.size))
  have HG5 := Lib.hid (HG4.out.below (hb5.mono HW4.out))
  have HB45 := Lib.hid hb5
  have HO5 := Lib.hid ho5
  clear hb5 HG4 HP4 ho5
  have hp5 := rplain_S A n c w.heap.size l w5 (HH.out w5 HB5.out).1 (HH.out w5 HB5.out).2 hn
  have HP5 := Lib.hid hp5; clear hp5
  go_wp2_with fail
  with_reducible refine HP5.out.mono ?_
  rintro E6 w6 ⟨A6, c6, rfl, ho6, hb6⟩
  have HB6 : Hid (Below w.heap.size w w6) := Lib.hid (HB5.out.trans (hb6.mono HB5.out.size))
  have HG6 := Lib.hid (HG5.out.below (hb6.mono (Nat.le_trans HW4.out HB45.out.size)))
  have HO56 := Lib.hid (HO5.out.below hb6)
  have HB46 : Hid (Below w4.heap.size w4 w6) := Lib.hid (HB45.out.trans (hb6.mono HB45.out.size))
  have hsame := same_any A5 A6 _ _ c5 c6 _ _ (plainP l) (plainP l) w6 (HO56.out.reads skOk) (ho6.reads skOk) (Nat.le_refl _) (Nat.le_refl _) (by omega)
  rw [decide_eq_true rfl] at hsame
  have HSAME := Lib.hid hsame; clear hsame hb6 ho6 HG5 HO5 HB45 HP5
  obtain ⟨N, hN⟩ : ∃ N, N = (plainP l).length := ⟨_, rfl⟩
  rw [← hN] at HSAME HO56 ⊢
  rw [← hN] at hpn
  have HN := Lib.hid hN; clear hN
  go_wp2_with fail
  with_reducible refine HSAME.out.mono ?_
  rintro E7 w7 ⟨rfl, hb7⟩
  have HB7 : Hid (Below w.heap.size w w7) := Lib.hid (HB6.out.trans (hb7.mono HB6.out.size))
  have HG7 := Lib.hid (HG6.out.below (hb7.mono (Nat.le_trans HW4.out HB46.out.size)))
  have HO7 := Lib.hid (HO56.out.below hb7)
  have HB47 : Hid (Below w4.heap.size w4 w7) := Lib.hid (HB46.out.trans (hb7.mono HB46.out.size))
  clear hb7 HSAME HG6 HO56 HB46
  have H7 : Hid (Below w4.heap.size w7 w7) := Lib.hid (Below.refl _ _)
  go_wp2
  go_loopw [11] (fun i wr => ∃ (k : Nat) (m : List (List UInt8)), k ≤ N ∧ i = .int .i64 (k : Int) ∧ Hid (m.length = N) ∧ Hid (OwnC SK wr w4.heap.size (.slice A5 N c5) m) ∧ Hid (Below w4.heap.size w7 wr)) (fun i _ => N - (intOf i).toNat)
  case atStart => exact ⟨0, _, Nat.zero_le _, rfl, Lib.hid HN.out.symm, HO7, H7⟩
  case round =>
    clear HO7 H7
    obtain ⟨U0, hU0⟩ : ∃ U0, U0 = wr := ⟨_, rfl⟩
    subst hU0
    obtain ⟨k, m, hk, rfl, HM, HOM, HBM⟩ := hrel
    rcases Nat.lt_or_ge k N with hlt | hge
    · obtain ⟨g, rfl, hg1, hg2, hfz⟩ := HOM.out.form (by omega)
      have hkm : k < m.length := by have := HM.out; omega
      have hcell := sk_cell (HOM.out.reads skOk) k hkm
      rw [Nat.zero_add] at hcell
      have hf := hfz k
      have hset := own_set HOM.out k [109, 97, 114, 107, 101, 100]
      have hbel : Below w4.heap.size w7 (U0.setCell ⟨g, k, none⟩ (.string ⟨#[109, 97, 114, 107, 101, 100]⟩)) := HBM.out.setCell (p := ⟨g, k, none⟩) hg1 _
      have HSET : Hid (OwnC SK (U0.setCell ⟨g, k, none⟩ (.string ⟨#[109, 97, 114, 107, 101, 100]⟩)) w4.heap.size (.slice (some ⟨g, 0, none⟩) N c5) (m.set k [109, 97, 114, 107, 101, 100])) := Lib.hid hset
      have HBEL := Lib.hid hbel; clear hset hbel hfz
      have hk0 : (0 : Int) ≤ (k : Int) := by omega
      have hkn : (k : Int) < (N : Int) := by omega
      generalize (⟨(m[k]).toArray⟩ : ByteArray) = Y at *
      go_wp2
      exact ⟨⟨k + 1, _, by omega, by go_num, Lib.hid (by rw [List.length_set]; exact HM.out), HSET, HBEL⟩, by simp [intOf]; omega⟩
    · have hkn : ¬ (k : Int) < (N : Int) := by omega
      have hBU : Below w.heap.size w U0 := HB7.out.trans (HBM.out.mono (HB4.out.size))
      have hs2 := same_any G A n n kG c V1.heap.size w.heap.size l l U0 (HG7.out.below (HBM.out.mono HW4.out)) (HH.out U0 hBU).1 (Nat.le_trans HW4.out (Nat.le_trans HB47.out.size HBM.out.size)) (HH.out U0 hBU).2 (by omega)
      rw [decide_eq_true rfl] at hs2
      have HS2 := Lib.hid hs2
      have HBU := Lib.hid hBU
      clear hs2 hBU HOM HM
      go_wp2_with (with_reducible refine HS2.out.mono ?_; rintro E8 w8 ⟨rfl, hb8⟩; have HB8 : Hid (Below w.heap.size w w8) := Lib.hid (HBU.out.trans (hb8.mono HBU.out.size)); clear hb8 HS2)
      rw [HP.out]
      exact ⟨by simp, HB8.out⟩

theorem walks : Walks 4 Try.f4 All := by
  intro H enc W base args ds p hval hA hsz _
  rw [Try.params4] at hA hval hsz
  obtain ⟨v0, vs0, d0, ds0, p0, q0, hargs, rfl, rfl, h0, r0⟩ := trodAll_cons hA
  obtain ⟨rfl, rfl, rfl⟩ := trodAll_nil r0
  obtain rfl : args = #[v0] := by cases args; simp_all
  obtain ⟨A0, n0, c0, l0, rfl, hl0, hm0, hn0, hc0⟩ := strs_open (hval 0 _ v0 rfl rfl) h0 _ (reach_strs hsz (j := 0) rfl rfl)
  exact walk A0 n0 c0 l0 W hl0 (by omega) hm0

set_option maxRecDepth 100000 in
theorem proved : Rows.PathJoinsSaid :=
  OpenClaim.holds_of_wide 4 Try.f4 rfl rfl rfl rfl rfl rfl rfl ⟨rfl, rfl, rfl, rfl, rfl⟩ rfl rfl rfl rfl rfl (by kernel_rfl) Try.func4 (by kernel_rfl)
    (of_decide_eq_true (by kernel_rfl)) (by unfold Func.isWrapper; first | (rw [if_pos (by decide +kernel)]; kernel_rfl) | (rw [if_neg (by decide +kernel)]; exact ⟨rfl, rfl⟩))
    (fun os started H enc _ => lifted (s := Rows.pathJoinsSpec) walks (by kernel_rfl) rfl rfl (fun H ds hl => by match ds, hl with | [d1], _ => rfl) (by kernel_rfl) Try.func4 os started H enc
      (ChangeSpec.witness6 (enc := enc) (C := Try.checked) false ⟨#[], #[.slice none 0 0], []⟩ 8 (by kernel_rfl) (by kernel_rfl) (by kernel_rfl) (by kernel_rfl)))
#print axioms proved
end Go.Proofs.Ytamhbjpoganhnaa.PathJoins
