/- PathParts: for every list of parts, the path that Join tells has just these parts, or Join tells nothing; Plain of Plain is Plain, and has no part that goes up. For every list within the reach of memory. -/
import Derived.Test.YtamhbjpoganhnaaPhAlive
import Derived.Test.YtamhbjpoganhnaaPhArg
import Derived.Test.YtamhbjpoganhnaaPhBack
namespace Go.Proofs.Ytamhbjpoganhnaa.PathParts
set_option maxRecDepth 20000
open Go.ChangeShapes Go.WideShapes Go.ChangeAt Go.RowKit Go.Deep
open Go.Proofs.Ytamhbjpoganhnaa.Mem Go.Proofs.Ytamhbjpoganhnaa.Ph Go.Proofs.Ytamhbjpoganhnaa.Lf Go.Proofs.Ytamhbjpoganhnaa.Lift Go.Proofs.Ytamhbjpoganhnaa.Reg

theorem last_at {l : List (List UInt8)} (h : l ≠ []) (hk : l.length - 1 < l.length) : lastP l = l[l.length - 1] := by
  unfold lastP
  rw [List.getLastD_eq_getLast?, List.getLast?_eq_some_getLast h, Option.getD_some, List.getLast_eq_getElem]
set_option maxRecDepth 100000 in
set_option maxHeartbeats 8000000 in
theorem walk (A : Option Addr) (n c : Nat) (l : List (List UInt8)) (w : World) (h : HoldsC SK w w.heap.size A n l) (hn : n ≤ 8796093021952) (hc : n ≤ c) (hmx : ∀ x ∈ l, x.length ≤ maxLen) :
    Calls Try.prog 6 #[.slice A n c] w fun E w' => E = .returned (.bool true) ∧ Below w.heap.size w w' := by
  obtain ⟨post, hpost⟩ : ∃ post : Ending → World → Prop, post = fun E w' => E = .returned (.bool true) ∧ Below w.heap.size w w' := ⟨_, rfl⟩
  rw [← hpost]
  have HP := Lib.hid hpost; clear hpost
  have hln := h.1
  have hh : ∀ V, Below w.heap.size w V → HoldsC SK V w.heap.size A n l ∧ w.heap.size ≤ V.heap.size := fun V hV => ⟨h.below hV, hV.size⟩
  have HH := Lib.hid hh; clear hh h
  have HMX := Lib.hid hmx; clear hmx
  have HLN := Lib.hid hln; clear hln
  go_enter Try.func6, Try.ntmps6
  go_wp2_with fail
  with_reducible refine (alive_any w).mono ?_
  rintro E1 w1 ⟨rfl, hb1⟩
  have HB1 := Lib.hid hb1; clear hb1
  have hp1 := plain_S A n c w.heap.size l w1 (HH.out w1 HB1.out).1 (HH.out w1 HB1.out).2 hn
  have HP1 := Lib.hid hp1; clear hp1
  go_wp2_with fail
  with_reducible refine (HP1.out).mono ?_
  rintro E2 w2 ⟨A2, c2, rfl, ho2, hb2⟩
  have HB2 : Hid (Below w.heap.size w w2) := Lib.hid (HB1.out.trans (hb2.mono HB1.out.size))
  have hpl := plain_len l
  have hpn : (plainP l).length ≤ 8796093021952 := by have := HLN.out; omega
  have HO2 := Lib.hid (ho2.reads skOk)
  clear ho2 hb2 hpl HP1
  have hp2 := plain_S A2 _ c2 w2.heap.size (plainP l) w2 HO2.out (Nat.le_refl _) hpn
  have HP2 := Lib.hid hp2; clear hp2
  go_wp2_with fail
  with_reducible refine (HP2.out).mono ?_
  rintro E3 w3 ⟨A3, c3, rfl, ho3, hb3⟩
  have HB3 : Hid (Below w.heap.size w w3) := Lib.hid (HB2.out.trans (hb3.mono HB2.out.size))
  clear HP2
  rw [plain_twice] at ho3 ⊢
  have HO3 := Lib.hid (ho3.reads skOk)
  have HO23 := Lib.hid (HO2.out.below hb3)
  have HW3 := Lib.hid hb3.size
  clear ho3 hb3 HO2
  have hsame : ∀ V, Below w3.heap.size w3 V → Calls Try.prog 11 #[.slice A2 (plainP l).length c2, .slice A3 (plainP l).length c3] V fun E w' => E = .returned (.bool true) ∧ Below V.heap.size V w' := fun V hV => by
    have := same_any A2 A3 _ _ c2 c3 _ _ (plainP l) (plainP l) V (HO23.out.below (hV.mono HW3.out)) (HO3.out.below hV) (Nat.le_trans HW3.out hV.size) hV.size (by omega)
    rw [decide_eq_true rfl] at this
    exact this
  have HSAME := Lib.hid hsame; clear hsame
  have hno := plain_no l
  have HNO := Lib.hid hno; clear hno
  have HO := Lib.hid (HO23.out.below (Below.refl w2.heap.size w3)); clear HO3
  obtain ⟨N, hN⟩ : ∃ N, N = (plainP l).length := ⟨_, rfl⟩
  rw [← hN] at HSAME HO hpn ⊢
  have HN := Lib.hid hN; clear hN HO23
  go_wp2
  go_loopw [5] (fun i wr => ∃ k : Nat, k ≤ N ∧ i = .int .i64 (k : Int) ∧ wr = w3) (fun i _ => N - (intOf i).toNat)
  case atStart => exact ⟨0, Nat.zero_le _, rfl, by trivial⟩
  case round =>
    obtain ⟨U0, hU0⟩ : ∃ U0, U0 = wr := ⟨_, rfl⟩
    subst hU0
    obtain ⟨k, hk, rfl, hwr⟩ := hrel
    have hw3 := hwr.symm
    clear hwr
    subst hw3
    rcases Nat.lt_or_ge k N with hlt | hge
    · obtain ⟨b, off, rfl, -⟩ := HO.out.addr (by omega)
      have hkl : k < (plainP l).length := by have := HN.out; omega
      have hcell := sk_cell HO.out k hkl
      have hxne := HNO.out _ (List.getElem_mem hkl)
      have htl := text_tl2 (plainP l)[k]
      generalize (plainP l)[k] = x at *
      generalize (⟨x.toArray⟩ : ByteArray) = X at *
      have e2 : (X.toList == [46, 46]) = false := by rw [htl]; exact beq_false_of_ne hxne
      have e3 : ¬ X.toList = [46, 46] := by rw [htl]; exact hxne
      have hk0 : (0 : Int) ≤ (k : Int) := by omega
      have hkn : (k : Int) < (N : Int) := by omega
      clear htl hxne
      go_wp2
      exact ⟨⟨k + 1, by omega, by go_num, by trivial⟩, by simp [intOf]; omega⟩
    · have hkn : ¬ (k : Int) < (N : Int) := by omega
      have hj := join_any A n c w.heap.size l w3 (HH.out w3 HB3.out).1 (HH.out w3 HB3.out).2 hn hc HMX.out
      unfold Join2 at hj
      have HJ := Lib.hid hj; clear hj
      rcases join_ways l with ⟨h1, h2⟩ | ⟨hall, hl256, hjp⟩
      · rw [h1] at HJ
        obtain ⟨e, he, he0⟩ : ∃ e : Int, (joinP l).2 = e ∧ e ≠ 0 := by rcases h2 with h2 | h2 <;> exact ⟨_, h2, by omega⟩
        rw [he] at HJ
        have hz : (e == 0) = false := beq_false_of_ne he0
        have hz2 : (e != 0) = true := by simp [bne, hz]
        skip
        clear h1 h2 he
        go_wp2_with fail
        with_reducible refine HJ.out.mono ?_
        rintro E4 w4 ⟨rfl, hb4⟩
        have hsm := HSAME.out w4 hb4
        have HB4 : Hid (Below w.heap.size w w4) := Lib.hid (HB3.out.trans (hb4.mono HB3.out.size))
        have HSM := Lib.hid hsm; clear hsm hb4 HJ HSAME
        go_wp2_with (with_reducible refine HSM.out.mono ?_; rintro E5 w5 ⟨rfl, hb5⟩; have HB5 : Hid (Below w.heap.size w w5) := Lib.hid (HB4.out.trans (hb5.mono HB4.out.size)); clear hb5 HSM)
        rw [HP.out]
        exact ⟨by simp, HB5.out⟩
      · rw [hjp] at HJ
        have hs := fun V => split_S (pathB l) V (by unfold maxLen; omega)
        rw [split_path hall hl256] at hs
        dsimp only at hs HJ
        have HS := Lib.hid hs; clear hs hjp hall hl256
        generalize (⟨(pathB l).toArray⟩ : ByteArray) = PB at *
        obtain ⟨u, hu⟩ : ∃ u, u = upB l := ⟨_, rfl⟩
        rw [← hu] at HS
        have HU := Lib.hid hu; clear hu
        rw [HLN.out] at HS
        go_wp2_with fail
        with_reducible refine HJ.out.mono ?_
        rintro E4 w4 ⟨rfl, hb4⟩
        have HB4 : Hid (Below w.heap.size w w4) := Lib.hid (HB3.out.trans (hb4.mono HB3.out.size))
        have HB34 := Lib.hid hb4
        clear hb4 HJ
        go_wp2_with fail
        with_reducible refine (HS.out w4).mono ?_
        rintro E5 w5 ⟨A5, c5, rfl, ho5, hb5⟩
        have HB5 : Hid (Below w.heap.size w w5) := Lib.hid (HB4.out.trans (hb5.mono HB4.out.size))
        have hsm2 := HSAME.out
        have HB35 : Hid (Below w3.heap.size w3 w5) := Lib.hid (HB34.out.trans (hb5.mono HB34.out.size))
        have hs1 := same_any A5 A _ n c5 c _ w.heap.size l l w5 (ho5.reads skOk) (HH.out w5 HB5.out).1 (Nat.le_refl _) (HH.out w5 HB5.out).2 (by omega)
        rw [decide_eq_true rfl] at hs1
        have HS1 := Lib.hid hs1; clear hs1 hsm2 hb5 ho5 HS HB34
        have hsm : ∀ V, Below w5.heap.size w5 V → Calls Try.prog 11 #[.slice A2 N c2, .slice A3 N c3] V fun E w' => E = .returned (.bool true) ∧ Below V.heap.size V w' := fun V hV => HSAME.out V (HB35.out.trans (hV.mono HB35.out.size))
        have HSM := Lib.hid hsm; clear hsm HSAME
        rcases Nat.eq_zero_or_pos n with h0 | h0
        · have hl : l = [] := List.eq_nil_of_length_eq_zero (by have := HLN.out; omega)
          have hut : u = true := by rw [HU.out, hl]; rfl
          subst hut
          subst h0
          clear hl HU
          go_wp2_with (first | (with_reducible refine HS1.out.mono ?_; rintro E6 w6 ⟨rfl, hb6⟩; have HB6 : Hid (Below w.heap.size w w6) := Lib.hid (HB5.out.trans (hb6.mono HB5.out.size)); have HSN := Lib.hid (HSM.out w6 hb6); clear hb6 HS1 HSM) | (with_reducible refine HSN.out.mono ?_; rintro E7 w7 ⟨rfl, hb7⟩; have HB7 : Hid (Below w.heap.size w w7) := Lib.hid (HB6.out.trans (hb7.mono HB6.out.size)); clear hb7 HSN))
          rw [HP.out]
          exact ⟨by simp, HB7.out⟩
        · have hlne : l ≠ [] := by rintro rfl; have := HLN.out; simp at this; omega
          obtain ⟨m, rfl⟩ : ∃ m, n = m + 1 := ⟨n - 1, by omega⟩
          have hml : m < l.length := by have := HLN.out; omega
          obtain ⟨b, off, rfl, -⟩ := (HH.out w5 HB5.out).1.addr (by omega)
          have hcell := sk_cell (HH.out w5 HB5.out).1 m hml
          have htl := text_tl2 l[m]
          have hla : lastP l = l[m] := by
            rw [last_at hlne (by omega)]
            congr 1
            have := HLN.out; omega
          have hub : u = (l[m] == [46, 46]) := by
            rw [HU.out]
            unfold upB
            rw [decide_eq_false hlne, hla]
            rfl
          clear HU hla
          generalize l[m] = x at *
          generalize (⟨x.toArray⟩ : ByteArray) = X at *
          have e2 : (X.toList == [46, 46]) = u := by rw [htl, hub]
          have hm0 : (0 : Int) ≤ (m : Int) := by omega
          have hm1 : ((m : Int) + 1) - 1 = (m : Int) := by omega
          have hm2 : ¬ ((m : Int) + 1) = 0 := by omega
          have hm3 : (((m : Int) + 1) == 0) = false := beq_false_of_ne hm2
          clear htl
          cases u with
          | true =>
            have e3 : x = [46, 46] := beq_iff_eq.1 hub.symm
            have e4 : X.toList = [46, 46] := beq_iff_eq.1 e2
            clear hub e3
            go_wp2_with (first | (with_reducible refine HS1.out.mono ?_; rintro E6 w6 ⟨rfl, hb6⟩; have HB6 : Hid (Below w.heap.size w w6) := Lib.hid (HB5.out.trans (hb6.mono HB5.out.size)); have HSN := Lib.hid (HSM.out w6 hb6); clear hb6 HS1 HSM) | (with_reducible refine HSN.out.mono ?_; rintro E7 w7 ⟨rfl, hb7⟩; have HB7 : Hid (Below w.heap.size w w7) := Lib.hid (HB6.out.trans (hb7.mono HB6.out.size)); clear hb7 HSN))
            rw [HP.out]
            exact ⟨by simp, HB7.out⟩
          | false =>
            have e4 : ¬ X.toList = [46, 46] := fun e => by rw [e] at e2; cases e2
            clear hub
            go_wp2_with (first | (with_reducible refine HS1.out.mono ?_; rintro E6 w6 ⟨rfl, hb6⟩; have HB6 : Hid (Below w.heap.size w w6) := Lib.hid (HB5.out.trans (hb6.mono HB5.out.size)); have HSN := Lib.hid (HSM.out w6 hb6); clear hb6 HS1 HSM) | (with_reducible refine HSN.out.mono ?_; rintro E7 w7 ⟨rfl, hb7⟩; have HB7 : Hid (Below w.heap.size w w7) := Lib.hid (HB6.out.trans (hb7.mono HB6.out.size)); clear hb7 HSN))
            rw [HP.out]
            exact ⟨by simp, HB7.out⟩

theorem walks : Walks 6 Try.f6 All := by
  intro H enc W base args ds p hval hA hsz _
  rw [Try.params6] at hA hval hsz
  obtain ⟨v0, vs0, d0, ds0, p0, q0, hargs, rfl, rfl, h0, r0⟩ := trodAll_cons hA
  obtain ⟨rfl, rfl, rfl⟩ := trodAll_nil r0
  obtain rfl : args = #[v0] := by cases args; simp_all
  obtain ⟨A0, n0, c0, l0, rfl, hl0, hm0, hn0, hc0⟩ := strs_open (hval 0 _ v0 rfl rfl) h0 _ (reach_strs hsz (j := 0) rfl rfl)
  exact walk A0 n0 c0 l0 W hl0 (by omega) hn0 hm0

set_option maxRecDepth 100000 in
theorem proved : Rows.PathPartsSaid :=
  OpenClaim.holds_of_wide 6 Try.f6 rfl rfl rfl rfl rfl rfl rfl ⟨rfl, rfl, rfl, rfl, rfl⟩ rfl rfl rfl rfl rfl (by kernel_rfl) Try.func6 (by kernel_rfl)
    (of_decide_eq_true (by kernel_rfl)) (by unfold Func.isWrapper; first | (rw [if_pos (by decide +kernel)]; kernel_rfl) | (rw [if_neg (by decide +kernel)]; exact ⟨rfl, rfl⟩))
    (fun os started H enc _ => lifted (s := Rows.pathPartsSpec) walks (by kernel_rfl) rfl rfl (fun H ds hl => by match ds, hl with | [d1], _ => rfl) (by kernel_rfl) Try.func6 os started H enc
      (ChangeSpec.witness6 (enc := enc) (C := Try.checked) false ⟨#[], #[.slice none 0 0], []⟩ 8 (by kernel_rfl) (by kernel_rfl) (by kernel_rfl) (by kernel_rfl)))
#print axioms proved
end Go.Proofs.Ytamhbjpoganhnaa.PathParts
