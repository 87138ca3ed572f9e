/- SparseOnce: for every two lists of runs: both read all their bytes just if they are right; two right ones that read the same are the same and no others are, the runs of the bytes that are read are the list again, nothing stands behind its end and something just ahead of it. For every two lists within the reach of memory; the tables that the row lists are laid, and no call reads one. -/
import Derived.Test.YtmbmjdogfjmlpaaDoorSpArg
import Derived.Test.YtmbmjdogfjmlpaaDoorSpLaws
import Derived.ChangeMaps5
namespace Go.Proofs.YtmbmjdogfjmlpaaDoor.SparseOnce
set_option maxRecDepth 20000
open Go.ChangeShapes Go.WideShapes Go.ChangeAt Go.RowKit Go.Deep
open Go.Proofs.YtmbmjdogfjmlpaaDoor.Mem Go.Proofs.YtmbmjdogfjmlpaaDoor.Rec Go.Proofs.YtmbmjdogfjmlpaaDoor.Sp Go.Proofs.YtmbmjdogfjmlpaaDoor.Lift Go.Proofs.YtmbmjdogfjmlpaaDoor.Reg
attribute [local go_sem ↓] ldX_eq stX_eq

theorem bytesA_all {l : List Rn} (h : right l = true) : bytesA l 0 65536 = (bytesL l 0 65536, 0) := bytesA_yes (n := 65536) h (by omega) (by omega)
theorem bytesA_bad {l : List Rn} (h : right l = false) : bytesA l 0 65536 = ([], 1) := by
  unfold bytesA
  rw [if_pos (.inr (.inr h))]
set_option maxRecDepth 100000 in
set_option maxHeartbeats 16000000 in
theorem walk (A : Option Addr) (n c : Nat) (l : List Rn) (A' : Option Addr) (n' c' : Nat) (m : List Rn) (w : World) (h : HoldsX w w.heap.size A n l) (h' : HoldsX w w.heap.size A' n' m) (hrep : ∀ x ∈ l, x.rep) (hrep' : ∀ x ∈ m, x.rep) (hn : n ≤ 5864062014634) (hn' : n' ≤ 5864062014634) :
    Calls Tryd.prog 6 #[.slice A n c, .slice A' n' c'] w fun E w' => E = .returned (.bool true) ∧ Below w.heap.size w w' := by
  obtain ⟨post, hpost⟩ : ∃ post : Ending → World → Prop, post = fun E w' => E = .returned (.bool true) ∧ Below w.heap.size w w' := ⟨_, rfl⟩
  rw [← hpost]
  have HP := Lib.hid hpost; clear hpost
  have hh : ∀ V, Below w.heap.size w V → HoldsX V w.heap.size A n l := fun V hV => h.below hV
  have hh2 : ∀ V, Below w.heap.size w V → HoldsX V w.heap.size A' n' m := fun V hV => h'.below hV
  have HH := Lib.hid hh; clear hh h
  have HH2 := Lib.hid hh2; clear hh2 h'
  have HREP := Lib.hid hrep; clear hrep
  have HREP2 := Lib.hid hrep'; clear hrep'
  have hby := fun (V : World) (hV : Below w.heap.size w V) => Bytes_any A n c w.heap.size l 0 65536 V (HH.out V hV) hV.size (by omega) HREP.out (by omega)
  have hby2 := fun (V : World) (hV : Below w.heap.size w V) => Bytes_any A' n' c' w.heap.size m 0 65536 V (HH2.out V hV) hV.size (by omega) HREP2.out (by omega)
  have hck := fun (V : World) (hV : Below w.heap.size w V) => check_any A n c w.heap.size l V (HH.out V hV) hV.size (by omega) HREP.out
  have hck2 := fun (V : World) (hV : Below w.heap.size w V) => check_any A' n' c' w.heap.size m V (HH2.out V hV) hV.size (by omega) HREP2.out
  unfold Text2 at hby hby2
  cases hr : right l with
  | false =>
    simp only [bytesA_bad hr] at hby
    simp only [hr, if_neg (show ¬ (false = true) by decide)] at hck
    try dsimp only at hby
    have HBY := Lib.hid hby; clear hby
    have HCK := Lib.hid hck; clear hck
    cases hr2 : right m with
    | false =>
      simp only [bytesA_bad hr2] at hby2
      simp only [hr2, if_neg (show ¬ (false = true) by decide)] at hck2
      try dsimp only at hby2
      have HBY2 := Lib.hid hby2; clear hby2
      have HCK2 := Lib.hid hck2; clear hck2
      go_enter Tryd.func6, Tryd.ntmps6
      go_wp2_with fail
      with_reducible refine (alive_any w).mono ?_
      rintro E1 w1 ⟨rfl, hb1⟩
      have HB1 := Lib.hid hb1; clear hb1
      go_wp2_with fail
      with_reducible refine (HBY.out w1 HB1.out).mono ?_
      rintro E2 w2 ⟨rfl, hb2⟩
      have HB2 : Hid (Below w.heap.size w w2) := Lib.hid (HB1.out.trans (hb2.mono HB1.out.size))
      clear hb2
      go_wp2_with fail
      with_reducible refine (HBY2.out w2 HB2.out).mono ?_
      rintro E3 w3 ⟨rfl, hb3⟩
      have HB3 : Hid (Below w.heap.size w w3) := Lib.hid (HB2.out.trans (hb3.mono HB2.out.size))
      clear hb3
      go_wp2_with fail
      with_reducible refine (HCK.out w3 HB3.out).mono ?_
      rintro E4 w4 ⟨rfl, hb4⟩
      have HB4 : Hid (Below w.heap.size w w4) := Lib.hid (HB3.out.trans (hb4.mono HB3.out.size))
      clear hb4
      go_wp2_with fail
      with_reducible refine (HCK2.out w4 HB4.out).mono ?_
      rintro E5 w5 ⟨rfl, hb5⟩
      have HB5 : Hid (Below w.heap.size w w5) := Lib.hid (HB4.out.trans (hb5.mono HB4.out.size))
      clear hb5
      go_wp2
      rw [HP.out]
      exact ⟨rfl, HB5.out⟩
    | true =>
      simp only [bytesA_all hr2] at hby2
      simp only [hr2, if_true] at hck2
      try dsimp only at hby2
      obtain ⟨T, hT⟩ : ∃ T : ByteArray, T = ⟨(bytesL m 0 65536).toArray⟩ := ⟨_, rfl⟩
      simp only [← hT] at hby2
      clear hT
      have HBY2 := Lib.hid hby2; clear hby2
      have HCK2 := Lib.hid hck2; clear hck2
      go_enter Tryd.func6, Tryd.ntmps6
      go_wp2_with fail
      with_reducible refine (alive_any w).mono ?_
      rintro E1 w1 ⟨rfl, hb1⟩
      have HB1 := Lib.hid hb1; clear hb1
      go_wp2_with fail
      with_reducible refine (HBY.out w1 HB1.out).mono ?_
      rintro E2 w2 ⟨rfl, hb2⟩
      have HB2 : Hid (Below w.heap.size w w2) := Lib.hid (HB1.out.trans (hb2.mono HB1.out.size))
      clear hb2
      go_wp2_with fail
      with_reducible refine (HBY2.out w2 HB2.out).mono ?_
      rintro E3 w3 ⟨rfl, hb3⟩
      have HB3 : Hid (Below w.heap.size w w3) := Lib.hid (HB2.out.trans (hb3.mono HB2.out.size))
      clear hb3
      go_wp2_with fail
      with_reducible refine (HCK.out w3 HB3.out).mono ?_
      rintro E4 w4 ⟨rfl, hb4⟩
      have HB4 : Hid (Below w.heap.size w w4) := Lib.hid (HB3.out.trans (hb4.mono HB3.out.size))
      clear hb4
      go_wp2_with fail
      with_reducible refine (HCK2.out w4 HB4.out).mono ?_
      rintro E5 w5 ⟨rfl, hb5⟩
      have HB5 : Hid (Below w.heap.size w w5) := Lib.hid (HB4.out.trans (hb5.mono HB4.out.size))
      clear hb5
      go_wp2
      rw [HP.out]
      exact ⟨rfl, HB5.out⟩
  | true =>
    simp only [bytesA_all hr] at hby
    simp only [hr, if_true] at hck
    try dsimp only at hby
    have hSs : (⟨(bytesL l 0 65536).toArray⟩ : ByteArray).size = 65536 := by rw [text_size, bytesL_len]
    have hof := fun V => Of_any (bytesL l 0 65536) (by rw [bytesL_len]; unfold maxLen; omega) V
    have hofe : ofA (bytesL l 0 65536) = (l, 0) := by unfold ofA; rw [if_pos (by rw [bytesL_len]; omega), of_bytes hr]
    simp only [hofe] at hof
    unfold Runs2 at hof
    try dsimp only at hof
    have hget : ∀ i, (hi : i < (⟨(bytesL l 0 65536).toArray⟩ : ByteArray).size) → (⟨(bytesL l 0 65536).toArray⟩ : ByteArray)[i] = cont l (i : Int) := fun i hi => by
      rw [← text_getD, bytesL_get _ _ _ _ (by rw [hSs] at hi; exact hi), Int.zero_add]
    have hSl : (⟨(bytesL l 0 65536).toArray⟩ : ByteArray).toList = bytesL l 0 65536 := text_list _
    obtain ⟨S, hS⟩ : ∃ S : ByteArray, S = ⟨(bytesL l 0 65536).toArray⟩ := ⟨_, rfl⟩
    have hget2 : ∀ i, (hi : i < S.size) → S[i] = cont l (i : Int) := by rw [hS]; exact hget
    simp only [← hS] at hby hof hSs hSl
    have HGET := Lib.hid hget2; clear hget hget2
    have HSL := Lib.hid hSl; clear hSl hS hofe
    have HBY := Lib.hid hby; clear hby
    have HCK := Lib.hid hck; clear hck
    have HOF := Lib.hid hof; clear hof
    cases hr2 : right m with
    | false =>
      simp only [bytesA_bad hr2] at hby2
      simp only [hr2, if_neg (show ¬ (false = true) by decide)] at hck2
      try dsimp only at hby2
      have HBY2 := Lib.hid hby2; clear hby2
      have HCK2 := Lib.hid hck2; clear hck2
      go_enter Tryd.func6, Tryd.ntmps6
      go_wp2_with fail
      with_reducible refine (alive_any w).mono ?_
      rintro E1 w1 ⟨rfl, hb1⟩
      have HB1 := Lib.hid hb1; clear hb1
      go_wp2_with fail
      with_reducible refine (HBY.out w1 HB1.out).mono ?_
      rintro E2 w2 ⟨rfl, hb2⟩
      have HB2 : Hid (Below w.heap.size w w2) := Lib.hid (HB1.out.trans (hb2.mono HB1.out.size))
      clear hb2
      go_wp2_with fail
      with_reducible refine (HBY2.out w2 HB2.out).mono ?_
      rintro E3 w3 ⟨rfl, hb3⟩
      have HB3 : Hid (Below w.heap.size w w3) := Lib.hid (HB2.out.trans (hb3.mono HB2.out.size))
      clear hb3
      go_wp2_with fail
      with_reducible refine (HCK.out w3 HB3.out).mono ?_
      rintro E4 w4 ⟨rfl, hb4⟩
      have HB4 : Hid (Below w.heap.size w w4) := Lib.hid (HB3.out.trans (hb4.mono HB3.out.size))
      clear hb4
      go_wp2_with fail
      with_reducible refine (HCK2.out w4 HB4.out).mono ?_
      rintro E5 w5 ⟨rfl, hb5⟩
      have HB5 : Hid (Below w.heap.size w w5) := Lib.hid (HB4.out.trans (hb5.mono HB4.out.size))
      clear hb5
      go_wp2
      rw [HP.out]
      exact ⟨rfl, HB5.out⟩
    | true =>
      simp only [bytesA_all hr2] at hby2
      try dsimp only at hby2
      have hTl : (⟨(bytesL m 0 65536).toArray⟩ : ByteArray).toList = bytesL m 0 65536 := text_list _
      obtain ⟨T, hT⟩ : ∃ T : ByteArray, T = ⟨(bytesL m 0 65536).toArray⟩ := ⟨_, rfl⟩
      simp only [← hT] at hby2 hTl
      clear hT
      have hbq : (S.toList == T.toList) = decide (l = m) := by
        rw [HSL.out, hTl]
        by_cases hlm : l = m
        · rw [decide_eq_true hlm, hlm]; exact beq_self_eq_true _
        · rw [decide_eq_false hlm]
          exact beq_false_of_ne fun e => hlm ((bytes_same hr hr2).1 e)
      have HBY2 := Lib.hid hby2; clear hby2
      clear hTl hck2 HCK
      obtain ⟨hE0, hE6⟩ := end_bound hr
      have hend := fun (V : World) (hV : Below w.heap.size w V) => End_any A n c w.heap.size l V (HH.out V hV) hV.size (by omega) HREP.out
      have hee : endA l = endL l := by unfold endA; rw [if_pos hr]
      simp only [hee] at hend
      obtain ⟨en, hen⟩ : ∃ en : Nat, endL l = (en : Int) := ⟨(endL l).toNat, by omega⟩
      simp only [hen] at hend
      have hzero : ∀ i : Nat, en ≤ i → (i : Int) < 65536 → cont l (i : Int) = 0 := fun i hi _ => cont_end hr _ (by rw [hen]; omega)
      have hlast : l ≠ [] → 0 < en ∧ cont l ((en : Int) - 1) ≠ 0 := fun hne => by
        have := end_last hr hne
        rw [hen] at this
        exact ⟨by omega, this.2.2⟩
      have hnil : l = [] → en = 0 := fun e => by rw [e, endL_nil] at hen; omega
      have hsame := fun (V : World) (hV : Below w.heap.size w V) => same_any A A' n n' c c' w.heap.size w.heap.size l m V (HH.out V hV) (HH2.out V hV) hV.size hV.size (by omega)
      obtain ⟨q, hq⟩ : ∃ q, q = decide (l = m) := ⟨_, rfl⟩
      rw [← hq] at hbq
      simp only [← hq] at hsame
      have hln : l.length ≤ 65538 := right_len hr
      have hnl : n = l.length := (HH.out w (Below.refl _ _)).1.symm
      have hen6 : en ≤ 65536 := by omega
      have HEND := Lib.hid hend; clear hend
      have HZERO := Lib.hid hzero; clear hzero
      have HLAST := Lib.hid hlast; clear hlast
      have HNIL := Lib.hid hnil; clear hnil
      have HSAME := Lib.hid hsame; clear hsame
      have HLN := Lib.hid hln; clear hln
      have HNL := Lib.hid hnl; clear hnl
      clear hee hen hE0 hE6 hq hr hr2
      go_enter Tryd.func6, Tryd.ntmps6
      go_wp2_with fail
      with_reducible refine (alive_any w).mono ?_
      rintro E1 w1 ⟨rfl, hb1⟩
      have HB1 := Lib.hid hb1; clear hb1
      go_wp2_with fail
      with_reducible refine (HBY.out w1 HB1.out).mono ?_
      rintro E2 w2 ⟨rfl, hb2⟩
      have HB2 : Hid (Below w.heap.size w w2) := Lib.hid (HB1.out.trans (hb2.mono HB1.out.size))
      clear hb2
      go_wp2_with fail
      with_reducible refine (HBY2.out w2 HB2.out).mono ?_
      rintro E3 w3 ⟨rfl, hb3⟩
      have HB3 : Hid (Below w.heap.size w w3) := Lib.hid (HB2.out.trans (hb3.mono HB2.out.size))
      clear hb3
      go_wp2_with fail
      with_reducible refine (HOF.out w3).mono ?_
      rintro E4 w4 ⟨A4, c4, rfl, ho4, hb4⟩
      have HB4 : Hid (Below w.heap.size w w4) := Lib.hid (HB3.out.trans (hb4.mono HB3.out.size))
      have HL4 := Lib.hid ho4; clear ho4 hb4
      rw [← HNL.out] at HL4 ⊢
      go_wp2_with fail
      with_reducible refine (HEND.out w4 HB4.out).mono ?_
      rintro E5 w5 ⟨rfl, hb5⟩
      have HB5 : Hid (Below w.heap.size w w5) := Lib.hid (HB4.out.trans (hb5.mono HB4.out.size))
      have HL5 := Lib.hid (HL4.out.below hb5)
      clear hb5
      go_wp2
      go_loopw [12] (fun iv wr => ∃ i : Nat, en ≤ i ∧ i ≤ 65536 ∧ iv = .int .i64 (i : Int) ∧ wr = w5) (fun iv _ => 65536 - (intOf iv).toNat)
      case atStart => exact ⟨en, Nat.le_refl _, hen6, rfl, rfl⟩
      case round =>
        obtain ⟨i, hie, hi6, rfl, hwr⟩ := hrel
        subst hwr
        rcases Nat.lt_or_ge i 65536 with hlt | hge
        · have hi65 : (i : Int) < 65536 := by omega
          have hi0 : (0 : Int) ≤ (i : Int) := by omega
          have hz := HZERO.out i hie hi65
          have hix : ∀ W, (Instr.index 9 (.string S) (.int .i64 (i : Int))).run Tryd.prog W = .ok (.int .u8 0) W := fun W => by
            rw [run_index_at S i (by rw [hSs]; exact hlt) W, HGET.out i (by rw [hSs]; exact hlt), hz]
            rfl
          clear hz
          go_wp2
          go_roundw
          case rel => exact ⟨i + 1, by omega, by omega, by go_num, by trivial⟩
          case measure => simp [intOf]; omega
        · have hi65 : ¬ (i : Int) < 65536 := by omega
          have hs2 := same_any A4 A n n c4 c wr.heap.size w.heap.size l l wr HL5.out.reads (HH.out wr HB5.out) (Nat.le_refl _) HB5.out.size (by omega)
          rw [decide_eq_true rfl] at hs2
          have hs3 : ∀ V, Below wr.heap.size wr V → Calls Tryd.prog 15 #[.slice A4 n c4, .slice A n c] V fun E w' => E = .returned (.bool true) ∧ Below V.heap.size V w' := fun V hV => by
            have := same_any A4 A n n c4 c V.heap.size w.heap.size l l V (HL5.out.below hV).reads (HH.out V (HB5.out.trans (hV.mono HB5.out.size))) (Nat.le_refl _) (Nat.le_trans HB5.out.size hV.size) (by omega)
            rwa [decide_eq_true rfl] at this
          have HS3 := Lib.hid hs3; clear hs3 hs2
          have hqq : (q == q) = true := beq_self_eq_true q
          rcases Decidable.em (l = []) with hl | hl
          · have he0 := HNIL.out hl
            subst he0
            clear hl
            go_wp2_with fail
            with_reducible refine (HSAME.out wr HB5.out).mono ?_
            rintro E6 w6 ⟨rfl, hb6⟩
            have HB6 : Hid (Below w.heap.size w w6) := Lib.hid (HB5.out.trans (hb6.mono HB5.out.size))
            have HB56 := Lib.hid hb6; clear hb6
            go_wp2_with fail
            with_reducible refine (HS3.out w6 HB56.out).mono ?_
            rintro E7 w7 ⟨rfl, hb7⟩
            have HB7 : Hid (Below w.heap.size w w7) := Lib.hid (HB6.out.trans (hb7.mono HB6.out.size))
            clear hb7
            go_wp2
            rw [HP.out]
            exact ⟨rfl, HB7.out⟩
          · obtain ⟨he0, hcl⟩ := HLAST.out hl
            obtain ⟨k, rfl⟩ : ∃ k, en = k + 1 := ⟨en - 1, by omega⟩
            have hcast : ((k + 1 : Nat) : Int) - 1 = (k : Int) := by omega
            have hcast2 : ((k : Int) + 1) - 1 = (k : Int) := by omega
            rw [hcast] at hcl
            obtain ⟨u, hu⟩ : ∃ u, u = cont l (k : Int) := ⟨_, rfl⟩
            rw [← hu] at hcl
            have hix : ∀ W, (Instr.index 9 (.string S) (.int .i64 (k : Int))).run Tryd.prog W = .ok (.int .u8 (u.toNat : Int)) W := fun W => by
              rw [run_index_at S k (by rw [hSs]; omega) W, HGET.out k (by rw [hSs]; omega), ← hu]
            have hz1 : ((u.toNat : Int) == 0) = false := beq_false_of_ne (fun e => hcl (UInt8.toNat_inj.1 (by show u.toNat = 0; omega)))
            have hz2 : ((u.toNat : Int) != 0) = true := by unfold bne; rw [hz1]; rfl
            have hen0 : (((k + 1 : Nat) : Int) == 0) = false := beq_false_of_ne (by omega)
            have hen1 : (((k : Int) + 1) == 0) = false := beq_false_of_ne (by omega)
            have hwr1 : IntKind.i64.wrap (k : Int) = (k : Int) := by rw [IntKind.wrap_i64]; omega
            clear hu hcl hl
            go_wp2_with fail
            with_reducible refine (HSAME.out wr HB5.out).mono ?_
            rintro E6 w6 ⟨rfl, hb6⟩
            have HB6 : Hid (Below w.heap.size w w6) := Lib.hid (HB5.out.trans (hb6.mono HB5.out.size))
            have HB56 := Lib.hid hb6; clear hb6
            go_wp2_with fail
            with_reducible refine (HS3.out w6 HB56.out).mono ?_
            rintro E7 w7 ⟨rfl, hb7⟩
            have HB7 : Hid (Below w.heap.size w w7) := Lib.hid (HB6.out.trans (hb7.mono HB6.out.size))
            clear hb7
            go_wp2
            rw [HP.out]
            exact ⟨rfl, HB7.out⟩

theorem walks : Walks 6 Tryd.f6 All := by
  intro H enc W base args ds p hval hA hsz _
  rw [Tryd.params6] at hA hval hsz
  obtain ⟨v0, vs0, d0, ds0, p0, q0, hargs, rfl, rfl, h0, r0⟩ := trodAll_cons hA
  obtain ⟨v1, vs1, d1, ds1, p1, q1, rfl, rfl, rfl, h1, r1⟩ := trodAll_cons r0
  obtain ⟨rfl, rfl, rfl⟩ := trodAll_nil r1
  obtain rfl : args = #[v0, v1] := by cases args; simp_all
  obtain ⟨A0, n0, c0, l0, rfl, hl0, hr0, hn0, hc0⟩ := exts_open (hval 0 _ v0 rfl rfl) h0 _ (reach_exts hsz (j := 0) rfl rfl)
  obtain ⟨A1, n1, c1, l1, rfl, hl1, hr1, hn1, hc1⟩ := exts_open (hval 1 _ v1 rfl rfl) h1 _ (reach_exts hsz (j := 1) rfl rfl)
  exact walk A0 n0 c0 l0 A1 n1 c1 l1 W hl0 hl1 hr0 hr1 (by omega) (by omega)

theorem laid_ok (os : Os) : laidMetH Tryd.prog Rows.sparseOnceRow.laid ((World.laidAll Tryd.prog os Rows.sparseOnceRow.laid).forCall (fun _ _ => 0) ⟨#[], #[.slice none 0 0, .slice none 0 0], []⟩).memory := by
  rw [MakeChecks.laidMetH_plain _ _ _ (by kernel_rfl)]
  exact laidMet_laidAll _ (by kernel_rfl) (by kernel_rfl)
theorem shaped_ok (os : Os) : ((World.laidAll Tryd.prog os Rows.sparseOnceRow.laid).forCall (fun _ _ => 0) ⟨#[], #[.slice none 0 0, .slice none 0 0], []⟩).Shaped Tryd.prog := World.shaped_of_ZipB (by kernel_rfl) (by kernel_rfl)
theorem reads (os : Os) {H : Type} (enc : TypeId × Value → H) : ∃ x, DataW.whole enc Tryd.prog ((World.laidAll Tryd.prog os Rows.sparseOnceRow.laid).forCall (fun _ _ => 0) ⟨#[], #[.slice none 0 0, .slice none 0 0], []⟩).memory Tryd.f6.params.toList Rows.sparseOnceSpec.vars false #[.slice none 0 0, .slice none 0 0].toList 8 = some x :=
  ⟨([.nil, .nil], [], []), by kernel_rfl⟩

set_option maxRecDepth 100000 in
theorem said : Rows.SparseOnceSaid :=
  OpenClaim.holds_of_cond 6 Tryd.f6 rfl rfl rfl rfl rfl rfl rfl ⟨rfl, rfl, rfl, rfl, rfl⟩ rfl rfl rfl rfl rfl (by kernel_rfl) Tryd.func6 (by kernel_rfl)
    (of_decide_eq_true (by kernel_rfl)) (by unfold Func.isWrapper; first | (rw [if_pos (by decide +kernel)]; kernel_rfl) | (rw [if_neg (by decide +kernel)]; exact ⟨rfl, rfl⟩))
    (fun os started H enc _ F => by
      rw [OpenClaim.pre_eq_preRow]
      obtain ⟨x, hx⟩ := reads os enc
      exact lifted_row (s := Rows.sparseOnceSpec) walks (by kernel_rfl) rfl rfl (fun H ds hl => by match ds, hl with | [d1, d2], _ => rfl) (by kernel_rfl) Tryd.func6 os started H enc F
        (witness_laid (enc := enc) (C := Tryd.checked) #[.slice none 0 0, .slice none 0 0] (shaped_ok os) (by kernel_rfl) (OpenSpec.preRow_of_cond 8 hx rfl (fun k hk => by cases hk) (by kernel_rfl) (laid_ok os))))
theorem plain (f : FuncId) (fn : Func) (hf : Tryd.pinned.checked.prog.funcNamed "undercroft/undercroftlaw15.SparseOnce" = some f) (hfn : Tryd.pinned.checked.prog.funcs[f]? = some fn) :
    false = Tryd.pinned.checked.prog.looks [] ∧ ∀ (j : Nat) t, fn.params[j]? = some t → Tryd.pinned.checked.prog.wantsStandIn t = false := by
  obtain rfl : f = 6 := Option.some.inj ((show Tryd.prog.funcNamed "undercroft/undercroftlaw15.SparseOnce" = some 6 by kernel_rfl).symm.trans hf) |>.symm
  obtain rfl : fn = Tryd.f6 := (Option.some.inj (Tryd.func6.symm.trans hfn)).symm
  refine ⟨by kernel_rfl, fun j t ht => ?_⟩
  rw [Tryd.params6] at ht
  have hall : (#[22, 22].all fun u => !Tryd.prog.wantsStandIn u) = true := by kernel_rfl
  have hm := Array.all_eq_true'.1 hall t (Array.mem_of_getElem? ht)
  exact (show Tryd.prog.wantsStandIn t = false by simpa using hm)
theorem proved : Rows.SparseOnceCardSaid :=
  Claim7.holds_tied_plain_at .later [] _ _ _ _ said (fun _ h => by cases h) (by kernel_rfl) (fun _ h => by cases h) sparseOnce_row_tie rfl ⟨rfl, rfl⟩ (by kernel_rfl) rfl plain (by kernel_rfl)
#print axioms proved
end Go.Proofs.YtmbmjdogfjmlpaaDoor.SparseOnce
