/- BuddyFree: for every list of bytes and all numbers n, want and goal, what the program gives was free, has 1 to want blocks, lies within n, is taken behind it, no other block is turned, and giving it back makes the map that was; none is given where no block is free. -/
import Derived.Test.YtnkiblifnknbkaaBdFill
namespace Go.Proofs.Ytnkiblifnknbkaa.BuddyFree
set_option maxRecDepth 20000
open Go Go.ChangeShapes Go.WideShapes Go.ChangeAt Go.RowKit
open Go.Proofs.Ytnkiblifnknbkaa.Mem Go.Proofs.Ytnkiblifnknbkaa.Bt Go.Proofs.Ytnkiblifnknbkaa.Rec Go.Proofs.Ytnkiblifnknbkaa.Bits Go.Proofs.Ytnkiblifnknbkaa.Bd Go.Proofs.Ytnkiblifnknbkaa.Buddy Go.Proofs.Ytnkiblifnknbkaa.Lift
attribute [local go_sem ↓] ldS_eq stS_eq eqS_eq

set_option maxRecDepth 100000 in
set_option maxHeartbeats 4000000 in
theorem walk (A : Option Addr) (n c : Nat) (bs : List UInt8) (x y z : Int) (w : World) (h : Holds w w.heap.size A n bs) (hc : n ≤ c) (hm : c ≤ 140737488351232) (f3 : z ≤ 9223372036854775807) :
    Calls Try.prog 5 #[.slice A n c, .agg (wishV x y z)] w fun e w' => e = .returned (.bool true) ∧ Below w.heap.size w w' := by
  obtain rfl : bs.length = n := h.1
  have HM := fun (V : World) (hb : Below w.heap.size w V) => h.below hb
  have H := Lib.hid HM; clear HM h
  obtain ⟨W0, hW0⟩ : ∃ W0, W0 = w.alloc (.cells (wishV x y z) 24) := ⟨_, rfl⟩
  have hb0 : Below w.heap.size w W0 := by rw [hW0]; exact (Below.refl _ w).alloc (Nat.le_refl _) _
  have hx0 : W0.heap[w.heap.size]? = some (.cells (wishV x y z) 24 (0, 0)) := by rw [hW0]; exact heap_alloc_new w _
  have hz0 : W0.heap.size = w.heap.size + 1 := by rw [hW0]; simp
  have hld : ∀ (V : World), Below W0.heap.size W0 V → V.cell? ⟨w.heap.size, 0, none⟩ = some (.int .i64 x) ∧ V.cell? ⟨w.heap.size, 1, none⟩ = some (.int .i64 y) ∧ V.cell? ⟨w.heap.size, 2, none⟩ = some (.int .i64 z) := fun V hV => by
    have hh := (hV.block w.heap.size (by omega)).trans hx0
    exact ⟨cell_of_row V _ 0 _ _ _ hh, cell_of_row V _ 1 _ _ _ hh, cell_of_row V _ 2 _ _ _ hh⟩
  have HLD := Lib.hid hld; clear hld
  have HM := Lib.hid (fun (V : World) (hV : Below W0.heap.size W0 V) => hb0.trans (hV.mono hb0.size)); clear hb0 hx0
  have HW := Lib.hid hW0; clear hW0
  cases hp : takeB bs.length x y z with
  | false =>
    cases hpb : poolB bs.length x with
    | false =>
      have hta := fun (V : World) => take_bad A bs.length c V x y z (by omega) hp
      have HTA := Lib.hid hta; clear hta hp
      have hfr := fun (V : World) => free_bad A bs.length c V x (by omega) hpb
      have HFR := Lib.hid hfr; clear hfr hpb
      go_enter Try.func5, Try.ntmps5
      go_wp2_with fail
      rw [← HW.out]
      with_reducible refine (alive_any W0).mono ?_
      rintro e w2 ⟨rfl, hb1⟩
      have HC2 := Lib.hid hb1; clear hb1
      obtain ⟨l20, l21, l22⟩ := HLD.out w2 HC2.out
      go_wp2_with fail
      with_reducible refine (HTA.out w2).mono ?_
      rintro e w3 ⟨rfl, hb3⟩
      have hb3' : Below w2.heap.size w2 (w3.alloc (.cells (spanV 0 0) 27)) := hb3.alloc hb3.size _
      have q3 := run_stS_new w3 0 0
      obtain ⟨w4, hw4⟩ : ∃ w4, w4 = w3.alloc (.cells (spanV 0 0) 27) := ⟨_, rfl⟩
      have hrow4 : w4.heap[w3.heap.size]? = some (.cells (spanV 0 0) 27 (0, 0)) := by rw [hw4]; exact heap_alloc_new w3 _
      have hz4 : w4.heap.size = w3.heap.size + 1 := by rw [hw4]; simp
      rw [← hw4] at hb3' q3
      have HC4 := Lib.hid (thenB HC2.out hb3')
      have hb34 : Below w3.heap.size w3 w4 := hw4 ▸ (Below.refl _ w3).alloc (Nat.le_refl _) _
      have HB34 := Lib.hid hb34; clear hb3 hb3' hb34
      have HR4 := Lib.hid hrow4; clear hrow4 hw4
      clear l20 l21 l22
      obtain ⟨l40, l41, l42⟩ := HLD.out w4 HC4.out
      go_wp2_with fail
      with_reducible refine (HFR.out w4).mono ?_
      rintro e w5 ⟨rfl, rfl⟩
      have hrow5 := HR4.out
      have hC5 := HC4.out
      have l1 := run_ldS w4 w3.heap.size 0 0 hrow5
      have l2 : (eqS (.agg (spanV 0 0)) (.agg #[.int .i64 0, .int .i64 0])).run Try.prog w4 = .ok (.bool true) w4 := run_eqS w4 0 0 0 0
      have HF := Lib.hid (HM.out _ hC5); clear hC5 hrow5
      go_wp2
      go_ret
      exact ⟨rfl, HF.out⟩
    | true =>
      have hta := fun (V : World) => take_bad A bs.length c V x y z (by omega) hp
      have HTA := Lib.hid hta; clear hta hp
      obtain ⟨h0, h1⟩ := of_decide_eq_true hpb
      obtain ⟨nn, rfl⟩ : ∃ nn : Nat, x = (nn : Int) := ⟨x.toNat, by omega⟩
      have hfr := fun (V : World) (hV : Below w.heap.size w V) => free_ok A bs.length c w.heap.size bs V nn (H.out V hV) hV.size (by omega) (by omega)
      have HFR := Lib.hid hfr; clear hfr hpb
      go_enter Try.func5, Try.ntmps5
      go_wp2_with fail
      rw [← HW.out]
      with_reducible refine (alive_any W0).mono ?_
      rintro e w2 ⟨rfl, hb1⟩
      have HC2 := Lib.hid hb1; clear hb1
      obtain ⟨l20, l21, l22⟩ := HLD.out w2 HC2.out
      go_wp2_with fail
      with_reducible refine (HTA.out w2).mono ?_
      rintro e w3 ⟨rfl, hb3⟩
      have hb3' : Below w2.heap.size w2 (w3.alloc (.cells (spanV 0 0) 27)) := hb3.alloc hb3.size _
      have q3 := run_stS_new w3 0 0
      obtain ⟨w4, hw4⟩ : ∃ w4, w4 = w3.alloc (.cells (spanV 0 0) 27) := ⟨_, rfl⟩
      have hrow4 : w4.heap[w3.heap.size]? = some (.cells (spanV 0 0) 27 (0, 0)) := by rw [hw4]; exact heap_alloc_new w3 _
      have hz4 : w4.heap.size = w3.heap.size + 1 := by rw [hw4]; simp
      rw [← hw4] at hb3' q3
      have HC4 := Lib.hid (thenB HC2.out hb3')
      have hb34 : Below w3.heap.size w3 w4 := hw4 ▸ (Below.refl _ w3).alloc (Nat.le_refl _) _
      have HB34 := Lib.hid hb34; clear hb3 hb3' hb34
      have HR4 := Lib.hid hrow4; clear hrow4 hw4
      clear l20 l21 l22
      obtain ⟨l40, l41, l42⟩ := HLD.out w4 HC4.out
      go_wp2_with fail
      with_reducible refine (HFR.out w4 (HM.out _ HC4.out)).mono ?_
      rintro e w5 ⟨rfl, hb5⟩
      have hrow5 := (hb5.block w3.heap.size (by omega)).trans HR4.out
      have hC5 := thenB HC4.out hb5
      have l1 := run_ldS w5 w3.heap.size 0 0 hrow5
      have l2 : (eqS (.agg (spanV 0 0)) (.agg #[.int .i64 0, .int .i64 0])).run Try.prog w5 = .ok (.bool true) w5 := run_eqS w5 0 0 0 0
      have HF := Lib.hid (HM.out _ hC5); clear hC5 hrow5 hb5
      go_wp2
      go_ret
      exact ⟨rfl, HF.out⟩
  | true =>
    unfold takeB at hp
    rw [Bool.and_eq_true] at hp
    obtain ⟨h0, h1⟩ := of_decide_eq_true hp.1
    obtain ⟨h2, h3, h4⟩ := of_decide_eq_true hp.2
    clear hp
    obtain ⟨nn, rfl⟩ : ∃ nn : Nat, x = (nn : Int) := ⟨x.toNat, by omega⟩
    obtain ⟨want, rfl⟩ : ∃ want : Nat, y = (want : Int) := ⟨y.toNat, by omega⟩
    obtain ⟨goal, rfl⟩ : ∃ goal : Nat, z = (goal : Int) := ⟨z.toNat, by omega⟩
    have hta := fun (V : World) (hV : Below w.heap.size w V) => take_run A bs.length c w.heap.size bs V nn want goal (H.out V hV) hV.size (by omega) (by omega) (by omega) (by omega) (by omega)
    have hfr := fun (V : World) (hV : Below w.heap.size w V) => free_ok A bs.length c w.heap.size bs V nn (H.out V hV) hV.size (by omega) (by omega)
    have HTA := Lib.hid hta; clear hta
    have HFR := Lib.hid hfr; clear hfr
    go_enter Try.func5, Try.ntmps5
    go_wp2_with fail
    rw [← HW.out]
    with_reducible refine (alive_any W0).mono ?_
    rintro e w2 ⟨rfl, hb1⟩
    have HC2 := Lib.hid hb1; clear hb1
    obtain ⟨l20, l21, l22⟩ := HLD.out w2 HC2.out
    go_wp2_with fail
    with_reducible refine (HTA.out w2 (HM.out _ HC2.out)).mono ?_
    rintro e w3 ⟨r, hr, hout⟩
    rcases r with _ | ⟨s, o⟩
    · obtain ⟨rfl, hb3⟩ := hout
      have hF0 : freeN bs nn = 0 := take_none hr
      rw [hF0] at HFR
      clear hr hF0
      have hb3' : Below w2.heap.size w2 (w3.alloc (.cells (spanV 0 0) 27)) := hb3.alloc hb3.size _
      have q3 := run_stS_new w3 0 0
      obtain ⟨w4, hw4⟩ : ∃ w4, w4 = w3.alloc (.cells (spanV 0 0) 27) := ⟨_, rfl⟩
      have hrow4 : w4.heap[w3.heap.size]? = some (.cells (spanV 0 0) 27 (0, 0)) := by rw [hw4]; exact heap_alloc_new w3 _
      have hz4 : w4.heap.size = w3.heap.size + 1 := by rw [hw4]; simp
      rw [← hw4] at hb3' q3
      have HC4 := Lib.hid (thenB HC2.out hb3')
      have hb34 : Below w3.heap.size w3 w4 := hw4 ▸ (Below.refl _ w3).alloc (Nat.le_refl _) _
      have HB34 := Lib.hid hb34; clear hb3 hb3' hb34
      have HR4 := Lib.hid hrow4; clear hrow4 hw4
      clear l20 l21 l22
      obtain ⟨l40, l41, l42⟩ := HLD.out w4 HC4.out
      go_wp2_with fail
      with_reducible refine (HFR.out w4 (HM.out _ HC4.out)).mono ?_
      rintro e w5 ⟨rfl, hb5⟩
      have HF := Lib.hid (HM.out _ (thenB HC4.out hb5)); clear hb5
      go_wp2
      go_ret
      exact ⟨rfl, HF.out⟩
    · obtain ⟨hsn, Aa, ca, rfl, hb3, ho3, ht3⟩ := hout
      have hfree := take_free (want := want) hr
      have hL1 : 1 ≤ min want (2 ^ o) := by have := Nat.two_pow_pos o; omega
      have hL2 : min want (2 ^ o) ≤ want := Nat.min_le_left _ _
      obtain ⟨L, hL⟩ : ∃ L, L = min want (2 ^ o) := ⟨_, rfl⟩
      rw [← hL] at hsn ho3 ht3 hfree hL1 hL2 ⊢
      clear hL hr
      have hfil := fillL_nat bs s (s + L) true (by omega)
      have hfs := filled_same hfil (by omega)
      have hback := filled_back (u := false) hfil (by omega) (fun i k1 k2 => (hfree i k1 k2).1)
      have hin : ∀ i, s ≤ i → i < s + L → bt (fillL bs (s : Int) ((s + L : Nat) : Int) true) i = true ∧ bt bs i = false := fun i k1 k2 => ⟨filled_in hfil (by omega) k1 k2, (hfree i k1 k2).1⟩
      have hou : ∀ i, ¬ (s ≤ i ∧ i < s + L) → bt (fillL bs (s : Int) ((s + L : Nat) : Int) true) i = bt bs i := fun i k => filled_out hfil k
      have hyl := hfil.1
      have hFpos : ¬ (freeN bs nn : Int) = 0 := by
        have := cnt_some (hfree s (Nat.le_refl _) (by omega)).1 (show s < nn by omega)
        unfold freeN; omega
      obtain ⟨ys, hys⟩ : ∃ ys, ys = fillL bs (s : Int) ((s + L : Nat) : Int) true := ⟨_, rfl⟩
      rw [← hys] at ho3 ht3 hfs hback hin hou hyl
      simp only [if_true] at hfs
      have hgi := fun (V : World) (hh : Holds V w3.heap.size Aa bs.length ys) (hB : w3.heap.size ≤ V.heap.size) => give_run Aa bs.length ca w3.heap.size ys V nn s L hh hB (by omega) (by omega) (by omega) (by omega)
      obtain ⟨E, hE⟩ : ∃ E, E = s + L := ⟨_, rfl⟩
      have e2 : IntKind.i64.wrap ((s : Int) + (L : Int)) = (E : Int) := by rw [IntWalk.i64_in _ (by omega)]; omega
      have e3 : IntKind.i64.wrap ((nn : Int) - (L : Int)) = (nn : Int) - (L : Int) := IntWalk.i64_in _ (by omega)
      rw [← hE] at hin hou hback hgi
      obtain ⟨F, hF⟩ : ∃ F, F = freeN bs nn := ⟨_, rfl⟩
      rw [← hF] at HFR hFpos
      have hFb : ((F : Int) == 0) = false := by rw [beq_eq_false_iff_ne]; exact hFpos
      obtain ⟨N, hN⟩ : ∃ N, N = 8 * bs.length := ⟨_, rfl⟩
      have hwl : IntKind.i64.wrap (8 * (bs.length : Int)) = (N : Int) := by rw [IntKind.wrap_i64]; omega
      have HN5 := Lib.hid (show N ≤ 1125899906809856 by omega)
      have c1 : ¬ (L : Int) < 1 := by omega
      have c2 : ¬ (want : Int) < (L : Int) := by omega
      have c3 : ¬ (s : Int) < 0 := by omega
      have c4 : ¬ (nn : Int) - (L : Int) < (s : Int) := by omega
      have d1 : decide ((L : Int) < 1) = false := decide_eq_false c1
      have d2 : decide (want < L) = false := decide_eq_false (by omega)
      have d2' : decide ((want : Int) < (L : Int)) = false := decide_eq_false c2
      have d3 : decide ((s : Int) < 0) = false := decide_eq_false c3
      have d4 : decide ((nn : Int) - (L : Int) < (s : Int)) = false := decide_eq_false c4
      have HIN := Lib.hid hin; clear hin
      have HOUT := Lib.hid hou; clear hou
      have HBACK := Lib.hid hback; clear hback
      have HFS := Lib.hid hfs; clear hfs
      have HGI := Lib.hid hgi; clear hgi
      have hG := fun (V : World) (hV : Below w3.heap.size w3 V) => (Owned.reads ho3).below hV
      have G := Lib.hid hG; clear hG ho3 ht3
      clear hys hyl hF hE hN hfil hfree
      have hb3' : Below w2.heap.size w2 (w3.alloc (.cells (spanV (s : Int) (L : Int)) 27)) := hb3.alloc hb3.size _
      have q3 := run_stS_new w3 (s : Int) (L : Int)
      obtain ⟨w4, hw4⟩ : ∃ w4, w4 = w3.alloc (.cells (spanV (s : Int) (L : Int)) 27) := ⟨_, rfl⟩
      have hrow4 : w4.heap[w3.heap.size]? = some (.cells (spanV (s : Int) (L : Int)) 27 (0, 0)) := by rw [hw4]; exact heap_alloc_new w3 _
      have hz4 : w4.heap.size = w3.heap.size + 1 := by rw [hw4]; simp
      rw [← hw4] at hb3' q3
      have HC4 := Lib.hid (thenB HC2.out hb3')
      have hb34 : Below w3.heap.size w3 w4 := hw4 ▸ (Below.refl _ w3).alloc (Nat.le_refl _) _
      have HB34 := Lib.hid hb34; clear hb3 hb3' hb34
      have HR4 := Lib.hid hrow4; clear hrow4 hw4
      clear l20 l21 l22
      obtain ⟨l40, l41, l42⟩ := HLD.out w4 HC4.out
      go_wp2_with fail
      with_reducible refine (HFR.out w4 (HM.out _ HC4.out)).mono ?_
      rintro e w5 ⟨rfl, hb5⟩
      have hC5 := thenB HC4.out hb5
      have hG5 := thenB HB34.out hb5
      have hrow5 := (hb5.block w3.heap.size (by omega)).trans HR4.out
      have c50 : w5.cell? ⟨w3.heap.size, 0, none⟩ = some (.int .i64 (s : Int)) := cell_of_row w5 _ 0 _ _ _ hrow5
      have c51 : w5.cell? ⟨w3.heap.size, 1, none⟩ = some (.int .i64 (L : Int)) := cell_of_row w5 _ 1 _ _ _ hrow5
      have l5 := run_ldS w5 w3.heap.size (s : Int) (L : Int) hrow5
      obtain ⟨l50, l51, l52⟩ := HLD.out w5 hC5
      have hget1 := fun (q : Nat) (hq : (q : Int) < 9223372036854775808) => get_any Aa bs.length ca w3.heap.size ys (q : Int) w5 (G.out _ hG5) hq
      have hget2 := fun (q : Nat) (hq : (q : Int) < 9223372036854775808) => get_any A bs.length c w.heap.size bs (q : Int) w5 (H.out _ (HM.out _ hC5)) hq
      have HGET1 := Lib.hid hget1; clear hget1
      have HGET2 := Lib.hid hget2; clear hget2
      have HC5 := Lib.hid hC5; clear hC5
      have HG5 := Lib.hid hG5; clear hG5 hb5 hrow5 l40 l41 l42
      go_wp2_with fail
      go_loopw [10, 11] (fun i _ V => ∃ q : Nat, q ≤ N ∧ i = .int .i64 (q : Int) ∧ V = w5) (fun i _ _ => N - (intOf i).toNat)
      case atStart => exact ⟨0, Nat.zero_le _, by first | trivial | rfl, by first | trivial | rfl⟩
      case round =>
        obtain ⟨q, hq, rfl, hV⟩ := hrel
        have hV' : w5 = _ := hV.symm
        subst hV'
        clear hV
        rcases Nat.lt_or_ge q N with hltq | hge
        · have hq50 : q ≤ 1125899906809856 := by have := HN5.out; omega
          have hqi : (q : Int) < (N : Int) := by omega
          have hg1 := HGET1.out q (by omega)
          have hg2 := HGET2.out q (by omega)
          rw [getB_nat] at hg1 hg2
          have hvi := HIN.out q
          have hvo := HOUT.out q
          have HG1 := Lib.hid hg1; clear hg1
          have HG2 := Lib.hid hg2; clear hg2
          generalize bt ys q = gy at *
          generalize bt bs q = gm at *
          by_cases i1 : s ≤ q
          · have i1' : (s : Int) ≤ (q : Int) := by omega
            by_cases i2 : q < E
            · have i2' : (q : Int) < (E : Int) := by omega
              obtain ⟨rfl, rfl⟩ := hvi i1 i2
              clear hvo hvi
              go_wp2_with fail
              with_reducible refine HG2.out.mono ?_
              rintro e w6 ⟨rfl, rfl⟩
              go_wp2_with fail
              with_reducible refine HG1.out.mono ?_
              rintro e w6 ⟨rfl, rfl⟩
              go_wp2
              go_roundw
              case rel => exact ⟨q + 1, by omega, by go_num, by trivial⟩
              case measure => simp [intOf]; omega
            · have i2' : ¬ (q : Int) < (E : Int) := by omega
              obtain rfl := hvo (by omega)
              clear hvo hvi
              go_wp2_with fail
              with_reducible refine HG2.out.mono ?_
              rintro e w6 ⟨rfl, rfl⟩
              go_wp2_with fail
              with_reducible refine HG1.out.mono ?_
              rintro e w6 ⟨rfl, rfl⟩
              go_wp2
              go_roundw
              case rel => exact ⟨q + 1, by omega, by go_num, by trivial⟩
              case measure => simp [intOf]; omega
          · have i1' : ¬ (s : Int) ≤ (q : Int) := by omega
            obtain rfl := hvo (by omega)
            clear hvo hvi
            go_wp2_with fail
            with_reducible refine HG2.out.mono ?_
            rintro e w6 ⟨rfl, rfl⟩
            go_wp2_with fail
            with_reducible refine HG1.out.mono ?_
            rintro e w6 ⟨rfl, rfl⟩
            go_wp2
            go_roundw
            case rel => exact ⟨q + 1, by omega, by go_num, by trivial⟩
            case measure => simp [intOf]; omega
        · have hqi : ¬ (q : Int) < (N : Int) := by omega
          go_wp2_with fail
          with_reducible refine (HGI.out w5 (G.out _ HG5.out) HG5.out.size).mono ?_
          rintro e w6 ⟨-, hg⟩
          obtain ⟨Ab, cb, rfl, hb6, -, tb⟩ := hg HFS.out
          rw [HBACK.out] at tb
          have hC6 := thenB HC5.out hb6
          have u1 := tb w6 (Below.refl _ _)
          have u2 := run_text w6 w.heap.size A bs.length c bs (H.out w6 (HM.out _ hC6))
          have HF := Lib.hid (HM.out _ hC6); clear hC6 hb6 tb hg
          go_wp2
          go_ret
          exact ⟨rfl, HF.out⟩

theorem walks : Walks 5 Try.f5 All := by
  intro H enc W base args ds p hval hA hsz _
  rw [Try.params5] at hA hval hsz
  obtain ⟨v0, vs0, d0, ds0, p0, q0, hargs, rfl, rfl, h0, r0⟩ := trodAll_cons hA
  obtain ⟨v1, vs1, d1, ds1, p1, q1, rfl, rfl, rfl, h1, r1⟩ := trodAll_cons r0
  obtain ⟨rfl, rfl, rfl⟩ := trodAll_nil r1
  obtain rfl : args = #[v0, v1] := by cases args; simp_all
  obtain ⟨A, n, c, bs, rfl, hb, hn, hc⟩ := open_bytesC (hval 0 _ v0 rfl rfl) h0 _ (reach_bytes hsz (j := 0) rfl rfl)
  obtain ⟨x, y, z, rfl, hx, hy, hz⟩ := open_wish (hval 1 _ v1 rfl rfl) h1
  exact walk A n c bs x y z W hb hn hc hz.2

set_option maxRecDepth 100000 in
theorem proved : Rows.BuddyFreeSaid :=
  OpenClaim.holds_of_wide 5 Try.f5 rfl rfl rfl rfl rfl rfl rfl ⟨rfl, rfl, rfl, rfl, rfl⟩ rfl rfl rfl rfl rfl (by kernel_rfl) Try.func5 (by kernel_rfl)
    (of_decide_eq_true (by kernel_rfl)) (by unfold Func.isWrapper; first | (rw [if_pos (by decide +kernel)]; kernel_rfl) | (rw [if_neg (by decide +kernel)]; exact ⟨rfl, rfl⟩))
    (fun os started H enc _ => lifted (s := Rows.buddyFreeSpec) walks (by kernel_rfl) rfl rfl (fun H ds hl => by match ds, hl with | [d1, d2], _ => rfl) (by kernel_rfl) Try.func5 os started H enc
      (ChangeSpec.witness6 (enc := enc) (C := Try.checked) false ⟨#[], #[.slice none 0 0, .agg #[.int .i64 0, .int .i64 0, .int .i64 0]], []⟩ 8 (by kernel_rfl) (by kernel_rfl) (by kernel_rfl) (by kernel_rfl)))
#print axioms proved
end Go.Proofs.Ytnkiblifnknbkaa.BuddyFree
