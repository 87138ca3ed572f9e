/- BuddyTwice: for every list of bytes, every number and every span, what the program takes back was taken, is free then and no other block is turned, and it can't be taken back twice. -/
import Derived.Test.YtnkiblifnknbkaaBdFill
namespace Go.Proofs.Ytnkiblifnknbkaa.BuddyTwice
set_option maxRecDepth 20000
open Go Go.ChangeShapes Go.WideShapes Go.ChangeAt Go.RowKit
open Go.Proofs.Ytnkiblifnknbkaa.Mem Go.Proofs.Ytnkiblifnknbkaa.Bt Go.Proofs.Ytnkiblifnknbkaa.Rec Go.Proofs.Ytnkiblifnknbkaa.Bits Go.Proofs.Ytnkiblifnknbkaa.Bd Go.Proofs.Ytnkiblifnknbkaa.Buddy Go.Proofs.Ytnkiblifnknbkaa.Lift
attribute [local go_sem ↓] ldS_eq stS_eq eqS_eq

set_option maxRecDepth 100000 in
set_option maxHeartbeats 4000000 in
theorem walk (A : Option Addr) (n c : Nat) (bs : List UInt8) (x s l : Int) (w : World) (h : Holds w w.heap.size A n bs) (hc : n ≤ c) (hm : c ≤ 140737488351232) (f2 : x ≤ 9223372036854775807) (f3 : s ≤ 9223372036854775807) :
    Calls Try.prog 9 #[.slice A n c, .int .i64 x, .agg (spanV s l)] w fun e w' => e = .returned (.bool true) ∧ Below w.heap.size w w' := by
  obtain rfl : bs.length = n := h.1
  have HM := fun (V : World) (hb : Below w.heap.size w V) => h.below hb
  have H := Lib.hid HM; clear HM h
  cases hpw : (poolB bs.length x && withinB s l x) with
  | false =>
    have hgi := fun (V : World) => give_bad A bs.length c V x s l (by omega) f3 f2 hpw
    have HGI := Lib.hid hgi; clear hgi hpw
    obtain ⟨W0, hW0⟩ : ∃ W0, W0 = w.alloc (.cells (spanV s l) 27) := ⟨_, rfl⟩
    have hb0 : Below w.heap.size w W0 := by rw [hW0]; exact (Below.refl _ w).alloc (Nat.le_refl _) _
    have hx0 : W0.heap[w.heap.size]? = some (.cells (spanV s l) 27 (0, 0)) := by rw [hW0]; exact heap_alloc_new w _
    have hz0 : W0.heap.size = w.heap.size + 1 := by rw [hW0]; simp
    have HLD := Lib.hid (fun (V : World) (hV : Below W0.heap.size W0 V) => run_ldS V w.heap.size s l ((hV.block w.heap.size (by omega)).trans hx0))
    have hlc : ∀ (V : World), Below W0.heap.size W0 V → V.cell? ⟨w.heap.size, 0, none⟩ = some (.int .i64 s) ∧ V.cell? ⟨w.heap.size, 1, none⟩ = some (.int .i64 l) := fun V hV => by
      have hh := (hV.block w.heap.size (by omega)).trans hx0
      exact ⟨cell_of_row V _ 0 _ _ _ hh, cell_of_row V _ 1 _ _ _ hh⟩
    have HLC := Lib.hid hlc; clear hlc
    have HM := Lib.hid (fun (V : World) (hV : Below W0.heap.size W0 V) => hb0.trans (hV.mono hb0.size)); clear hb0 hx0
    have HW := Lib.hid hW0; clear hW0
    go_enter Try.func9, Try.ntmps9
    go_wp2_with fail
    rw [← HW.out]
    with_reducible refine (alive_any W0).mono ?_
    rintro e w1 ⟨rfl, hb1⟩
    have HC1 := Lib.hid hb1; clear hb1
    have l1 := HLD.out w1 HC1.out
    go_wp2_with fail
    with_reducible refine (HGI.out w1).mono ?_
    rintro e w2 ⟨rfl, hb2⟩
    have HF := Lib.hid (HM.out _ (thenB HC1.out hb2)); clear hb2
    go_wp2
    go_ret
    exact ⟨rfl, HF.out⟩
  | true =>
    rw [Bool.and_eq_true] at hpw
    obtain ⟨h0, h1⟩ := of_decide_eq_true hpw.1
    obtain ⟨w0, w1, w2⟩ := of_decide_eq_true hpw.2
    clear hpw
    obtain ⟨nn, rfl⟩ : ∃ nn : Nat, x = (nn : Int) := ⟨x.toNat, by omega⟩
    obtain ⟨s, rfl⟩ : ∃ s' : Nat, s = (s' : Int) := ⟨s.toNat, by omega⟩
    obtain ⟨l, rfl⟩ : ∃ l' : Nat, l = (l' : Int) := ⟨l.toNat, by omega⟩
    have hgi := fun (V : World) (hV : Below w.heap.size w V) => give_run A bs.length c w.heap.size bs V nn s l (H.out V hV) hV.size (by omega) (by omega) (by omega) (by omega)
    have HGI := Lib.hid hgi; clear hgi
    by_cases hall : cnt (bt bs) s l = l
    · have hfil := fillL_nat bs s (s + l) false (by omega)
      have hfc := filled_cnt hfil (show s + l ≤ nn by omega) (by omega)
      have hfs := filled_same hfil (by omega)
      have hle := cnt_le (bt bs) 0 nn
      have hin : ∀ i, s ≤ i → i < s + l → bt (fillL bs (s : Int) ((s + l : Nat) : Int) false) i = false ∧ bt bs i = true := fun i k1 k2 => ⟨filled_in hfil (by omega) k1 k2, by
        have := cnt_full hall (i - s) (by omega)
        rwa [show s + (i - s) = i by omega] at this⟩
      have hout : ∀ i, ¬ (s ≤ i ∧ i < s + l) → bt (fillL bs (s : Int) ((s + l : Nat) : Int) false) i = bt bs i := fun i k => filled_out hfil k
      have hyl := hfil.1
      have HALL := Lib.hid hall; clear hall hfil
      obtain ⟨ys, hys⟩ : ∃ ys, ys = fillL bs (s : Int) ((s + l : Nat) : Int) false := ⟨_, rfl⟩
      rw [← hys] at hfc hfs hin hout hyl
      have hFF : freeN ys nn = freeN bs nn + l := by unfold freeN; rw [HALL.out] at hfc; simp at hfc; omega
      have hFle : freeN bs nn ≤ nn := by unfold freeN; omega
      have hne : cnt (bt ys) s l ≠ l := by rw [hfs]; simp; omega
      have hfm := fun (V : World) (hV : Below w.heap.size w V) => free_ok A bs.length c w.heap.size bs V nn (H.out V hV) hV.size (by omega) (by omega)
      have hfa := fun (A' : Option Addr) (c' B : Nat) (V : World) (hh : Holds V B A' bs.length ys) (hB : B ≤ V.heap.size) => free_ok A' bs.length c' B ys V nn hh hB (by omega) (by omega)
      have hg2 := fun (A' : Option Addr) (c' B : Nat) (V : World) (hh : Holds V B A' bs.length ys) (hB : B ≤ V.heap.size) => give_run A' bs.length c' B ys V nn s l hh hB (by omega) (by omega) (by omega) (by omega)
      obtain ⟨F, hF⟩ : ∃ F, F = freeN bs nn := ⟨_, rfl⟩
      obtain ⟨F2, hF2⟩ : ∃ F2, F2 = freeN ys nn := ⟨_, rfl⟩
      rw [← hF] at hfm hFF hFle
      rw [← hF2] at hfa hFF
      have e1 : IntKind.i64.wrap ((F : Int) + (l : Int)) = (F2 : Int) := by rw [IntWalk.i64_in _ (by omega)]; omega
      obtain ⟨E, hE⟩ : ∃ E, E = s + l := ⟨_, rfl⟩
      have e2 : IntKind.i64.wrap ((s : Int) + (l : Int)) = (E : Int) := by rw [IntWalk.i64_in _ (by omega)]; omega
      obtain ⟨N, hN⟩ : ∃ N, N = 8 * bs.length := ⟨_, rfl⟩
      have hwl : IntKind.i64.wrap (8 * (bs.length : Int)) = (N : Int) := by rw [IntKind.wrap_i64]; omega
      have HN5 := Lib.hid (show N ≤ 1125899906809856 by omega)
      rw [← hE] at hin hout
      have HIN := Lib.hid hin; clear hin
      have HOUT := Lib.hid hout; clear hout
      have HNE := Lib.hid hne; clear hne
      have HYS := Lib.hid hys; clear hys
      have HFM := Lib.hid hfm; clear hfm
      have HFA := Lib.hid hfa; clear hfa
      have HG2 := Lib.hid hg2; clear hg2
      clear hfc hfs hyl hF hF2 hFF hFle hE hN hle
      obtain ⟨W0, hW0⟩ : ∃ W0, W0 = w.alloc (.cells (spanV (s : Int) (l : Int)) 27) := ⟨_, rfl⟩
      have hb0 : Below w.heap.size w W0 := by rw [hW0]; exact (Below.refl _ w).alloc (Nat.le_refl _) _
      have hx0 : W0.heap[w.heap.size]? = some (.cells (spanV (s : Int) (l : Int)) 27 (0, 0)) := by rw [hW0]; exact heap_alloc_new w _
      have hz0 : W0.heap.size = w.heap.size + 1 := by rw [hW0]; simp
      have HLD := Lib.hid (fun (V : World) (hV : Below W0.heap.size W0 V) => run_ldS V w.heap.size (s : Int) (l : Int) ((hV.block w.heap.size (by omega)).trans hx0))
      have hlc : ∀ (V : World), Below W0.heap.size W0 V → V.cell? ⟨w.heap.size, 0, none⟩ = some (.int .i64 (s : Int)) ∧ V.cell? ⟨w.heap.size, 1, none⟩ = some (.int .i64 (l : Int)) := fun V hV => by
        have hh := (hV.block w.heap.size (by omega)).trans hx0
        exact ⟨cell_of_row V _ 0 _ _ _ hh, cell_of_row V _ 1 _ _ _ hh⟩
      have HLC := Lib.hid hlc; clear hlc
      have HM := Lib.hid (fun (V : World) (hV : Below W0.heap.size W0 V) => hb0.trans (hV.mono hb0.size)); clear hb0 hx0
      have HW := Lib.hid hW0; clear hW0
      go_enter Try.func9, Try.ntmps9
      go_wp2_with fail
      rw [← HW.out]
      with_reducible refine (alive_any W0).mono ?_
      rintro e w1 ⟨rfl, hb1⟩
      have HC1 := Lib.hid hb1; clear hb1
      have l1 := HLD.out w1 HC1.out
      go_wp2_with fail
      with_reducible refine (HGI.out w1 (HM.out _ HC1.out)).mono ?_
      rintro e w2 ⟨-, hg⟩
      obtain ⟨Aa, ca, rfl, hb2, ho2, -⟩ := hg HALL.out
      rw [← HYS.out] at ho2
      have HC2 := Lib.hid (thenB HC1.out hb2)
      have hG := fun (V : World) (hV : Below w2.heap.size w2 V) => (Owned.reads ho2).below hV
      have G := Lib.hid hG; clear hG ho2 hg hb2 HC1 l1
      go_wp2_with fail
      with_reducible refine (HFM.out w2 (HM.out _ HC2.out)).mono ?_
      rintro e w3 ⟨rfl, hb3⟩
      have HC3 := Lib.hid (thenB HC2.out hb3)
      have HG3 := Lib.hid hb3; clear hb3 HC2
      go_wp2_with fail
      with_reducible refine (HFA.out Aa ca w2.heap.size w3 (G.out w3 HG3.out) HG3.out.size).mono ?_
      rintro e w4 ⟨rfl, hb4⟩
      have HC4 := Lib.hid (thenB HC3.out hb4)
      have HG4 := Lib.hid (thenB HG3.out hb4); clear hb4 HC3 HG3
      have l4 := HLD.out w4 HC4.out
      go_wp2_with fail
      with_reducible refine (HG2.out Aa ca w2.heap.size w4 (G.out w4 HG4.out) HG4.out.size).mono ?_
      rintro e w5 ⟨hg, -⟩
      obtain ⟨rfl, hb5⟩ := hg HNE.out
      have hC5 := thenB HC4.out hb5
      have hG5 := thenB HG4.out hb5
      obtain ⟨c50, c51⟩ := HLC.out w5 hC5
      have hget1 := fun (q : Nat) (hq : (q : Int) < 9223372036854775808) => get_any Aa bs.length ca w2.heap.size ys (q : Int) w5 (G.out _ hG5) hq
      have hget2 := fun (q : Nat) (hq : (q : Int) < 9223372036854775808) => get_any A bs.length c w.heap.size bs (q : Int) w5 (H.out _ (HM.out _ hC5)) hq
      have HGET1 := Lib.hid hget1; clear hget1
      have HGET2 := Lib.hid hget2; clear hget2
      have HF := Lib.hid (HM.out _ hC5); clear hC5 hG5 hb5 hg HC4 HG4 l4
      go_wp2_with fail
      go_loopw [15, 16] (fun i _ V => ∃ q : Nat, q ≤ N ∧ i = .int .i64 (q : Int) ∧ V = w5) (fun i _ _ => N - (intOf i).toNat)
      case atStart => exact ⟨0, Nat.zero_le _, by first | trivial | rfl, by first | trivial | rfl⟩
      case round =>
        obtain ⟨q, hq, rfl, hV⟩ := hrel
        have hV' : w5 = _ := hV.symm
        subst hV'
        clear hV
        rcases Nat.lt_or_ge q N with hltq | hge
        · have hq50 : q ≤ 1125899906809856 := by have := HN5.out; omega
          have hqi : (q : Int) < (N : Int) := by omega
          have hg1 := HGET1.out q (by omega)
          have hg2 := HGET2.out q (by omega)
          rw [getB_nat] at hg1 hg2
          have hvi := HIN.out q
          have hvo := HOUT.out q
          have HG1 := Lib.hid hg1; clear hg1
          have HG2 := Lib.hid hg2; clear hg2
          generalize bt ys q = gy at *
          generalize bt bs q = gm at *
          by_cases i1 : s ≤ q
          · have i1' : (s : Int) ≤ (q : Int) := by omega
            by_cases i2 : q < E
            · have i2' : (q : Int) < (E : Int) := by omega
              obtain ⟨rfl, rfl⟩ := hvi i1 i2
              clear hvo hvi
              go_wp2_with fail
              with_reducible refine HG1.out.mono ?_
              rintro e w6 ⟨rfl, rfl⟩
              go_wp2_with fail
              with_reducible refine HG2.out.mono ?_
              rintro e w6 ⟨rfl, rfl⟩
              go_wp2
              go_roundw
              case rel => exact ⟨q + 1, by omega, by go_num, by trivial⟩
              case measure => simp [intOf]; omega
            · have i2' : ¬ (q : Int) < (E : Int) := by omega
              obtain rfl := hvo (by omega)
              clear hvo hvi
              go_wp2_with fail
              with_reducible refine HG1.out.mono ?_
              rintro e w6 ⟨rfl, rfl⟩
              go_wp2_with fail
              with_reducible refine HG2.out.mono ?_
              rintro e w6 ⟨rfl, rfl⟩
              go_wp2
              go_roundw
              case rel => exact ⟨q + 1, by omega, by go_num, by trivial⟩
              case measure => simp [intOf]; omega
          · have i1' : ¬ (s : Int) ≤ (q : Int) := by omega
            obtain rfl := hvo (by omega)
            clear hvo hvi
            go_wp2_with fail
            with_reducible refine HG1.out.mono ?_
            rintro e w6 ⟨rfl, rfl⟩
            go_wp2_with fail
            with_reducible refine HG2.out.mono ?_
            rintro e w6 ⟨rfl, rfl⟩
            go_wp2
            go_roundw
            case rel => exact ⟨q + 1, by omega, by go_num, by trivial⟩
            case measure => simp [intOf]; omega
        · have hqi : ¬ (q : Int) < (N : Int) := by omega
          go_wp2
          go_ret
          exact ⟨rfl, HF.out⟩
    · have HALL := Lib.hid hall; clear hall
      obtain ⟨W0, hW0⟩ : ∃ W0, W0 = w.alloc (.cells (spanV (s : Int) (l : Int)) 27) := ⟨_, rfl⟩
      have hb0 : Below w.heap.size w W0 := by rw [hW0]; exact (Below.refl _ w).alloc (Nat.le_refl _) _
      have hx0 : W0.heap[w.heap.size]? = some (.cells (spanV (s : Int) (l : Int)) 27 (0, 0)) := by rw [hW0]; exact heap_alloc_new w _
      have hz0 : W0.heap.size = w.heap.size + 1 := by rw [hW0]; simp
      have HLD := Lib.hid (fun (V : World) (hV : Below W0.heap.size W0 V) => run_ldS V w.heap.size (s : Int) (l : Int) ((hV.block w.heap.size (by omega)).trans hx0))
      have hlc : ∀ (V : World), Below W0.heap.size W0 V → V.cell? ⟨w.heap.size, 0, none⟩ = some (.int .i64 (s : Int)) ∧ V.cell? ⟨w.heap.size, 1, none⟩ = some (.int .i64 (l : Int)) := fun V hV => by
        have hh := (hV.block w.heap.size (by omega)).trans hx0
        exact ⟨cell_of_row V _ 0 _ _ _ hh, cell_of_row V _ 1 _ _ _ hh⟩
      have HLC := Lib.hid hlc; clear hlc
      have HM := Lib.hid (fun (V : World) (hV : Below W0.heap.size W0 V) => hb0.trans (hV.mono hb0.size)); clear hb0 hx0
      have HW := Lib.hid hW0; clear hW0
      go_enter Try.func9, Try.ntmps9
      go_wp2_with fail
      rw [← HW.out]
      with_reducible refine (alive_any W0).mono ?_
      rintro e w1 ⟨rfl, hb1⟩
      have HC1 := Lib.hid hb1; clear hb1
      have l1 := HLD.out w1 HC1.out
      go_wp2_with fail
      with_reducible refine (HGI.out w1 (HM.out _ HC1.out)).mono ?_
      rintro e w2 ⟨hg, -⟩
      obtain ⟨rfl, hb2⟩ := hg HALL.out
      have HF := Lib.hid (HM.out _ (thenB HC1.out hb2)); clear hb2 hg
      go_wp2
      go_ret
      exact ⟨rfl, HF.out⟩

theorem walks : Walks 9 Try.f9 All := by
  intro H enc W base args ds p hval hA hsz _
  rw [Try.params9] at hA hval hsz
  obtain ⟨v0, vs0, d0, ds0, p0, q0, hargs, rfl, rfl, h0, r0⟩ := trodAll_cons hA
  obtain ⟨v1, vs1, d1, ds1, p1, q1, rfl, rfl, rfl, h1, r1⟩ := trodAll_cons r0
  obtain ⟨v2, vs2, d2, ds2, p2, q2, rfl, rfl, rfl, h2, r2⟩ := trodAll_cons r1
  obtain ⟨rfl, rfl, rfl⟩ := trodAll_nil r2
  obtain rfl : args = #[v0, v1, v2] := by cases args; simp_all
  obtain ⟨A, n, c, bs, rfl, hb, hn, hc⟩ := open_bytesC (hval 0 _ v0 rfl rfl) h0 _ (reach_bytes hsz (j := 0) rfl rfl)
  obtain ⟨x1, rfl, rfl, rfl, hx1⟩ := open_int Try.underlying3 (hval 1 _ v1 rfl rfl) h1
  have bx1 := bounds_i64 hx1
  obtain ⟨s, l, rfl, hs, hl⟩ := open_span (hval 2 _ v2 rfl rfl) h2
  exact walk A n c bs x1 s l W hb hn hc (by omega) hs.2

set_option maxRecDepth 100000 in
theorem proved : Rows.BuddyTwiceSaid :=
  OpenClaim.holds_of_wide 9 Try.f9 rfl rfl rfl rfl rfl rfl rfl ⟨rfl, rfl, rfl, rfl, rfl⟩ rfl rfl rfl rfl rfl (by kernel_rfl) Try.func9 (by kernel_rfl)
    (of_decide_eq_true (by kernel_rfl)) (by unfold Func.isWrapper; first | (rw [if_pos (by decide +kernel)]; kernel_rfl) | (rw [if_neg (by decide +kernel)]; exact ⟨rfl, rfl⟩))
    (fun os started H enc _ => lifted (s := Rows.buddyTwiceSpec) walks (by kernel_rfl) rfl rfl (fun H ds hl => by match ds, hl with | [d1, d2, d3], _ => rfl) (by kernel_rfl) Try.func9 os started H enc
      (ChangeSpec.witness6 (enc := enc) (C := Try.checked) false ⟨#[], #[.slice none 0 0, .int .i64 0, .agg #[.int .i64 0, .int .i64 0]], []⟩ 8 (by kernel_rfl) (by kernel_rfl) (by kernel_rfl) (by kernel_rfl)))
#print axioms proved
end Go.Proofs.Ytnkiblifnknbkaa.BuddyTwice
