/- BitsFills: for every list of bytes and all numbers from and to, behind the program's Fill with ones, and with zeros, the bits named are turned, and no other one is. -/
import Derived.Test.YtobnnflacdhjcaaBtTold
import Derived.Deep.RegionHeld
import Derived.Test.YtobnnflacdhjcaaLift
namespace Go.Proofs.Ytobnnflacdhjcaa.BitsFills
set_option maxRecDepth 20000
open Go Go.ChangeShapes Go.WideShapes Go.ChangeAt Go.RowKit
open Go.Proofs.Ytobnnflacdhjcaa.Mem Go.Proofs.Ytobnnflacdhjcaa.Bt Go.Proofs.Ytobnnflacdhjcaa.Rec Go.Proofs.Ytobnnflacdhjcaa.Bits Go.Proofs.Ytobnnflacdhjcaa.Lift

set_option maxRecDepth 100000 in
set_option maxHeartbeats 4000000 in
theorem walk (A : Option Addr) (n c : Nat) (bs : List UInt8) (fr to : Int) (w : World) (h : Holds w w.heap.size A n bs) (hc : n ≤ c) (hm : c ≤ 140737488351232) (f1 : -9223372036854775808 ≤ fr) (f2 : fr ≤ 9223372036854775807) (_ : -9223372036854775808 ≤ to) (_ : to ≤ 9223372036854775807) :
    Calls Try.prog 5 #[.slice A n c, .int .i64 fr, .int .i64 to] w fun e w' => e = .returned (.bool true) ∧ Below w.heap.size w w' := by
  obtain rfl : bs.length = n := h.1
  have hn : bs.length ≤ 140737488351232 := by omega
  have HM := fun (V : World) (hb : Below w.heap.size w V) => h.below hb
  have H := Lib.hid HM; clear HM h
  obtain ⟨N, hN⟩ : ∃ N, N = 8 * bs.length := ⟨_, rfl⟩
  have hwl : IntKind.i64.wrap (8 * (bs.length : Int)) = (N : Int) := by rw [IntKind.wrap_i64]; omega
  have hN50 : N ≤ 1125899906809856 := by omega
  have HN := Lib.hid hN; clear hN
  have HN5 := Lib.hid hN50; clear hN50
  have hF := fun (V : World) (v : Bool) (hb : Below w.heap.size w V) => fill_told A bs.length c w.heap.size bs v V fr to (H.out V hb) hb.size (by omega)
  have HF := Lib.hid hF; clear hF
  have hbits : ∀ (v : Bool) (q : Nat), q < N → bt (fillL bs fr to v) q = if (fr ≤ (q : Int) ∧ (q : Int) < to) then v else bt bs q := fun v q hq => by
    rw [(fillL_ok bs fr to v).2 q (by have := HN.out; omega)]
    have e : (fr.toNat ≤ q ∧ q < hiN bs.length to) ↔ (fr ≤ (q : Int) ∧ (q : Int) < to) := by
      have := HN.out
      unfold hiN hiE; split <;> omega
    simp only [e]
  have HBITS := Lib.hid hbits; clear hbits
  have hlens : ∀ v, (fillL bs fr to v).length = bs.length := fun v => (fillL_ok bs fr to v).1
  have HLENS := Lib.hid hlens; clear hlens
  go_enter Try.func5, Try.ntmps5
  go_wp2_with fail
  with_reducible refine (alive_any w).mono ?_
  rintro e w1 ⟨rfl, hb1⟩
  have HB1 := Lib.hid hb1; clear hb1
  go_wp2
  go_loopw [8, 9, 10, 11, 15] (fun _ _ _ _ k wr => ∃ j : Nat, j ≤ 2 ∧ k = .int .i64 (j : Int) ∧ Below w.heap.size w wr) (fun _ _ _ _ k _ => 2 - (intOf k).toNat)
  case atStart => exact ⟨0, by omega, rfl, HB1.out⟩
  case round =>
    obtain ⟨j, hj, rfl, hb⟩ := hrel
    by_cases hlt : j < 2
    · obtain ⟨v, hv⟩ : ∃ v : Bool, ∀ W, (Instr.index 30 (.agg #[.bool true, .bool false]) (.int .i64 (j : Int))).run Try.prog W = .ok (.bool v) W := by
        rcases (show j = 0 ∨ j = 1 by omega) with rfl | rfl
        · exact ⟨true, fun W => by rfl⟩
        · exact ⟨false, fun W => by rfl⟩
      have hji : (j : Int) < 2 := by omega
      have HB := Lib.hid hb; clear hb
      go_wp2_with fail
      with_reducible refine (HF.out _ v HB.out).mono ?_
      rintro e w2 ⟨A2, c2, rfl, hb2, ho2, -⟩
      have HG := fun (V : World) (hb : Below w2.heap.size w2 V) => (Owned.reads ho2).below hb
      have G := Lib.hid HG; clear HG
      have HB2 := Lib.hid (HB.out.trans (hb2.mono HB.out.size)); clear hb2 ho2 HB
      obtain ⟨ys, hys⟩ : ∃ ys, ys = fillL bs fr to v := ⟨_, rfl⟩
      have hyl := HLENS.out v
      have hyb := HBITS.out v
      rw [← hys] at G hyl hyb
      have HYL := Lib.hid hyl; clear hyl
      have HYB := Lib.hid hyb; clear hyb hys
      clear hv
      go_wp2
      go_loopw [10, 11] (fun i _ V => ∃ q : Nat, q ≤ N ∧ i = .int .i64 (q : Int) ∧ Below w2.heap.size w2 V) (fun i _ _ => N - (intOf i).toNat)
      case atStart => exact ⟨0, Nat.zero_le _, rfl, Below.refl _ _⟩
      case round =>
        obtain ⟨q, hq, rfl, hbV⟩ := hrel
        rcases Nat.lt_or_ge q N with hltq | hge
        · have hq50 : q ≤ 1125899906809856 := by have := HN5.out; omega
          have hqi : (q : Int) < (N : Int) := by omega
          have hb9 := HB2.out.trans (hbV.mono HB2.out.size)
          have hg1 := get_any A2 bs.length c2 w2.heap.size ys (q : Int) _ (G.out _ hbV) (by omega)
          have hg2 := get_any A bs.length c w.heap.size bs (q : Int) _ (H.out _ hb9) (by omega)
          rw [getB_nat] at hg1 hg2
          have hv := HYB.out q hltq
          have HG1 := Lib.hid hg1; clear hg1
          have HG2 := Lib.hid hg2; clear hg2 hb9
          have HBV := Lib.hid hbV; clear hbV
          generalize bt ys q = gy at *
          generalize bt bs q = gm at *
          by_cases i1 : fr ≤ (q : Int)
          · by_cases i2 : (q : Int) < to
            · rw [if_pos ⟨i1, i2⟩] at hv
              subst hv
              go_wp2_with fail
              with_reducible refine HG1.out.mono ?_
              rintro e w3 ⟨rfl, rfl⟩
              go_wp2
              go_roundw
              case rel => exact ⟨q + 1, by omega, by go_num, HBV.out⟩
              case measure => simp [intOf]; omega
            · rw [if_neg (by omega)] at hv
              subst hv
              go_wp2_with fail
              with_reducible refine HG1.out.mono ?_
              rintro e w3 ⟨rfl, rfl⟩
              go_wp2_with fail
              with_reducible refine HG2.out.mono ?_
              rintro e w3 ⟨rfl, rfl⟩
              go_wp2
              go_roundw
              case rel => exact ⟨q + 1, by omega, by go_num, HBV.out⟩
              case measure => simp [intOf]; omega
          · rw [if_neg (by omega)] at hv
            subst hv
            go_wp2_with fail
            with_reducible refine HG1.out.mono ?_
            rintro e w3 ⟨rfl, rfl⟩
            go_wp2_with fail
            with_reducible refine HG2.out.mono ?_
            rintro e w3 ⟨rfl, rfl⟩
            go_wp2
            go_roundw
            case rel => exact ⟨q + 1, by omega, by go_num, HBV.out⟩
            case measure => simp [intOf]; omega
        · have hqi : ¬ (q : Int) < (N : Int) := by omega
          have HBE := Lib.hid (HB2.out.trans (hbV.mono HB2.out.size)); clear hbV
          go_wp2
          go_roundw
          case rel => exact ⟨j + 1, by omega, by go_num, HBE.out⟩
          case measure => simp [intOf]; omega
    · obtain rfl : j = 2 := by omega
      have HB := Lib.hid hb; clear hb
      go_wp2
      go_ret
      exact ⟨rfl, HB.out⟩

theorem walks : Walks 5 Try.f5 All := by
  intro H enc W base args ds p hval hA hsz _
  rw [Try.params5] at hA hval hsz
  obtain ⟨v0, vs0, d0, ds0, p0, q0, hargs, rfl, rfl, h0, r0⟩ := trodAll_cons hA
  obtain ⟨v1, vs1, d1, ds1, p1, q1, rfl, rfl, rfl, h1, r1⟩ := trodAll_cons r0
  obtain ⟨v2, vs2, d2, ds2, p2, q2, rfl, rfl, rfl, h2, r2⟩ := trodAll_cons r1
  obtain ⟨rfl, rfl, rfl⟩ := trodAll_nil r2
  obtain rfl : args = #[v0, v1, v2] := by cases args; simp_all
  obtain ⟨A, n, c, bs, rfl, hb, hn, hc⟩ := open_bytesC (hval 0 _ v0 rfl rfl) h0 _ (reach_bytes hsz (j := 0) rfl rfl)
  obtain ⟨x1, rfl, rfl, rfl, hx1⟩ := open_int Try.underlying3 (hval 1 _ v1 rfl rfl) h1
  have bx1 := bounds_i64 hx1
  obtain ⟨x2, rfl, rfl, rfl, hx2⟩ := open_int Try.underlying3 (hval 2 _ v2 rfl rfl) h2
  have bx2 := bounds_i64 hx2
  exact walk A n c bs x1 x2 W hb hn hc (by omega) (by omega) (by omega) (by omega)

set_option maxRecDepth 100000 in
theorem proved : Rows.BitsFillsSaid :=
  OpenClaim.holds_of_wide 5 Try.f5 rfl rfl rfl rfl rfl rfl rfl ⟨rfl, rfl, rfl, rfl, rfl⟩ rfl rfl rfl rfl rfl (by kernel_rfl) Try.func5 (by kernel_rfl)
    (of_decide_eq_true (by kernel_rfl)) (by unfold Func.isWrapper; first | (rw [if_pos (by decide +kernel)]; kernel_rfl) | (rw [if_neg (by decide +kernel)]; exact ⟨rfl, rfl⟩))
    (fun os started H enc _ => lifted (s := Rows.bitsFillsSpec) walks (by kernel_rfl) rfl rfl (fun H ds hl => by match ds, hl with | [d1, d2, d3], _ => rfl) (by kernel_rfl) Try.func5 os started H enc
      (ChangeSpec.witness6 (enc := enc) (C := Try.checked) false ⟨#[], #[.slice none 0 0, .int .i64 0, .int .i64 0], []⟩ 8 (by kernel_rfl) (by kernel_rfl) (by kernel_rfl) (by kernel_rfl)))
#print axioms proved
end Go.Proofs.Ytobnnflacdhjcaa.BitsFills
