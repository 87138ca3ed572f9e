/- BitsLongest: for every list of bytes and all numbers from and to, the run that the program's Longest tells is free, is the first of its length, and none is longer. -/
import Derived.Test.YtobnnflacdhjcaaBtAlive
import Derived.Deep.RegionHeld
import Derived.Test.YtobnnflacdhjcaaLift
namespace Go.Proofs.Ytobnnflacdhjcaa.BitsLongest
set_option maxRecDepth 20000
open Go Go.ChangeShapes Go.WideShapes Go.ChangeAt Go.RowKit
open Go.Proofs.Ytobnnflacdhjcaa.Mem Go.Proofs.Ytobnnflacdhjcaa.Bt Go.Proofs.Ytobnnflacdhjcaa.Rec Go.Proofs.Ytobnnflacdhjcaa.Bits Go.Proofs.Ytobnnflacdhjcaa.Lift

theorem cnt_free {f : Nat → Bool} {a k : Nat} (h : Free f a k) : cnt f a k = 0 := cnt_none fun j hj => h (a + j) (by omega) (by omega)

set_option maxRecDepth 100000 in
set_option maxHeartbeats 4000000 in
theorem walk (A : Option Addr) (n c : Nat) (bs : List UInt8) (fr to : Int) (w : World) (h : Holds w w.heap.size A n bs) (hc : n ≤ c) (hm : c ≤ 140737488351232) (_ : -9223372036854775808 ≤ fr) (_ : fr ≤ 9223372036854775807) (f3 : -9223372036854775808 ≤ to) (f4 : to ≤ 9223372036854775807) :
    Calls Try.prog 7 #[.slice A n c, .int .i64 fr, .int .i64 to] w fun e w' => e = .returned (.bool true) ∧ Below w.heap.size w w' := by
  obtain rfl : bs.length = n := h.1
  have hn : bs.length ≤ 140737488351232 := by omega
  have HM := fun (V : World) (hb : Below w.heap.size w V) => h.below hb
  have H := Lib.hid HM; clear HM h
  have r1 : ∀ (ts : Array TypeId) (t : TypeId) (W : World), (Builtin.max_ ts t #[.int .i64 fr, .int .i64 0]).run Try.prog W = .ok (.int .i64 (fr.toNat : Int)) W := fun ts t W => by
    rw [← loE_nat, run_max_int2]; rfl
  obtain ⟨N, hN⟩ : ∃ N, N = 8 * bs.length := ⟨_, rfl⟩
  have hwl : IntKind.i64.wrap (8 * (bs.length : Int)) = (N : Int) := by rw [IntKind.wrap_i64]; omega
  have hN50 : N ≤ 1125899906809856 := by omega
  obtain ⟨b, hb⟩ : ∃ b, b = hiN bs.length to := ⟨_, rfl⟩
  obtain ⟨a, ha⟩ : ∃ a, a = fr.toNat := ⟨_, rfl⟩
  have hbN : b ≤ N := by rw [hb, hN]; exact hiN_le _ _
  have hbto : ∀ q : Nat, (q : Int) < to ∧ q < N ↔ q < b := fun q => by
    rw [hb, hN]; unfold hiN hiE; split <;> omega
  have hlong := fun (V : World) (hv : Below w.heap.size w V) => long_any A bs.length c w.heap.size bs fr to V (H.out V hv) hv.size (by omega)
  have hfst := fun (V : World) (hv : Below w.heap.size w V) => first_any A bs.length c w.heap.size bs fr to false V (H.out V hv) hv.size (by omega)
  rw [← ha] at r1
  simp only [← hb, ← ha] at hlong hfst
  have HL := Lib.hid hlong; clear hlong
  have HFS := Lib.hid hfst; clear hfst
  have HN := Lib.hid hN; clear hN hb
  have HA := Lib.hid ha; clear ha
  have HBTO := Lib.hid hbto; clear hbto
  go_enter Try.func7, Try.ntmps7
  go_wp2_with fail
  with_reducible refine (alive_any w).mono ?_
  rintro e w1 ⟨rfl, hb1⟩
  have HB1 := Lib.hid hb1; clear hb1
  go_wp2_with fail
  with_reducible refine (HL.out w1 HB1.out).mono ?_
  rintro e w2 ⟨x, m, hlo, rfl, hb2⟩
  have HB2 := Lib.hid (HB1.out.trans (hb2.mono HB1.out.size)); clear hb2 HB1
  rcases hlo with ⟨rfl, rfl, hall⟩ | ⟨S, rfl, hm0, haS, hSb, hfree, hbest⟩
  · have HALL := Lib.hid hall; clear hall
    go_wp2_with fail
    with_reducible refine (HFS.out w2 HB2.out).mono ?_
    rintro e w3 ⟨r, hr, rfl, hb3⟩
    obtain rfl : r = -1 := by
      rcases hr with ⟨e, -⟩ | ⟨j, -, k1, k2, k3, -⟩
      · exact e
      · have := HALL.out j k1 k2
        simp [this] at k3
    have HB3 := Lib.hid (HB2.out.trans (hb3.mono HB2.out.size)); clear hb3 hr HB2
    go_wp2
    go_ret
    exact ⟨rfl, HB3.out⟩
  · have hSto : (S : Int) + m ≤ to := by
      have := (HBTO.out (S + m - 1)).2 (by omega)
      omega
    have hcnt := fun (V : World) (hv : Below w.heap.size w V) => count_any A bs.length c w.heap.size bs (S : Int) ((S : Int) + (m : Int)) V (H.out V hv) hv.size (by omega)
    have e1 : hiN bs.length ((S : Int) + (m : Int)) - (S : Int).toNat = m := by
      have := HN.out
      unfold hiN hiE; split <;> omega
    have e2 : (S : Int).toNat = S := by omega
    have e3 := cnt_free hfree
    simp only [e1] at hcnt
    rw [e2, e3] at hcnt
    clear e2 e3
    clear e1
    have HCNT := Lib.hid hcnt; clear hcnt
    have hmne : ¬ (m : Int) = 0 := by omega
    have c1 : ¬ (S : Int) < (a : Int) := by omega
    have c2 : ¬ (N : Int) - (m : Int) < (S : Int) := by omega
    have c3 : ¬ to - (m : Int) < (S : Int) := by omega
    have dc1 : decide (S < a) = false := by simp; omega
    have dc2 : decide ((N : Int) - (m : Int) < (S : Int)) = false := by simp; omega
    have dc3 : decide (to - (m : Int) < (S : Int)) = false := by simp; omega
    have w1' : IntKind.i64.wrap ((N : Int) - (m : Int)) = (N : Int) - (m : Int) := by rw [IntKind.wrap_i64]; omega
    have w2' : IntKind.i64.wrap (to - (m : Int)) = to - (m : Int) := by rw [IntKind.wrap_i64]; omega
    have w3' : IntKind.i64.wrap ((S : Int) + (m : Int)) = (S : Int) + (m : Int) := by rw [IntKind.wrap_i64]; omega
    have w4' : IntKind.i64.wrap ((S : Int) + (m : Int) - 1) = (S : Int) + (m : Int) - 1 := by rw [IntKind.wrap_i64]; omega
    have HBEST := Lib.hid hbest; clear hbest
    have HK := Lib.hid (⟨hm0, haS, hSb, hSto, hbN, hN50⟩ : 0 < m ∧ a ≤ S ∧ S + m ≤ b ∧ (S : Int) + m ≤ to ∧ b ≤ N ∧ N ≤ 1125899906809856)
    clear hfree hm0 haS hSb hSto hbN hN50 hn
    go_wp2_with fail
    with_reducible refine (HCNT.out w2 HB2.out).mono ?_
    rintro e w3 ⟨rfl, hb3⟩
    have HB3 := Lib.hid (HB2.out.trans (hb3.mono HB2.out.size)); clear hb3 HB2 HCNT
    go_wp2
    go_loopw [9, 10] (fun run i wr => ∃ q R : Nat, a ≤ q ∧ (q = a ∨ q ≤ b) ∧ run = .int .i64 (R : Int) ∧ i = .int .i64 (q : Int) ∧ R ≤ q - a ∧ Free (bt bs) (q - R) R ∧ Below w.heap.size w wr) (fun _ i _ => b - (intOf i).toNat)
    case atStart => exact ⟨a, 0, Nat.le_refl _, .inl rfl, rfl, rfl, Nat.zero_le _, (fun i k1 k2 => by omega), HB3.out⟩
    case round =>
      obtain ⟨q, R, haq, hqe, rfl, rfl, hRq, hfr, hb⟩ := hrel
      rcases Nat.lt_or_ge q b with hlt | hge
      · obtain ⟨g1, g2⟩ := (HBTO.out q).2 hlt
        have g2' : (q : Int) < (N : Int) := by omega
        have hK := HK.out
        have hg := get_any A bs.length c w.heap.size bs (q : Int) wr (H.out wr hb) (by omega)
        rw [getB_nat] at hg
        have HG := Lib.hid hg; clear hg
        have HB := Lib.hid hb; clear hb
        have HFR := Lib.hid hfr; clear hfr
        have wR : IntKind.i64.wrap ((R : Int) + 1) = (R : Int) + 1 := by rw [IntKind.wrap_i64]; omega
        cases hbit : bt bs q
        · have hfree : Free (bt bs) (q - R) (R + 1) := fun i k1 k2 => by
            rcases Nat.lt_or_ge i q with hl | hl
            · exact HFR.out i k1 (by omega)
            · obtain rfl : i = q := by omega
              exact hbit
          obtain ⟨b1, b2⟩ := HBEST.out (q - R) (R + 1) (by omega) (by omega) (by omega) hfree
          have d1 : ¬ (m : Int) < (R : Int) + 1 := by omega
          rw [hbit] at HG
          have HFREE := Lib.hid hfree; clear hfree hbit HFR
          by_cases d2 : R + 1 = m
          · have d2' : (R : Int) + 1 = (m : Int) := by omega
            have b3 := b2 d2
            have d3 : ¬ (q : Int) < (S : Int) + (m : Int) - 1 := by omega
            clear b2 hK
            go_wp2_with fail
            with_reducible refine HG.out.mono ?_
            rintro e w4 ⟨rfl, rfl⟩
            clear HG
            go_wp2
            go_roundw
            case rel => exact ⟨q + 1, R + 1, by omega, by omega, by go_num, by go_num, by omega, by rw [show q + 1 - (R + 1) = q - R by omega]; exact HFREE.out, HB.out⟩
            case measure => simp [intOf]; omega
          · have d2' : ¬ (R : Int) + 1 = (m : Int) := by omega
            clear b2 hK
            go_wp2_with fail
            with_reducible refine HG.out.mono ?_
            rintro e w4 ⟨rfl, rfl⟩
            clear HG
            go_wp2
            go_roundw
            case rel => exact ⟨q + 1, R + 1, by omega, by omega, by go_num, by go_num, by omega, by rw [show q + 1 - (R + 1) = q - R by omega]; exact HFREE.out, HB.out⟩
            case measure => simp [intOf]; omega
        · have d1 : ¬ (m : Int) < 0 := by omega
          have d2 : ¬ (0 : Int) = (m : Int) := by omega
          rw [hbit] at HG
          clear hbit hK
          go_wp2_with fail
          with_reducible refine HG.out.mono ?_
          rintro e w4 ⟨rfl, rfl⟩
          clear HG
          go_wp2
          go_roundw
          case rel => exact ⟨q + 1, 0, by omega, by omega, rfl, by go_num, Nat.zero_le _, (fun i k1 k2 => by omega), HB.out⟩
          case measure => simp [intOf]; omega
      · have hnot : ¬ ((q : Int) < to ∧ q < N) := fun hh => by have := (HBTO.out q).1 hh; omega
        have HB := Lib.hid hb; clear hb hfr
        by_cases g1 : (q : Int) < to
        · have g2 : ¬ (q : Int) < (N : Int) := fun hh => hnot ⟨g1, by omega⟩
          clear hnot
          go_wp2
          go_ret
          exact ⟨rfl, HB.out⟩
        · clear hnot
          go_wp2
          go_ret
          exact ⟨rfl, HB.out⟩

theorem walks : Walks 7 Try.f7 All := by
  intro H enc W base args ds p hval hA hsz _
  rw [Try.params7] at hA hval hsz
  obtain ⟨v0, vs0, d0, ds0, p0, q0, hargs, rfl, rfl, h0, r0⟩ := trodAll_cons hA
  obtain ⟨v1, vs1, d1, ds1, p1, q1, rfl, rfl, rfl, h1, r1⟩ := trodAll_cons r0
  obtain ⟨v2, vs2, d2, ds2, p2, q2, rfl, rfl, rfl, h2, r2⟩ := trodAll_cons r1
  obtain ⟨rfl, rfl, rfl⟩ := trodAll_nil r2
  obtain rfl : args = #[v0, v1, v2] := by cases args; simp_all
  obtain ⟨A, n, c, bs, rfl, hb, hn, hc⟩ := open_bytesC (hval 0 _ v0 rfl rfl) h0 _ (reach_bytes hsz (j := 0) rfl rfl)
  obtain ⟨x1, rfl, rfl, rfl, hx1⟩ := open_int Try.underlying3 (hval 1 _ v1 rfl rfl) h1
  have bx1 := bounds_i64 hx1
  obtain ⟨x2, rfl, rfl, rfl, hx2⟩ := open_int Try.underlying3 (hval 2 _ v2 rfl rfl) h2
  have bx2 := bounds_i64 hx2
  exact walk A n c bs x1 x2 W hb hn hc (by omega) (by omega) (by omega) (by omega)

set_option maxRecDepth 100000 in
theorem proved : Rows.BitsLongestSaid :=
  OpenClaim.holds_of_wide 7 Try.f7 rfl rfl rfl rfl rfl rfl rfl ⟨rfl, rfl, rfl, rfl, rfl⟩ rfl rfl rfl rfl rfl (by kernel_rfl) Try.func7 (by kernel_rfl)
    (of_decide_eq_true (by kernel_rfl)) (by unfold Func.isWrapper; first | (rw [if_pos (by decide +kernel)]; kernel_rfl) | (rw [if_neg (by decide +kernel)]; exact ⟨rfl, rfl⟩))
    (fun os started H enc _ => lifted (s := Rows.bitsLongestSpec) walks (by kernel_rfl) rfl rfl (fun H ds hl => by match ds, hl with | [d1, d2, d3], _ => rfl) (by kernel_rfl) Try.func7 os started H enc
      (ChangeSpec.witness6 (enc := enc) (C := Try.checked) false ⟨#[], #[.slice none 0 0, .int .i64 0, .int .i64 0], []⟩ 8 (by kernel_rfl) (by kernel_rfl) (by kernel_rfl) (by kernel_rfl)))
#print axioms proved
end Go.Proofs.Ytobnnflacdhjcaa.BitsLongest
