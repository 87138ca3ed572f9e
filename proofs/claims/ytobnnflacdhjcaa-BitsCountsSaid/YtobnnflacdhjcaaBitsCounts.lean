/- BitsCounts: for every list of bytes and every number, the program's count of all bits is the number of bits that it gets as 1, and the counts of the two parts at the number add up to it. -/
import Derived.Test.YtobnnflacdhjcaaBtAlive
import Derived.Deep.RegionHeld
import Derived.Test.YtobnnflacdhjcaaLift
namespace Go.Proofs.Ytobnnflacdhjcaa.BitsCounts
set_option maxRecDepth 20000
open Go Go.ChangeShapes Go.WideShapes Go.ChangeAt Go.RowKit
open Go.Proofs.Ytobnnflacdhjcaa.Mem Go.Proofs.Ytobnnflacdhjcaa.Bt Go.Proofs.Ytobnnflacdhjcaa.Rec Go.Proofs.Ytobnnflacdhjcaa.Bits Go.Proofs.Ytobnnflacdhjcaa.Lift

set_option maxRecDepth 100000 in
set_option maxHeartbeats 4000000 in
theorem walk (A : Option Addr) (n c : Nat) (bs : List UInt8) (at_ : Int) (w : World) (h : Holds w w.heap.size A n bs) (hc : n ≤ c) (hm : c ≤ 140737488351232) (f1 : -9223372036854775808 ≤ at_) (f2 : at_ ≤ 9223372036854775807) :
    Calls Try.prog 6 #[.slice A n c, .int .i64 at_] w fun e w' => e = .returned (.bool true) ∧ Below w.heap.size w w' := by
  obtain rfl : bs.length = n := h.1
  have hn : bs.length ≤ 140737488351232 := by omega
  have HM := fun (V : World) (hb : Below w.heap.size w V) => h.below hb
  have H := Lib.hid HM; clear HM h
  obtain ⟨N, hN⟩ : ∃ N, N = 8 * bs.length := ⟨_, rfl⟩
  have hNI : (N : Int) = 8 * (bs.length : Int) := by omega
  have hlen8 : hiN bs.length (N : Int) = N := by unfold hiN hiE; split <;> omega
  obtain ⟨Ka, hKa⟩ : ∃ K, K = cnt (bt bs) 0 (hiN bs.length at_) := ⟨_, rfl⟩
  obtain ⟨Kb, hKb⟩ : ∃ K, K = cnt (bt bs) at_.toNat (N - at_.toNat) := ⟨_, rfl⟩
  obtain ⟨K, hK⟩ : ∃ K, K = cnt (bt bs) 0 N := ⟨_, rfl⟩
  have hKN : K ≤ N := hK ▸ cnt_le _ _ _
  have hKaN : Ka ≤ N := by have := cnt_le (bt bs) 0 (hiN bs.length at_); have := hiN_le bs.length at_; omega
  have hKbN : Kb ≤ N := by have := cnt_le (bt bs) at_.toNat (N - at_.toNat); omega
  have hadd : 0 ≤ at_ → at_ ≤ (N : Int) → Ka + Kb = K := fun h1 h2 => by
    have e : hiN bs.length at_ = at_.toNat := by unfold hiN hiE; split <;> omega
    rw [hKa, hKb, hK, e]
    have := cnt_add (bt bs) 0 at_.toNat (N - at_.toNat)
    rw [Nat.zero_add, show at_.toNat + (N - at_.toNat) = N by omega] at this
    exact this.symm
  have hlow : at_ < 0 → Kb = K := fun h1 => by
    rw [hKb, hK, show at_.toNat = 0 by omega, Nat.sub_zero]
  have hhigh : (N : Int) < at_ → Ka = K := fun h1 => by
    have e : hiN bs.length at_ = N := by unfold hiN hiE; split <;> omega
    rw [hKa, hK, e]
  have hca := fun (V : World) (hb : Below w.heap.size w V) => count_any A bs.length c w.heap.size bs 0 (N : Int) V (H.out V hb) hb.size (by omega)
  have hcb := fun (V : World) (hb : Below w.heap.size w V) => count_any A bs.length c w.heap.size bs 0 at_ V (H.out V hb) hb.size (by omega)
  have hcc := fun (V : World) (hb : Below w.heap.size w V) => count_any A bs.length c w.heap.size bs at_ (N : Int) V (H.out V hb) hb.size (by omega)
  simp only [hlen8, Int.toNat_zero, Nat.sub_zero] at hca hcb hcc
  simp only [← hKa, ← hKb, ← hK] at hca hcb hcc
  have HCA := Lib.hid hca; clear hca
  have HCB := Lib.hid hcb; clear hcb
  have HCC := Lib.hid hcc; clear hcc hlen8 hKa hKb
  have HK := Lib.hid hK; clear hK
  have HN := Lib.hid hN; clear hN
  have hwl : IntKind.i64.wrap (8 * (bs.length : Int)) = (N : Int) := by rw [IntKind.wrap_i64]; omega
  have HNI := Lib.hid hNI; clear hNI
  have HH := Lib.hid (⟨hadd, hlow, hhigh, hn, hKN, hKaN, hKbN⟩ : (0 ≤ at_ → at_ ≤ (N : Int) → Ka + Kb = K) ∧ (at_ < 0 → Kb = K) ∧ ((N : Int) < at_ → Ka = K) ∧ bs.length ≤ 140737488351232 ∧ K ≤ N ∧ Ka ≤ N ∧ Kb ≤ N)
  clear hadd hlow hhigh hKN hKaN hKbN hn
  go_enter Try.func6, Try.ntmps6
  go_wp2_with fail
  with_reducible refine (alive_any w).mono ?_
  rintro e w1 ⟨rfl, hb1⟩
  have HB1 := Lib.hid hb1; clear hb1
  go_wp2_with fail
  with_reducible refine (HCA.out w1 HB1.out).mono ?_
  rintro e w2 ⟨rfl, hb2⟩
  have HB2 := Lib.hid (HB1.out.trans (hb2.mono HB1.out.size)); clear hb2 HB1
  go_wp2
  go_loopw [7, 8] (fun k i wr => ∃ q : Nat, q ≤ N ∧ i = .int .i64 (q : Int) ∧ k = .int .i64 (cnt (bt bs) 0 q : Int) ∧ Below w.heap.size w wr) (fun _ i _ => N - (intOf i).toNat)
  case atStart => exact ⟨0, Nat.zero_le _, rfl, rfl, HB2.out⟩
  case round =>
    obtain ⟨q, hq, rfl, rfl, hb⟩ := hrel
    have hkq := cnt_le (bt bs) 0 q
    have hN50 : N ≤ 1125899906809856 := by have := HN.out; have := HH.out.2.2.2.1; omega
    rcases Nat.lt_or_ge q N with hlt | hge
    · have hltI : (q : Int) < (N : Int) := by omega
      have hg := get_any A bs.length c w.heap.size bs (q : Int) wr (H.out wr hb) (by omega)
      rw [getB_nat] at hg
      have HG := Lib.hid hg; clear hg
      have HB := Lib.hid hb; clear hb
      obtain ⟨C, hC⟩ : ∃ C, C = cnt (bt bs) 0 q := ⟨_, rfl⟩
      rw [← hC] at hkq ⊢
      have hs : cnt (bt bs) 0 (q + 1) = C + one (bt bs q) := by rw [hC]; simp [cnt]
      have HS := Lib.hid hs; clear hs hC
      go_wp2_with fail
      with_reducible refine HG.out.mono ?_
      rintro e w3 ⟨rfl, rfl⟩
      clear HG
      cases hbit : bt bs q
      all_goals
        rw [hbit] at HS
        clear hbit
        go_wp2
        go_roundw
        case rel => exact ⟨q + 1, by omega, by go_num, by rw [HS.out]; simp only [one]; go_num, HB.out⟩
        case measure => simp [intOf]; omega
    · obtain rfl : q = N := by omega
      rw [← HK.out]
      rw [← HK.out] at hkq
      have HB := Lib.hid hb; clear hb hkq hge
      have hltI : ¬ (q : Int) < (q : Int) := by omega
      go_wp2_with fail
      with_reducible refine (HCB.out _ HB.out).mono ?_
      rintro e w3 ⟨rfl, hb3⟩
      have HB3 := Lib.hid (HB.out.trans (hb3.mono HB.out.size)); clear hb3
      go_wp2_with fail
      with_reducible refine (HCC.out _ HB3.out).mono ?_
      rintro e w4 ⟨rfl, hb4⟩
      have HB4 := Lib.hid (HB3.out.trans (hb4.mono HB3.out.size)); clear hb4
      obtain ⟨g1, g2, g3, -, g5, g6, g7⟩ := HH.out
      by_cases c1 : at_ < 0
      · have e1 := g2 c1
        have c2 : ¬ (q : Int) < at_ := by omega
        subst e1
        have e2 : IntKind.i64.wrap (0 + (Kb : Int)) = (Kb : Int) := by rw [IntKind.wrap_i64]; omega
        have e3 : IntKind.i64.wrap ((Kb : Int)) = (Kb : Int) := by rw [IntKind.wrap_i64]; omega
        clear g1 g2 g3 g5 g6 g7
        go_wp2
        go_ret
        exact ⟨rfl, HB4.out⟩
      · by_cases c2 : (q : Int) < at_
        · have e1 := g3 c2
          subst e1
          have e2 : IntKind.i64.wrap ((Ka : Int) + 0) = (Ka : Int) := by rw [IntKind.wrap_i64]; omega
          have e3 : IntKind.i64.wrap ((Ka : Int)) = (Ka : Int) := by rw [IntKind.wrap_i64]; omega
          clear g1 g2 g3 g5 g6 g7
          go_wp2
          go_ret
          exact ⟨rfl, HB4.out⟩
        · have e1 := g1 (by omega) (by omega)
          have e2 : IntKind.i64.wrap ((Ka : Int) + (Kb : Int)) = (K : Int) := by rw [IntKind.wrap_i64]; omega
          clear g1 g2 g3 g5 g6 g7 e1
          go_wp2
          go_ret
          exact ⟨rfl, HB4.out⟩

theorem walks : Walks 6 Try.f6 All := by
  intro H enc W base args ds p hval hA hsz _
  rw [Try.params6] at hA hval hsz
  obtain ⟨v0, vs0, d0, ds0, p0, q0, hargs, rfl, rfl, h0, r0⟩ := trodAll_cons hA
  obtain ⟨v1, vs1, d1, ds1, p1, q1, rfl, rfl, rfl, h1, r1⟩ := trodAll_cons r0
  obtain ⟨rfl, rfl, rfl⟩ := trodAll_nil r1
  obtain rfl : args = #[v0, v1] := by cases args; simp_all
  obtain ⟨A, n, c, bs, rfl, hb, hn, hc⟩ := open_bytesC (hval 0 _ v0 rfl rfl) h0 _ (reach_bytes hsz (j := 0) rfl rfl)
  obtain ⟨x1, rfl, rfl, rfl, hx1⟩ := open_int Try.underlying3 (hval 1 _ v1 rfl rfl) h1
  have bx1 := bounds_i64 hx1
  exact walk A n c bs x1 W hb hn hc (by omega) (by omega)

set_option maxRecDepth 100000 in
theorem proved : Rows.BitsCountsSaid :=
  OpenClaim.holds_of_wide 6 Try.f6 rfl rfl rfl rfl rfl rfl rfl ⟨rfl, rfl, rfl, rfl, rfl⟩ rfl rfl rfl rfl rfl (by kernel_rfl) Try.func6 (by kernel_rfl)
    (of_decide_eq_true (by kernel_rfl)) (by unfold Func.isWrapper; first | (rw [if_pos (by decide +kernel)]; kernel_rfl) | (rw [if_neg (by decide +kernel)]; exact ⟨rfl, rfl⟩))
    (fun os started H enc _ => lifted (s := Rows.bitsCountsSpec) walks (by kernel_rfl) rfl rfl (fun H ds hl => by match ds, hl with | [d1, d2], _ => rfl) (by kernel_rfl) Try.func6 os started H enc
      (ChangeSpec.witness6 (enc := enc) (C := Try.checked) false ⟨#[], #[.slice none 0 0, .int .i64 0], []⟩ 8 (by kernel_rfl) (by kernel_rfl) (by kernel_rfl) (by kernel_rfl)))
#print axioms proved
end Go.Proofs.Ytobnnflacdhjcaa.BitsCounts
