/- A number's bytes are read as the number again, also when the first answer was written over meanwhile: proved for every number and every count. -/
import Derived.Test.YtemkdnakkdnbhaaLift
namespace Go.Proofs.Ytemkdnakkdnbhaa.CrcBack
open Go.ChangeShapes Go.WideShapes Go.ChangeAt Go.RowKit
open Go.Proofs.Ytemkdnakkdnbhaa.Crc Go.Proofs.Ytemkdnakkdnbhaa.Lift

theorem bytesL_get (v L k : Nat) (hk : k < L) : (bytesL v L).getD k 0 = byteN v k := by
  simp [bytesL, List.getD, hk]

theorem num_bytes (v L : Nat) : ∀ k, k ≤ L → numAt (bytesL v L) k = v % 2 ^ (8 * k)
  | 0, _ => by simp [numAt, Nat.mod_one]
  | k + 1, hk => by
    have ih := num_bytes v L k (by omega)
    show numAt (bytesL v L) k ||| ((bytesL v L).getD k 0).toNat * 2 ^ (8 * k) = _
    rw [ih, bytesL_get v L k (by omega)]
    have e : (byteN v k).toNat = v / 2 ^ (8 * k) % 256 := by simp [byteN]
    have hlt : v % 2 ^ (8 * k) < 2 ^ (8 * k) := Nat.mod_lt _ (Nat.pow_pos (by omega))
    rw [e, Nat.or_comm, Nat.mul_comm, ← Nat.two_pow_add_eq_or_of_lt hlt, show 8 * (k + 1) = 8 * k + 8 by omega, Nat.pow_add, Nat.mod_mul, show (2 : Nat) ^ 8 = 256 from rfl]
    omega

theorem want_bits (v n : Nat) (hv : v < 18446744073709551616) (hn : n < 8) :
    bits .and .u64 (v : Int) (IntKind.u64.wrap (IntKind.u64.wrap (2 ^ (8 * n)) - 1)) = ((v % 2 ^ (8 * n) : Nat) : Int) := by
  have hp : 2 ^ (8 * n) ≤ 2 ^ 56 := Nat.pow_le_pow_right (by omega) (by omega)
  have hp0 : 0 < 2 ^ (8 * n) := Nat.pow_pos (by omega)
  have e1 : ((2 : Int) ^ (8 * n)) = ((2 ^ (8 * n) : Nat) : Int) := by simp
  have e2 : IntKind.u64.wrap ((2 ^ (8 * n) : Nat) : Int) = ((2 ^ (8 * n) : Nat) : Int) := by rw [IntKind.wrap_u64]; omega
  have e3 : IntKind.u64.wrap (((2 ^ (8 * n) : Nat) : Int) - 1) = ((2 ^ (8 * n) - 1 : Nat) : Int) := by rw [IntKind.wrap_u64]; omega
  rw [e1, e2, e3, u64_and_nat _ _ hv (by omega), Nat.and_two_pow_sub_one_eq_mod]

set_option maxRecDepth 100000 in
theorem walk_less (v : Nat) (n : Nat) (w : World) (hv : v < 18446744073709551616) (hn : n < 8) :
    Calls Try.prog 8 #[.int .u64 (v : Int), .int .i64 (n : Int)] w fun e w' => e = .returned (.bool true) ∧ Below w.heap.size w w' := by
  have h0 : ¬ ((n : Int) < 0) := by omega
  have h8 : (n : Int) < 8 := by omega
  obtain ⟨X, hX⟩ : ∃ X, v % 2 ^ (8 * n) = X := ⟨_, rfl⟩
  have HX : Hid (numAt (bytesL v n) n = X) := (num_bytes v n n (by omega)).trans hX
  have hWant := want_bits v n hv hn
  rw [hX] at hWant
  clear hX
  go_enter Try.func8, Try.ntmps8
  go_wp2_with fail
  refine (alive_any w).mono ?_
  rintro e w1 ⟨rfl, hb1⟩
  go_wp2_with fail
  refine (bytes_any v (n : Int) w1 n (by omega) (by omega) (by omega)).mono ?_
  rintro e w' ⟨rfl, rfl⟩
  have hp := holds_lit w1 (bytesL v n) (bAt v n n) (bAt_full v n) (0, 0)
  rw [bytesL_len] at hp
  go_wp2_with fail
  refine (number_any _ n n _ (bytesL v n) _ hp (by omega)).mono ?_
  rintro e w' ⟨rfl, rfl⟩
  rw [HX.out]
  clear hp
  go_wp2
  go_loopw [9] (fun i wr => ∃ (k : Nat) (cs : Array Value), k ≤ n ∧ i = .int .i64 k ∧ cs.size = n ∧ wr = w1.alloc (.cells cs 5)) (fun i _ => n - (intOf i).toNat)
  case atStart => exact ⟨0, _, by omega, rfl, part_size _ _ _ _, rfl⟩
  case round =>
    obtain ⟨k, cs, hk, rfl, hcs, rfl⟩ := hrel
    have hb2 := hb1.alloc hb1.size (.cells cs 5)
    by_cases hlt : k < n
    · go_wp2
      go_roundw
      case rel => exact ⟨k + 1, cs.setIfInBounds k (.int .u8 77), by omega, by go_num, by rw [Array.size_setIfInBounds]; exact hcs, rfl⟩
      case measure => simp [intOf]; omega
    · obtain rfl : n = k := by omega
      clear hcs hb1
      generalize w1.alloc (.cells cs 5) = w2 at hb2 ⊢
      go_wp2_with fail
      refine (bytes_any v (n : Int) w2 n (by omega) (by omega) (by omega)).mono ?_
      rintro e w' ⟨rfl, rfl⟩
      have hp := holds_lit w2 (bytesL v n) (bAt v n n) (bAt_full v n) (0, 0)
      rw [bytesL_len] at hp
      have hb3 := hb2.alloc hb2.size (.cells (bAt v n n) 5)
      go_wp2_with fail
      refine (number_any _ n n _ (bytesL v n) _ hp (by omega)).mono ?_
      rintro e w' ⟨rfl, rfl⟩
      rw [HX.out]
      clear hp
      go_wp2
      go_ret
      exact ⟨rfl, hb3⟩

set_option maxRecDepth 100000 in
theorem walk_eight (v : Nat) (n : Int) (w : World) (hv : v < 18446744073709551616) (hn : 8 < n) (h2 : n ≤ 9223372036854775807) :
    Calls Try.prog 8 #[.int .u64 (v : Int), .int .i64 n] w fun e w' => e = .returned (.bool true) ∧ Below w.heap.size w w' := by
  have h0 : ¬ (n < 0) := by omega
  have h8 : ¬ (n < 8) := by omega
  have h9 : ¬ (n ≤ 8) := by omega
  have HX : Hid (numAt (bytesL v 8) 8 = v) := (num_bytes v 8 8 (by omega)).trans (Nat.mod_eq_of_lt (by omega))
  go_enter Try.func8, Try.ntmps8
  go_wp2_with fail
  refine (alive_any w).mono ?_
  rintro e w1 ⟨rfl, hb1⟩
  go_wp2_with fail
  refine (bytes_any v n w1 8 (by omega) (by omega) h2).mono ?_
  rintro e w' ⟨rfl, rfl⟩
  have hp := holds_lit w1 (bytesL v 8) (bAt v 8 8) (bAt_full v 8) (0, 0)
  rw [bytesL_len] at hp
  go_wp2_with fail
  refine (number_any _ 8 8 _ (bytesL v 8) _ hp (by omega)).mono ?_
  rintro e w' ⟨rfl, rfl⟩
  rw [HX.out]
  clear hp
  go_wp2
  go_loopw [9] (fun i wr => ∃ (k : Nat) (cs : Array Value), k ≤ 8 ∧ i = .int .i64 k ∧ cs.size = 8 ∧ wr = w1.alloc (.cells cs 5)) (fun i _ => 8 - (intOf i).toNat)
  case atStart => exact ⟨0, _, by omega, rfl, part_size _ _ _ _, rfl⟩
  case round =>
    obtain ⟨k, cs, hk, rfl, hcs, rfl⟩ := hrel
    have hb2 := hb1.alloc hb1.size (.cells cs 5)
    by_cases hlt : k < 8
    · go_wp2
      go_roundw
      case rel => exact ⟨k + 1, cs.setIfInBounds k (.int .u8 77), by omega, by go_num, by rw [Array.size_setIfInBounds]; exact hcs, rfl⟩
      case measure => simp [intOf]; omega
    · obtain rfl : k = 8 := by omega
      clear hcs hb1
      generalize w1.alloc (.cells cs 5) = w2 at hb2 ⊢
      go_wp2_with fail
      refine (bytes_any v n w2 8 (by omega) (by omega) h2).mono ?_
      rintro e w' ⟨rfl, rfl⟩
      have hp := holds_lit w2 (bytesL v 8) (bAt v 8 8) (bAt_full v 8) (0, 0)
      rw [bytesL_len] at hp
      have hb3 := hb2.alloc hb2.size (.cells (bAt v 8 8) 5)
      go_wp2_with fail
      refine (number_any _ 8 8 _ (bytesL v 8) _ hp (by omega)).mono ?_
      rintro e w' ⟨rfl, rfl⟩
      rw [HX.out]
      clear hp
      go_wp2
      go_ret
      exact ⟨rfl, hb3⟩

set_option maxRecDepth 100000 in
theorem walk_at8 (v : Nat) (w : World) (hv : v < 18446744073709551616) :
    Calls Try.prog 8 #[.int .u64 (v : Int), .int .i64 8] w fun e w' => e = .returned (.bool true) ∧ Below w.heap.size w w' := by
  have HX : Hid (numAt (bytesL v 8) 8 = v) := (num_bytes v 8 8 (by omega)).trans (Nat.mod_eq_of_lt (by omega))
  go_enter Try.func8, Try.ntmps8
  go_wp2_with fail
  refine (alive_any w).mono ?_
  rintro e w1 ⟨rfl, hb1⟩
  go_wp2_with fail
  refine (bytes_any v 8 w1 8 (by omega) (by omega) (by omega)).mono ?_
  rintro e w' ⟨rfl, rfl⟩
  have hp := holds_lit w1 (bytesL v 8) (bAt v 8 8) (bAt_full v 8) (0, 0)
  rw [bytesL_len] at hp
  go_wp2_with fail
  refine (number_any _ 8 8 _ (bytesL v 8) _ hp (by omega)).mono ?_
  rintro e w' ⟨rfl, rfl⟩
  rw [HX.out]
  clear hp
  go_wp2
  go_loopw [9] (fun i wr => ∃ (k : Nat) (cs : Array Value), k ≤ 8 ∧ i = .int .i64 k ∧ cs.size = 8 ∧ wr = w1.alloc (.cells cs 5)) (fun i _ => 8 - (intOf i).toNat)
  case atStart => exact ⟨0, _, by omega, rfl, part_size _ _ _ _, rfl⟩
  case round =>
    obtain ⟨k, cs, hk, rfl, hcs, rfl⟩ := hrel
    have hb2 := hb1.alloc hb1.size (.cells cs 5)
    by_cases hlt : k < 8
    · go_wp2
      go_roundw
      case rel => exact ⟨k + 1, cs.setIfInBounds k (.int .u8 77), by omega, by go_num, by rw [Array.size_setIfInBounds]; exact hcs, rfl⟩
      case measure => simp [intOf]; omega
    · obtain rfl : k = 8 := by omega
      clear hcs hb1
      generalize w1.alloc (.cells cs 5) = w2 at hb2 ⊢
      go_wp2_with fail
      refine (bytes_any v 8 w2 8 (by omega) (by omega) (by omega)).mono ?_
      rintro e w' ⟨rfl, rfl⟩
      have hp := holds_lit w2 (bytesL v 8) (bAt v 8 8) (bAt_full v 8) (0, 0)
      rw [bytesL_len] at hp
      have hb3 := hb2.alloc hb2.size (.cells (bAt v 8 8) 5)
      go_wp2_with fail
      refine (number_any _ 8 8 _ (bytesL v 8) _ hp (by omega)).mono ?_
      rintro e w' ⟨rfl, rfl⟩
      rw [HX.out]
      clear hp
      go_wp2
      go_ret
      exact ⟨rfl, hb3⟩

set_option maxRecDepth 100000 in
theorem walk_below (v : Nat) (n : Int) (w : World) (hn : n < 0) (h1 : -9223372036854775808 ≤ n) :
    Calls Try.prog 8 #[.int .u64 (v : Int), .int .i64 n] w fun e w' => e = .returned (.bool true) ∧ Below w.heap.size w w' := by
  go_enter Try.func8, Try.ntmps8
  go_wp2_with fail
  refine (alive_any w).mono ?_
  rintro e w1 ⟨rfl, hb1⟩
  go_wp2_with fail
  refine (bytes_any v n w1 0 (by omega) h1 (by omega)).mono ?_
  rintro e w' ⟨rfl, rfl⟩
  have hp := holds_lit w1 (bytesL v 0) (bAt v 0 0) (bAt_full v 0) (0, 0)
  have hb2 := hb1.alloc hb1.size (.cells (bAt v 0 0) 5)
  go_wp2_with fail
  refine (number_any _ 0 0 _ (bytesL v 0) _ hp (by omega)).mono ?_
  rintro e w' ⟨rfl, rfl⟩
  go_wp2
  go_ret
  exact ⟨rfl, hb2⟩

theorem walks : Walks 8 Try.f8 All := by
  intro H enc W base args ds p hval hA hsz _
  rw [Try.params8] at hA hval
  obtain ⟨v0, vs0, d0, ds0, p0, q0, hargs, rfl, rfl, h0, r0⟩ := trodAll_cons hA
  obtain ⟨v1, vs1, d1, ds1, p1, q1, rfl, rfl, rfl, h1, r1⟩ := trodAll_cons r0
  obtain ⟨rfl, rfl, rfl⟩ := trodAll_nil r1
  obtain rfl : args = #[v0, v1] := by cases args; simp_all
  obtain ⟨x, rfl, rfl, rfl, hx⟩ := open_int Try.underlying28 (hval 0 _ v0 rfl rfl) h0
  obtain ⟨y, rfl, rfl, rfl, hy⟩ := open_int Try.underlying3 (hval 1 _ v1 rfl rfl) h1
  have bx := bounds_u64 hx
  have bY := bounds_i64 hy
  obtain ⟨v, rfl⟩ := Int.eq_ofNat_of_zero_le bx.1
  rcases Int.lt_or_le y 0 with hn | hn
  · exact walk_below v y W hn bY.1
  · rcases Int.lt_or_le y 8 with h8 | h8
    · obtain ⟨n, rfl⟩ := Int.eq_ofNat_of_zero_le hn
      exact walk_less v n W (by omega) (by omega)
    · rcases Int.lt_or_eq_of_le h8 with h9 | h9
      · exact walk_eight v y W (by omega) h9 bY.2
      · subst h9
        exact walk_at8 v W (by omega)

set_option maxRecDepth 100000 in
theorem proved : Rows.CrcBackSaid :=
  OpenClaim.holds_of_wide 8 Try.f8 rfl rfl rfl rfl rfl rfl rfl ⟨rfl, rfl, rfl, rfl, rfl⟩ rfl rfl rfl rfl rfl (by kernel_rfl) Try.func8 (by kernel_rfl)
    (of_decide_eq_true (by kernel_rfl)) (by unfold Func.isWrapper; first | (rw [if_pos (by decide +kernel)]; kernel_rfl) | (rw [if_neg (by decide +kernel)]; exact ⟨rfl, rfl⟩))
    (fun os started H enc _ => lifted (s := Rows.crcBackSpec) walks (by kernel_rfl) rfl rfl (fun H ds hl => by match ds, hl with | [d1, d2], _ => rfl) (by kernel_rfl) Try.func8 os started H enc
      (ChangeSpec.witness6 (enc := enc) (C := Try.checked) false ⟨#[], #[.int .u64 0, .int .i64 0], []⟩ 8 (by kernel_rfl) (by kernel_rfl) (by kernel_rfl) (by kernel_rfl)))
#print axioms proved
end Go.Proofs.Ytemkdnakkdnbhaa.CrcBack
