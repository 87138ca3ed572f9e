/- Contracts of the two functions that turn one word: the program's eight shifts and the document's step behind a byte. For every word and byte they answer the register of the plain arithmetic and leave the world alone. -/
import Derived.Test.YtbmbolgmeehloaaProg
import Derived.Test.YtbmbolgmeehloaaMath
import Derived.WalkKit
import Derived.LoopTactic
import Derived.Outline
import Derived.Below
import Derived.IntWalk
namespace Go.Proofs.Ytbmbolgmeehloaa.Crc
open Go.RowKit

theorem ret_u32 {a b : Int} (h : a = b) : Ending.returned (.int .u32 a) = .returned (.int .u32 b) := by rw [h]

theorem low_bit (n : Nat) (hn : n < 4294967296) : bits .and .u32 (n : Int) 1 = ((n % 2 : Nat) : Int) := by
  have h := u32_and_nat n 1 hn (by omega)
  rw [Nat.and_one_is_mod] at h
  exact h
theorem low_one (n : Nat) (hn : n < 4294967296) (h : n % 2 = 1) : (bits .and .u32 (n : Int) 1 == 1) = true := by
  rw [low_bit n hn, h]; rfl
theorem low_zero (n : Nat) (hn : n < 4294967296) (h : n % 2 = 0) : (bits .and .u32 (n : Int) 1 == 1) = false := by
  rw [low_bit n hn, h]; rfl
theorem half_xor (n : Nat) (hn : n < 4294967296) : bits .xor .u32 ((n : Int) / 2) 2197175160 = ((n / 2 ^^^ 2197175160 : Nat) : Int) := by
  have h := u32_xor_nat (n / 2) 2197175160 (by omega) (by omega)
  rw [← h]; rfl
theorem bit_one (n : Nat) (h : n % 2 = 1) : bit n = n / 2 ^^^ 2197175160 := by unfold bit; rw [if_pos h]
theorem bit_zero (n : Nat) (h : n % 2 = 0) : bit n = n / 2 := by unfold bit; rw [if_neg (by omega)]

theorem round_one (k n : Nat) (hn : turns k n < 4294967296) (h : turns k n % 2 = 1) :
    Value.int .u32 (bits .xor .u32 ((turns k n : Int) / 2) 2197175160) = .int .u32 (turns (k + 1) n : Int) := by
  rw [half_xor _ hn, turns_succ, bit_one _ h]
theorem round_zero (k n : Nat) (h : turns k n % 2 = 0) : Value.int .u32 ((turns k n : Int) / 2) = .int .u32 (turns (k + 1) n : Int) := by
  rw [turns_succ, bit_zero _ h]; rfl

/-- crc: the word eight shifts later. -/
theorem shifted_any (n : Nat) (w : World) (hn : n < 4294967296) :
    Calls Try.prog 121 #[.int .u32 (n : Int)] w fun e w' => e = .returned (.int .u32 (turns 8 n : Int)) ∧ w = w' := by
  go_enter Try.func121, Try.ntmps121
  go_wp2
  go_loop [0, 3, 4] (fun v _ i => ∃ k : Nat, k ≤ 8 ∧ i = .int .i64 k ∧ v = .int .u32 (turns k n : Int)) (fun _ _ i => 8 - (intOf i).toNat)
  case atStart => exact ⟨0, by omega, rfl, rfl⟩
  case round =>
    obtain ⟨k, hk, rfl, rfl⟩ := hrel
    have hb := turns_lt k n hn
    by_cases hlt : k < 8
    · rcases Nat.mod_two_eq_zero_or_one (turns k n) with hp | hp
      · have H := low_zero _ hb hp
        have R : Hid (_ = _) := round_zero k n hp
        clear hp
        go_wp2
        go_round
        case rel => exact ⟨k + 1, by omega, by go_num, R.out⟩
        case measure => simp [intOf]; omega
      · have H := low_one _ hb hp
        have R : Hid (_ = _) := round_one k n hb hp
        clear hp
        go_wp2
        go_round
        case rel => exact ⟨k + 1, by omega, by go_num, R.out⟩
        case measure => simp [intOf]; omega
    · obtain rfl : k = 8 := by omega
      go_wp2
      go_ret
      exact ⟨rfl, rfl⟩

theorem xor_byte (n c : Nat) (hn : n < 4294967296) (hc : c < 256) : bits .xor .u32 (n : Int) (c : Int) = ((n ^^^ c : Nat) : Int) := u32_xor_nat n c hn (by omega)

/-- The document: the word behind a byte. -/
theorem step_any (n : Nat) (c : UInt8) (w : World) (hn : n < 4294967296) :
    Calls Try.prog 118 #[.int .u32 (n : Int), .int .u8 (c.toNat : Int)] w fun e w' => e = .returned (.int .u32 (stepB n c.toNat : Int)) ∧ w = w' := by
  have hc := c.toNat_lt
  have X := xor_byte n c.toNat hn (by omega)
  have hx : n ^^^ c.toNat < 4294967296 := Nat.xor_lt_two_pow (n := 32) (by omega) (by omega)
  unfold stepB
  generalize n ^^^ c.toNat = m at X hx ⊢
  go_enter Try.func118, Try.ntmps118
  go_wp2
  go_loop [0, 5, 6] (fun v i _ => ∃ k : Nat, k ≤ 8 ∧ i = .int .i64 k ∧ v = .int .u32 (turns k m : Int)) (fun _ i _ => 8 - (intOf i).toNat)
  case atStart => exact ⟨0, by omega, rfl, rfl⟩
  case round =>
    obtain ⟨k, hk, rfl, rfl⟩ := hrel
    have hb := turns_lt k m hx
    by_cases hlt : k < 8
    · rcases Nat.mod_two_eq_zero_or_one (turns k m) with hp | hp
      · have H := low_zero _ hb hp
        have R : Hid (_ = _) := round_zero k m hp
        clear hp
        go_wp2
        go_round
        case rel => exact ⟨k + 1, by omega, by go_num, R.out⟩
        case measure => simp [intOf]; omega
      · have H := low_one _ hb hp
        have R : Hid (_ = _) := round_one k m hb hp
        clear hp
        go_wp2
        go_round
        case rel => exact ⟨k + 1, by omega, by go_num, R.out⟩
        case measure => simp [intOf]; omega
    · obtain rfl : k = 8 := by omega
      go_wp2
      go_ret
      exact ⟨rfl, rfl⟩
end Go.Proofs.Ytbmbolgmeehloaa.Crc
