/- Bits of a list turned one by one within 32 side by side: plain arithmetic, and what it does to a record's blocks. -/
import Derived.Test.YtlbalophmicmfaaRcTorn
import Derived.Test.YtlbalophmicmfaaLift
import Derived.RegionTactic
import Derived.ChangeAlike
import Derived.Deep.Draws
namespace Go.Proofs.Ytlbalophmicmfaa.Rec
open Go.ChangeShapes Go.WideShapes Go.ChangeAt Go.RowKit
open Go.Proofs.Ytlbalophmicmfaa.Mem Go.Proofs.Ytlbalophmicmfaa.Crc

theorem place (a : Int) (m : Int) (h0 : 0 < m) (hn : m ≤ 1125899906842624) : ∃ k : Nat, (k : Int) < m ∧ wrap64 ((IntKind.u64.wrap a).tmod m) = (k : Int) := by
  have hx : 0 ≤ IntKind.u64.wrap a := by rw [IntKind.wrap_u64]; omega
  generalize IntKind.u64.wrap a = x at hx
  rw [Int.tmod_eq_emod_of_nonneg hx]
  have h1 := Int.emod_nonneg x (show m ≠ 0 by omega)
  have h2 := Int.emod_lt_of_pos x (show (0 : Int) < m by omega)
  refine ⟨(x % m).toNat, by omega, ?_⟩
  unfold wrap64
  omega

/-- Is bit k of the burst turned? -/
def hit (burst first n k : Nat) : Bool := decide (burst / 2 ^ k % 2 = 1) && decide (first + k < 8 * n)
/-- The list with the first k bits of the burst turned. -/
def turnTo (burst first : Nat) (bs : List UInt8) : Nat → List UInt8
  | 0 => bs
  | k + 1 => if hit burst first bs.length k then (turnTo burst first bs k).set ((first + k) / 8) ((turnTo burst first bs k).getD ((first + k) / 8) 0 ^^^ UInt8.ofNat (2 ^ ((first + k) % 8))) else turnTo burst first bs k
/-- The bits of the burst that were turned. -/
def mask (burst first n : Nat) : Nat → Nat
  | 0 => 0
  | k + 1 => if hit burst first n k then mask burst first n k ^^^ 2 ^ k else mask burst first n k

theorem turn_len (burst first : Nat) (bs : List UInt8) : ∀ k, (turnTo burst first bs k).length = bs.length
  | 0 => rfl
  | k + 1 => by
    unfold turnTo
    split
    · rw [List.length_set, turn_len burst first bs k]
    · exact turn_len burst first bs k
theorem mask_lt (burst first n : Nat) : ∀ k, mask burst first n k < 2 ^ k
  | 0 => by simp [mask]
  | k + 1 => by
    have h := mask_lt burst first n k
    have h2 : 2 ^ k < 2 ^ (k + 1) := Nat.pow_lt_pow_right (by omega) (by omega)
    unfold mask
    split
    · exact Nat.xor_lt_two_pow (by omega) h2
    · omega
theorem mask_hit (burst first n k : Nat) (h : hit burst first n k = true) : mask burst first n (k + 1) ≠ 0 := by
  have hm := mask_lt burst first n k
  intro e
  unfold mask at e
  rw [if_pos h] at e
  have := xor_zero_eq _ _ e
  omega
theorem turn_num (burst first : Nat) (bs : List UInt8) : ∀ k, num (turnTo burst first bs k) ^^^ num bs = 2 ^ first * mask burst first bs.length k
  | 0 => by simp [turnTo, mask]
  | k + 1 => by
    have ih := turn_num burst first bs k
    unfold turnTo mask
    by_cases h : hit burst first bs.length k = true
    · rw [if_pos h, if_pos h]
      have hl : (first + k) / 8 < (turnTo burst first bs k).length := by
        rw [turn_len]
        simp [hit] at h
        omega
      have e : (turnTo burst first bs k).getD ((first + k) / 8) 0 = (turnTo burst first bs k)[(first + k) / 8] := by simp [List.getD, hl]
      rw [e, num_set _ _ _ hl, mul_pow_xor, ← ih]
      have hb : (UInt8.ofNat (2 ^ ((first + k) % 8))).toNat = 2 ^ ((first + k) % 8) := by
        have : 2 ^ ((first + k) % 8) ≤ 2 ^ 7 := Nat.pow_le_pow_right (by omega) (by omega)
        simp
        omega
      rw [hb, ← Nat.pow_add, ← Nat.pow_add, show 8 * ((first + k) / 8) + (first + k) % 8 = first + k by omega]
      ac_rfl
    · rw [if_neg h, if_neg h, ih]

/-- Was anything turned so far? -/
def marked (burst first n k : Nat) : Bool := decide (mask burst first n k ≠ 0)
theorem marked_hit (burst first n k : Nat) (h : hit burst first n k = true) : marked burst first n (k + 1) = true := decide_eq_true (mask_hit burst first n k h)
theorem marked_miss (burst first n k : Nat) (h : hit burst first n k = false) : marked burst first n (k + 1) = marked burst first n k := by
  unfold marked
  rw [show mask burst first n (k + 1) = mask burst first n k by
    show (if hit burst first n k then _ else _) = _
    rw [if_neg (by rw [h]; simp)]]
theorem turn_miss (burst first : Nat) (bs : List UInt8) (k : Nat) (h : hit burst first bs.length k = false) : turnTo burst first bs (k + 1) = turnTo burst first bs k := by
  show (if hit burst first bs.length k then _ else _) = _
  rw [if_neg (by rw [h]; simp)]
theorem turn_hit (burst first : Nat) (bs : List UInt8) (k : Nat) (h : hit burst first bs.length k = true) (v : UInt8) (hv : (turnTo burst first bs k).getD ((first + k) / 8) 0 = v) :
    turnTo burst first bs (k + 1) = (turnTo burst first bs k).set ((first + k) / 8) (v ^^^ UInt8.ofNat (2 ^ ((first + k) % 8))) := by
  show (if hit burst first bs.length k then _ else _) = _
  rw [if_pos h, hv]

theorem bit_bits (burst k : Nat) (hu : burst < 4294967296) : bits .and .u32 ((burst : Int) / 2 ^ k) 1 = ((burst / 2 ^ k % 2 : Nat) : Int) := by
  have h := u32_and_nat (burst / 2 ^ k) 1 (Nat.lt_of_le_of_lt (Nat.div_le_self _ _) hu) (by omega)
  rw [Nat.and_one_is_mod] at h
  have e : ((burst : Int) / 2 ^ k) = ((burst / 2 ^ k : Nat) : Int) := by simp
  rw [e]
  exact h

theorem cell_bits (v : UInt8) (r : Nat) (hr : r < 8) : Value.int .u8 (bits .xor .u8 (v.toNat : Int) (2 ^ r % 256)) = byteV (v ^^^ UInt8.ofNat (2 ^ r)) := by
  have hp : 2 ^ r ≤ 2 ^ 7 := Nat.pow_le_pow_right (by omega) (by omega)
  have h := u8_xor_nat v.toNat (2 ^ r) v.toNat_lt (by omega)
  have e : (2 : Int) ^ r % 256 = ((2 ^ r : Nat) : Int) := by
    have e1 : (2 : Int) ^ r = ((2 ^ r : Nat) : Int) := by
      clear hp h
      simp
    have key : ∀ m : Nat, m ≤ 128 → ((m : Nat) : Int) % 256 = (m : Int) := fun m h => by omega
    rw [e1]
    exact key _ (by omega)
  rw [e, h]
  unfold byteV
  rw [UInt8.toNat_xor]
  have e3 : (UInt8.ofNat (2 ^ r)).toNat = 2 ^ r := Nat.mod_eq_of_lt (by omega)
  rw [e3]


theorem turn_burst (burst first : Nat) (bs : List UInt8) (hf : first ≤ 8 * bs.length) : Burst (turnTo burst first bs 32) bs :=
  ⟨turn_len burst first bs 32, first, _, by rw [turn_len]; exact hf, mask_lt burst first bs.length 32, turn_num burst first bs 32⟩
theorem turn_none (burst first : Nat) (bs : List UInt8) (h : mask burst first bs.length 32 = 0) : turnTo burst first bs 32 = bs := by
  have hx := turn_num burst first bs 32
  rw [h, Nat.mul_zero] at hx
  exact num_inj _ _ (turn_len burst first bs 32) (xor_zero_eq _ _ hx)
theorem turn_some (burst first : Nat) (bs : List UInt8) (h : mask burst first bs.length 32 ≠ 0) : turnTo burst first bs 32 ≠ bs := by
  intro e
  have hx := turn_num burst first bs 32
  rw [e, Nat.xor_self] at hx
  have := Nat.two_pow_pos first
  rcases Nat.mul_eq_zero.1 hx.symm with h1 | h1
  · omega
  · exact h h1
theorem turn_torn (burst first : Nat) (t : Tx) (h : t.May) (hf : first ≤ 8 * t.enc.length) (s : Nat) (hm : mask burst first t.enc.length 32 ≠ 0) : decB (turnTo burst first t.enc 32) s = false := by
  cases hd : decB (turnTo burst first t.enc 32) s
  · rfl
  · exact absurd (torn t h _ s (turn_burst burst first t.enc hf) hd) (turn_some burst first t.enc hm)
end Go.Proofs.Ytlbalophmicmfaa.Rec
