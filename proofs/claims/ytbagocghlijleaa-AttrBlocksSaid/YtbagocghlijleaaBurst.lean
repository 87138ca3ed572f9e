/- Bits of a list turned one by one within 32 side by side; a list behind its own sum: plain arithmetic, for every layer. -/
import Derived.Test.YtbagocghlijleaaRcMem
namespace Go.Proofs.Ytbagocghlijleaa.Bst
set_option maxRecDepth 20000
open Go.RowKit
open Go.Proofs.Ytbagocghlijleaa.Mem Go.Proofs.Ytbagocghlijleaa.Crc

theorem bytesL_getD (v L k : Nat) (hk : k < L) : (bytesL v L).getD k 0 = byteN v k := by
  simp [bytesL, List.getD, hk]
theorem num_bytesL (v L : Nat) : ∀ k, k ≤ L → numAt (bytesL v L) k = v % 2 ^ (8 * k)
  | 0, _ => by simp [numAt, Nat.mod_one]
  | k + 1, hk => by
    have ih := num_bytesL v L k (by omega)
    show numAt (bytesL v L) k ||| ((bytesL v L).getD k 0).toNat * 2 ^ (8 * k) = _
    rw [ih, bytesL_getD v L k (by omega)]
    have e : (byteN v k).toNat = v / 2 ^ (8 * k) % 256 := by simp [byteN]
    have hlt : v % 2 ^ (8 * k) < 2 ^ (8 * k) := Nat.mod_lt _ (Nat.pow_pos (by omega))
    rw [e, Nat.or_comm, Nat.mul_comm, ← Nat.two_pow_add_eq_or_of_lt hlt, show 8 * (k + 1) = 8 * k + 8 by omega, Nat.pow_add, Nat.mod_mul, show (2 : Nat) ^ 8 = 256 from rfl]
    omega
theorem low_xor (c n : Nat) (h : c < 256) : c ^^^ 256 * n = c + 256 * n := by
  have := Nat.two_pow_add_eq_or_of_lt (i := 8) (b := c) (by omega) n
  rw [show (2 : Nat) ^ 8 = 256 from rfl] at this
  rw [Nat.add_comm, this]
  apply Nat.eq_of_testBit_eq
  intro i
  rw [Nat.testBit_xor, Nat.testBit_or]
  rcases Nat.lt_or_ge i 8 with hi | hi
  · have : (256 * n).testBit i = false := by
      rw [show 256 * n = 2 ^ 8 * n from rfl, Nat.testBit_two_pow_mul]
      simp; omega
    simp [this]
  · have : c.testBit i = false := Nat.testBit_lt_two_pow (Nat.lt_of_lt_of_le (show c < 2 ^ 8 by omega) (Nat.pow_le_pow_right (by omega) hi))
    simp [this]
theorem num_cons (c : UInt8) (r : List UInt8) : num (c :: r) = c.toNat + 256 * num r := low_xor _ _ c.toNat_lt
theorem num_lt : ∀ a : List UInt8, num a < 2 ^ (8 * a.length)
  | [] => by simp [num]
  | c :: r => by
    have ih := num_lt r
    have hc := c.toNat_lt
    rw [num_cons, List.length_cons, show 8 * (r.length + 1) = 8 + 8 * r.length by omega, Nat.pow_add]
    omega
theorem num_app : ∀ a b : List UInt8, num (a ++ b) = num a + 2 ^ (8 * a.length) * num b
  | [], b => by simp [num]
  | c :: r, b => by
    rw [List.cons_append, num_cons, num_cons, num_app r b, List.length_cons, show 8 * (r.length + 1) = 8 + 8 * r.length by omega, Nat.pow_add, Nat.mul_add, ← Nat.mul_assoc, show (2 : Nat) ^ 8 = 256 from rfl, Nat.add_assoc]
theorem num_inj : ∀ a b : List UInt8, a.length = b.length → num a = num b → a = b
  | [], [], _, _ => rfl
  | [], _ :: _, h, _ => by simp at h
  | _ :: _, [], h, _ => by simp at h
  | c :: r, d :: q, h, e => by
    rw [num_cons, num_cons] at e
    have hc := c.toNat_lt
    have hd := d.toNat_lt
    have e1 : c.toNat = d.toNat := by omega
    have e2 : num r = num q := by omega
    rw [num_inj r q (by simpa using h) e2, UInt8.toNat_inj.1 e1]
theorem num_app_mod (a b : List UInt8) : num (a ++ b) % 2 ^ (8 * a.length) = num a := by
  rw [num_app, Nat.add_mul_mod_self_left, Nat.mod_eq_of_lt (num_lt a)]
theorem num_app_div (a b : List UInt8) : num (a ++ b) / 2 ^ (8 * a.length) = num b := by
  rw [num_app, Nat.add_mul_div_left _ _ (Nat.two_pow_pos _), Nat.div_eq_of_lt (num_lt a), Nat.zero_add]
theorem num_bytes4 (s : Nat) (h : s < 4294967296) : num (bytesL s 4) = s := by
  have e : bytesL s 4 = [byteN s 0, byteN s 1, byteN s 2, byteN s 3] := rfl
  rw [e, num_cons, num_cons, num_cons, num_cons]
  simp only [num, byteN, UInt8.toNat_ofNat']
  omega

/-- Alike but for less than 32 bits side by side. -/
def Burst (a b : List UInt8) : Prop := a.length = b.length ∧ ∃ first m, first ≤ 8 * a.length ∧ m < 4294967296 ∧ num a ^^^ num b = 2 ^ first * m
theorem Burst.eq {a b : List UInt8} (h : Burst a b) (hs : sum a = sum b) : a = b := by
  obtain ⟨hl, first, m, hf, hm, hx⟩ := h
  by_cases h0 : m = 0
  · subst h0
    rw [Nat.mul_zero] at hx
    exact num_inj a b hl (xor_zero_eq _ _ hx)
  · exact absurd hs (sum_burst a b first m hl hx hf hm h0)
theorem Burst.pre {a b a' b' : List UInt8} (h : Burst (a ++ b) (a' ++ b')) (hl : a.length = a'.length) : Burst a a' := by
  obtain ⟨_, first, m, hf, hm, hx⟩ := h
  have hx' := congrArg (· % 2 ^ (8 * a.length)) hx
  simp only [Nat.xor_mod_two_pow] at hx'
  rw [num_app_mod, hl, num_app_mod, ← hl] at hx'
  refine ⟨hl, ?_⟩
  rcases Nat.le_total first (8 * a.length) with h1 | h1
  · refine ⟨first, m % 2 ^ (8 * a.length - first), h1, Nat.lt_of_le_of_lt (Nat.mod_le _ _) hm, ?_⟩
    rw [hx', show 8 * a.length = first + (8 * a.length - first) by omega, Nat.pow_add, Nat.mul_mod_mul_left, Nat.add_sub_cancel_left]
  · refine ⟨0, 0, by omega, by omega, ?_⟩
    rw [hx', show first = 8 * a.length + (first - 8 * a.length) by omega, Nat.pow_add, Nat.mul_assoc, Nat.mul_mod_right]
theorem Burst.suf {a b a' b' : List UInt8} (h : Burst (a ++ b) (a' ++ b')) (hl : a.length = a'.length) : Burst b b' := by
  obtain ⟨hla, first, m, hf, hm, hx⟩ := h
  have hx' := congrArg (· / 2 ^ (8 * a.length)) hx
  simp only [Nat.xor_div_two_pow] at hx'
  rw [num_app_div, hl, num_app_div, ← hl] at hx'
  simp only [List.length_append] at hla hf
  refine ⟨by omega, ?_⟩
  rcases Nat.le_total first (8 * a.length) with h1 | h1
  · refine ⟨0, m / 2 ^ (8 * a.length - first), by omega, Nat.lt_of_le_of_lt (Nat.div_le_self _ _) hm, ?_⟩
    rw [hx', show 8 * a.length = first + (8 * a.length - first) by omega, Nat.pow_add, Nat.mul_div_mul_left _ _ (Nat.two_pow_pos _), Nat.add_sub_cancel_left, Nat.pow_zero, Nat.one_mul]
  · refine ⟨first - 8 * a.length, m, by omega, hm, ?_⟩
    rw [hx']
    rw [show 2 ^ first = 2 ^ (8 * a.length) * 2 ^ (first - 8 * a.length) by rw [← Nat.pow_add]; congr 1; omega, Nat.mul_assoc, Nat.mul_div_cancel_left _ (Nat.two_pow_pos _)]

/-- Behind its own sum every list has one and the same sum. -/
theorem sum_own (p q : List UInt8) : sum (p ++ bytesL (sum p) 4) = sum (q ++ bytesL (sum q) 4) := by
  have h : ∀ s, s < 4294967296 → more s (bytesL s 4) = turns 32 4294967295 ^^^ 4294967295 := fun s hs => by
    unfold more
    rw [fold_eq, bytesL_len, num_bytes4 s hs]
    congr 2
    rw [Nat.xor_comm s, Nat.xor_assoc]; simp
  have e : ∀ l : List UInt8, sum (l ++ bytesL (sum l) 4) = turns 32 4294967295 ^^^ 4294967295 := fun l => by
    unfold sum at *
    rw [more_append]
    exact h _ (sum_lt l)
  rw [e p, e q]
theorem place (a : Int) (m : Int) (h0 : 0 < m) (hn : m ≤ 1125899906842624) : ∃ k : Nat, (k : Int) < m ∧ wrap64 ((IntKind.u64.wrap a).tmod m) = (k : Int) := by
  have hx : 0 ≤ IntKind.u64.wrap a := by rw [IntKind.wrap_u64]; omega
  generalize IntKind.u64.wrap a = x at hx
  rw [Int.tmod_eq_emod_of_nonneg hx]
  have h1 := Int.emod_nonneg x (show m ≠ 0 by omega)
  have h2 := Int.emod_lt_of_pos x (show (0 : Int) < m by omega)
  refine ⟨(x % m).toNat, by omega, ?_⟩
  unfold wrap64
  omega

/-- Is bit k of the burst turned? -/
def hit (burst first n k : Nat) : Bool := decide (burst / 2 ^ k % 2 = 1) && decide (first + k < 8 * n)
/-- The list with the first k bits of the burst turned. -/
def turnTo (burst first : Nat) (bs : List UInt8) : Nat → List UInt8
  | 0 => bs
  | k + 1 => if hit burst first bs.length k then (turnTo burst first bs k).set ((first + k) / 8) ((turnTo burst first bs k).getD ((first + k) / 8) 0 ^^^ UInt8.ofNat (2 ^ ((first + k) % 8))) else turnTo burst first bs k
/-- The bits of the burst that were turned. -/
def mask (burst first n : Nat) : Nat → Nat
  | 0 => 0
  | k + 1 => if hit burst first n k then mask burst first n k ^^^ 2 ^ k else mask burst first n k

theorem turn_len (burst first : Nat) (bs : List UInt8) : ∀ k, (turnTo burst first bs k).length = bs.length
  | 0 => rfl
  | k + 1 => by
    unfold turnTo
    split
    · rw [List.length_set, turn_len burst first bs k]
    · exact turn_len burst first bs k
theorem mask_lt (burst first n : Nat) : ∀ k, mask burst first n k < 2 ^ k
  | 0 => by simp [mask]
  | k + 1 => by
    have h := mask_lt burst first n k
    have h2 : 2 ^ k < 2 ^ (k + 1) := Nat.pow_lt_pow_right (by omega) (by omega)
    unfold mask
    split
    · exact Nat.xor_lt_two_pow (by omega) h2
    · omega
theorem mask_hit (burst first n k : Nat) (h : hit burst first n k = true) : mask burst first n (k + 1) ≠ 0 := by
  have hm := mask_lt burst first n k
  intro e
  unfold mask at e
  rw [if_pos h] at e
  have := xor_zero_eq _ _ e
  omega
theorem turn_num (burst first : Nat) (bs : List UInt8) : ∀ k, num (turnTo burst first bs k) ^^^ num bs = 2 ^ first * mask burst first bs.length k
  | 0 => by simp [turnTo, mask]
  | k + 1 => by
    have ih := turn_num burst first bs k
    unfold turnTo mask
    by_cases h : hit burst first bs.length k = true
    · rw [if_pos h, if_pos h]
      have hl : (first + k) / 8 < (turnTo burst first bs k).length := by
        rw [turn_len]
        simp [hit] at h
        omega
      have e : (turnTo burst first bs k).getD ((first + k) / 8) 0 = (turnTo burst first bs k)[(first + k) / 8] := by simp [List.getD, hl]
      rw [e, num_set _ _ _ hl, mul_pow_xor, ← ih]
      have hb : (UInt8.ofNat (2 ^ ((first + k) % 8))).toNat = 2 ^ ((first + k) % 8) := by
        have : 2 ^ ((first + k) % 8) ≤ 2 ^ 7 := Nat.pow_le_pow_right (by omega) (by omega)
        simp
        omega
      rw [hb, ← Nat.pow_add, ← Nat.pow_add, show 8 * ((first + k) / 8) + (first + k) % 8 = first + k by omega]
      ac_rfl
    · rw [if_neg h, if_neg h, ih]

/-- Was anything turned so far? -/
def marked (burst first n k : Nat) : Bool := decide (mask burst first n k ≠ 0)
theorem marked_hit (burst first n k : Nat) (h : hit burst first n k = true) : marked burst first n (k + 1) = true := decide_eq_true (mask_hit burst first n k h)
theorem marked_miss (burst first n k : Nat) (h : hit burst first n k = false) : marked burst first n (k + 1) = marked burst first n k := by
  unfold marked
  rw [show mask burst first n (k + 1) = mask burst first n k by
    show (if hit burst first n k then _ else _) = _
    rw [if_neg (by rw [h]; simp)]]
theorem turn_miss (burst first : Nat) (bs : List UInt8) (k : Nat) (h : hit burst first bs.length k = false) : turnTo burst first bs (k + 1) = turnTo burst first bs k := by
  show (if hit burst first bs.length k then _ else _) = _
  rw [if_neg (by rw [h]; simp)]
theorem turn_hit (burst first : Nat) (bs : List UInt8) (k : Nat) (h : hit burst first bs.length k = true) (v : UInt8) (hv : (turnTo burst first bs k).getD ((first + k) / 8) 0 = v) :
    turnTo burst first bs (k + 1) = (turnTo burst first bs k).set ((first + k) / 8) (v ^^^ UInt8.ofNat (2 ^ ((first + k) % 8))) := by
  show (if hit burst first bs.length k then _ else _) = _
  rw [if_pos h, hv]

theorem bit_bits (burst k : Nat) (hu : burst < 4294967296) : bits .and .u32 ((burst : Int) / 2 ^ k) 1 = ((burst / 2 ^ k % 2 : Nat) : Int) := by
  have h := u32_and_nat (burst / 2 ^ k) 1 (Nat.lt_of_le_of_lt (Nat.div_le_self _ _) hu) (by omega)
  rw [Nat.and_one_is_mod] at h
  have e : ((burst : Int) / 2 ^ k) = ((burst / 2 ^ k : Nat) : Int) := by simp
  rw [e]
  exact h

theorem cell_bits (v : UInt8) (r : Nat) (hr : r < 8) : Value.int .u8 (bits .xor .u8 (v.toNat : Int) (2 ^ r % 256)) = byteV (v ^^^ UInt8.ofNat (2 ^ r)) := by
  have hp : 2 ^ r ≤ 2 ^ 7 := Nat.pow_le_pow_right (by omega) (by omega)
  have h := u8_xor_nat v.toNat (2 ^ r) v.toNat_lt (by omega)
  have e : (2 : Int) ^ r % 256 = ((2 ^ r : Nat) : Int) := by
    have e1 : (2 : Int) ^ r = ((2 ^ r : Nat) : Int) := by
      clear hp h
      simp
    have key : ∀ m : Nat, m ≤ 128 → ((m : Nat) : Int) % 256 = (m : Int) := fun m h => by omega
    rw [e1]
    exact key _ (by omega)
  rw [e, h]
  unfold byteV
  rw [UInt8.toNat_xor]
  have e3 : (UInt8.ofNat (2 ^ r)).toNat = 2 ^ r := Nat.mod_eq_of_lt (by omega)
  rw [e3]


theorem turn_burst (burst first : Nat) (bs : List UInt8) (hf : first ≤ 8 * bs.length) : Burst (turnTo burst first bs 32) bs :=
  ⟨turn_len burst first bs 32, first, _, by rw [turn_len]; exact hf, mask_lt burst first bs.length 32, turn_num burst first bs 32⟩
theorem turn_none (burst first : Nat) (bs : List UInt8) (h : mask burst first bs.length 32 = 0) : turnTo burst first bs 32 = bs := by
  have hx := turn_num burst first bs 32
  rw [h, Nat.mul_zero] at hx
  exact num_inj _ _ (turn_len burst first bs 32) (xor_zero_eq _ _ hx)
theorem turn_some (burst first : Nat) (bs : List UInt8) (h : mask burst first bs.length 32 ≠ 0) : turnTo burst first bs 32 ≠ bs := by
  intro e
  have hx := turn_num burst first bs 32
  rw [e, Nat.xor_self] at hx
  have := Nat.two_pow_pos first
  rcases Nat.mul_eq_zero.1 hx.symm with h1 | h1
  · omega
  · exact h h1
end Go.Proofs.Ytbagocghlijleaa.Bst
