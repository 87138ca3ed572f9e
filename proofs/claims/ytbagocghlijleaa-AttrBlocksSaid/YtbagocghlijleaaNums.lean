/- Contracts of numbers as bytes and bytes as numbers, the program's and the document's, for every number, count and list; and what an append onto a slice of the call's own does. -/
import Derived.Test.YtbagocghlijleaaProg
import Derived.WalkKit
import Derived.LoopTactic
import Derived.Outline
import Derived.Below
import Derived.IntWalk
import Derived.Deep.WholeRow
import Derived.Deep.Draws
import Derived.RegionTactic
import Derived.ChangeAlike
import Derived.Laws.Rows
import Derived.Laws.NewBlocks
import Derived.Test.YtbagocghlijleaaMem
import Derived.Lib.Hide
import Derived.OwnWalk
import Derived.Maps.AppendAt
namespace Go.Proofs.Ytbagocghlijleaa.Crc

/-- The register one bit later. -/
def bit (w : Nat) : Nat := if w % 2 = 1 then w / 2 ^^^ 2197175160 else w / 2

/-- The register k bits later. -/
def turns : Nat → Nat → Nat
  | 0, w => w
  | k + 1, w => turns k (bit w)

theorem bit_xor (a b : Nat) : bit (a ^^^ b) = bit a ^^^ bit b := by
  have hm : (a ^^^ b) % 2 = (a + b) % 2 := by
    have h1 : (a ^^^ b) % 2 = 1 ↔ ¬(a % 2 = 1 ↔ b % 2 = 1) := Nat.xor_mod_two_eq_one
    have h2 : (a ^^^ b) % 2 < 2 := Nat.mod_lt _ (by omega)
    generalize (a ^^^ b) % 2 = r at h1 h2 ⊢
    rcases Nat.mod_two_eq_zero_or_one a with ha | ha <;> rcases Nat.mod_two_eq_zero_or_one b with hb | hb <;> rw [ha, hb] at h1 <;> simp at h1 <;> omega
  have hd : (a ^^^ b) / 2 = a / 2 ^^^ b / 2 := Nat.xor_div_two
  unfold bit
  rw [hm, hd]
  rcases Nat.mod_two_eq_zero_or_one a with ha | ha <;> rcases Nat.mod_two_eq_zero_or_one b with hb | hb
  · rw [if_neg (by omega), if_neg (by omega), if_neg (by omega)]
  · rw [if_pos (by omega), if_neg (by omega), if_pos (by omega), Nat.xor_assoc]
  · rw [if_pos (by omega), if_pos (by omega), if_neg (by omega)]
    rw [Nat.xor_assoc, Nat.xor_assoc, Nat.xor_comm (b / 2)]
  · rw [if_neg (by omega), if_pos (by omega), if_pos (by omega)]
    rw [show (a / 2 ^^^ 2197175160) ^^^ (b / 2 ^^^ 2197175160) = (a / 2 ^^^ b / 2) ^^^ (2197175160 ^^^ 2197175160) by
      rw [Nat.xor_assoc, Nat.xor_assoc, ← Nat.xor_assoc 2197175160, Nat.xor_comm 2197175160 (b / 2), Nat.xor_assoc]]
    simp

theorem bit_double (x : Nat) : bit (2 * x) = x := by
  unfold bit
  rw [if_neg (by omega)]
  omega

theorem xor_zero_eq (a b : Nat) (h : a ^^^ b = 0) : a = b := by
  have e : a ^^^ b ^^^ b = 0 ^^^ b := by rw [h]
  rw [Nat.xor_assoc, Nat.xor_self] at e
  simpa using e

theorem bit_lt (w : Nat) (h : w < 4294967296) : bit w < 4294967296 := by
  unfold bit
  split
  · exact Nat.xor_lt_two_pow (n := 32) (by omega) (by omega)
  · omega

theorem bit_ne (w : Nat) (h : w < 4294967296) (h0 : w ≠ 0) : bit w ≠ 0 := by
  unfold bit
  split
  · intro e
    have : w / 2 = 2197175160 := xor_zero_eq _ _ e
    omega
  · omega

theorem turns_xor : ∀ (k a b : Nat), turns k (a ^^^ b) = turns k a ^^^ turns k b
  | 0, _, _ => rfl
  | k + 1, a, b => by
    show turns k (bit (a ^^^ b)) = _
    rw [bit_xor, turns_xor k]; rfl

theorem turns_lt : ∀ (k w : Nat), w < 4294967296 → turns k w < 4294967296
  | 0, _, h => h
  | k + 1, w, h => turns_lt k (bit w) (bit_lt w h)

theorem turns_ne : ∀ (k w : Nat), w < 4294967296 → w ≠ 0 → turns k w ≠ 0
  | 0, _, _, h => h
  | k + 1, w, h, h0 => turns_ne k (bit w) (bit_lt w h) (bit_ne w h h0)

theorem turns_add : ∀ (j k w : Nat), turns (j + k) w = turns k (turns j w)
  | 0, k, w => by rw [Nat.zero_add]; rfl
  | j + 1, k, w => by
    rw [show j + 1 + k = (j + k) + 1 by omega]
    exact turns_add j k (bit w)

theorem turns_succ (k w : Nat) : turns (k + 1) w = bit (turns k w) := turns_add k 1 w

theorem turns_pow : ∀ (k x : Nat), turns k (2 ^ k * x) = x
  | 0, x => by simp [turns]
  | k + 1, x => by
    show turns k (bit (2 ^ (k + 1) * x)) = x
    rw [show 2 ^ (k + 1) * x = 2 * (2 ^ k * x) by rw [Nat.pow_succ, Nat.mul_comm (2 ^ k) 2, Nat.mul_assoc], bit_double, turns_pow k]

/-- The register behind a byte. -/
def stepB (w c : Nat) : Nat := turns 8 (w ^^^ c)

/-- The register behind bytes. -/
def fold (w : Nat) (l : List UInt8) : Nat := l.foldl (fun a c => stepB a c.toNat) w

/-- Bytes as one number, the first the lowest. -/
def num : List UInt8 → Nat
  | [] => 0
  | c :: r => c.toNat ^^^ 256 * num r

theorem fold_nil (w : Nat) : fold w [] = w := rfl
theorem fold_cons (w : Nat) (c : UInt8) (r : List UInt8) : fold w (c :: r) = fold (stepB w c.toNat) r := rfl
theorem fold_append (w : Nat) (a b : List UInt8) : fold w (a ++ b) = fold (fold w a) b := List.foldl_append
theorem fold_snoc (w : Nat) (a : List UInt8) (c : UInt8) : fold w (a ++ [c]) = stepB (fold w a) c.toNat := fold_append w a [c]

theorem stepB_lt (w : Nat) (c : UInt8) (h : w < 4294967296) : stepB w c.toNat < 4294967296 :=
  turns_lt 8 _ (Nat.xor_lt_two_pow (n := 32) (by omega) (by have := c.toNat_lt; omega))

theorem fold_lt : ∀ (l : List UInt8) (w : Nat), w < 4294967296 → fold w l < 4294967296
  | [], _, h => h
  | c :: r, w, h => fold_lt r _ (stepB_lt w c h)

theorem fold_eq : ∀ (l : List UInt8) (w : Nat), fold w l = turns (8 * l.length) (w ^^^ num l)
  | [], w => by simp [fold_nil, num, turns]
  | c :: r, w => by
    rw [fold_cons, fold_eq r, List.length_cons, show 8 * (r.length + 1) = 8 + 8 * r.length by omega, turns_add]
    show turns _ (turns 8 (w ^^^ c.toNat) ^^^ num r) = turns _ (turns 8 (w ^^^ (c.toNat ^^^ 256 * num r)))
    rw [← Nat.xor_assoc, turns_xor 8 (w ^^^ c.toNat)]
    have h := turns_pow 8 (num r)
    rw [show (2 : Nat) ^ 8 = 256 from rfl] at h
    rw [h]

/-- A byte's step out of a table: a shift, and the word of the lowest byte. -/
theorem stepB_table (w c : Nat) : stepB w c = w / 256 ^^^ turns 8 (w % 256 ^^^ c) := by
  have h : w ^^^ c = 256 * (w / 256) ^^^ (w % 256 ^^^ c) := by
    have hx : w = 256 * (w / 256) ^^^ w % 256 := by
      have e : 256 * (w / 256) ^^^ w % 256 = 256 * (w / 256) + w % 256 := by
        have := Nat.two_pow_add_eq_or_of_lt (i := 8) (b := w % 256) (by omega) (w / 256)
        rw [show (2 : Nat) ^ 8 = 256 from rfl] at this
        rw [this]
        apply Nat.eq_of_testBit_eq
        intro i
        rw [Nat.testBit_xor, Nat.testBit_or]
        rcases Nat.lt_or_ge i 8 with hi | hi
        · have : (256 * (w / 256)).testBit i = false := by
            rw [show 256 * (w / 256) = 2 ^ 8 * (w / 256) from rfl, Nat.testBit_two_pow_mul]
            simp; omega
          simp [this]
        · have : (w % 256).testBit i = false := Nat.testBit_lt_two_pow (Nat.lt_of_lt_of_le (show w % 256 < 2 ^ 8 by omega) (Nat.pow_le_pow_right (by omega) hi))
          simp [this]
      rw [e]; omega
    rw [← Nat.xor_assoc, ← hx]
  unfold stepB
  rw [h, turns_xor]
  have h8 := turns_pow 8 (w / 256)
  rw [show (2 : Nat) ^ 8 = 256 from rfl] at h8
  rw [h8]

/-- The words of the table go through an exclusive or. -/
theorem word_xor (a b : Nat) : turns 8 (a ^^^ b) = turns 8 a ^^^ turns 8 b := turns_xor 8 a b

/-- The sum: the register, begun and ended with all bits turned. -/
def more (s : Nat) (l : List UInt8) : Nat := fold (s ^^^ 4294967295) l ^^^ 4294967295
def sum (l : List UInt8) : Nat := more 0 l

theorem flip_lt (s : Nat) (h : s < 4294967296) : s ^^^ 4294967295 < 4294967296 := Nat.xor_lt_two_pow (n := 32) (by omega) (by omega)
theorem flip_flip (s : Nat) : s ^^^ 4294967295 ^^^ 4294967295 = s := by rw [Nat.xor_assoc]; simp
theorem more_lt (s : Nat) (l : List UInt8) (h : s < 4294967296) : more s l < 4294967296 := flip_lt _ (fold_lt _ _ (flip_lt _ h))
theorem sum_lt (l : List UInt8) : sum l < 4294967296 := more_lt 0 l (by omega)

/-- P1.2: the sum of two lists, one behind the other. -/
theorem more_append (s : Nat) (a b : List UInt8) : more s (a ++ b) = more (more s a) b := by
  unfold more
  rw [fold_append, flip_flip]

theorem more_nil (s : Nat) : more s [] = s := by
  unfold more
  rw [fold_nil, flip_flip]

theorem xor_cancel4 (p x y : Nat) : (p ^^^ x) ^^^ (p ^^^ y) = x ^^^ y := by
  rw [Nat.xor_comm p x, Nat.xor_assoc, ← Nat.xor_assoc p p y]; simp

/-- Two sums differ by what the difference of the two lists' numbers turns into. -/
theorem more_diff (s : Nat) (a b : List UInt8) (h : a.length = b.length) : more s a ^^^ more s b = turns (8 * a.length) (num a ^^^ num b) := by
  unfold more
  rw [fold_eq, fold_eq, ← h, Nat.xor_comm (turns _ _) 4294967295, Nat.xor_comm (turns _ _) 4294967295, xor_cancel4, ← turns_xor, xor_cancel4]

theorem mul_pow_xor (i u v : Nat) : 2 ^ i * (u ^^^ v) = 2 ^ i * u ^^^ 2 ^ i * v := by
  have := Nat.shiftLeft_xor_distrib (a := u) (b := v) (i := i)
  simp only [Nat.shiftLeft_eq] at this
  rw [Nat.mul_comm, this, Nat.mul_comm u, Nat.mul_comm v]

/-- P1.2: the exclusive or of three lists, number by number. -/
theorem num_xor3 : ∀ (a b c : List UInt8), a.length = b.length → a.length = c.length →
    num (List.zipWith (fun x y => x ^^^ y) (List.zipWith (fun x y => x ^^^ y) a b) c) = num a ^^^ num b ^^^ num c
  | [], b, c, hb, hc => by
    cases b with
    | nil => cases c with
      | nil => simp [num]
      | cons => simp at hc
    | cons => simp at hb
  | x :: a, b, c, hb, hc => by
    cases b with
    | nil => simp at hb
    | cons y b => cases c with
      | nil => simp at hc
      | cons z c =>
        simp only [List.length_cons, Nat.add_right_cancel_iff] at hb hc
        simp only [List.zipWith_cons_cons, num, num_xor3 a b c hb hc, UInt8.toNat_xor]
        have e : 256 * (num a ^^^ num b ^^^ num c) = 256 * num a ^^^ 256 * num b ^^^ 256 * num c := by
          have m : ∀ u v : Nat, 256 * (u ^^^ v) = 256 * u ^^^ 256 * v := mul_pow_xor 8
          rw [m, m]
        rw [e]
        ac_rfl

theorem sum_xor3 (a b c : List UInt8) (hb : a.length = b.length) (hc : a.length = c.length) :
    sum (List.zipWith (fun x y => x ^^^ y) (List.zipWith (fun x y => x ^^^ y) a b) c) = sum a ^^^ sum b ^^^ sum c := by
  have hl : (List.zipWith (fun x y : UInt8 => x ^^^ y) (List.zipWith (fun x y => x ^^^ y) a b) c).length = a.length := by simp; omega
  unfold sum more
  rw [fold_eq, fold_eq, fold_eq, fold_eq, hl, ← hb, ← hc, num_xor3 a b c hb hc]
  simp only [turns_xor]
  generalize turns (8 * a.length) (num a) = x
  generalize turns (8 * a.length) (num b) = y
  generalize turns (8 * a.length) (num c) = z
  generalize turns (8 * a.length) 0 = p
  generalize turns (8 * a.length) 4294967295 = q
  generalize (4294967295 : Nat) = r
  have k : ∀ u : Nat, u ^^^ u = 0 := fun u => by simp
  have e : p ^^^ q ^^^ x ^^^ r ^^^ (p ^^^ q ^^^ y ^^^ r) ^^^ (p ^^^ q ^^^ z ^^^ r) = (p ^^^ p) ^^^ (q ^^^ q) ^^^ (r ^^^ r) ^^^ (p ^^^ q ^^^ (x ^^^ y ^^^ z) ^^^ r) := by ac_rfl
  rw [e, k, k, k]
  simp

/-- A byte turned at a place turns the number at that place. -/
theorem num_set : ∀ (l : List UInt8) (i : Nat) (x : UInt8), (h : i < l.length) → num (l.set i (l[i] ^^^ x)) = num l ^^^ 2 ^ (8 * i) * x.toNat
  | [], i, _, h => absurd h (by simp)
  | c :: r, 0, x, _ => by
    simp only [List.set_cons_zero, num, List.getElem_cons_zero, UInt8.toNat_xor, Nat.mul_zero, Nat.pow_zero, Nat.one_mul]
    ac_rfl
  | c :: r, i + 1, x, h => by
    simp only [List.length_cons, Nat.add_lt_add_iff_right] at h
    simp only [List.set_cons_succ, num, List.getElem_cons_succ, num_set r i x h]
    have m := mul_pow_xor 8 (num r) (2 ^ (8 * i) * x.toNat)
    rw [show (2 : Nat) ^ 8 = 256 from rfl] at m
    rw [m, ← Nat.mul_assoc, show 256 * 2 ^ (8 * i) = 2 ^ (8 * (i + 1)) by rw [show 8 * (i + 1) = 8 + 8 * i by omega, Nat.pow_add]]
    ac_rfl

/-- P1.3: a difference of less than 32 bits, at a place inside, that isn't nothing, makes another sum. -/
theorem sum_burst (a b : List UInt8) (first m : Nat) (h : a.length = b.length) (hd : num a ^^^ num b = 2 ^ first * m) (hf : first ≤ 8 * a.length) (hm : m < 4294967296) (h0 : m ≠ 0) : sum a ≠ sum b := by
  intro e
  have d := more_diff 0 a b h
  change sum a ^^^ sum b = _ at d
  rw [e, Nat.xor_self, hd, show 8 * a.length = first + (8 * a.length - first) by omega, turns_add, turns_pow] at d
  exact turns_ne _ m hm h0 d.symm

end Go.Proofs.Ytbagocghlijleaa.Crc

namespace Go.Proofs.Ytbagocghlijleaa.Crc
open Go.RowKit

theorem ret_u32 {a b : Int} (h : a = b) : Ending.returned (.int .u32 a) = .returned (.int .u32 b) := by rw [h]

theorem low_bit (n : Nat) (hn : n < 4294967296) : bits .and .u32 (n : Int) 1 = ((n % 2 : Nat) : Int) := by
  have h := u32_and_nat n 1 hn (by omega)
  rw [Nat.and_one_is_mod] at h
  exact h
theorem low_one (n : Nat) (hn : n < 4294967296) (h : n % 2 = 1) : (bits .and .u32 (n : Int) 1 == 1) = true := by
  rw [low_bit n hn, h]; rfl
theorem low_zero (n : Nat) (hn : n < 4294967296) (h : n % 2 = 0) : (bits .and .u32 (n : Int) 1 == 1) = false := by
  rw [low_bit n hn, h]; rfl
theorem half_xor (n : Nat) (hn : n < 4294967296) : bits .xor .u32 ((n : Int) / 2) 2197175160 = ((n / 2 ^^^ 2197175160 : Nat) : Int) := by
  have h := u32_xor_nat (n / 2) 2197175160 (by omega) (by omega)
  rw [← h]; rfl
theorem bit_one (n : Nat) (h : n % 2 = 1) : bit n = n / 2 ^^^ 2197175160 := by unfold bit; rw [if_pos h]
theorem bit_zero (n : Nat) (h : n % 2 = 0) : bit n = n / 2 := by unfold bit; rw [if_neg (by omega)]

theorem round_one (k n : Nat) (hn : turns k n < 4294967296) (h : turns k n % 2 = 1) :
    Value.int .u32 (bits .xor .u32 ((turns k n : Int) / 2) 2197175160) = .int .u32 (turns (k + 1) n : Int) := by
  rw [half_xor _ hn, turns_succ, bit_one _ h]
theorem round_zero (k n : Nat) (h : turns k n % 2 = 0) : Value.int .u32 ((turns k n : Int) / 2) = .int .u32 (turns (k + 1) n : Int) := by
  rw [turns_succ, bit_zero _ h]; rfl

/-- crc: the word eight shifts later. -/
theorem shifted_any (n : Nat) (w : World) (hn : n < 4294967296) :
    Calls Try.prog 57 #[.int .u32 (n : Int)] w fun e w' => e = .returned (.int .u32 (turns 8 n : Int)) ∧ w = w' := by
  go_enter Try.func57, Try.ntmps57
  go_wp2
  go_loop [0, 3, 4] (fun v _ i => ∃ k : Nat, k ≤ 8 ∧ i = .int .i64 k ∧ v = .int .u32 (turns k n : Int)) (fun _ _ i => 8 - (intOf i).toNat)
  case atStart => exact ⟨0, by omega, rfl, rfl⟩
  case round =>
    obtain ⟨k, hk, rfl, rfl⟩ := hrel
    have hb := turns_lt k n hn
    by_cases hlt : k < 8
    · rcases Nat.mod_two_eq_zero_or_one (turns k n) with hp | hp
      · have H := low_zero _ hb hp
        have R : Hid (_ = _) := round_zero k n hp
        clear hp
        go_wp2
        go_round
        case rel => exact ⟨k + 1, by omega, by go_num, R.out⟩
        case measure => simp [intOf]; omega
      · have H := low_one _ hb hp
        have R : Hid (_ = _) := round_one k n hb hp
        clear hp
        go_wp2
        go_round
        case rel => exact ⟨k + 1, by omega, by go_num, R.out⟩
        case measure => simp [intOf]; omega
    · obtain rfl : k = 8 := by omega
      go_wp2
      go_ret
      exact ⟨rfl, rfl⟩

theorem xor_byte (n c : Nat) (hn : n < 4294967296) (hc : c < 256) : bits .xor .u32 (n : Int) (c : Int) = ((n ^^^ c : Nat) : Int) := u32_xor_nat n c hn (by omega)

/-- The document: the word behind a byte. -/
theorem step_any (n : Nat) (c : UInt8) (w : World) (hn : n < 4294967296) :
    Calls Try.prog 52 #[.int .u32 (n : Int), .int .u8 (c.toNat : Int)] w fun e w' => e = .returned (.int .u32 (stepB n c.toNat : Int)) ∧ w = w' := by
  have hc := c.toNat_lt
  have X := xor_byte n c.toNat hn (by omega)
  have hx : n ^^^ c.toNat < 4294967296 := Nat.xor_lt_two_pow (n := 32) (by omega) (by omega)
  unfold stepB
  generalize n ^^^ c.toNat = m at X hx ⊢
  go_enter Try.func52, Try.ntmps52
  go_wp2
  go_loop [0, 5, 6] (fun v i _ => ∃ k : Nat, k ≤ 8 ∧ i = .int .i64 k ∧ v = .int .u32 (turns k m : Int)) (fun _ i _ => 8 - (intOf i).toNat)
  case atStart => exact ⟨0, by omega, rfl, rfl⟩
  case round =>
    obtain ⟨k, hk, rfl, rfl⟩ := hrel
    have hb := turns_lt k m hx
    by_cases hlt : k < 8
    · rcases Nat.mod_two_eq_zero_or_one (turns k m) with hp | hp
      · have H := low_zero _ hb hp
        have R : Hid (_ = _) := round_zero k m hp
        clear hp
        go_wp2
        go_round
        case rel => exact ⟨k + 1, by omega, by go_num, R.out⟩
        case measure => simp [intOf]; omega
      · have H := low_one _ hb hp
        have R : Hid (_ = _) := round_one k m hb hp
        clear hp
        go_wp2
        go_round
        case rel => exact ⟨k + 1, by omega, by go_num, R.out⟩
        case measure => simp [intOf]; omega
    · obtain rfl : k = 8 := by omega
      go_wp2
      go_ret
      exact ⟨rfl, rfl⟩
end Go.Proofs.Ytbagocghlijleaa.Crc

namespace Go.Proofs.Ytbagocghlijleaa.Crc
open Go.RowKit

def wordV (i : Nat) : Value := .int .u32 (turns 8 i : Int)
def tblN (n i : Nat) : Array Value := (List.ofFn (n := n) fun j => if j.val < i then wordV j.val else .int .u32 0).toArray
def tblAt (i : Nat) : Array Value := tblN 256 i

theorem tblN_size (n i : Nat) : (tblN n i).size = n := by simp [tblN]
theorem tblN_get (n i j : Nat) (h : j < i) (hi : j < n) : (tblN n i)[j]? = some (wordV j) := by
  simp [tblN, hi, h]
theorem tblN_set (n i : Nat) (h : i < n) : (tblN n i).setIfInBounds i (wordV i) = tblN n (i + 1) := by
  apply Array.ext_getElem?
  intro j
  rw [Array.getElem?_setIfInBounds, tblN_size]
  by_cases hj : i = j
  · subst hj
    rw [if_pos rfl, if_pos h, tblN_get n (i + 1) i (by omega) h]
  · rw [if_neg hj]
    by_cases hl : j < n
    · simp only [tblN, List.getElem?_toArray, List.getElem?_ofFn, hl]
      by_cases hji : j < i
      · simp [hji, show j < i + 1 by omega]
      · simp [hji, show ¬ j < i + 1 by omega]
    · rw [Array.getElem?_eq_none (by rw [tblN_size]; omega), Array.getElem?_eq_none (by rw [tblN_size]; omega)]
theorem tblN_zero (n : Nat) : Array.replicate n (Value.int .u32 0) = tblN n 0 := by
  apply Array.ext_getElem?
  intro j
  simp [tblN, Array.getElem?_replicate]
  split <;> simp_all
theorem tbl_size (i : Nat) : (tblAt i).size = 256 := tblN_size 256 i
theorem tbl_get (i j : Nat) (h : j < i) (hi : j < 256) : (tblAt i)[j]? = some (wordV j) := tblN_get 256 i j h hi
theorem tbl_set (i : Nat) (h : i < 256) : (tblAt i).setIfInBounds i (wordV i) = tblAt (i + 1) := tblN_set 256 i h
theorem tbl_zero : Array.replicate 256 (Value.int .u32 0) = tblAt 0 := tblN_zero 256

theorem tbl_one : (tblAt 256).all (·.oneCell') = true := by
  rw [Array.all_eq_true_iff_forall_mem]
  intro v hv
  obtain ⟨j, hj, rfl⟩ := Array.getElem_of_mem hv
  rw [tbl_size] at hj
  have e : (tblAt 256)[j]'(by rw [tbl_size]; exact hj) = wordV j := Option.some.inj ((Array.getElem?_eq_getElem _).symm.trans (tbl_get 256 j hj hj))
  rw [e]; rfl
theorem info_tbl : (Try.prog.info? 74).map (fun i => (i.zero, i.size)) = some (some (.agg (Array.replicate 256 (.int .u32 0))), 256) := by kernel_rfl

/-- The lowest bit that is one. -/
def lowest (i : Nat) : Nat := (bits .and .i64 (i : Int) (-(i : Int))).toNat
theorem lowest_all : ∀ i : Fin 256, bits .and .i64 (i.val : Int) (-(i.val : Int)) = (lowest i.val : Int) ∧ lowest i.val ≤ i.val ∧ (i.val = 0 → lowest i.val = 0) ∧ (0 < i.val → 0 < lowest i.val) ∧ i.val - lowest i.val ^^^ lowest i.val = i.val := by decide +kernel

theorem setCell_two (w : World) (A : Obj) (C : Array Value) (t : TypeId) (nd i : Nat) (v : Value) :
    (((w.alloc A).alloc (.cells C t)).drewN nd).setCell ⟨w.heap.size + 1, i, none⟩ v = ((w.alloc A).alloc (.cells (C.setIfInBounds i v) t)).drewN nd := by
  have h := World.setCell_alloc_at (w := w.alloc A) C t (w.heap.size + 1) i v (by simp)
  have e : ∀ (W : World) (a : Addr), (W.drewN nd).setCell a v = (W.setCell a v).drewN nd := fun _ _ => rfl
  rw [e, h]

theorem words_round (w : World) (i nd : Nat) (v : Value) (hi : i < 256) (hv : v = wordV i) :
    (((w.alloc (.cells (tblAt 0) 74)).alloc (.cells (tblAt i) 74)).drewN nd).setCell ⟨w.heap.size + 1, i, none⟩ v = ((w.alloc (.cells (tblAt 0) 74)).alloc (.cells (tblAt (i + 1)) 74)).drewN nd := by
  rw [setCell_two, hv, tbl_set i hi]

theorem below_setRow {B : Nat} {a w : World} (h : Below B a w) (g : Nat) (cs : Array Value) (hg : B ≤ g) : Below B a (w.setRow g cs) :=
  h.trans ⟨rfl, rfl, rfl, by simp, fun k hk => setRow_other w g k cs (by omega)⟩

set_option maxRecDepth 100000 in
set_option maxHeartbeats 400000 in
theorem words_any (w : World) :
    Calls Try.prog 56 #[] w fun e w' => e = .returned (.agg (tblAt 256)) ∧ Below w.heap.size w w' := by
  have hz := (zero_of_info info_tbl).1
  go_enter Try.func56, Try.ntmps56
  go_wp2
  rw [tbl_zero]
  clear hz
  go_loopw [2, 3, 4] (fun _ _ c wr => ∃ i nd : Nat, i ≤ 256 ∧ c = .int .i64 i ∧ wr = ((w.alloc (.cells (tblAt 0) 74)).alloc (.cells (tblAt i) 74)).drewN nd) (fun _ _ c _ => 256 - (intOf c).toNat)
  case atStart => exact ⟨0, 0, by omega, rfl, rfl⟩
  case round =>
    obtain ⟨i, nd, hi, rfl, rfl⟩ := hrel
    by_cases hlt : i < 256
    · obtain ⟨hL, h1, h2, h3, h4⟩ := lowest_all ⟨i, hlt⟩
      simp only [] at hL h1 h2 h3 h4
      have H4 : Hid (_ = _) := h4
      clear h4
      generalize lowest i = L at hL h1 h2 h3 H4
      by_cases hs : L = i
      · have hb : ((L : Int) == (i : Int)) = true := by simp [hs]
        have H2 := h2; clear h2
        have HS : Hid (_ = _) := hs
        clear hs
        go_wp2_with fail
        refine (shifted_any _ _ (by omega)).mono ?_
        rintro e w' ⟨rfl, rfl⟩
        have hg := tbl_size i
        go_wp2
        go_roundw
        case rel => exact ⟨i + 1, nd, by omega, by go_num, words_round w i nd _ hlt rfl⟩
        case measure => simp [intOf]; omega
      · have hb : ((L : Int) == (i : Int)) = false := by simp; omega
        have hsz := tbl_size i
        obtain ⟨M, hMd⟩ : ∃ M, i - L = M := ⟨_, rfl⟩
        have hml : M < 256 := by omega
        have hll : L < 256 := by omega
        have hx1 : (tblAt i)[M]'(by rw [tbl_size]; exact hml) = .int .u32 (turns 8 M : Int) := Option.some.inj ((Array.getElem?_eq_getElem _).symm.trans (tbl_get i _ (by omega) hml))
        have hx2 : (tblAt i)[L]'(by rw [tbl_size]; exact hll) = .int .u32 (turns 8 L : Int) := Option.some.inj ((Array.getElem?_eq_getElem _).symm.trans (tbl_get i _ (by omega) hll))
        have hM : (i : Int) - (L : Int) = (M : Int) := by omega
        have hX : bits .xor .u32 (turns 8 M : Int) (turns 8 L : Int) = (turns 8 i : Int) := by
          rw [u32_xor_nat _ _ (turns_lt 8 _ (by omega)) (turns_lt 8 _ (by omega)), ← turns_xor, ← hMd, H4.out]
        clear H4 hMd
        clear h1 h2 h3 hs
        go_wp2
        go_region
        go_wp2
        go_roundw
        case rel => exact ⟨i + 1, nd + 1, by omega, by go_num, words_round w i _ _ hlt rfl⟩
        case measure => simp [intOf]; omega
    · obtain rfl : i = 256 := by omega
      have hg1 : (((w.alloc (.cells (tblAt 0) 74)).alloc (.cells (tblAt 256) 74)).drewN nd).heap[w.heap.size + 1]? = some (.cells (tblAt 256) 74 (0, 0)) := heap_alloc2_new w _ _
      have hg0 : (((w.alloc (.cells (tblAt 0) 74)).alloc (.cells (tblAt 256) 74)).drewN nd).heap[w.heap.size]? = some (.cells (tblAt 0) 74 (0, 0)) := heap_alloc2_old w _ _
      have H1 : Hid (_ = _) := hg1
      have H0 : Hid (_ = _) := hg0
      clear hg1 hg0
      have hw : Below w.heap.size w (((w.alloc (.cells (tblAt 0) 74)).alloc (.cells (tblAt 256) 74)).drewN nd) := by
        have h := ((Below.refl w.heap.size w).alloc (Nat.le_refl _) (.cells (tblAt 0) 74)).alloc (by simp) (.cells (tblAt 256) 74)
        exact ⟨h.os, h.tape, h.output, h.size, h.block⟩
      generalize ((w.alloc (.cells (tblAt 0) 74)).alloc (.cells (tblAt 256) 74)).drewN nd = W at H1 H0 hw ⊢
      go_wp2_with (first
        | (with_reducible refine wpList_load_row rfl 74 _ rfl (w.heap.size + 1) rfl 74 (tblAt 256) (0, 0) _ H1.out Try.underlying74 rfl (by rw [tbl_size]; exact (zero_of_info info_tbl).2) ?_)
        | (with_reducible refine wpList_store_row rfl 74 _ _ rfl w.heap.size (tblAt 256) rfl rfl 74 (tblAt 0) H0.out (by rw [tbl_size]; exact (zero_of_info info_tbl).2) (by rw [tbl_size, tbl_size]) tbl_one ?_))
      refine bodyPost_ret (v := .agg (tblAt 256)) (results_cell_row rfl _ _ w.heap.size 74 (tblAt 256) (0, 0) _ rfl (setRow_heap _ _ _ _ _ _ H0.out) Try.underlying74 rfl ?_) rfl ⟨rfl, below_setRow hw _ _ (Nat.le_refl _)⟩
      rw [tbl_size]; exact (zero_of_info info_tbl).2
end Go.Proofs.Ytbagocghlijleaa.Crc

namespace Go.Proofs.Ytbagocghlijleaa.Crc
set_option maxRecDepth 20000
open Go.RowKit
open Go.Proofs.Ytbagocghlijleaa.Mem

theorem flip_bits (s : Nat) (hs : s < 4294967296) : bits .xor .u32 IntKind.u32.max (s : Int) = ((s ^^^ 4294967295 : Nat) : Int) := by
  have h := u32_xor_nat 4294967295 s (by omega) hs
  rw [Nat.xor_comm] at h
  rw [← h]; rfl

theorem take_snoc (l : List UInt8) (k : Nat) (h : k < l.length) : l.take (k + 1) = l.take k ++ [l[k]] := by
  rw [List.take_succ_eq_append_getElem h]

/-- The place in the table. -/
def place (word : Nat) (c : UInt8) : Nat := word % 256 ^^^ c.toNat
theorem place_lt (word : Nat) (c : UInt8) : place word c < 256 := Nat.xor_lt_two_pow (n := 8) (by omega) c.toNat_lt
theorem place_bits (word : Nat) (c : UInt8) : bits .xor .u8 ((word : Int) % 256) (c.toNat : Int) = (place word c : Int) := u8_xor_nat (word % 256) c.toNat (by omega) c.toNat_lt
theorem table_bits (word : Nat) (c : UInt8) (h : word < 4294967296) : bits .xor .u32 ((word : Int) / 256) (turns 8 (place word c) : Int) = (stepB word c.toNat : Int) := by
  have := place_lt word c
  rw [stepB_table]
  exact u32_xor_nat (word / 256) _ (by omega) (turns_lt 8 _ (by omega))

theorem fold_take (f k : Nat) (bs : List UInt8) (h : k < bs.length) : stepB (fold f (bs.take k)) bs[k].toNat = fold f (bs.take (k + 1)) := by
  rw [take_snoc bs k h, fold_snoc]

set_option maxRecDepth 100000 in
theorem more_any (s : Nat) (A : Option Addr) (n c : Nat) (bs : List UInt8) (w : World) (hs : s < 4294967296) (h : Holds w w.heap.size A n bs) (hm : n ≤ maxLen) :
    Calls Try.prog 51 #[.int .u32 (s : Int), .slice A n c] w fun e w' => e = .returned (.int .u32 (more s bs : Int)) ∧ Below w.heap.size w w' := by
  have hz := (zero_of_info info_tbl).1
  unfold maxLen at hm
  have hF := flip_bits s hs
  have hf := flip_lt s hs
  have hsg : IntKind.u32.signed = false := rfl
  unfold more
  generalize s ^^^ 4294967295 = f at hF hf
  go_enter Try.func51, Try.ntmps51
  go_wp2_with fail
  refine (words_any _).mono ?_
  rintro e W1 ⟨rfl, hb⟩
  go_wp2_with (with_reducible refine wpList_store_row rfl 74 _ _ rfl W1.heap.size (tblAt 256) rfl rfl 74 (Array.replicate 256 (.int .u32 0)) (heap_alloc_last W1 _) (by rw [tbl_size]; exact (zero_of_info info_tbl).2) (by rw [tbl_size, Array.size_replicate]) tbl_one ?_)
  clear hz
  rw [World.setRow_alloc_new]
  have h' := h.below (hb.alloc hb.size (.cells (tblAt 256) 74))
  have hb' := hb.alloc hb.size (.cells (tblAt 256) 74)
  have ht := heap_alloc_last W1 (.cells (tblAt 256) 74)
  generalize W1.alloc (.cells (tblAt 256) 74) = W at h' hb' ht ⊢
  have HT : Hid (_ = _) := ht
  clear ht hb h
  go_loop [6, 8, 14] (fun v _ i => ∃ k : Nat, k ≤ n ∧ i = .int .i64 k ∧ v = .int .u32 (fold f (bs.take k) : Int)) (fun _ _ i => n - (intOf i).toNat)
  case atStart => exact ⟨0, by omega, rfl, rfl⟩
  case round =>
    obtain ⟨k, hk, rfl, rfl⟩ := hrel
    obtain ⟨hl, hc⟩ := h'
    by_cases hlt : k < n
    · obtain ⟨b, off, rfl, _, hcell⟩ := hc (by omega)
      have hx := hcell k (by omega)
      have hfl := fold_lt (bs.take k) f hf
      have R : Hid (_ = _) := fold_take f k bs (by omega)
      have hcb := (bs[k]'(by omega)).toNat_lt
      generalize bs[k]'(by omega) = u at hx R hcb
      generalize fold f (bs.take k) = word at hfl R ⊢
      have hp := place_bits word u
      have hpl := place_lt word u
      have htb := table_bits word u hfl
      have htc : W.cell? ⟨W1.heap.size, place word u, none⟩ = some (.int .u32 (turns 8 (place word u) : Int)) := by
        rw [cell_of_row W _ _ _ _ _ HT.out]; exact tbl_get 256 _ hpl hpl
      clear hcell hc hl
      go_wp2
      go_round
      case rel => exact ⟨k + 1, by omega, by go_num, by rw [← R.out]⟩
      case measure => simp [intOf]; omega
    · obtain rfl : k = n := by omega
      have e : bs.take k = bs := List.take_of_length_le (by omega)
      rw [e]
      have hG := flip_bits _ (fold_lt bs f hf)
      clear hc hl e
      go_wp2
      go_ret
      exact ⟨rfl, hb'⟩

theorem sum_any (A : Option Addr) (n c : Nat) (bs : List UInt8) (w : World) (h : Holds w w.heap.size A n bs) (hm : n ≤ maxLen) :
    Calls Try.prog 44 #[.slice A n c] w fun e w' => e = .returned (.int .u32 (sum bs : Int)) ∧ Below w.heap.size w w' := by
  have H := Lib.hid h
  clear h
  go_enter Try.func44, Try.ntmps44
  go_wp2_with fail
  refine (more_any 0 A n c bs _ (by omega) H.out hm).mono ?_
  rintro e w' ⟨rfl, hb⟩
  go_wp2
  go_ret
  exact ⟨rfl, hb⟩

/-- The sum in any world that is as an earlier one was below its end: for statements that leave the order of several calls open. -/
theorem sum_later (W : World) (A : Option Addr) (n c : Nat) (bs : List UInt8) (h : Holds W W.heap.size A n bs) (hm : n ≤ maxLen) (w : World) (hb : Below W.heap.size W w) :
    Calls Try.prog 44 #[.slice A n c] w fun e w' => e = .returned (.int .u32 (sum bs : Int)) ∧ Below W.heap.size W w' :=
  (sum_any A n c bs w ((h.below hb).more hb.size) hm).mono fun _ _ ⟨he, h'⟩ => ⟨he, hb.trans (h'.mono hb.size)⟩

/-- The document's own, which makes no memory. -/
theorem refmore_any (s : Nat) (A : Option Addr) (n c B : Nat) (bs : List UInt8) (w : World) (hs : s < 4294967296) (h : Holds w B A n bs) (hm : n ≤ maxLen) :
    Calls Try.prog 45 #[.int .u32 (s : Int), .slice A n c] w fun e w' => e = .returned (.int .u32 (more s bs : Int)) ∧ w = w' := by
  unfold maxLen at hm
  have hF := flip_bits s hs
  have hf := flip_lt s hs
  have hsg : IntKind.u32.signed = false := rfl
  unfold more
  generalize s ^^^ 4294967295 = f at hF hf
  go_enter Try.func45, Try.ntmps45
  go_wp2
  go_loop [5, 6] (fun v i => ∃ k : Nat, k ≤ n ∧ i = .int .i64 k ∧ v = .int .u32 (fold f (bs.take k) : Int)) (fun _ i => n - (intOf i).toNat)
  case atStart => exact ⟨0, by omega, rfl, rfl⟩
  case round =>
    obtain ⟨k, hk, rfl, rfl⟩ := hrel
    obtain ⟨hl, hc⟩ := h
    by_cases hlt : k < n
    · obtain ⟨b, off, rfl, _, hcell⟩ := hc (by omega)
      have hx := hcell k (by omega)
      have hfl := fold_lt (bs.take k) f hf
      have R : Hid (_ = _) := fold_take f k bs (by omega)
      have hcb := (bs[k]'(by omega)).toNat_lt
      generalize bs[k]'(by omega) = u at hx R hcb
      generalize fold f (bs.take k) = word at hfl R ⊢
      clear hcell hc hl
      go_wp2_with fail
      refine (step_any word u _ hfl).mono ?_
      rintro e w' ⟨rfl, rfl⟩
      go_wp2
      go_round
      case rel => exact ⟨k + 1, by omega, by go_num, by rw [← R.out]⟩
      case measure => simp [intOf]; omega
    · obtain rfl : k = n := by omega
      have e : bs.take k = bs := List.take_of_length_le (by omega)
      rw [e]
      have hG := flip_bits _ (fold_lt bs f hf)
      clear hc hl e
      go_wp2
      go_ret
      exact ⟨rfl, rfl⟩

theorem refsum_any (A : Option Addr) (n c B : Nat) (bs : List UInt8) (w : World) (h : Holds w B A n bs) (hm : n ≤ maxLen) :
    Calls Try.prog 34 #[.slice A n c] w fun e w' => e = .returned (.int .u32 (sum bs : Int)) ∧ w = w' := by
  have H := Lib.hid h
  clear h
  go_enter Try.func34, Try.ntmps34
  go_wp2_with fail
  refine (refmore_any 0 A n c B bs _ (by omega) H.out hm).mono ?_
  rintro e w' ⟨rfl, rfl⟩
  go_wp2
  go_ret
  exact ⟨rfl, rfl⟩
end Go.Proofs.Ytbagocghlijleaa.Crc

namespace Go.Proofs.Ytbagocghlijleaa.Crc
set_option maxRecDepth 20000
open Go.RowKit
open Go.Proofs.Ytbagocghlijleaa.Mem

/-- The number of the first k bytes, as both loops make it. -/
def numAt (bs : List UInt8) : Nat → Nat
  | 0 => 0
  | k + 1 => numAt bs k ||| (bs.getD k 0).toNat * 2 ^ (8 * k)

theorem numAt_lt (bs : List UInt8) : ∀ k, numAt bs k < 2 ^ (8 * k)
  | 0 => by simp [numAt]
  | k + 1 => by
    have h := numAt_lt bs k
    have hc := (bs.getD k 0).toNat_lt
    have e : 8 * (k + 1) = 8 * k + 8 := by omega
    refine Nat.or_lt_two_pow (Nat.lt_of_lt_of_le h (Nat.pow_le_pow_right (by omega) (by omega))) ?_
    rw [e, Nat.pow_add, Nat.mul_comm]
    exact Nat.mul_lt_mul_of_pos_left (by omega) (Nat.pow_pos (by omega))

theorem number_step (bs : List UInt8) (k : Nat) (u : UInt8) (hk : k < 8) (hu : bs.getD k 0 = u) :
    Value.int .u64 (bits .or .u64 (numAt bs k : Int) (IntKind.u64.wrap ((u.toNat : Int) * 2 ^ (8 * k)))) = .int .u64 (numAt bs (k + 1) : Int) := by
  have hc := u.toNat_lt
  have hn := numAt_lt bs k
  have h1 : u.toNat * 2 ^ (8 * k) < 18446744073709551616 := by
    have hp : 2 ^ (8 * k) ≤ 2 ^ 56 := Nat.pow_le_pow_right (by omega) (by omega)
    have := Nat.mul_le_mul (show u.toNat ≤ 255 by omega) hp
    omega
  have h2 : numAt bs k < 18446744073709551616 := Nat.lt_of_lt_of_le hn (Nat.le_trans (Nat.pow_le_pow_right (n := 2) (by omega) (show 8 * k ≤ 64 by omega)) (by omega))
  have e : ((u.toNat : Int) * 2 ^ (8 * k)) = ((u.toNat * 2 ^ (8 * k) : Nat) : Int) := by simp
  have hw : IntKind.u64.wrap ((u.toNat * 2 ^ (8 * k) : Nat) : Int) = ((u.toNat * 2 ^ (8 * k) : Nat) : Int) := by
    rw [IntKind.wrap_u64]; omega
  rw [e, hw, u64_or_nat _ _ h2 h1]
  show _ = Value.int .u64 ((numAt bs k ||| (bs.getD k 0).toNat * 2 ^ (8 * k) : Nat) : Int)
  rw [hu]

theorem number_long (A : Option Addr) (n c : Nat) (w : World) (h : 8 < n) (hm : n ≤ maxLen) :
    Calls Try.prog 53 #[.slice A n c] w fun e w' => e = .returned (.tuple #[.int .u64 0, .bool false]) ∧ w = w' := by
  unfold maxLen at hm
  have h8 : (8 : Int) < (n : Int) := by omega
  go_enter Try.func53, Try.ntmps53
  go_wp2
  go_ret2
  exact ⟨rfl, rfl⟩
theorem refnumber_long (A : Option Addr) (n c : Nat) (w : World) (h : 8 < n) (hm : n ≤ maxLen) :
    Calls Try.prog 48 #[.slice A n c] w fun e w' => e = .returned (.tuple #[.int .u64 0, .bool false]) ∧ w = w' := by
  unfold maxLen at hm
  have h8 : (8 : Int) < (n : Int) := by omega
  go_enter Try.func48, Try.ntmps48
  go_wp2
  go_ret2
  exact ⟨rfl, rfl⟩

set_option maxRecDepth 100000 in
theorem number_any (A : Option Addr) (n c B : Nat) (bs : List UInt8) (w : World) (h : Holds w B A n bs) (hm : n ≤ 8) :
    Calls Try.prog 53 #[.slice A n c] w fun e w' => e = .returned (.tuple #[.int .u64 (numAt bs n : Int), .bool true]) ∧ w = w' := by
  have h8 : ¬ ((8 : Int) < (n : Int)) := by omega
  go_enter Try.func53, Try.ntmps53
  go_wp2
  go_loop [4, 5, 6, 12] (fun v _ _ i => ∃ k : Nat, k ≤ n ∧ i = .int .i64 k ∧ v = .int .u64 (numAt bs k : Int)) (fun _ _ _ i => n - (intOf i).toNat)
  case atStart => exact ⟨0, by omega, rfl, rfl⟩
  case round =>
    obtain ⟨k, hk, rfl, rfl⟩ := hrel
    obtain ⟨hl, hc⟩ := h
    by_cases hlt : k < n
    · obtain ⟨b, off, rfl, _, hcell⟩ := hc (by omega)
      have hx := hcell k (by omega)
      obtain ⟨u, he⟩ : ∃ u, bs[k]'(by omega) = u := ⟨_, rfl⟩
      rw [he] at hx
      have hcb := u.toNat_lt
      have R : Hid (_ = _) := number_step bs k u (by omega) (by rw [← he]; simp [List.getD, List.getElem?_eq_getElem (show k < bs.length by omega)])
      clear hcell hc hl he
      go_wp2
      go_round
      case rel => exact ⟨k + 1, by omega, by go_num, R.out⟩
      case measure => simp [intOf]; omega
    · obtain rfl : k = n := by omega
      go_wp2
      go_ret2
      exact ⟨rfl, rfl⟩

set_option maxRecDepth 100000 in
theorem refnumber_any (A : Option Addr) (n c B : Nat) (bs : List UInt8) (w : World) (h : Holds w B A n bs) (hm : n ≤ 8) :
    Calls Try.prog 48 #[.slice A n c] w fun e w' => e = .returned (.tuple #[.int .u64 (numAt bs n : Int), .bool true]) ∧ w = w' := by
  have h8 : ¬ ((8 : Int) < (n : Int)) := by omega
  go_enter Try.func48, Try.ntmps48
  go_wp2
  go_loop [4, 5] (fun v i => ∃ k : Nat, k ≤ n ∧ i = .int .i64 k ∧ v = .int .u64 (numAt bs k : Int)) (fun _ i => n - (intOf i).toNat)
  case atStart => exact ⟨0, by omega, rfl, rfl⟩
  case round =>
    obtain ⟨k, hk, rfl, rfl⟩ := hrel
    obtain ⟨hl, hc⟩ := h
    by_cases hlt : k < n
    · obtain ⟨b, off, rfl, _, hcell⟩ := hc (by omega)
      have hx := hcell k (by omega)
      obtain ⟨u, he⟩ : ∃ u, bs[k]'(by omega) = u := ⟨_, rfl⟩
      rw [he] at hx
      have hcb := u.toNat_lt
      have R : Hid (_ = _) := number_step bs k u (by omega) (by rw [← he]; simp [List.getD, List.getElem?_eq_getElem (show k < bs.length by omega)])
      clear hcell hc hl he
      go_wp2
      go_round
      case rel => exact ⟨k + 1, by omega, by go_num, R.out⟩
      case measure => simp [intOf]; omega
    · obtain rfl : k = n := by omega
      go_wp2
      go_ret2
      exact ⟨rfl, rfl⟩

/-! ### Bytes -/
def byteN (v j : Nat) : UInt8 := UInt8.ofNat (v / 2 ^ (8 * j))
def bytesL (v L : Nat) : List UInt8 := (List.range L).map (byteN v)
def bAt (v L i : Nat) : Array Value := partly (fun j => byteV (byteN v j)) (.int .u8 0) L i
theorem bAt_full (v L : Nat) : bAt v L L = ((bytesL v L).map byteV).toArray := by
  apply Array.ext_getElem?
  intro j
  by_cases hj : j < L
  · rw [bAt, partly_get _ _ L L j hj hj]
    simp [bytesL, hj]
  · rw [Array.getElem?_eq_none (by rw [bAt, partly_size]; omega), Array.getElem?_eq_none (by simp [bytesL]; omega)]
theorem byteN_val (v j : Nat) : ((byteN v j).toNat : Int) = (v : Int) / 2 ^ (8 * j) % 256 := by
  simp [byteN]

theorem bytes_round (v L k : Nat) (hk : k < L) : (bAt v L k).setIfInBounds k (.int .u8 ((v : Int) / 2 ^ (8 * k) % 256)) = bAt v L (k + 1) := by
  have h := partly_set (fun j => byteV (byteN v j)) (.int .u8 0) L k hk
  unfold byteV at h
  rw [byteN_val] at h
  exact h

set_option maxRecDepth 100000 in
theorem bytes_any (v : Nat) (n : Int) (w : World) (L : Nat) (hL : (L : Int) = min (max n 0) 8) (h1 : -9223372036854775808 ≤ n) (h2 : n ≤ 9223372036854775807) :
    Calls Try.prog 43 #[.int .u64 (v : Int), .int .i64 n] w fun e w' => e = .returned (.slice (some ⟨w.heap.size, 0, none⟩) L L) ∧ w.alloc (.cells (bAt v L L) 5) = w' := by
  obtain ⟨i0, hi, hz0, hz1, hz2⟩ := info_parts info_u8
  have mk : ∀ x : Int, x = min (max n 0) 8 → ∀ W, (Instr.makeSlice 34 (.int .i64 x) (.int .i64 x)).run Try.prog W = .ok (.slice (some ⟨W.heap.size, 0, none⟩) L L) (W.alloc (.cells (bAt v L 0) 5)) := by
    intro x hx W
    have h := run_make (P := Try.prog) W 34 5 i0 (.int .u8 0) Try.underlying34 hi hz0 .i64 .i64 x x (by omega) (Int.le_refl _) (by rw [hz2]; omega) (by omega)
    rw [show x.toNat = L by omega] at h
    simp only [hz1, Nat.mul_one] at h
    rw [h, bAt, ← partly_zero]
    congr 3
    exact Array.toList_inj.1 ((toList_madeCells_one _ _).trans (Array.toList_replicate).symm)
  have H := Lib.hid mk
  clear mk hi hz0 hz1 hz2
  have HL := Lib.hid hL
  have hL8 : L ≤ 8 := by omega
  clear hL
  rcases Int.lt_or_le n 0 with hn | hn
  · have hmk := H.out 0 (by omega)
    clear H HL
    go_enter Try.func43, Try.ntmps43
    go_wp2
    go_loopw [6, 13] (fun _ i wr => ∃ k : Nat, k ≤ L ∧ i = .int .i64 k ∧ wr = w.alloc (.cells (bAt v L k) 5)) (fun _ i _ => L - (intOf i).toNat)
    case atStart => exact ⟨0, by omega, rfl, rfl⟩
    case round =>
      obtain ⟨k, hk, rfl, rfl⟩ := hrel
      by_cases hlt : k < L
      · have hsz : (bAt v L k).size = L := partly_size _ _ L k
        have R : Hid (_ = _) := bytes_round v L k hlt
        go_wp2
        go_roundw
        case rel => exact ⟨k + 1, by omega, by go_num, by rw [← R.out]⟩
        case measure => simp [intOf]; omega
      · obtain rfl : k = L := by omega
        go_wp2
        go_ret
        exact ⟨rfl, rfl⟩
  · rcases Int.lt_or_le 8 n with hn8 | hn8
    · have hmk := H.out 8 (by omega)
      clear H HL
      go_enter Try.func43, Try.ntmps43
      go_wp2
      go_loopw [6, 13] (fun _ i wr => ∃ k : Nat, k ≤ L ∧ i = .int .i64 k ∧ wr = w.alloc (.cells (bAt v L k) 5)) (fun _ i _ => L - (intOf i).toNat)
      case atStart => exact ⟨0, by omega, rfl, rfl⟩
      case round =>
        obtain ⟨k, hk, rfl, rfl⟩ := hrel
        by_cases hlt : k < L
        · have hsz : (bAt v L k).size = L := partly_size _ _ L k
          have R : Hid (_ = _) := bytes_round v L k hlt
          go_wp2
          go_roundw
          case rel => exact ⟨k + 1, by omega, by go_num, by rw [← R.out]⟩
          case measure => simp [intOf]; omega
        · obtain rfl : k = L := by omega
          go_wp2
          go_ret
          exact ⟨rfl, rfl⟩
    · have hmk := H.out n (by omega)
      clear H HL
      go_enter Try.func43, Try.ntmps43
      go_wp2
      go_loopw [6, 13] (fun _ i wr => ∃ k : Nat, k ≤ L ∧ i = .int .i64 k ∧ wr = w.alloc (.cells (bAt v L k) 5)) (fun _ i _ => L - (intOf i).toNat)
      case atStart => exact ⟨0, by omega, rfl, rfl⟩
      case round =>
        obtain ⟨k, hk, rfl, rfl⟩ := hrel
        by_cases hlt : k < L
        · have hsz : (bAt v L k).size = L := partly_size _ _ L k
          have R : Hid (_ = _) := bytes_round v L k hlt
          go_wp2
          go_roundw
          case rel => exact ⟨k + 1, by omega, by go_num, by rw [← R.out]⟩
          case measure => simp [intOf]; omega
        · obtain rfl : k = L := by omega
          go_wp2
          go_ret
          exact ⟨rfl, rfl⟩
theorem byteN_cell (v k : Nat) : Value.int .u8 ((v : Int) / 2 ^ (8 * k) % 256) = byteV (byteN v k) := by unfold byteV; rw [byteN_val]
theorem bytesL_len (v L : Nat) : (bytesL v L).length = L := by simp [bytesL]
theorem bytesL_snoc (v k : Nat) : bytesL v (k + 1) = bytesL v k ++ [byteN v k] := by simp [bytesL, List.range_succ]


set_option maxRecDepth 100000 in
theorem refbytes_any (v : Nat) (n : Int) (w : World) (L : Nat) (hL : (L : Int) = min (max n 0) 8) (h1 : -9223372036854775808 ≤ n) (h2 : n ≤ 9223372036854775807) :
    Calls Try.prog 33 #[.int .u64 (v : Int), .int .i64 n] w fun e w' => ∃ sv, e = .returned sv ∧ Owned w' w.heap.size sv (bytesL v L) ∧ Below w.heap.size w w' := by
  obtain ⟨i0, hi, hz0, hz1, hz2⟩ := info_parts info_u8
  have hL8 : L ≤ 8 := by omega
  have HL := Lib.hid hL
  clear hL
  go_enter Try.func33, Try.ntmps33
  go_wp2
  go_loopw [5, 6] (fun sv i wr => ∃ k : Nat, k ≤ L ∧ i = .int .i64 k ∧ Owned wr w.heap.size sv (bytesL v k) ∧ Below w.heap.size w wr) (fun _ i _ => L - (intOf i).toNat)
  case atStart => exact ⟨0, by omega, rfl, World.ownsRow_nil w _ _ _, Below.refl _ _⟩
  case round =>
    obtain ⟨k, hk, rfl, hown, hb⟩ := hrel
    by_cases hlt : k < L
    · have q1 : (k : Int) < n := by have := HL.out; omega
      have q2 : (k : Int) < 8 := by omega
      have HO := Lib.hid hown
      clear hown
      go_wp2_with (at_builtin; refine wpList_addone rfl _ _ rfl w.heap.size u5 (bytesL v k) rfl HO.out (byteN v k) _ (byteN_cell v k) rfl ?c1 ?c2 ?_)
      case c1 => rw [bytesL_len]; omega
      case c2 => exact hb.size
      intro sv w1 hown1 hb1
      have HO1 := Lib.hid hown1
      clear hown1
      go_wp2
      go_roundw
      case rel => exact ⟨k + 1, by omega, by go_num, by rw [bytesL_snoc]; exact HO1.out, hb.trans hb1⟩
      case measure => simp [intOf]; omega
    · obtain rfl : k = L := by omega
      by_cases q2 : k < 8
      · have q1 : n ≤ (k : Int) := by have := HL.out; omega
        go_wp2
        go_ret
        exact ⟨_, rfl, hown, hb⟩
      · have q3 : ¬ k < 8 := q2
        by_cases q1 : (k : Int) < n
        · go_wp2
          go_ret
          exact ⟨_, rfl, hown, hb⟩
        · go_wp2
          go_ret
          exact ⟨_, rfl, hown, hb⟩
end Go.Proofs.Ytbagocghlijleaa.Crc
