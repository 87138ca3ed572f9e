/- The plain arithmetic of layer 1: the register of CRC-32C over natural numbers of any size, bit by bit. Proved without any condition: one step goes through an exclusive or, a whole list is many steps of one number, a byte's step is a shift and a word of a table, and a change that isn't nothing within 32 bits never ends in nothing. -/
namespace Go.Proofs.Ytbmbolgmeehloaa.Crc

/-- The register one bit later. -/
def bit (w : Nat) : Nat := if w % 2 = 1 then w / 2 ^^^ 2197175160 else w / 2

/-- The register k bits later. -/
def turns : Nat → Nat → Nat
  | 0, w => w
  | k + 1, w => turns k (bit w)

theorem bit_xor (a b : Nat) : bit (a ^^^ b) = bit a ^^^ bit b := by
  have hm : (a ^^^ b) % 2 = (a + b) % 2 := by
    have h1 : (a ^^^ b) % 2 = 1 ↔ ¬(a % 2 = 1 ↔ b % 2 = 1) := Nat.xor_mod_two_eq_one
    have h2 : (a ^^^ b) % 2 < 2 := Nat.mod_lt _ (by omega)
    generalize (a ^^^ b) % 2 = r at h1 h2 ⊢
    rcases Nat.mod_two_eq_zero_or_one a with ha | ha <;> rcases Nat.mod_two_eq_zero_or_one b with hb | hb <;> rw [ha, hb] at h1 <;> simp at h1 <;> omega
  have hd : (a ^^^ b) / 2 = a / 2 ^^^ b / 2 := Nat.xor_div_two
  unfold bit
  rw [hm, hd]
  rcases Nat.mod_two_eq_zero_or_one a with ha | ha <;> rcases Nat.mod_two_eq_zero_or_one b with hb | hb
  · rw [if_neg (by omega), if_neg (by omega), if_neg (by omega)]
  · rw [if_pos (by omega), if_neg (by omega), if_pos (by omega), Nat.xor_assoc]
  · rw [if_pos (by omega), if_pos (by omega), if_neg (by omega)]
    rw [Nat.xor_assoc, Nat.xor_assoc, Nat.xor_comm (b / 2)]
  · rw [if_neg (by omega), if_pos (by omega), if_pos (by omega)]
    rw [show (a / 2 ^^^ 2197175160) ^^^ (b / 2 ^^^ 2197175160) = (a / 2 ^^^ b / 2) ^^^ (2197175160 ^^^ 2197175160) by
      rw [Nat.xor_assoc, Nat.xor_assoc, ← Nat.xor_assoc 2197175160, Nat.xor_comm 2197175160 (b / 2), Nat.xor_assoc]]
    simp

theorem bit_double (x : Nat) : bit (2 * x) = x := by
  unfold bit
  rw [if_neg (by omega)]
  omega

theorem xor_zero_eq (a b : Nat) (h : a ^^^ b = 0) : a = b := by
  have e : a ^^^ b ^^^ b = 0 ^^^ b := by rw [h]
  rw [Nat.xor_assoc, Nat.xor_self] at e
  simpa using e

theorem bit_lt (w : Nat) (h : w < 4294967296) : bit w < 4294967296 := by
  unfold bit
  split
  · exact Nat.xor_lt_two_pow (n := 32) (by omega) (by omega)
  · omega

theorem bit_ne (w : Nat) (h : w < 4294967296) (h0 : w ≠ 0) : bit w ≠ 0 := by
  unfold bit
  split
  · intro e
    have : w / 2 = 2197175160 := xor_zero_eq _ _ e
    omega
  · omega

theorem turns_xor : ∀ (k a b : Nat), turns k (a ^^^ b) = turns k a ^^^ turns k b
  | 0, _, _ => rfl
  | k + 1, a, b => by
    show turns k (bit (a ^^^ b)) = _
    rw [bit_xor, turns_xor k]; rfl

theorem turns_lt : ∀ (k w : Nat), w < 4294967296 → turns k w < 4294967296
  | 0, _, h => h
  | k + 1, w, h => turns_lt k (bit w) (bit_lt w h)

theorem turns_ne : ∀ (k w : Nat), w < 4294967296 → w ≠ 0 → turns k w ≠ 0
  | 0, _, _, h => h
  | k + 1, w, h, h0 => turns_ne k (bit w) (bit_lt w h) (bit_ne w h h0)

theorem turns_add : ∀ (j k w : Nat), turns (j + k) w = turns k (turns j w)
  | 0, k, w => by rw [Nat.zero_add]; rfl
  | j + 1, k, w => by
    rw [show j + 1 + k = (j + k) + 1 by omega]
    exact turns_add j k (bit w)

theorem turns_succ (k w : Nat) : turns (k + 1) w = bit (turns k w) := turns_add k 1 w

theorem turns_pow : ∀ (k x : Nat), turns k (2 ^ k * x) = x
  | 0, x => by simp [turns]
  | k + 1, x => by
    show turns k (bit (2 ^ (k + 1) * x)) = x
    rw [show 2 ^ (k + 1) * x = 2 * (2 ^ k * x) by rw [Nat.pow_succ, Nat.mul_comm (2 ^ k) 2, Nat.mul_assoc], bit_double, turns_pow k]

/-- The register behind a byte. -/
def stepB (w c : Nat) : Nat := turns 8 (w ^^^ c)

/-- The register behind bytes. -/
def fold (w : Nat) (l : List UInt8) : Nat := l.foldl (fun a c => stepB a c.toNat) w

/-- Bytes as one number, the first the lowest. -/
def num : List UInt8 → Nat
  | [] => 0
  | c :: r => c.toNat ^^^ 256 * num r

theorem fold_nil (w : Nat) : fold w [] = w := rfl
theorem fold_cons (w : Nat) (c : UInt8) (r : List UInt8) : fold w (c :: r) = fold (stepB w c.toNat) r := rfl
theorem fold_append (w : Nat) (a b : List UInt8) : fold w (a ++ b) = fold (fold w a) b := List.foldl_append
theorem fold_snoc (w : Nat) (a : List UInt8) (c : UInt8) : fold w (a ++ [c]) = stepB (fold w a) c.toNat := fold_append w a [c]

theorem stepB_lt (w : Nat) (c : UInt8) (h : w < 4294967296) : stepB w c.toNat < 4294967296 :=
  turns_lt 8 _ (Nat.xor_lt_two_pow (n := 32) (by omega) (by have := c.toNat_lt; omega))

theorem fold_lt : ∀ (l : List UInt8) (w : Nat), w < 4294967296 → fold w l < 4294967296
  | [], _, h => h
  | c :: r, w, h => fold_lt r _ (stepB_lt w c h)

theorem fold_eq : ∀ (l : List UInt8) (w : Nat), fold w l = turns (8 * l.length) (w ^^^ num l)
  | [], w => by simp [fold_nil, num, turns]
  | c :: r, w => by
    rw [fold_cons, fold_eq r, List.length_cons, show 8 * (r.length + 1) = 8 + 8 * r.length by omega, turns_add]
    show turns _ (turns 8 (w ^^^ c.toNat) ^^^ num r) = turns _ (turns 8 (w ^^^ (c.toNat ^^^ 256 * num r)))
    rw [← Nat.xor_assoc, turns_xor 8 (w ^^^ c.toNat)]
    have h := turns_pow 8 (num r)
    rw [show (2 : Nat) ^ 8 = 256 from rfl] at h
    rw [h]

/-- A byte's step out of a table: a shift, and the word of the lowest byte. -/
theorem stepB_table (w c : Nat) : stepB w c = w / 256 ^^^ turns 8 (w % 256 ^^^ c) := by
  have h : w ^^^ c = 256 * (w / 256) ^^^ (w % 256 ^^^ c) := by
    have hx : w = 256 * (w / 256) ^^^ w % 256 := by
      have e : 256 * (w / 256) ^^^ w % 256 = 256 * (w / 256) + w % 256 := by
        have := Nat.two_pow_add_eq_or_of_lt (i := 8) (b := w % 256) (by omega) (w / 256)
        rw [show (2 : Nat) ^ 8 = 256 from rfl] at this
        rw [this]
        apply Nat.eq_of_testBit_eq
        intro i
        rw [Nat.testBit_xor, Nat.testBit_or]
        rcases Nat.lt_or_ge i 8 with hi | hi
        · have : (256 * (w / 256)).testBit i = false := by
            rw [show 256 * (w / 256) = 2 ^ 8 * (w / 256) from rfl, Nat.testBit_two_pow_mul]
            simp; omega
          simp [this]
        · have : (w % 256).testBit i = false := Nat.testBit_lt_two_pow (Nat.lt_of_lt_of_le (show w % 256 < 2 ^ 8 by omega) (Nat.pow_le_pow_right (by omega) hi))
          simp [this]
      rw [e]; omega
    rw [← Nat.xor_assoc, ← hx]
  unfold stepB
  rw [h, turns_xor]
  have h8 := turns_pow 8 (w / 256)
  rw [show (2 : Nat) ^ 8 = 256 from rfl] at h8
  rw [h8]

/-- The words of the table go through an exclusive or. -/
theorem word_xor (a b : Nat) : turns 8 (a ^^^ b) = turns 8 a ^^^ turns 8 b := turns_xor 8 a b

/-- The sum: the register, begun and ended with all bits turned. -/
def more (s : Nat) (l : List UInt8) : Nat := fold (s ^^^ 4294967295) l ^^^ 4294967295
def sum (l : List UInt8) : Nat := more 0 l

theorem flip_lt (s : Nat) (h : s < 4294967296) : s ^^^ 4294967295 < 4294967296 := Nat.xor_lt_two_pow (n := 32) (by omega) (by omega)
theorem flip_flip (s : Nat) : s ^^^ 4294967295 ^^^ 4294967295 = s := by rw [Nat.xor_assoc]; simp
theorem more_lt (s : Nat) (l : List UInt8) (h : s < 4294967296) : more s l < 4294967296 := flip_lt _ (fold_lt _ _ (flip_lt _ h))
theorem sum_lt (l : List UInt8) : sum l < 4294967296 := more_lt 0 l (by omega)

/-- P1.2: the sum of two lists, one behind the other. -/
theorem more_append (s : Nat) (a b : List UInt8) : more s (a ++ b) = more (more s a) b := by
  unfold more
  rw [fold_append, flip_flip]

theorem more_nil (s : Nat) : more s [] = s := by
  unfold more
  rw [fold_nil, flip_flip]

theorem xor_cancel4 (p x y : Nat) : (p ^^^ x) ^^^ (p ^^^ y) = x ^^^ y := by
  rw [Nat.xor_comm p x, Nat.xor_assoc, ← Nat.xor_assoc p p y]; simp

/-- Two sums differ by what the difference of the two lists' numbers turns into. -/
theorem more_diff (s : Nat) (a b : List UInt8) (h : a.length = b.length) : more s a ^^^ more s b = turns (8 * a.length) (num a ^^^ num b) := by
  unfold more
  rw [fold_eq, fold_eq, ← h, Nat.xor_comm (turns _ _) 4294967295, Nat.xor_comm (turns _ _) 4294967295, xor_cancel4, ← turns_xor, xor_cancel4]

theorem mul_pow_xor (i u v : Nat) : 2 ^ i * (u ^^^ v) = 2 ^ i * u ^^^ 2 ^ i * v := by
  have := Nat.shiftLeft_xor_distrib (a := u) (b := v) (i := i)
  simp only [Nat.shiftLeft_eq] at this
  rw [Nat.mul_comm, this, Nat.mul_comm u, Nat.mul_comm v]

/-- P1.2: the exclusive or of three lists, number by number. -/
theorem num_xor3 : ∀ (a b c : List UInt8), a.length = b.length → a.length = c.length →
    num (List.zipWith (fun x y => x ^^^ y) (List.zipWith (fun x y => x ^^^ y) a b) c) = num a ^^^ num b ^^^ num c
  | [], b, c, hb, hc => by
    cases b with
    | nil => cases c with
      | nil => simp [num]
      | cons => simp at hc
    | cons => simp at hb
  | x :: a, b, c, hb, hc => by
    cases b with
    | nil => simp at hb
    | cons y b => cases c with
      | nil => simp at hc
      | cons z c =>
        simp only [List.length_cons, Nat.add_right_cancel_iff] at hb hc
        simp only [List.zipWith_cons_cons, num, num_xor3 a b c hb hc, UInt8.toNat_xor]
        have e : 256 * (num a ^^^ num b ^^^ num c) = 256 * num a ^^^ 256 * num b ^^^ 256 * num c := by
          have m : ∀ u v : Nat, 256 * (u ^^^ v) = 256 * u ^^^ 256 * v := mul_pow_xor 8
          rw [m, m]
        rw [e]
        ac_rfl

theorem sum_xor3 (a b c : List UInt8) (hb : a.length = b.length) (hc : a.length = c.length) :
    sum (List.zipWith (fun x y => x ^^^ y) (List.zipWith (fun x y => x ^^^ y) a b) c) = sum a ^^^ sum b ^^^ sum c := by
  have hl : (List.zipWith (fun x y : UInt8 => x ^^^ y) (List.zipWith (fun x y => x ^^^ y) a b) c).length = a.length := by simp; omega
  unfold sum more
  rw [fold_eq, fold_eq, fold_eq, fold_eq, hl, ← hb, ← hc, num_xor3 a b c hb hc]
  simp only [turns_xor]
  generalize turns (8 * a.length) (num a) = x
  generalize turns (8 * a.length) (num b) = y
  generalize turns (8 * a.length) (num c) = z
  generalize turns (8 * a.length) 0 = p
  generalize turns (8 * a.length) 4294967295 = q
  generalize (4294967295 : Nat) = r
  have k : ∀ u : Nat, u ^^^ u = 0 := fun u => by simp
  have e : p ^^^ q ^^^ x ^^^ r ^^^ (p ^^^ q ^^^ y ^^^ r) ^^^ (p ^^^ q ^^^ z ^^^ r) = (p ^^^ p) ^^^ (q ^^^ q) ^^^ (r ^^^ r) ^^^ (p ^^^ q ^^^ (x ^^^ y ^^^ z) ^^^ r) := by ac_rfl
  rw [e, k, k, k]
  simp

/-- A byte turned at a place turns the number at that place. -/
theorem num_set : ∀ (l : List UInt8) (i : Nat) (x : UInt8), (h : i < l.length) → num (l.set i (l[i] ^^^ x)) = num l ^^^ 2 ^ (8 * i) * x.toNat
  | [], i, _, h => absurd h (by simp)
  | c :: r, 0, x, _ => by
    simp only [List.set_cons_zero, num, List.getElem_cons_zero, UInt8.toNat_xor, Nat.mul_zero, Nat.pow_zero, Nat.one_mul]
    ac_rfl
  | c :: r, i + 1, x, h => by
    simp only [List.length_cons, Nat.add_lt_add_iff_right] at h
    simp only [List.set_cons_succ, num, List.getElem_cons_succ, num_set r i x h]
    have m := mul_pow_xor 8 (num r) (2 ^ (8 * i) * x.toNat)
    rw [show (2 : Nat) ^ 8 = 256 from rfl] at m
    rw [m, ← Nat.mul_assoc, show 256 * 2 ^ (8 * i) = 2 ^ (8 * (i + 1)) by rw [show 8 * (i + 1) = 8 + 8 * i by omega, Nat.pow_add]]
    ac_rfl

/-- P1.3: a difference of less than 32 bits, at a place inside, that isn't nothing, makes another sum. -/
theorem sum_burst (a b : List UInt8) (first m : Nat) (h : a.length = b.length) (hd : num a ^^^ num b = 2 ^ first * m) (hf : first ≤ 8 * a.length) (hm : m < 4294967296) (h0 : m ≠ 0) : sum a ≠ sum b := by
  intro e
  have d := more_diff 0 a b h
  change sum a ^^^ sum b = _ at d
  rw [e, Nat.xor_self, hd, show 8 * a.length = first + (8 * a.length - first) by omega, turns_add, turns_pow] at d
  exact turns_ne _ m hm h0 d.symm

end Go.Proofs.Ytbmbolgmeehloaa.Crc
