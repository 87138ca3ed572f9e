/- Maps of bits in plain words: a bit, how many are 1, the first that is so, a part that is turned, the longest run; each determines its answer. Plain lists and numbers alone. -/
namespace Go.Proofs.Ytnkiblifnknbkaa.Bt

/-- Bit i of a map. -/
def bt (bs : List UInt8) (i : Nat) : Bool := (bs.getD (i / 8) 0).toNat.testBit (i % 8)

theorem testBit_hi (u : UInt8) (j : Nat) (hj : 8 ≤ j) : u.toNat.testBit j = false := by
  apply Nat.testBit_lt_two_pow
  have h := u.toNat_lt
  have : 2 ^ 8 ≤ 2 ^ j := Nat.pow_le_pow_right (by omega) hj
  omega
theorem bt_byte (bs : List UInt8) (q j : Nat) (hj : j < 8) : bt bs (8 * q + j) = (bs.getD q 0).toNat.testBit j := by
  unfold bt
  rw [show (8 * q + j) / 8 = q by omega, show (8 * q + j) % 8 = j by omega]
theorem bt_none (bs : List UInt8) (i : Nat) (h : 8 * bs.length ≤ i) : bt bs i = false := by
  unfold bt
  have e : bs.getD (i / 8) 0 = 0 := by
    simp [List.getD, List.getElem?_eq_none (show bs.length ≤ i / 8 by omega)]
  rw [e]
  simp
theorem bt_ext {xs ys : List UInt8} (hl : xs.length = ys.length) (h : ∀ i, i < 8 * xs.length → bt xs i = bt ys i) : xs = ys := by
  apply List.ext_getElem hl
  intro q h1 h2
  apply UInt8.toNat_inj.1
  apply Nat.eq_of_testBit_eq
  intro j
  by_cases hj : j < 8
  · have := h (8 * q + j) (by omega)
    rw [bt_byte xs q j hj, bt_byte ys q j hj] at this
    simpa [List.getD, h1, h2] using this
  · rw [testBit_hi _ j (by omega), testBit_hi _ j (by omega)]
theorem bt_set (bs : List UInt8) (q i : Nat) (u : UInt8) (hq : q < bs.length) : bt (bs.set q u) i = if i / 8 = q then u.toNat.testBit (i % 8) else bt bs i := by
  unfold bt
  by_cases h : i / 8 = q
  · subst h
    rw [if_pos rfl]
    simp [List.getD, hq]
  · rw [if_neg h]
    simp [List.getD, Ne.symm h]

/-! ### How many -/
def one (v : Bool) : Nat := if v then 1 else 0
def cnt (f : Nat → Bool) (a : Nat) : Nat → Nat
  | 0 => 0
  | k + 1 => cnt f a k + one (f (a + k))
theorem cnt_add (f : Nat → Bool) (a k : Nat) : ∀ m, cnt f a (k + m) = cnt f a k + cnt f (a + k) m
  | 0 => rfl
  | m + 1 => by
    show cnt f a (k + m) + one (f (a + (k + m))) = cnt f a k + (cnt f (a + k) m + one (f (a + k + m)))
    rw [cnt_add f a k m, Nat.add_assoc a k m]; omega
theorem cnt_congr {f g : Nat → Bool} {a b : Nat} : ∀ {k}, (∀ j, j < k → f (a + j) = g (b + j)) → cnt f a k = cnt g b k
  | 0, _ => rfl
  | k + 1, h => by
    show cnt f a k + one (f (a + k)) = cnt g b k + one (g (b + k))
    rw [cnt_congr (k := k) (fun j hj => h j (by omega)), h k (by omega)]
theorem cnt_none {f : Nat → Bool} {a : Nat} : ∀ {k}, (∀ j, j < k → f (a + j) = false) → cnt f a k = 0
  | 0, _ => rfl
  | k + 1, h => by
    show cnt f a k + one (f (a + k)) = 0
    rw [cnt_none (k := k) (fun j hj => h j (by omega)), h k (by omega)]; rfl
theorem cnt_le (f : Nat → Bool) (a : Nat) : ∀ k, cnt f a k ≤ k
  | 0 => Nat.le_refl _
  | k + 1 => by
    have := cnt_le f a k
    have : one (f (a + k)) ≤ 1 := by unfold one; split <;> omega
    show cnt f a k + one (f (a + k)) ≤ k + 1
    omega
theorem cnt_zero_iff {f : Nat → Bool} {a : Nat} : ∀ {k}, cnt f a k = 0 → ∀ j, j < k → f (a + j) = false
  | k + 1, h, j, hj => by
    have h' : cnt f a k + one (f (a + k)) = 0 := h
    by_cases e : j = k
    · subst e
      cases hf : f (a + j)
      · rfl
      · rw [hf] at h'
        have : one true = 1 := rfl
        omega
    · exact cnt_zero_iff (k := k) (by omega) j (by omega)

/-! ### Within one byte -/
/-- Ones from bit f to bit b - 1. -/
def mk (f b : Nat) : Nat := 2 ^ b - 2 ^ f
theorem mk_lt (f b : Nat) (hb : b ≤ 8) : mk f b < 256 := by
  have h : 2 ^ b ≤ 2 ^ 8 := Nat.pow_le_pow_right (by omega) hb
  have h2 : 0 < 2 ^ f := Nat.two_pow_pos f
  unfold mk
  omega
theorem mk_bit (f b j : Nat) (hf : f < 8) (hb : b ≤ 8) (hfb : f ≤ b) (hj : j < 8) : (mk f b).testBit j = decide (f ≤ j ∧ j < b) := by
  have h : ∀ f : Fin 8, ∀ b : Fin 9, ∀ j : Fin 8, f.1 ≤ b.1 → (mk f.1 b.1).testBit j.1 = decide (f.1 ≤ j.1 ∧ j.1 < b.1) := by decide +kernel
  exact h ⟨f, hf⟩ ⟨b, by omega⟩ ⟨j, hj⟩ hfb
/-- The same as the program reckons it. -/
theorem mk_wrap (f b : Nat) (hb : b ≤ 8) (hfb : f < b) : ((((2 ^ b : Nat) : Int) % 256) - (2 ^ f : Nat)) % 256 = (mk f b : Int) := by
  have h : ∀ f : Fin 8, ∀ b : Fin 9, f.1 < b.1 → ((((2 ^ b.1 : Nat) : Int) % 256) - (2 ^ f.1 : Nat)) % 256 = (mk f.1 b.1 : Int) := by decide +kernel
  exact h ⟨f, by omega⟩ ⟨b, by omega⟩ hfb
theorem not_bit (x j : Nat) (hx : x < 256) (hj : j < 8) : (255 - x).testBit j = !x.testBit j := by
  have h : ∀ x : Fin 256, ∀ j : Fin 8, (255 - x.1).testBit j.1 = !x.1.testBit j.1 := by decide +kernel
  exact h ⟨x, hx⟩ ⟨j, hj⟩
/-- Of a byte's bits those that a mask names. -/
theorem cnt_mask (x f b : Nat) (hf : f < 8) (hb : b ≤ 8) (hfb : f ≤ b) : cnt (fun j => (x &&& mk f b).testBit j) 0 8 = cnt (fun j => x.testBit j) f (b - f) := by
  have e : 8 = f + ((b - f) + (8 - b)) := by omega
  rw [show cnt (fun j => (x &&& mk f b).testBit j) 0 8 = cnt (fun j => (x &&& mk f b).testBit j) 0 (f + ((b - f) + (8 - b))) from congrArg _ e, cnt_add, cnt_add]
  rw [cnt_none (a := 0) (k := f) (fun j hj => by rw [Nat.testBit_and, mk_bit f b _ hf hb hfb (by omega)]; simp; omega)]
  rw [cnt_none (a := 0 + f + (b - f)) (k := 8 - b) (fun j hj => by rw [Nat.testBit_and, mk_bit f b _ hf hb hfb (by omega)]; simp; omega)]
  rw [Nat.zero_add, Nat.add_zero, Nat.zero_add]
  exact cnt_congr (fun j hj => by
    rw [Nat.testBit_and, mk_bit f b _ hf hb hfb (by omega)]
    simp; omega)

/-! ### The rounds of a part: k bytes, from bit a on, to bit b - 1 -/
def rounds (a b : Nat) : Nat := if a < b then (b - 1) / 8 - a / 8 + 1 else 0
def st (a : Nat) (j : Nat) : Nat := max a (8 * (a / 8 + j))
def en (a b : Nat) (j : Nat) : Nat := min b (8 * (a / 8 + j + 1))
theorem rounds_iff (a b j : Nat) : j < rounds a b ↔ st a j < b := by
  unfold rounds st
  split <;> omega
theorem st_zero (a : Nat) : st a 0 = a := by unfold st; omega
theorem st_succ (a j : Nat) : st a (j + 1) = st a j + (8 - st a j % 8) := by unfold st; omega
theorem st_byte (a j : Nat) : st a j / 8 = a / 8 + j := by unfold st; omega
theorem st_en (a b j : Nat) (h : st a j < b) : en a b j = st a j + (min (st a j % 8 + (b - st a j)) 8 - st a j % 8) := by unfold en st at *; omega
theorem en_st (a b j : Nat) (h : j + 1 < rounds a b) : en a b j = st a (j + 1) := by
  rw [rounds_iff] at h
  unfold en st at *; omega
theorem en_last (a b : Nat) (h : a < b) : en a b (rounds a b - 1) = b := by
  unfold en rounds
  rw [if_pos h]; omega
theorem st_lt_en (a b j : Nat) (h : st a j < b) : st a j < en a b j ∧ en a b j ≤ b ∧ en a b j ≤ 8 * (a / 8 + j) + 8 := by unfold en st at *; omega
/-- What lies in the part lies in just one round. -/
theorem in_round (a b i : Nat) (h1 : a ≤ i) (h2 : i < b) : ∃ j, j < rounds a b ∧ st a j ≤ i ∧ i < en a b j ∧ j = i / 8 - a / 8 := by
  refine ⟨i / 8 - a / 8, ?_, ?_, ?_, rfl⟩
  · rw [rounds_iff]; unfold st; omega
  · unfold st; omega
  · unfold en; omega
theorem round_in (a b i j : Nat) (h1 : st a j ≤ i) (h2 : i < en a b j) : a ≤ i ∧ i < b ∧ i / 8 = a / 8 + j := by unfold st en at *; omega

/-- The sum over the rounds is the count. -/
theorem cnt_rounds (f : Nat → Bool) (a b : Nat) : ∀ k, k ≤ rounds a b → (((List.range k).map fun j => cnt f (st a j) (en a b j - st a j)).sum) = cnt f a ((if k = rounds a b then b else st a k) - a)
  | 0, h => by
    rw [st_zero]
    split
    · rename_i h0
      have : ¬ a < b := fun hl => by unfold rounds at h0; rw [if_pos hl] at h0; omega
      simp [show b - a = 0 by omega, cnt]
    · simp [cnt]
  | k + 1, h => by
    have ih := cnt_rounds f a b k (by omega)
    rw [List.range_succ, List.map_append, List.sum_append, ih, if_neg (by omega)]
    have hs := (rounds_iff a b k).1 (by omega)
    have he := st_lt_en a b k hs
    have hsa : a ≤ st a k := by unfold st; omega
    have hen : (if k + 1 = rounds a b then b else st a (k + 1)) = en a b k := by
      split
      · rename_i h1
        have := en_last a b (by have : a ≤ st a k := hsa; omega)
        rw [← h1, Nat.add_sub_cancel] at this
        exact this.symm
      · exact (en_st a b k (by omega)).symm
    rw [hen, show en a b k - a = (st a k - a) + (en a b k - st a k) by omega, cnt_add, show a + (st a k - a) = st a k by omega]
    simp
theorem cnt_all (f : Nat → Bool) (a b : Nat) : ((List.finRange (rounds a b)).map fun j => cnt f (st a j.1) (en a b j.1 - st a j.1)).sum = cnt f a (b - a) := by
  have h := cnt_rounds f a b (rounds a b) (Nat.le_refl _)
  rw [if_pos rfl] at h
  rw [← h]
  congr 1
  apply List.ext_getElem
  · simp
  · intro i h1 h2
    simp

/-! ### The first one -/
def IsFst (p : Nat → Bool) (a b : Nat) (r : Int) : Prop := (r = -1 ∧ ∀ i, a ≤ i → i < b → p i = false) ∨ ∃ j : Nat, r = (j : Int) ∧ a ≤ j ∧ j < b ∧ p j = true ∧ ∀ i, a ≤ i → i < j → p i = false
theorem IsFst.one {p : Nat → Bool} {a b : Nat} {r r' : Int} (h : IsFst p a b r) (h' : IsFst p a b r') : r = r' := by
  rcases h with ⟨rfl, h1⟩ | ⟨j, rfl, h1, h2, h3, h4⟩
  · rcases h' with ⟨rfl, _⟩ | ⟨j, rfl, k1, k2, k3, _⟩
    · rfl
    · rw [h1 j k1 k2] at k3; cases k3
  · rcases h' with ⟨rfl, k1⟩ | ⟨i, rfl, k1, k2, k3, k4⟩
    · rw [k1 j h1 h2] at h3; cases h3
    · by_cases e : j = i
      · rw [e]
      · rcases Nat.lt_or_ge j i with hl | hl
        · rw [k4 j h1 hl] at h3; cases h3
        · rw [h4 i k1 (by omega)] at k3; cases k3
theorem IsFst.congr {p q : Nat → Bool} {a b : Nat} {r : Int} (h : IsFst p a b r) (e : ∀ i, a ≤ i → i < b → p i = q i) : IsFst q a b r := by
  rcases h with ⟨rfl, h1⟩ | ⟨j, rfl, h1, h2, h3, h4⟩
  · exact .inl ⟨rfl, fun i k1 k2 => by rw [← e i k1 k2]; exact h1 i k1 k2⟩
  · exact .inr ⟨j, rfl, h1, h2, by rw [← e j h1 h2]; exact h3, fun i k1 k2 => by rw [← e i k1 (by omega)]; exact h4 i k1 k2⟩

/-! ### A part that is turned -/
def Filled (bs : List UInt8) (a b : Nat) (v : Bool) (ys : List UInt8) : Prop := ys.length = bs.length ∧ ∀ i, i < 8 * bs.length → bt ys i = if a ≤ i ∧ i < b then v else bt bs i
theorem Filled.one {bs xs ys : List UInt8} {a b : Nat} {v : Bool} (h : Filled bs a b v xs) (h' : Filled bs a b v ys) : xs = ys :=
  bt_ext (h.1.trans h'.1.symm) fun i hi => by
    rw [h.1] at hi
    rw [h.2 i hi, h'.2 i hi]
theorem Filled.refl (bs : List UInt8) (a : Nat) (v : Bool) : Filled bs a a v bs := ⟨rfl, fun i _ => by rw [if_neg (by omega)]⟩
/-- One byte more, by a mask. -/
def turn (v : Bool) (u : UInt8) (f b : Nat) : UInt8 := if v then UInt8.ofNat (u.toNat ||| mk f b) else UInt8.ofNat (u.toNat &&& (255 - mk f b))
theorem turn_bit (v : Bool) (u : UInt8) (f b j : Nat) (hf : f < 8) (hb : b ≤ 8) (hfb : f ≤ b) (hj : j < 8) : (turn v u f b).toNat.testBit j = if f ≤ j ∧ j < b then v else u.toNat.testBit j := by
  have hu := u.toNat_lt
  have hm := mk_lt f b hb
  unfold turn
  cases v
  · rw [if_neg (by simp), UInt8.toNat_ofNat', Nat.mod_eq_of_lt (by have := Nat.and_le_left (n := u.toNat) (m := 255 - mk f b); omega), Nat.testBit_and, not_bit _ j hm hj, mk_bit f b j hf hb hfb hj]
    by_cases h : f ≤ j ∧ j < b <;> simp [h]
  · have : u.toNat ||| mk f b < 2 ^ 8 := Nat.or_lt_two_pow (by omega) (by omega)
    rw [if_pos rfl, UInt8.toNat_ofNat', Nat.mod_eq_of_lt (by omega), Nat.testBit_or, mk_bit f b j hf hb hfb hj]
    by_cases h : f ≤ j ∧ j < b <;> simp [h]
theorem turn_nat (v : Bool) (u : UInt8) (f b : Nat) (hb : b ≤ 8) : (turn v u f b).toNat = if v then u.toNat ||| mk f b else u.toNat &&& (255 - mk f b) := by
  have hu := u.toNat_lt
  have hm := mk_lt f b hb
  unfold turn
  cases v
  · simp only [if_neg (show ¬ (false = true) by simp), UInt8.toNat_ofNat']
    have := Nat.and_le_left (n := u.toNat) (m := 255 - mk f b)
    omega
  · have : u.toNat ||| mk f b < 2 ^ 8 := Nat.or_lt_two_pow (by omega) (by omega)
    simp only [if_pos, UInt8.toNat_ofNat']
    omega

/-- What the rounds of a list turn. -/
def turned (a b : Nat) (v : Bool) (bs : List UInt8) (j : Nat) : List UInt8 := bs.set (a / 8 + j) (turn v (bs.getD (a / 8 + j) 0) (st a j % 8) (st a j % 8 + (en a b j - st a j)))
def turnedAll (a b : Nat) (v : Bool) (bs : List UInt8) (js : List Nat) : List UInt8 := js.foldl (turned a b v) bs
theorem turned_len (a b : Nat) (v : Bool) (bs : List UInt8) (j : Nat) : (turned a b v bs j).length = bs.length := by simp [turned]
theorem turnedAll_len (a b : Nat) (v : Bool) (js : List Nat) : ∀ bs : List UInt8, (turnedAll a b v bs js).length = bs.length := by
  induction js with
  | nil => intro bs; rfl
  | cons j js ih => intro bs; show (turnedAll a b v (turned a b v bs j) js).length = _; rw [ih, turned_len]
theorem turnedAll_snoc (a b : Nat) (v : Bool) (bs : List UInt8) (js : List Nat) (j : Nat) : turnedAll a b v bs (js ++ [j]) = turned a b v (turnedAll a b v bs js) j := by simp [turnedAll]
theorem turned_bit (a b : Nat) (v : Bool) (bs : List UInt8) (j i : Nat) (hb : b ≤ 8 * bs.length) (hj : st a j < b) : bt (turned a b v bs j) i = if st a j ≤ i ∧ i < en a b j then v else bt bs i := by
  have he := st_lt_en a b j hj
  have hq := st_byte a j
  have hlt : a / 8 + j < bs.length := by omega
  unfold turned
  rw [bt_set _ _ _ _ hlt]
  by_cases h : i / 8 = a / 8 + j
  · rw [if_pos h, turn_bit v _ _ _ _ (by omega) (by omega) (by omega) (by omega)]
    by_cases h1 : st a j ≤ i ∧ i < en a b j
    · rw [if_pos h1, if_pos (by omega)]
    · rw [if_neg h1, if_neg (by omega)]
      unfold bt
      rw [h]
  · rw [if_neg h, if_neg (fun hc => h (round_in a b i j hc.1 hc.2).2.2)]
theorem turnedAll_range (a b : Nat) (v : Bool) (bs : List UInt8) (hb : b ≤ 8 * bs.length) : ∀ k, k ≤ rounds a b → ∀ i, bt (turnedAll a b v bs (List.range k)) i = if a ≤ i ∧ i < b ∧ i / 8 < a / 8 + k then v else bt bs i
  | 0, _, i => by rw [if_neg (by omega)]; rfl
  | k + 1, h, i => by
    rw [List.range_succ, turnedAll_snoc]
    have hs := (rounds_iff a b k).1 (by omega)
    rw [turned_bit a b v _ k i (by rw [turnedAll_len]; exact hb) hs, turnedAll_range a b v bs hb k (by omega) i]
    by_cases h1 : st a k ≤ i ∧ i < en a b k
    · have := round_in a b i k h1.1 h1.2
      rw [if_pos h1, if_pos (by omega)]
    · rw [if_neg h1]
      by_cases h2 : a ≤ i ∧ i < b ∧ i / 8 < a / 8 + k
      · rw [if_pos h2, if_pos (by omega)]
      · rw [if_neg h2]
        rw [if_neg]
        intro h3
        apply h1
        unfold st en
        omega
theorem turnedAll_filled (a b : Nat) (v : Bool) (bs : List UInt8) (hb : b ≤ 8 * bs.length) : Filled bs a b v (turnedAll a b v bs (List.range (rounds a b))) := by
  refine ⟨turnedAll_len _ _ _ _ _, fun i hi => ?_⟩
  rw [turnedAll_range a b v bs hb _ (Nat.le_refl _) i]
  by_cases h : a ≤ i ∧ i < b
  · obtain ⟨j, hj, _, _, e⟩ := in_round a b i h.1 h.2
    rw [if_pos (by omega), if_pos h]
  · rw [if_neg (by omega), if_neg h]
theorem finRange_range (k : Nat) : (List.finRange k).map (fun x : Fin k => x.1) = List.range k := by
  apply List.ext_getElem
  · simp
  · intro i h1 h2
    simp

/-! ### The longest run of 0s -/
def Free (f : Nat → Bool) (s k : Nat) : Prop := ∀ i, s ≤ i → i < s + k → f i = false
def IsLong (f : Nat → Bool) (a b : Nat) (at_ : Int) (n : Nat) : Prop :=
  (n = 0 ∧ at_ = -1 ∧ ∀ i, a ≤ i → i < b → f i = true) ∨
  ∃ A : Nat, at_ = (A : Int) ∧ 0 < n ∧ a ≤ A ∧ A + n ≤ b ∧ Free f A n ∧ ∀ s k, a ≤ s → s + k ≤ b → 0 < k → Free f s k → k ≤ n ∧ (k = n → A ≤ s)
theorem IsLong.one {f : Nat → Bool} {a b : Nat} {x y : Int} {n m : Nat} (h : IsLong f a b x n) (h' : IsLong f a b y m) : x = y ∧ n = m := by
  rcases h with ⟨rfl, rfl, h1⟩ | ⟨A, rfl, h0, h1, h2, h3, h4⟩
  · rcases h' with ⟨rfl, rfl, _⟩ | ⟨A, rfl, k0, k1, k2, k3, _⟩
    · exact ⟨rfl, rfl⟩
    · have := h1 A k1 (by omega)
      rw [k3 A (Nat.le_refl _) (by omega)] at this; cases this
  · rcases h' with ⟨rfl, rfl, k1⟩ | ⟨C, rfl, k0, k1, k2, k3, k4⟩
    · have := k1 A h1 (by omega)
      rw [h3 A (Nat.le_refl _) (by omega)] at this; cases this
    · have e1 := h4 C m k1 k2 k0 k3
      have e2 := k4 A n h1 h2 h0 h3
      have : n = m := by omega
      subst this
      have := e1.2 rfl
      have := e2.2 rfl
      exact ⟨by omega, rfl⟩
theorem long_none (f : Nat → Bool) (a : Nat) : IsLong f a a (-1) 0 := .inl ⟨rfl, rfl, fun i h1 h2 => by omega⟩
theorem long_ones {f : Nat → Bool} {a e e' : Nat} {x : Int} {m : Nat} (h : IsLong f a e x m) (hee : e ≤ e') (ho : ∀ i, e ≤ i → i < e' → f i = true) : IsLong f a e' x m := by
  rcases h with ⟨rfl, rfl, h1⟩ | ⟨A, rfl, h0, h1, h2, h3, h4⟩
  · exact .inl ⟨rfl, rfl, fun i k1 k2 => by
      rcases Nat.lt_or_ge i e with hl | hl
      · exact h1 i k1 hl
      · exact ho i hl k2⟩
  · refine .inr ⟨A, rfl, h0, h1, by omega, h3, fun s k k1 k2 k3 k4 => ?_⟩
    rcases Nat.lt_or_ge e (s + k) with hl | hl
    · have := ho (s + k - 1) (by omega) (by omega)
      rw [k4 (s + k - 1) (by omega) (by omega)] at this; cases this
    · exact h4 s k k1 hl k3 k4
/-- A run that reaches the new end, and begins behind a 1 or where the part does. -/
theorem long_ext {f : Nat → Bool} {a e e' S : Nat} {x : Int} {m : Nat} (h : IsLong f a e x m) (hee : e ≤ e') (hS : a ≤ S) (hSe : S ≤ e) (hlt : S < e') (hfree : Free f S (e' - S)) (hedge : S = a ∨ f (S - 1) = true) :
    IsLong f a e' (if m < e' - S then (S : Int) else x) (if m < e' - S then e' - S else m) := by
  have key : ∀ s k, a ≤ s → s + k ≤ e' → 0 < k → e < s + k → Free f s k → S ≤ s := fun s k k1 k2 k3 k4 k5 => by
    rcases Nat.lt_or_ge s S with hl | hl
    · rcases hedge with e1 | e1
      · omega
      · rw [k5 (S - 1) (by omega) (by omega)] at e1; cases e1
    · exact hl
  by_cases hm : m < e' - S
  · rw [if_pos hm, if_pos hm]
    refine .inr ⟨S, rfl, by omega, hS, by omega, hfree, fun s k k1 k2 k3 k4 => ?_⟩
    rcases Nat.lt_or_ge e (s + k) with hl | hl
    · have := key s k k1 k2 k3 hl k4
      exact ⟨by omega, fun _ => this⟩
    · rcases h with ⟨rfl, rfl, h1⟩ | ⟨A, rfl, h0, h1, h2, h3, h4⟩
      · have := h1 s k1 (by omega)
        rw [k4 s (Nat.le_refl _) (by omega)] at this; cases this
      · have := h4 s k k1 hl k3 k4
        exact ⟨by omega, fun e1 => by omega⟩
  · rw [if_neg hm, if_neg hm]
    rcases h with ⟨rfl, rfl, h1⟩ | ⟨A, rfl, h0, h1, h2, h3, h4⟩
    · omega
    · refine .inr ⟨A, rfl, h0, h1, by omega, h3, fun s k k1 k2 k3 k4 => ?_⟩
      rcases Nat.lt_or_ge e (s + k) with hl | hl
      · have := key s k k1 k2 k3 hl k4
        exact ⟨by omega, fun e1 => by omega⟩
      · exact h4 s k k1 hl k3 k4

/-! ### One bit that is put -/
def IsPut (bs : List UInt8) (i : Int) (v : Bool) (ys : List UInt8) : Prop := ys.length = bs.length ∧ ∀ j : Nat, j < 8 * bs.length → bt ys j = if (j : Int) = i then v else bt bs j
theorem IsPut.one {bs xs ys : List UInt8} {i : Int} {v : Bool} (h : IsPut bs i v xs) (h' : IsPut bs i v ys) : xs = ys :=
  bt_ext (h.1.trans h'.1.symm) fun j hj => by
    rw [h.1] at hj
    rw [h.2 j hj, h'.2 j hj]
end Go.Proofs.Ytnkiblifnknbkaa.Bt
