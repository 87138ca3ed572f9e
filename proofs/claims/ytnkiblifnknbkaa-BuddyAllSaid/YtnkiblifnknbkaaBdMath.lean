/- Chunks of blocks in plain words: the free chunks that lie in no greater free one, the first free chunk of an order, what is taken. Plain lists and numbers alone. -/
import Derived.Test.YtnkiblifnknbkaaBtMath
namespace Go.Proofs.Ytnkiblifnknbkaa.Bd
open Go.Proofs.Ytnkiblifnknbkaa.Bt

theorem cnt_full {f : Nat → Bool} {a : Nat} : ∀ {k}, cnt f a k = k → ∀ j, j < k → f (a + j) = true
  | k + 1, h, j, hj => by
    have h' : cnt f a k + one (f (a + k)) = k + 1 := h
    have hle := cnt_le f a k
    have h1 : one (f (a + k)) ≤ 1 := by unfold one; split <;> omega
    by_cases e : j = k
    · subst e
      cases hf : f (a + j)
      · rw [hf] at h'
        have : one false = 0 := rfl
        omega
      · rfl
    · exact cnt_full (k := k) (by omega) j (by omega)
theorem cnt_all1 {f : Nat → Bool} {a : Nat} : ∀ {k}, (∀ j, j < k → f (a + j) = true) → cnt f a k = k
  | 0, _ => rfl
  | k + 1, h => by
    show cnt f a k + one (f (a + k)) = k + 1
    rw [cnt_all1 (k := k) (fun j hj => h j (by omega)), h k (by omega)]; rfl

/-- The chunk of order k at a is free. -/
def FreeC (f : Nat → Bool) (n a k : Nat) : Prop := a + 2 ^ k ≤ n ∧ cnt f a (2 ^ k) = 0
instance (f : Nat → Bool) (n a k : Nat) : Decidable (FreeC f n a k) := inferInstanceAs (Decidable (_ ∧ _))
theorem FreeC.sub {f : Nat → Bool} {n a k b j : Nat} (h : FreeC f n a k) (h1 : a ≤ b) (h2 : b + 2 ^ j ≤ a + 2 ^ k) : FreeC f n b j := by
  refine ⟨by have := h.1; omega, cnt_none fun i hi => ?_⟩
  have := cnt_zero_iff h.2 (b + i - a) (by omega)
  rwa [show a + (b + i - a) = b + i by omega] at this
theorem FreeC.bit {f : Nat → Bool} {n a k i : Nat} (h : FreeC f n a k) (h1 : a ≤ i) (h2 : i < a + 2 ^ k) : f i = false ∧ i < n := by
  have := cnt_zero_iff h.2 (i - a) (by omega)
  rw [show a + (i - a) = i by omega] at this
  exact ⟨this, by have := h.1; omega⟩
theorem FreeC.of_bits {f : Nat → Bool} {n a k : Nat} (h0 : a + 2 ^ k ≤ n) (h : ∀ i, a ≤ i → i < a + 2 ^ k → f i = false) : FreeC f n a k :=
  ⟨h0, cnt_none fun i hi => h _ (by omega) (by omega)⟩
theorem dvd_step {j a b : Nat} (h1 : 2 ^ j ∣ a) (h2 : 2 ^ j ∣ b) (h : a < b) : a + 2 ^ j ≤ b := by
  obtain ⟨x, rfl⟩ := h1
  obtain ⟨y, rfl⟩ := h2
  have hxy : x < y := Nat.lt_of_mul_lt_mul_left h
  have : 2 ^ j * (x + 1) ≤ 2 ^ j * y := Nat.mul_le_mul_left _ hxy
  rw [Nat.mul_add, Nat.mul_one] at this
  exact this
theorem two_dvd {j k : Nat} (h : j ≤ k) : 2 ^ j ∣ 2 ^ k := Nat.pow_dvd_pow 2 h
theorem dvd_half {k s : Nat} (h : 2 ^ (k + 1) ∣ s) : 2 ^ k ∣ s ∧ 2 ^ k ∣ s + 2 ^ k := by
  have h1 : 2 ^ k ∣ s := Nat.dvd_trans (two_dvd (Nat.le_succ k)) h
  exact ⟨h1, Nat.dvd_add h1 (Nat.dvd_refl _)⟩
theorem two_succ (k : Nat) : 2 ^ (k + 1) = 2 ^ k + 2 ^ k := by rw [Nat.pow_succ]; omega

/-- The free chunks within one chunk that lie in no greater free one. -/
def parts (f : Nat → Bool) (n : Nat) : Nat → Nat → List (Nat × Nat)
  | 0, s => if FreeC f n s 0 then [(s, 0)] else []
  | k + 1, s => if FreeC f n s (k + 1) then [(s, k + 1)] else if cnt f s (2 ^ (k + 1)) = 2 ^ (k + 1) then [] else parts f n k s ++ parts f n k (s + 2 ^ k)

theorem parts_mem (f : Nat → Bool) (n : Nat) : ∀ k s x, 2 ^ k ∣ s → x ∈ parts f n k s → x.2 ≤ k ∧ s ≤ x.1 ∧ x.1 + 2 ^ x.2 ≤ s + 2 ^ k ∧ 2 ^ x.2 ∣ x.1 ∧ FreeC f n x.1 x.2
  | 0, s, x, hs, hx => by
    unfold parts at hx
    split at hx
    · rw [List.mem_singleton] at hx; subst hx
      rename_i h
      exact ⟨Nat.le_refl _, Nat.le_refl _, Nat.le_refl _, hs, h⟩
    · cases hx
  | k + 1, s, x, hs, hx => by
    unfold parts at hx
    have h2 := two_succ k
    obtain ⟨d1, d2⟩ := dvd_half hs
    split at hx
    · rw [List.mem_singleton] at hx; subst hx
      rename_i h
      exact ⟨Nat.le_refl _, Nat.le_refl _, Nat.le_refl _, hs, h⟩
    · split at hx
      · cases hx
      · rcases List.mem_append.1 hx with h | h
        · obtain ⟨a, b, c, d, e⟩ := parts_mem f n k s x d1 h
          exact ⟨by omega, b, by omega, d, e⟩
        · obtain ⟨a, b, c, d, e⟩ := parts_mem f n k (s + 2 ^ k) x d2 h
          exact ⟨by omega, by omega, by omega, d, e⟩
theorem parts_sorted (f : Nat → Bool) (n : Nat) : ∀ k s, 2 ^ k ∣ s → (parts f n k s).Pairwise (fun x y => x.1 + 2 ^ x.2 ≤ y.1)
  | 0, s, _ => by
    unfold parts
    split
    · exact List.pairwise_singleton _ _
    · exact List.Pairwise.nil
  | k + 1, s, hs => by
    unfold parts
    obtain ⟨d1, d2⟩ := dvd_half hs
    split
    · exact List.pairwise_singleton _ _
    · split
      · exact List.Pairwise.nil
      · refine List.pairwise_append.2 ⟨parts_sorted f n k s d1, parts_sorted f n k _ d2, fun x hx y hy => ?_⟩
        have h1 := parts_mem f n k s x d1 hx
        have h2 := parts_mem f n k _ y d2 hy
        omega
theorem parts_has (f : Nat → Bool) (n : Nat) : ∀ k s, 2 ^ k ∣ s → ∀ j a, j ≤ k → 2 ^ j ∣ a → s ≤ a → a + 2 ^ j ≤ s + 2 ^ k → FreeC f n a j → ∃ x ∈ parts f n k s, j ≤ x.2 ∧ x.1 ≤ a ∧ a + 2 ^ j ≤ x.1 + 2 ^ x.2
  | 0, s, hs, j, a, hj, hd, h1, h2, hf => by
    obtain rfl : j = 0 := by omega
    obtain rfl : a = s := by omega
    unfold parts
    rw [if_pos hf]
    exact ⟨_, List.mem_singleton_self _, Nat.le_refl _, Nat.le_refl _, Nat.le_refl _⟩
  | k + 1, s, hs, j, a, hj, hd, h1, h2, hf => by
    unfold parts
    obtain ⟨d1, d2⟩ := dvd_half hs
    have hk := two_succ k
    split
    · exact ⟨_, List.mem_singleton_self _, hj, h1, h2⟩
    · rename_i hno
      have hjk : j ≤ k := by
        rcases Nat.lt_or_ge k j with h | h
        · obtain rfl : j = k + 1 := by omega
          obtain rfl : a = s := by omega
          exact absurd hf hno
        · exact h
      split
      · rename_i hall
        have h0 := Nat.two_pow_pos j
        have := cnt_full hall (a - s) (by omega)
        rw [show s + (a - s) = a by omega] at this
        rw [(hf.bit (Nat.le_refl _) (by omega)).1] at this
        cases this
      · rcases Nat.lt_or_ge a (s + 2 ^ k) with h | h
        · have h3 := dvd_step hd (Nat.dvd_add (Nat.dvd_trans (two_dvd hjk) d1) (two_dvd hjk)) h
          obtain ⟨x, hx, e⟩ := parts_has f n k s d1 j a hjk hd h1 h3 hf
          exact ⟨x, List.mem_append.2 (.inl hx), e⟩
        · obtain ⟨x, hx, e⟩ := parts_has f n k _ d2 j a hjk hd h (by omega) hf
          exact ⟨x, List.mem_append.2 (.inr hx), e⟩

/-- How many blocks some chunks have together. -/
def wt : List (Nat × Nat) → Nat
  | [] => 0
  | x :: l => 2 ^ x.2 + wt l
theorem wt_append : ∀ l m, wt (l ++ m) = wt l + wt m
  | [], m => by simp [wt]
  | x :: l, m => by simp [wt, wt_append l m, Nat.add_assoc]
def fre (f : Nat → Bool) (n i : Nat) : Bool := decide (i < n) && !f i
theorem parts_wt (f : Nat → Bool) (n : Nat) : ∀ k s, wt (parts f n k s) = cnt (fre f n) s (2 ^ k)
  | 0, s => by
    unfold parts
    show _ = cnt (fre f n) s 0 + one (fre f n (s + 0))
    split
    · rename_i h
      have := h.bit (i := s) (Nat.le_refl _) (by omega)
      simp [wt, cnt, fre, this.1, this.2, one]
    · rename_i h
      have : fre f n s = false := by
        cases hfr : fre f n s
        · rfl
        · exfalso
          apply h
          unfold fre at hfr
          simp only [Bool.and_eq_true, decide_eq_true_eq, Bool.not_eq_true'] at hfr
          refine FreeC.of_bits (by omega) fun i h1 h2 => ?_
          obtain rfl : i = s := by omega
          exact hfr.2
      simp [wt, cnt, this, one]
  | k + 1, s => by
    unfold parts
    split
    · rename_i h
      simp only [wt, Nat.add_zero]
      refine (cnt_all1 fun j hj => ?_).symm
      have := h.bit (i := s + j) (by omega) (by omega)
      simp [fre, this.1, this.2]
    · split
      · rename_i h
        simp only [wt]
        refine (cnt_none fun j hj => ?_).symm
        simp [fre, cnt_full h j hj]
      · rw [wt_append, parts_wt f n k s, parts_wt f n k (s + 2 ^ k), two_succ k, cnt_add]

/-! ### How many of each order -/
def many (l : List (Nat × Nat)) (j : Nat) : Nat := l.countP (fun x => x.2 == j)
theorem many_append (l m : List (Nat × Nat)) (j : Nat) : many (l ++ m) j = many l j + many m j := by simp [many]
/-- A free chunk that lies in no greater free one. -/
def MaxC (f : Nat → Bool) (n a j : Nat) : Prop := FreeC f n a j ∧ (j = 6 ∨ ¬ FreeC f n (a - a % 2 ^ (j + 1)) (j + 1))
instance (f : Nat → Bool) (n a j : Nat) : Decidable (MaxC f n a j) := inferInstanceAs (Decidable (_ ∧ _))
def maxAt (f : Nat → Bool) (n j i : Nat) : Bool := decide (MaxC f n (i * 2 ^ j) j)
theorem mod_of_dvd {a b m : Nat} (h1 : m ∣ b) (h2 : b ≤ a) (h3 : a < b + m) : a - a % m = b := by
  obtain ⟨c, rfl⟩ := h1
  have : a % m = a - m * c := by
    rw [show a = m * c + (a - m * c) by omega, Nat.mul_add_mod, Nat.mod_eq_of_lt (by omega)]
    omega
  omega
theorem parts_many (f : Nat → Bool) (n : Nat) : ∀ k q, k ≤ 6 → (k = 6 ∨ ¬ FreeC f n (q * 2 ^ k - q * 2 ^ k % 2 ^ (k + 1)) (k + 1)) → ∀ j, j ≤ k → many (parts f n k (q * 2 ^ k)) j = cnt (maxAt f n j) (q * 2 ^ (k - j)) (2 ^ (k - j))
  | 0, q, hk, hp, j, hj => by
    obtain rfl : j = 0 := by omega
    unfold parts
    show _ = cnt (maxAt f n 0) (q * 1) 0 + one (maxAt f n 0 (q * 1 + 0))
    rw [Nat.mul_one, Nat.add_zero]
    split
    · rename_i h
      have : maxAt f n 0 q = true := decide_eq_true (by rw [Nat.pow_zero, Nat.mul_one] at hp ⊢; exact ⟨h, hp⟩)
      simp [many, cnt, this, one]
    · rename_i h
      have : maxAt f n 0 q = false := decide_eq_false fun hm => h (by have := hm.1; rwa [Nat.pow_zero, Nat.mul_one] at this)
      simp [many, cnt, this, one]
  | k + 1, q, hk, hp, j, hj => by
    have hd : 2 ^ (k + 1) ∣ q * 2 ^ (k + 1) := Nat.dvd_mul_left _ _
    unfold parts
    have h2 := two_succ k
    by_cases hf : FreeC f n (q * 2 ^ (k + 1)) (k + 1)
    · rw [if_pos hf]
      rcases Nat.lt_or_ge j (k + 1) with hlt | hge
      · have e : many [(q * 2 ^ (k + 1), k + 1)] j = 0 := by simp [many]; omega
        rw [e]
        refine (cnt_none fun i hi => decide_eq_false ?_).symm
        rintro ⟨_, h⟩
        rcases h with h | h
        · omega
        · apply h
          have hpow : 2 ^ (k + 1) = 2 ^ (k + 1 - j) * 2 ^ j := by rw [← Nat.pow_add]; congr 1; omega
          have hin : (q * 2 ^ (k + 1 - j) + i) * 2 ^ j = q * 2 ^ (k + 1) + i * 2 ^ j := by rw [Nat.add_mul, Nat.mul_assoc, ← hpow]
          have hi2 : i * 2 ^ j + 2 ^ j ≤ 2 ^ (k + 1) := by
            have := Nat.mul_le_mul_right (2 ^ j) (show i + 1 ≤ 2 ^ (k + 1 - j) by omega)
            rw [Nat.add_mul, Nat.one_mul, ← hpow] at this
            exact this
          rw [hin]
          have hdj : 2 ^ (j + 1) ∣ q * 2 ^ (k + 1) := Nat.dvd_trans (two_dvd (by omega)) hd
          have hpj := Nat.two_pow_pos (j + 1)
          have hm1 := Nat.mod_lt (q * 2 ^ (k + 1) + i * 2 ^ j) hpj
          have hlow : q * 2 ^ (k + 1) ≤ (q * 2 ^ (k + 1) + i * 2 ^ j) - (q * 2 ^ (k + 1) + i * 2 ^ j) % 2 ^ (j + 1) := by
            obtain ⟨c, hc⟩ := hdj
            rw [hc, Nat.mul_add_mod]
            have := Nat.mod_le (i * 2 ^ j) (2 ^ (j + 1))
            omega
          refine hf.sub hlow ?_
          have hx : 2 ^ (j + 1) ∣ (q * 2 ^ (k + 1) + i * 2 ^ j) - (q * 2 ^ (k + 1) + i * 2 ^ j) % 2 ^ (j + 1) := Nat.dvd_sub_mod _
          refine dvd_step hx (Nat.dvd_add hdj (two_dvd (by omega))) ?_
          have := Nat.two_pow_pos j
          omega
      · obtain rfl : j = k + 1 := by omega
        have e : many [(q * 2 ^ (k + 1), k + 1)] (k + 1) = 1 := by simp [many]
        rw [e, Nat.sub_self, Nat.pow_zero, Nat.mul_one]
        have : maxAt f n (k + 1) q = true := decide_eq_true ⟨hf, hp⟩
        simp [cnt, this, one]
    · rw [if_neg hf]
      have htop : j = k + 1 → cnt (maxAt f n j) (q * 2 ^ (k + 1 - j)) (2 ^ (k + 1 - j)) = 0 := by
        rintro rfl
        have : maxAt f n (k + 1) q = false := decide_eq_false fun hm => hf hm.1
        simp [cnt, this, one]
      split
      · rename_i hall
        show 0 = _
        refine (cnt_none fun i hi => decide_eq_false ?_).symm
        rintro ⟨h, _⟩
        have hpow : 2 ^ (k + 1) = 2 ^ (k + 1 - j) * 2 ^ j := by rw [← Nat.pow_add]; congr 1; omega
        have hin : (q * 2 ^ (k + 1 - j) + i) * 2 ^ j = q * 2 ^ (k + 1) + i * 2 ^ j := by rw [Nat.add_mul, Nat.mul_assoc, ← hpow]
        have hi2 : i * 2 ^ j + 2 ^ j ≤ 2 ^ (k + 1) := by
          have := Nat.mul_le_mul_right (2 ^ j) (show i + 1 ≤ 2 ^ (k + 1 - j) by omega)
          rw [Nat.add_mul, Nat.one_mul, ← hpow] at this
          exact this
        have hpj := Nat.two_pow_pos j
        have h1 := (h.bit (Nat.le_refl _) (by omega)).1
        rw [hin] at h1
        rw [cnt_full hall (i * 2 ^ j) (by omega)] at h1
        cases h1
      · have q1 : q * 2 ^ (k + 1) = (2 * q) * 2 ^ k := by rw [Nat.pow_succ, Nat.mul_comm (2 ^ k) 2, ← Nat.mul_assoc, Nat.mul_comm q 2]
        have q2 : q * 2 ^ (k + 1) + 2 ^ k = (2 * q + 1) * 2 ^ k := by rw [q1, Nat.add_mul, Nat.one_mul]
        have up1 : (2 * q) * 2 ^ k - (2 * q) * 2 ^ k % 2 ^ (k + 1) = q * 2 ^ (k + 1) := by
          rw [← q1]; exact mod_of_dvd hd (Nat.le_refl _) (by have := Nat.two_pow_pos (k + 1); omega)
        have up2 : (2 * q + 1) * 2 ^ k - (2 * q + 1) * 2 ^ k % 2 ^ (k + 1) = q * 2 ^ (k + 1) := by
          rw [← q2]; exact mod_of_dvd hd (by omega) (by have := Nat.two_pow_pos k; omega)
        rw [many_append, q2, q1]
        rcases Nat.lt_or_ge j (k + 1) with hlt | hge
        · rw [parts_many f n k (2 * q) (by omega) (.inr (by rw [up1]; exact hf)) j (by omega), parts_many f n k (2 * q + 1) (by omega) (.inr (by rw [up2]; exact hf)) j (by omega)]
          have e : k + 1 - j = (k - j) + 1 := by omega
          rw [e, two_succ, cnt_add]
          have e1 : 2 * q * 2 ^ (k - j) = q * (2 ^ (k - j) + 2 ^ (k - j)) := by rw [Nat.mul_add, Nat.mul_assoc, Nat.two_mul]
          have e2 : (2 * q + 1) * 2 ^ (k - j) = q * (2 ^ (k - j) + 2 ^ (k - j)) + 2 ^ (k - j) := by rw [Nat.add_mul, e1, Nat.one_mul]
          rw [e1, e2]
        · rw [htop (by omega)]
          have z : ∀ s, 2 ^ k ∣ s → many (parts f n k s) j = 0 := fun s hs => by
            refine List.countP_eq_zero.2 fun x hx => ?_
            have := (parts_mem f n k s x hs hx).1
            simp; omega
          rw [z _ (Nat.dvd_mul_left _ _), z _ (Nat.dvd_mul_left _ _)]

/-! ### All chunks of a pool -/
def rnds (n : Nat) : Nat := (n + 63) / 64
def chunksTo (f : Nat → Bool) (n : Nat) : Nat → List (Nat × Nat)
  | 0 => []
  | q + 1 => chunksTo f n q ++ parts f n 6 (64 * q)
def chunksL (f : Nat → Bool) (n : Nat) : List (Nat × Nat) := chunksTo f n (rnds n)
theorem chunksTo_mem (f : Nat → Bool) (n : Nat) : ∀ r x, x ∈ chunksTo f n r → x.2 ≤ 6 ∧ x.1 + 2 ^ x.2 ≤ 64 * r ∧ 2 ^ x.2 ∣ x.1 ∧ FreeC f n x.1 x.2
  | r + 1, x, hx => by
    rcases List.mem_append.1 hx with h | h
    · obtain ⟨a, b, c, d⟩ := chunksTo_mem f n r x h
      exact ⟨a, by omega, c, d⟩
    · obtain ⟨a, b, c, d, e⟩ := parts_mem f n 6 _ x (Nat.dvd_mul_right 64 r) h
      exact ⟨a, by rw [show (64 : Nat) * (r + 1) = 64 * r + 2 ^ 6 by omega]; exact c, d, e⟩
theorem chunksTo_sorted (f : Nat → Bool) (n : Nat) : ∀ r, (chunksTo f n r).Pairwise (fun x y => x.1 + 2 ^ x.2 ≤ y.1)
  | 0 => List.Pairwise.nil
  | r + 1 => List.pairwise_append.2 ⟨chunksTo_sorted f n r, parts_sorted f n 6 _ (Nat.dvd_mul_right 64 r), fun x hx y hy => by
      have h1 := chunksTo_mem f n r x hx
      have h2 := parts_mem f n 6 _ y (Nat.dvd_mul_right 64 r) hy
      omega⟩
theorem chunksTo_has (f : Nat → Bool) (n : Nat) : ∀ r j a, j ≤ 6 → 2 ^ j ∣ a → a + 2 ^ j ≤ 64 * r → FreeC f n a j → ∃ x ∈ chunksTo f n r, j ≤ x.2 ∧ x.1 ≤ a ∧ a + 2 ^ j ≤ x.1 + 2 ^ x.2
  | 0, j, a, _, _, h, _ => by have := Nat.two_pow_pos j; omega
  | r + 1, j, a, hj, hd, h, hf => by
    rcases Nat.lt_or_ge a (64 * r) with hl | hl
    · have h1 := dvd_step hd (Nat.dvd_trans (two_dvd hj) (Nat.dvd_mul_right (2 ^ 6) r)) (show a < 2 ^ 6 * r from hl)
      obtain ⟨x, hx, e⟩ := chunksTo_has f n r j a hj hd h1 hf
      exact ⟨x, List.mem_append.2 (.inl hx), e⟩
    · obtain ⟨x, hx, e⟩ := parts_has f n 6 (64 * r) (Nat.dvd_mul_right 64 r) j a hj hd hl (by rw [show 64 * r + 2 ^ 6 = 64 * (r + 1) by omega]; exact h) hf
      exact ⟨x, List.mem_append.2 (.inr hx), e⟩
theorem chunksTo_wt (f : Nat → Bool) (n : Nat) : ∀ r, wt (chunksTo f n r) = cnt (fre f n) 0 (64 * r)
  | 0 => rfl
  | r + 1 => by
    show wt (chunksTo f n r ++ parts f n 6 (64 * r)) = _
    rw [wt_append, chunksTo_wt f n r, parts_wt f n 6, show 64 * (r + 1) = 64 * r + 2 ^ 6 by omega, cnt_add, Nat.zero_add]
theorem chunksTo_many (f : Nat → Bool) (n j : Nat) (hj : j ≤ 6) : ∀ r, many (chunksTo f n r) j = cnt (maxAt f n j) 0 (r * 2 ^ (6 - j))
  | 0 => by rw [Nat.zero_mul]; rfl
  | r + 1 => by
    show many (chunksTo f n r ++ parts f n 6 (64 * r)) j = _
    have := parts_many f n 6 r (Nat.le_refl _) (.inl rfl) j hj
    rw [show r * 2 ^ 6 = 64 * r by omega] at this
    rw [many_append, chunksTo_many f n j hj r, this, Nat.add_mul, Nat.one_mul, cnt_add, Nat.zero_add]
/-- How many chunks of an order begin below n. -/
def starts (n j : Nat) : Nat := (n + (2 ^ j - 1)) / 2 ^ j
theorem starts_iff (n j i : Nat) : i < starts n j ↔ i * 2 ^ j < n := by
  have h := Nat.two_pow_pos j
  unfold starts
  rw [Nat.lt_iff_add_one_le, Nat.le_div_iff_mul_le h, Nat.add_mul, Nat.one_mul]
  omega
theorem maxAt_far (f : Nat → Bool) (n j i : Nat) (h : n ≤ i * 2 ^ j) : maxAt f n j i = false := decide_eq_false fun hm => by
  have h1 := hm.1.1
  have h2 := Nat.two_pow_pos j
  omega
theorem chunks_many (f : Nat → Bool) (n j : Nat) (hj : j ≤ 6) : many (chunksL f n) j = cnt (maxAt f n j) 0 (starts n j) := by
  unfold chunksL
  rw [chunksTo_many f n j hj]
  have hle : starts n j ≤ rnds n * 2 ^ (6 - j) := by
    rcases Nat.lt_or_ge (rnds n * 2 ^ (6 - j)) (starts n j) with h | h
    · rw [starts_iff] at h
      have e : rnds n * 2 ^ (6 - j) * 2 ^ j = rnds n * 64 := by rw [Nat.mul_assoc, ← Nat.pow_add, show 6 - j + j = 6 by omega]
      rw [e] at h
      unfold rnds at h
      omega
    · exact h
  rw [show rnds n * 2 ^ (6 - j) = starts n j + (rnds n * 2 ^ (6 - j) - starts n j) by omega, cnt_add, Nat.zero_add,
    cnt_none (a := starts n j) (fun i _ => maxAt_far f n j _ (by have := mt (starts_iff n j (starts n j + i)).2 (by omega); omega)), Nat.add_zero]
theorem cnt_fre (f : Nat → Bool) (n : Nat) : ∀ k, k ≤ n → cnt (fre f n) 0 k + cnt f 0 k = k
  | 0, _ => rfl
  | k + 1, h => by
    have := cnt_fre f n k (by omega)
    show cnt (fre f n) 0 k + one (fre f n (0 + k)) + (cnt f 0 k + one (f (0 + k))) = k + 1
    have e : one (fre f n (0 + k)) + one (f (0 + k)) = 1 := by
      unfold fre
      rw [decide_eq_true (show 0 + k < n by omega)]
      cases f (0 + k) <;> rfl
    omega
theorem chunks_wt (f : Nat → Bool) (n : Nat) : wt (chunksL f n) = n - cnt f 0 n := by
  unfold chunksL
  rw [chunksTo_wt]
  have hr : n ≤ 64 * rnds n := by unfold rnds; omega
  rw [show 64 * rnds n = n + (64 * rnds n - n) by omega, cnt_add, cnt_none (k := 64 * rnds n - n) (fun i _ => by unfold fre; rw [decide_eq_false (by omega)]; rfl)]
  have := cnt_fre f n n (Nat.le_refl _)
  omega
theorem many_wt : ∀ l : List (Nat × Nat), (∀ x ∈ l, x.2 ≤ 6) → wt l = many l 0 + many l 1 * 2 + many l 2 * 4 + many l 3 * 8 + many l 4 * 16 + many l 5 * 32 + many l 6 * 64
  | [], _ => rfl
  | (a, k) :: l, h => by
    have ih := many_wt l fun x hx => h x (List.mem_cons_of_mem _ hx)
    have hk : k ≤ 6 := h (a, k) List.mem_cons_self
    have e : ∀ j, many ((a, k) :: l) j = many l j + (if k = j then 1 else 0) := fun j => by simp [many, List.countP_cons]
    simp only [e, wt]
    rcases (show k = 0 ∨ k = 1 ∨ k = 2 ∨ k = 3 ∨ k = 4 ∨ k = 5 ∨ k = 6 by omega) with rfl | rfl | rfl | rfl | rfl | rfl | rfl <;> simp <;> omega

/-! ### The first one from somewhere on -/
/-- A free chunk of order k begins at a. -/
def Ch (f : Nat → Bool) (n k a : Nat) : Prop := 2 ^ k ∣ a ∧ FreeC f n a k
def IsFind (f : Nat → Bool) (n k goal : Nat) (r : Int) : Prop :=
  (r = -1 ∧ ∀ a, ¬ Ch f n k a) ∨ (∃ a : Nat, r = (a : Int) ∧ Ch f n k a ∧ ((goal ≤ a ∧ ∀ b, Ch f n k b → goal ≤ b → a ≤ b) ∨ ((∀ b, Ch f n k b → b < goal) ∧ ∀ b, Ch f n k b → a ≤ b)))
theorem find_unique {f : Nat → Bool} {n k goal : Nat} {r s : Int} (h1 : IsFind f n k goal r) (h2 : IsFind f n k goal s) : r = s := by
  rcases h1 with ⟨rfl, h1⟩ | ⟨a, rfl, ha, h1⟩ <;> rcases h2 with ⟨rfl, h2⟩ | ⟨b, rfl, hb, h2⟩
  · rfl
  · exact absurd hb (h1 b)
  · exact absurd ha (h2 a)
  · have : a = b := by
      rcases h1 with ⟨g1, m1⟩ | ⟨g1, m1⟩ <;> rcases h2 with ⟨g2, m2⟩ | ⟨g2, m2⟩
      · have := m1 b hb g2; have := m2 a ha g1; omega
      · have := g2 a ha; omega
      · have := g1 b hb; omega
      · have := m1 b hb; have := m2 a ha; omega
    rw [this]
/-- The same out of the list of chunks, as the program goes through it: 'all' is the first one till here. -/
def IsAll (f : Nat → Bool) (n k goal : Nat) (pre : List (Nat × Nat)) (all : Int) : Prop :=
  (all = -1 ∧ ∀ x ∈ pre, x.2 < k) ∨ (∃ a : Nat, all = (a : Int) ∧ Ch f n k a ∧ (∀ x ∈ pre, k ≤ x.2 → a ≤ x.1 ∧ x.1 + 2 ^ x.2 - 2 ^ k < goal) ∧ ∃ x ∈ pre, k ≤ x.2 ∧ x.1 = a)
theorem chunks_has {f : Nat → Bool} {n j a : Nat} (hj : j ≤ 6) (h : Ch f n j a) : ∃ x ∈ chunksL f n, j ≤ x.2 ∧ x.1 ≤ a ∧ a + 2 ^ j ≤ x.1 + 2 ^ x.2 :=
  chunksTo_has f n (rnds n) j a hj h.1 (by have := h.2.1; unfold rnds; omega) h.2
theorem chunks_mem {f : Nat → Bool} {n : Nat} {x : Nat × Nat} (h : x ∈ chunksL f n) : x.2 ≤ 6 ∧ 2 ^ x.2 ∣ x.1 ∧ FreeC f n x.1 x.2 := by
  obtain ⟨a, _, c, d⟩ := chunksTo_mem f n _ x h
  exact ⟨a, c, d⟩
theorem chunk_ch {f : Nat → Bool} {n k a w : Nat} (hd : 2 ^ w ∣ a) (hf : FreeC f n a w) (hk : k ≤ w) : Ch f n k a :=
  ⟨Nat.dvd_trans (two_dvd hk) hd, hf.sub (Nat.le_refl _) (by have := Nat.pow_le_pow_right (n := 2) (by omega) hk; omega)⟩
theorem isAll_nil (f : Nat → Bool) (n k goal : Nat) : IsAll f n k goal [] (-1) := .inl ⟨rfl, fun _ h => by cases h⟩
theorem isAll_small {f : Nat → Bool} {n k goal : Nat} {pre : List (Nat × Nat)} {all : Int} {x : Nat × Nat} (h : IsAll f n k goal pre all) (hx : x.2 < k) : IsAll f n k goal (pre ++ [x]) all := by
  rcases h with ⟨rfl, h⟩ | ⟨a, rfl, ha, h, y, hy, e⟩
  · refine .inl ⟨rfl, fun y hy => ?_⟩
    rcases List.mem_append.1 hy with e | e
    · exact h y e
    · rw [List.mem_singleton.1 e]; exact hx
  · refine .inr ⟨a, rfl, ha, fun y hy hk => ?_, y, List.mem_append.2 (.inl hy), e⟩
    rcases List.mem_append.1 hy with e | e
    · exact h y e hk
    · rw [List.mem_singleton.1 e] at hk; omega
theorem isAll_new {f : Nat → Bool} {n k goal : Nat} {pre : List (Nat × Nat)} {a w : Nat} (h : IsAll f n k goal pre (-1)) (hk : k ≤ w) (hd : 2 ^ w ∣ a) (hf : FreeC f n a w) (hg : a + 2 ^ w - 2 ^ k < goal) : IsAll f n k goal (pre ++ [(a, w)]) (a : Int) := by
  rcases h with ⟨_, h⟩ | ⟨b, hb, _⟩
  · refine .inr ⟨a, rfl, chunk_ch hd hf hk, fun y hy hky => ?_, _, List.mem_append.2 (.inr (List.mem_singleton_self _)), hk, rfl⟩
    rcases List.mem_append.1 hy with e | e
    · have := h y e; omega
    · rw [List.mem_singleton.1 e]; exact ⟨Nat.le_refl _, hg⟩
  · omega
theorem isAll_more {f : Nat → Bool} {n k goal : Nat} {pre : List (Nat × Nat)} {all : Int} {a w : Nat} (h : IsAll f n k goal pre all) (h0 : 0 ≤ all) (hs : ∀ y ∈ pre, y.1 + 2 ^ y.2 ≤ a) (hg : a + 2 ^ w - 2 ^ k < goal) : IsAll f n k goal (pre ++ [(a, w)]) all := by
  rcases h with ⟨rfl, _⟩ | ⟨b, rfl, hb, h, y, hy, e1, e2⟩
  · omega
  · refine .inr ⟨b, rfl, hb, fun z hz hkz => ?_, y, List.mem_append.2 (.inl hy), e1, e2⟩
    rcases List.mem_append.1 hz with e | e
    · exact h z e hkz
    · rw [List.mem_singleton.1 e]
      have := hs y hy
      have := Nat.two_pow_pos y.2
      exact ⟨by omega, hg⟩
theorem sub_chunk {k a b w : Nat} (h1 : b ≤ a) (h2 : a + 2 ^ k ≤ b + 2 ^ w) : k ≤ w := by
  rcases Nat.lt_or_ge w k with h | h
  · have := Nat.pow_lt_pow_right (a := 2) (by omega) h; omega
  · exact h
/-- None is left: what was kept is the answer. -/
theorem find_end {f : Nat → Bool} {n k goal : Nat} {all : Int} (hk : k ≤ 6) (h : IsAll f n k goal (chunksL f n) all) : IsFind f n k goal all := by
  rcases h with ⟨rfl, h⟩ | ⟨a, rfl, ha, h, _⟩
  · refine .inl ⟨rfl, fun a hc => ?_⟩
    obtain ⟨x, hx, h1, _⟩ := chunks_has hk hc
    have := h x hx; omega
  · refine .inr ⟨a, rfl, ha, .inr ⟨fun b hb => ?_, fun b hb => ?_⟩⟩
    all_goals
      obtain ⟨x, hx, h1, h2, h3⟩ := chunks_has hk hb
      have := h x hx h1
      omega
theorem ceil_spec (g z : Nat) (hz : 0 < z) : g ≤ (g + z - 1) / z * z ∧ (g + z - 1) / z * z < g + z ∧ z ∣ (g + z - 1) / z * z := by
  have h1 := Nat.div_add_mod (g + z - 1) z
  have h2 := Nat.mod_lt (g + z - 1) hz
  rw [Nat.mul_comm] at h1
  exact ⟨by omega, by omega, Nat.dvd_mul_left _ _⟩
/-- This one is the first that has one from there on. -/
theorem find_here {f : Nat → Bool} {n k goal : Nat} {pre : List (Nat × Nat)} {all : Int} {a w : Nat} {post : List (Nat × Nat)} (hk6 : k ≤ 6) (hL : chunksL f n = pre ++ (a, w) :: post) (h : IsAll f n k goal pre all) (hk : k ≤ w) (hg : goal + 2 ^ k ≤ a + 2 ^ w) :
    IsFind f n k goal ((max a ((goal + 2 ^ k - 1) / 2 ^ k * 2 ^ k) : Nat) : Int) := by
  have hmem : (a, w) ∈ chunksL f n := by rw [hL]; simp
  obtain ⟨_, hd, hf⟩ := chunks_mem hmem
  have hd' : 2 ^ k ∣ a := Nat.dvd_trans (two_dvd hk) hd
  obtain ⟨c1, c2, c3⟩ := ceil_spec goal (2 ^ k) (Nat.two_pow_pos k)
  obtain ⟨C, hC⟩ : ∃ C, C = (goal + 2 ^ k - 1) / 2 ^ k * 2 ^ k := ⟨_, rfl⟩
  rw [← hC] at c1 c2 c3 ⊢
  have hpos := Nat.two_pow_pos k
  have hdw : 2 ^ k ∣ a + 2 ^ w := Nat.dvd_add hd' (two_dvd hk)
  have hCa : C + 2 ^ k ≤ a + 2 ^ w := by
    rcases Nat.lt_or_ge (a + 2 ^ w) (C + 2 ^ k) with hlt | hge
    · have := dvd_step hdw (Nat.dvd_add c3 (Nat.dvd_refl _)) hlt
      omega
    · exact hge
  have hak : a + 2 ^ k ≤ a + 2 ^ w := by have := Nat.pow_le_pow_right (n := 2) (by omega) hk; omega
  have hmax : 2 ^ k ∣ max a C := by
    rcases Nat.le_total a C with e | e
    · rw [Nat.max_eq_right e]; exact c3
    · rw [Nat.max_eq_left e]; exact hd'
  have hle1 : a ≤ max a C := Nat.le_max_left _ _
  have hle2 : max a C + 2 ^ k ≤ a + 2 ^ w := by
    rcases Nat.le_total a C with e | e
    · rw [Nat.max_eq_right e]; exact hCa
    · rw [Nat.max_eq_left e]; exact hak
  have hch : Ch f n k (max a C) := ⟨hmax, hf.sub hle1 hle2⟩
  refine .inr ⟨_, rfl, hch, .inl ⟨by omega, fun b hb hgb => ?_⟩⟩
  obtain ⟨x, hx, h1, h2, h3⟩ := chunks_has hk6 hb
  have hCb : C ≤ b := by
    rcases Nat.lt_or_ge b C with hlt | hge
    · have := dvd_step hb.1 c3 hlt
      omega
    · exact hge
  have hab : a ≤ b := by
    rw [hL] at hx
    have hs := chunksTo_sorted f n (rnds n)
    rw [show chunksTo f n (rnds n) = _ from hL] at hs
    rcases List.mem_append.1 hx with hp | hp
    · rcases h with ⟨_, h⟩ | ⟨_, _, _, h, _⟩
      · have := h x hp; omega
      · have := (h x hp h1).2; omega
    · rcases List.mem_cons.1 hp with e | e
      · subst e; exact h2
      · have := (List.pairwise_cons.1 (List.pairwise_append.1 hs).2.1).1 x e
        have : 0 < 2 ^ w := Nat.two_pow_pos w
        simp only at *
        omega
  omega

/-! ### What is taken -/
/-- The least order whose chunks have at least want blocks. -/
def leastO (want : Nat) : Nat := if want ≤ 1 then 0 else if want ≤ 2 then 1 else if want ≤ 4 then 2 else if want ≤ 8 then 3 else if want ≤ 16 then 4 else if want ≤ 32 then 5 else 6
theorem leastO_le (want : Nat) : leastO want ≤ 6 := by unfold leastO; (repeat' split) <;> omega
theorem leastO_fits (want : Nat) (h : want ≤ 64) : want ≤ 2 ^ leastO want := by unfold leastO; (repeat' split) <;> omega
theorem leastO_least (want j : Nat) (h : j < leastO want) : 2 ^ j < want := by
  have h6 := Nat.lt_of_lt_of_le h (leastO_le want)
  unfold leastO at h
  rcases (show j = 0 ∨ j = 1 ∨ j = 2 ∨ j = 3 ∨ j = 4 ∨ j = 5 by omega) with rfl | rfl | rfl | rfl | rfl | rfl <;> (repeat' split at h) <;> omega
/-- What Take finds: the order, and where; none. -/
def IsTake (f : Nat → Bool) (n k goal : Nat) (r : Option (Nat × Nat)) : Prop :=
  match r with
  | none => ∀ j, j ≤ k → ∀ a, ¬ Ch f n j a
  | some (a, o) => o ≤ k ∧ IsFind f n o goal (a : Int) ∧ ∀ j, o < j → j ≤ k → ∀ a, ¬ Ch f n j a
theorem isFind_ch {f : Nat → Bool} {n k goal a : Nat} (h : IsFind f n k goal (a : Int)) : Ch f n k a := by
  rcases h with ⟨e, _⟩ | ⟨b, e, hb, _⟩
  · omega
  · obtain rfl : a = b := by omega
    exact hb
theorem take_unique {f : Nat → Bool} {n k goal : Nat} {r s : Option (Nat × Nat)} (h1 : IsTake f n k goal r) (h2 : IsTake f n k goal s) : r = s := by
  rcases r with _ | ⟨a, o⟩ <;> rcases s with _ | ⟨b, p⟩
  · rfl
  · exact absurd (isFind_ch h2.2.1) (h1 _ h2.1 b)
  · exact absurd (isFind_ch h1.2.1) (h2 _ h1.1 a)
  · have hop : o = p := by
      rcases Nat.lt_trichotomy o p with h | h | h
      · exact absurd (isFind_ch h2.2.1) (h1.2.2 p h h2.1 b)
      · exact h
      · exact absurd (isFind_ch h1.2.1) (h2.2.2 o h h1.1 a)
    subst hop
    have := find_unique h1.2.1 h2.2.1
    obtain rfl : a = b := by omega
    rfl
/-- As long as a block is free, some chunk is. -/
theorem take_none {f : Nat → Bool} {n k goal : Nat} (h : IsTake f n k goal none) : n - cnt f 0 n = 0 := by
  rw [← chunks_wt]
  rcases hL : chunksL f n with _ | ⟨x, l⟩
  · rfl
  · have hx : x ∈ chunksL f n := by rw [hL]; simp
    obtain ⟨_, hd, hf⟩ := chunks_mem hx
    exact absurd (chunk_ch hd hf (Nat.zero_le _)) (h 0 (Nat.zero_le _) _)
end Go.Proofs.Ytnkiblifnknbkaa.Bd
