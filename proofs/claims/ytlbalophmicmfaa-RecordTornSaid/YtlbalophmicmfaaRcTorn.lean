/- A record changed within 32 bits side by side isn't read: plain arithmetic. -/
import Derived.Test.YtlbalophmicmfaaRcBack
namespace Go.Proofs.Ytlbalophmicmfaa.Rec
open Go.RowKit
open Go.Proofs.Ytlbalophmicmfaa.Mem Go.Proofs.Ytlbalophmicmfaa.Crc

theorem low_xor (c n : Nat) (h : c < 256) : c ^^^ 256 * n = c + 256 * n := by
  have := Nat.two_pow_add_eq_or_of_lt (i := 8) (b := c) (by omega) n
  rw [show (2 : Nat) ^ 8 = 256 from rfl] at this
  rw [Nat.add_comm, this]
  apply Nat.eq_of_testBit_eq
  intro i
  rw [Nat.testBit_xor, Nat.testBit_or]
  rcases Nat.lt_or_ge i 8 with hi | hi
  · have : (256 * n).testBit i = false := by
      rw [show 256 * n = 2 ^ 8 * n from rfl, Nat.testBit_two_pow_mul]
      simp; omega
    simp [this]
  · have : c.testBit i = false := Nat.testBit_lt_two_pow (Nat.lt_of_lt_of_le (show c < 2 ^ 8 by omega) (Nat.pow_le_pow_right (by omega) hi))
    simp [this]
theorem num_cons (c : UInt8) (r : List UInt8) : num (c :: r) = c.toNat + 256 * num r := low_xor _ _ c.toNat_lt
theorem num_lt : ∀ a : List UInt8, num a < 2 ^ (8 * a.length)
  | [] => by simp [num]
  | c :: r => by
    have ih := num_lt r
    have hc := c.toNat_lt
    rw [num_cons, List.length_cons, show 8 * (r.length + 1) = 8 + 8 * r.length by omega, Nat.pow_add]
    omega
theorem num_app : ∀ a b : List UInt8, num (a ++ b) = num a + 2 ^ (8 * a.length) * num b
  | [], b => by simp [num]
  | c :: r, b => by
    rw [List.cons_append, num_cons, num_cons, num_app r b, List.length_cons, show 8 * (r.length + 1) = 8 + 8 * r.length by omega, Nat.pow_add, Nat.mul_add, ← Nat.mul_assoc, show (2 : Nat) ^ 8 = 256 from rfl, Nat.add_assoc]
theorem num_inj : ∀ a b : List UInt8, a.length = b.length → num a = num b → a = b
  | [], [], _, _ => rfl
  | [], _ :: _, h, _ => by simp at h
  | _ :: _, [], h, _ => by simp at h
  | c :: r, d :: q, h, e => by
    rw [num_cons, num_cons] at e
    have hc := c.toNat_lt
    have hd := d.toNat_lt
    have e1 : c.toNat = d.toNat := by omega
    have e2 : num r = num q := by omega
    rw [num_inj r q (by simpa using h) e2, UInt8.toNat_inj.1 e1]
theorem num_app_mod (a b : List UInt8) : num (a ++ b) % 2 ^ (8 * a.length) = num a := by
  rw [num_app, Nat.add_mul_mod_self_left, Nat.mod_eq_of_lt (num_lt a)]
theorem num_app_div (a b : List UInt8) : num (a ++ b) / 2 ^ (8 * a.length) = num b := by
  rw [num_app, Nat.add_mul_div_left _ _ (Nat.two_pow_pos _), Nat.div_eq_of_lt (num_lt a), Nat.zero_add]
theorem num_bytes4 (s : Nat) (h : s < 4294967296) : num (bytesL s 4) = s := by
  have e : bytesL s 4 = [byteN s 0, byteN s 1, byteN s 2, byteN s 3] := rfl
  rw [e, num_cons, num_cons, num_cons, num_cons]
  simp only [num, byteN, UInt8.toNat_ofNat']
  omega

/-- Alike but for less than 32 bits side by side. -/
def Burst (a b : List UInt8) : Prop := a.length = b.length ∧ ∃ first m, first ≤ 8 * a.length ∧ m < 4294967296 ∧ num a ^^^ num b = 2 ^ first * m
theorem Burst.eq {a b : List UInt8} (h : Burst a b) (hs : sum a = sum b) : a = b := by
  obtain ⟨hl, first, m, hf, hm, hx⟩ := h
  by_cases h0 : m = 0
  · subst h0
    rw [Nat.mul_zero] at hx
    exact num_inj a b hl (xor_zero_eq _ _ hx)
  · exact absurd hs (sum_burst a b first m hl hx hf hm h0)
theorem Burst.pre {a b a' b' : List UInt8} (h : Burst (a ++ b) (a' ++ b')) (hl : a.length = a'.length) : Burst a a' := by
  obtain ⟨_, first, m, hf, hm, hx⟩ := h
  have hx' := congrArg (· % 2 ^ (8 * a.length)) hx
  simp only [Nat.xor_mod_two_pow] at hx'
  rw [num_app_mod, hl, num_app_mod, ← hl] at hx'
  refine ⟨hl, ?_⟩
  rcases Nat.le_total first (8 * a.length) with h1 | h1
  · refine ⟨first, m % 2 ^ (8 * a.length - first), h1, Nat.lt_of_le_of_lt (Nat.mod_le _ _) hm, ?_⟩
    rw [hx', show 8 * a.length = first + (8 * a.length - first) by omega, Nat.pow_add, Nat.mul_mod_mul_left, Nat.add_sub_cancel_left]
  · refine ⟨0, 0, by omega, by omega, ?_⟩
    rw [hx', show first = 8 * a.length + (first - 8 * a.length) by omega, Nat.pow_add, Nat.mul_assoc, Nat.mul_mod_right]
theorem Burst.suf {a b a' b' : List UInt8} (h : Burst (a ++ b) (a' ++ b')) (hl : a.length = a'.length) : Burst b b' := by
  obtain ⟨hla, first, m, hf, hm, hx⟩ := h
  have hx' := congrArg (· / 2 ^ (8 * a.length)) hx
  simp only [Nat.xor_div_two_pow] at hx'
  rw [num_app_div, hl, num_app_div, ← hl] at hx'
  simp only [List.length_append] at hla hf
  refine ⟨by omega, ?_⟩
  rcases Nat.le_total first (8 * a.length) with h1 | h1
  · refine ⟨0, m / 2 ^ (8 * a.length - first), by omega, Nat.lt_of_le_of_lt (Nat.div_le_self _ _) hm, ?_⟩
    rw [hx', show 8 * a.length = first + (8 * a.length - first) by omega, Nat.pow_add, Nat.mul_div_mul_left _ _ (Nat.two_pow_pos _), Nat.add_sub_cancel_left, Nat.pow_zero, Nat.one_mul]
  · refine ⟨first - 8 * a.length, m, by omega, hm, ?_⟩
    rw [hx']
    rw [show 2 ^ first = 2 ^ (8 * a.length) * 2 ^ (first - 8 * a.length) by rw [← Nat.pow_add]; congr 1; omega, Nat.mul_assoc, Nat.mul_div_cancel_left _ (Nat.two_pow_pos _)]

/-- Behind its own sum every list has one and the same sum. -/
theorem sum_own (p q : List UInt8) : sum (p ++ bytesL (sum p) 4) = sum (q ++ bytesL (sum q) 4) := by
  have h : ∀ s, s < 4294967296 → more s (bytesL s 4) = turns 32 4294967295 ^^^ 4294967295 := fun s hs => by
    unfold more
    rw [fold_eq, bytesL_len, num_bytes4 s hs]
    congr 2
    rw [Nat.xor_comm s, Nat.xor_assoc]; simp
  have e : ∀ l : List UInt8, sum (l ++ bytesL (sum l) 4) = turns 32 4294967295 ^^^ 4294967295 := fun l => by
    unfold sum at *
    rw [more_append]
    exact h _ (sum_lt l)
  rw [e p, e q]
theorem own_sum (k k' : UInt8) (s s' : Nat) (r r' : List UInt8) (h : r.length ≤ 236) (h' : r'.length ≤ 236) : sum (ownL k s r) = sum (ownL k' s' r') := by
  rw [ownL_eq _ _ _ h, ownL_eq _ _ _ h']; exact sum_own _ _
theorem nW_pre (D x y : List UInt8) (h : D.length = 256) : nW (D ++ x) = nW (D ++ y) := by
  unfold nW numFrom
  rw [List.drop_append_of_le_length (by omega), List.drop_append_of_le_length (by omega), List.take_append_of_le_length (by simp; omega), List.take_append_of_le_length (by simp; omega)]
theorem own_tells (k : UInt8) (s v : Nat) (h : v < 4294967296) : numFrom (ownL k s (bytesL v 4)) 16 4 = v := by
  rw [ownL_eq _ _ _ (by rw [bytesL_len]; omega)]
  unfold ownP
  rw [List.append_assoc, List.append_assoc, List.append_assoc]
  exact numFrom_at _ _ _ _ _ (headL_len _ _).symm (by omega)

/-- What is read is what was written, where less than 32 bits side by side are changed. -/
theorem torn (t : Tx) (h : t.May) (e' : List UInt8) (s : Nat) (hb : Burst e' t.enc) (hd : decB e' s = true) : e' = t.enc := by
  obtain ⟨hu, htk⟩ := dec_again e' s hd
  have hlu : (tellL e' s).ws.length = nW e' := by unfold tellL; simp
  obtain ⟨hwt, _⟩ := tell_enc t h []
  rw [List.append_nil] at hwt
  generalize tellL e' s = u at hu htk hlu
  have su := slots_len u
  have st := slots_len t
  have iu := hu.hi
  have it := h.hi
  have e1 : e' = u.enc ++ e'.drop u.enc.length := (by
    have := List.take_append_drop u.enc.length e'
    rw [htk] at this
    exact this.symm)
  have lu := enc_len u hu
  have lt := enc_len t h
  have hD : ownL 1 u.seq u.slots = ownL 1 t.seq t.slots := by
    have hb2 := hb
    rw [e1] at hb2
    unfold Tx.enc Tx.head at hb2
    simp only [List.append_assoc] at hb2
    exact (hb2.pre (by rw [ownL_len _ _ _ (by omega), ownL_len _ _ _ (by omega)])).eq (own_sum _ _ _ _ _ _ (by omega) (by omega))
  have hn : u.ws.length = t.ws.length := by
    rw [hlu, ← hwt, e1]
    unfold Tx.enc Tx.head
    simp only [List.append_assoc]
    rw [hD]
    exact nW_pre _ _ _ (ownL_len _ _ _ (by omega))
  have e2 : e' = u.enc := by
    have hz : e'.drop u.enc.length = [] := List.drop_eq_nil_of_le (by have := hb.1; omega)
    rw [hz, List.append_nil] at e1
    exact e1
  have hhl : u.head.length = t.head.length := by rw [head_len u hu, head_len t h, hn]
  rw [e2] at hb ⊢
  have hC : ownL 2 u.seq (bytesL (sum u.head) 4) = ownL 2 t.seq (bytesL (sum t.head) 4) :=
    (Burst.suf (a := u.head) (a' := t.head) hb hhl).eq (own_sum _ _ _ _ _ _ (by rw [bytesL_len]; omega) (by rw [bytesL_len]; omega))
  have hs : sum u.head = sum t.head := by
    have a := own_tells 2 u.seq (sum u.head) (sum_lt _)
    rw [hC, own_tells 2 t.seq (sum t.head) (sum_lt _)] at a
    exact a.symm
  have hH := (Burst.pre (a := u.head) (a' := t.head) hb hhl).eq hs
  unfold Tx.enc
  rw [hC, hH]
end Go.Proofs.Ytlbalophmicmfaa.Rec
