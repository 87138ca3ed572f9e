/- What a fill does to counts; what is taken and given back. -/
import Derived.Test.YtnkiblifnknbkaaBdArg
namespace Go.Proofs.Ytnkiblifnknbkaa.Buddy
set_option maxRecDepth 20000
open Go Go.RowKit
open Go.Proofs.Ytnkiblifnknbkaa.Mem Go.Proofs.Ytnkiblifnknbkaa.Bt Go.Proofs.Ytnkiblifnknbkaa.Rec Go.Proofs.Ytnkiblifnknbkaa.Bits Go.Proofs.Ytnkiblifnknbkaa.Bd

theorem hi_nat (len E : Nat) (h : E ≤ 8 * len) : hiN len (E : Int) = E := by unfold hiN hiE; split <;> omega
theorem fillL_nat (bs : List UInt8) (a E : Nat) (v : Bool) (h : E ≤ 8 * bs.length) : Filled bs a E v (fillL bs (a : Int) (E : Int) v) := by
  have := fillL_ok bs (a : Int) (E : Int) v
  rwa [hi_nat _ _ h, Int.toNat_natCast] at this
theorem filled_in {bs ys : List UInt8} {a b i : Nat} {v : Bool} (h : Filled bs a b v ys) (hb : b ≤ 8 * bs.length) (h1 : a ≤ i) (h2 : i < b) : bt ys i = v := by
  rw [h.2 i (by omega), if_pos ⟨h1, h2⟩]
theorem filled_out {bs ys : List UInt8} {a b i : Nat} {v : Bool} (h : Filled bs a b v ys) (hi : ¬ (a ≤ i ∧ i < b)) : bt ys i = bt bs i := by
  by_cases hl : i < 8 * bs.length
  · rw [h.2 i hl, if_neg hi]
  · rw [bt_none ys _ (by rw [h.1]; omega), bt_none bs _ (by omega)]
theorem filled_cnt {bs ys : List UInt8} {a l N : Nat} {v : Bool} (h : Filled bs a (a + l) v ys) (hN : a + l ≤ N) (hb : a + l ≤ 8 * bs.length) : cnt (bt ys) 0 N + cnt (bt bs) a l = cnt (bt bs) 0 N + (if v then l else 0) := by
  obtain ⟨m, rfl⟩ : ∃ m, N = a + (l + m) := ⟨N - a - l, by omega⟩
  rw [cnt_add, cnt_add, cnt_add, cnt_add, Nat.zero_add]
  have e1 : cnt (bt ys) 0 a = cnt (bt bs) 0 a := cnt_congr fun j hj => filled_out h (by omega)
  have e2 : cnt (bt ys) (a + l) m = cnt (bt bs) (a + l) m := cnt_congr fun j hj => filled_out h (by omega)
  have e3 : cnt (bt ys) a l = if v then l else 0 := by
    cases v
    · rw [cnt_none (fun j hj => filled_in h hb (by omega) (by omega))]; rfl
    · rw [cnt_all1 (fun j hj => filled_in h hb (by omega) (by omega))]; rfl
  rw [e1, e2, e3]
  omega
theorem filled_same {bs ys : List UInt8} {a l : Nat} {v : Bool} (h : Filled bs a (a + l) v ys) (hb : a + l ≤ 8 * bs.length) : cnt (bt ys) a l = if v then l else 0 := by
  cases v
  · rw [cnt_none (fun j hj => filled_in h hb (by omega) (by omega))]; rfl
  · rw [cnt_all1 (fun j hj => filled_in h hb (by omega) (by omega))]; rfl
/-- What was filled and is filled back is what was. -/
theorem filled_back {bs ys : List UInt8} {a l : Nat} {v u : Bool} (h : Filled bs a (a + l) v ys) (hb : a + l ≤ 8 * bs.length) (hw : ∀ i, a ≤ i → i < a + l → bt bs i = u) : fillL ys (a : Int) ((a + l : Nat) : Int) u = bs := by
  have h2 := fillL_nat ys a (a + l) u (by rw [h.1]; exact hb)
  refine Filled.one h2 ⟨h.1.symm, fun i hi => ?_⟩
  by_cases hin : a ≤ i ∧ i < a + l
  · rw [if_pos hin]; exact hw i hin.1 hin.2
  · rw [if_neg hin]; exact (filled_out h hin).symm
/-- What Take finds is free. -/
theorem take_free {f : Nat → Bool} {n k goal a o want : Nat} (h : IsTake f n k goal (some (a, o))) : ∀ i, a ≤ i → i < a + min want (2 ^ o) → f i = false ∧ i < n := fun i h1 h2 =>
  (isFind_ch h.2.1).2.bit h1 (by omega)
theorem cnt_free {f : Nat → Bool} {n a l : Nat} (h : ∀ i, a ≤ i → i < a + l → f i = false ∧ i < n) : cnt f a l = 0 := cnt_none fun j hj => (h _ (by omega) (by omega)).1
theorem cnt_some {f : Nat → Bool} {n a : Nat} (h : f a = false) (ha : a < n) : cnt f 0 n < n := by
  rcases Nat.lt_or_ge (cnt f 0 n) n with h1 | h1
  · exact h1
  · have hle := cnt_le f 0 n
    have := cnt_full (show cnt f 0 n = n by omega) a ha
    rw [Nat.zero_add] at this
    rw [this] at h
    cases h
end Go.Proofs.Ytnkiblifnknbkaa.Buddy
