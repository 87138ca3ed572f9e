/- Put is a Fill of one bit; Longest goes from First to First. -/
import Derived.Test.YtnkiblifnknbkaaBtFirst
import Derived.Test.YtnkiblifnknbkaaBtFill
import Derived.LoopTactic
namespace Go.Proofs.Ytnkiblifnknbkaa.Bits
set_option maxRecDepth 20000
open Go Go.RowKit
open Go.Proofs.Ytnkiblifnknbkaa.Mem Go.Proofs.Ytnkiblifnknbkaa.Bt Go.Proofs.Ytnkiblifnknbkaa.Rec

theorem put_of_filled {bs ys : List UInt8} {n : Nat} {i : Int} {v : Bool} (hl : bs.length = n) (hn : n ≤ 140737488355328) (h1 : -9223372036854775808 ≤ i) (h2 : i ≤ 9223372036854775807) (h : Filled bs i.toNat (hiN n (IntKind.i64.wrap (i + 1))) v ys) : IsPut bs i v ys := by
  refine ⟨h.1, fun j hj => ?_⟩
  rw [h.2 j hj]
  have e : (i.toNat ≤ j ∧ j < hiN n (IntKind.i64.wrap (i + 1))) ↔ (j : Int) = i := by
    rw [IntKind.wrap_i64]
    unfold hiN hiE
    split <;> omega
  by_cases hc : (j : Int) = i
  · rw [if_pos hc, if_pos (e.2 hc)]
  · rw [if_neg hc, if_neg (fun h => hc (e.1 h))]


def bit (bs : List UInt8) (i : Nat) : Bool := bt bs i
/-- Behind the runs ahead of a 0 at A. -/
def AtZero (bs : List UInt8) (a b : Nat) (x : Int) (m : Nat) (at_ : Int) : Prop :=
  (at_ = -1 ∧ IsLong (bt bs) a b x m) ∨ ∃ A : Nat, at_ = (A : Int) ∧ a ≤ A ∧ A < b ∧ bt bs A = false ∧ IsLong (bt bs) a A x m ∧ (A = a ∨ bt bs (A - 1) = true)
theorem zero_of_fst {bs : List UInt8} {a b e : Nat} {x : Int} {m : Nat} {r : Int} (h : IsLong (bt bs) a e x m) (hae : a ≤ e) (heb : e ≤ b) (hr : IsFst (fun i => bt bs i == false) e b r) (hedge : e = a ∨ e = b ∨ bt bs e = true) : AtZero bs a b x m r := by
  rcases hr with ⟨rfl, h1⟩ | ⟨A, rfl, h1, h2, h3, h4⟩
  · refine .inl ⟨rfl, long_ones h heb fun i k1 k2 => ?_⟩
    have := h1 i k1 k2
    simpa using this
  · have hA : bt bs A = false := by simpa using h3
    refine .inr ⟨A, rfl, by omega, h2, hA, long_ones h h1 (fun i k1 k2 => by have := h4 i k1 k2; simpa using this), ?_⟩
    rcases Nat.lt_or_ge e A with hl | hl
    · have := h4 (A - 1) (by omega) (by omega)
      exact .inr (by simpa using this)
    · have : A = e := by omega
      subst this
      rcases hedge with e1 | e1 | e1
      · exact .inl e1
      · omega
      · rw [hA] at e1; cases e1
theorem zero_empty {bs : List UInt8} {a b : Nat} {r : Int} (h : b ≤ a) (hr : IsFst (fun i => bt bs i == false) a b r) : r = -1 ∧ IsLong (bt bs) a b (-1) 0 := by
  rcases hr with ⟨rfl, h1⟩ | ⟨A, rfl, h1, h2, _⟩
  · exact ⟨rfl, .inl ⟨rfl, rfl, fun i k1 k2 => by omega⟩⟩
  · omega
theorem long_start {bs : List UInt8} {a b : Nat} {r : Int} (hr : IsFst (fun i => bt bs i == false) a b r) : AtZero bs a b (-1) 0 r := by
  rcases Nat.lt_or_ge a b with hl | hl
  · exact zero_of_fst (long_none _ a) (Nat.le_refl _) (by omega) hr (.inl rfl)
  · obtain ⟨e1, e2⟩ := zero_empty hl hr
    exact .inl ⟨e1, e2⟩
/-- A run from A to E - 1 is gone through. -/
theorem long_turn {bs : List UInt8} {a A E : Nat} {x : Int} {m : Nat} (h : IsLong (bt bs) a A x m) (haA : a ≤ A) (hE : A < E) (hfree : ∀ i, A ≤ i → i < E → (bt bs i == true) = false) (hedge : A = a ∨ bt bs (A - 1) = true) :
    IsLong (bt bs) a E (if m < E - A then (A : Int) else x) (if m < E - A then E - A else m) :=
  long_ext h (by omega) haA (Nat.le_refl _) hE (fun i k1 k2 => by have := hfree i k1 (by omega); simpa using this) hedge

def leftM (b : Nat) (x : Int) : Nat := if x < 0 then 0 else b + 1 - x.toNat
theorem leftM_lt {b A' E : Nat} {r : Int} (h : r = -1 ∨ ∃ A3 : Nat, r = (A3 : Int) ∧ E ≤ A3 ∧ A3 < b) (h1 : A' < E) (h2 : E ≤ b) : leftM b r < leftM b (A' : Int) := by
  unfold leftM
  rcases h with rfl | ⟨A3, rfl, e2, e3⟩
  · rw [if_pos (by omega), if_neg (by omega)]; omega
  · rw [if_neg (by omega), if_neg (by omega)]; omega
theorem long_le {f : Nat → Bool} {a e : Nat} {x : Int} {m : Nat} (h : IsLong f a e x m) : m ≤ e ∧ -1 ≤ x ∧ x ≤ e := by
  rcases h with ⟨rfl, rfl, _⟩ | ⟨A, rfl, h0, h1, h2, _⟩
  · omega
  · omega
end Go.Proofs.Ytnkiblifnknbkaa.Bits
