/- What every answer is, for the laws: right lists; an entry made empty. -/
import Derived.Test.YtmbmjdogfjmlpaaDoorSpAlive
import Derived.Test.YtmbmjdogfjmlpaaDoorSpRZero
import Derived.Test.YtmbmjdogfjmlpaaDoorSpREnd
import Derived.Test.YtmbmjdogfjmlpaaDoorSpRBytes
namespace Go.Proofs.YtmbmjdogfjmlpaaDoor.Sp
set_option maxRecDepth 20000
open Go.RowKit
open Go.Proofs.YtmbmjdogfjmlpaaDoor.Mem Go.Proofs.YtmbmjdogfjmlpaaDoor.Rec Go.Proofs.YtmbmjdogfjmlpaaDoor.Reg

theorem right_nil : right [] = true := rfl
theorem ofA_right (d : List UInt8) : right (ofA d).1 = true := by
  unfold ofA
  split
  · rename_i h; exact (of_facts h).1
  · rfl
theorem putA_right (l : List Rn) (p : Int) (d : List UInt8) : right (putA l p d).1 = true := by
  unfold putA
  split
  · rfl
  · rename_i h1
    split
    · rfl
    · rename_i h2
      have hr : right l = true := by
        cases hh : right l with
        | true => rfl
        | false => exact absurd (.inr hh) h1
      exact (put_facts hr (by omega) (by omega)).1
theorem zeroA_right (l : List Rn) (f t : Int) : right (zeroA l f t).1 = true := by
  unfold zeroA
  split
  · rfl
  · rename_i h1
    have hr : right l = true := by
      cases hh : right l with
      | true => rfl
      | false => exact absurd (.inr (.inr hh)) h1
    exact (zero_facts hr (by omega) (by omega)).1
theorem putA_ok {l : List Rn} {p : Int} {d : List UInt8} (h : (putA l p d).2 = 0) : right l = true ∧ 0 ≤ p ∧ p + (d.length : Int) ≤ 65536 ∧ (putA l p d).1 = putL l p d := by
  unfold putA at h ⊢
  by_cases h1 : p < 0 ∨ right l = false
  · rw [if_pos h1] at h; cases h
  · rw [if_neg h1] at h ⊢
    by_cases h2 : 65536 - p < (d.length : Int)
    · rw [if_pos h2] at h; cases h
    · rw [if_neg h2] at h ⊢
      have hr : right l = true := by
        cases hh : right l with
        | true => rfl
        | false => exact absurd (.inr hh) h1
      exact ⟨hr, by omega, by omega, rfl⟩
theorem putA_no {l : List Rn} {p : Int} {d : List UInt8} (h : (putA l p d).2 ≠ 0) : (putA l p d).1 = [] := by
  unfold putA at h ⊢
  split
  · rfl
  · split
    · rfl
    · rename_i h1 h2; rw [if_neg h1, if_neg h2] at h; exact absurd rfl h
theorem putA_yes {l : List Rn} {p : Int} {d : List UInt8} (hr : right l = true) (h0 : 0 ≤ p) (h1 : p + (d.length : Int) ≤ 65536) : putA l p d = (putL l p d, 0) := by
  unfold putA
  rw [if_neg (by rw [hr]; simp; omega), if_neg (by omega)]
theorem zeroA_ok {l : List Rn} {f t : Int} (h : (zeroA l f t).2 = 0) : right l = true ∧ 0 ≤ f ∧ f ≤ t ∧ (zeroA l f t).1 = zeroL l f t := by
  unfold zeroA at h ⊢
  by_cases h1 : f < 0 ∨ t < f ∨ right l = false
  · rw [if_pos h1] at h; cases h
  · rw [if_neg h1] at h ⊢
    have hr : right l = true := by
      cases hh : right l with
      | true => rfl
      | false => exact absurd (.inr (.inr hh)) h1
    exact ⟨hr, by omega, by omega, rfl⟩
theorem zeroA_no {l : List Rn} {f t : Int} (h : (zeroA l f t).2 ≠ 0) : (zeroA l f t).1 = [] := by
  unfold zeroA at h ⊢
  split
  · rfl
  · rename_i h1; rw [if_neg h1] at h; exact absurd rfl h
theorem zeroA_yes {l : List Rn} {f t : Int} (hr : right l = true) (h0 : 0 ≤ f) (h1 : f ≤ t) : zeroA l f t = (zeroL l f t, 0) := by
  unfold zeroA
  rw [if_neg (by rw [hr]; simp; omega)]
theorem bytesA_yes {l : List Rn} {p : Int} {n : Nat} (hr : right l = true) (h0 : 0 ≤ p) (h1 : p + (n : Int) ≤ 65536) : bytesA l p (n : Int) = (bytesL l p n, 0) := by
  unfold bytesA
  rw [if_neg (by rw [hr]; simp; omega), if_neg (by omega)]
  rfl
/-- A spot in a variable. -/
def VarP (w : World) (g : Nat) (a n : Int) : Prop := w.heap[g]? = some (.cells #[.int .i64 a, .int .i64 n] 40 (0, 0))
theorem VarP.lt {w : World} {g : Nat} {a n : Int} (h : VarP w g a n) : g < w.heap.size := (Array.getElem?_eq_some_iff.1 h).1
theorem VarP.keep {w w' : World} {g B : Nat} {a n : Int} (h : VarP w g a n) (hb : Below B w w') (hg : g < B) : VarP w' g a n := (hb.block _ hg).trans h
theorem VarP.new (w : World) (a n : Int) : VarP (w.alloc (.cells #[.int .i64 a, .int .i64 n] 40)) w.heap.size a n := heap_alloc_new w _
theorem VarP.alloc {w : World} {g : Nat} {a n : Int} (h : VarP w g a n) (o : Obj) : VarP (w.alloc o) g a n := (heap_alloc_old w o h.lt).trans h
theorem VarP.cells {w : World} {g : Nat} {a n : Int} (h : VarP w g a n) : w.cell? ⟨g, 0, none⟩ = some (.int .i64 a) ∧ w.cell? ⟨g, 1, none⟩ = some (.int .i64 n) :=
  ⟨cell_of_row w g 0 _ _ _ h, cell_of_row w g 1 _ _ _ h⟩
/-- A run of an own list made empty. -/
theorem zero_step {w : World} {base m c : Nat} {A : Option Addr} {M : List Rn} (ho : OwnX w base (.slice A m c) M) (k : Nat) (hk : k < m) :
    ∃ g w', A = some ⟨g, 0, none⟩ ∧ (stX (.pointer (some ⟨g, k * 2, none⟩)) (.agg #[.int .i64 0, .string ⟨#[]⟩])).run Tryd.prog w = .ok () w' ∧ OwnX w' base (.slice A m c) (M.set k r0) ∧ w.grownBy w' (some g) ∧ base ≤ g ∧ g < w.heap.size := by
  obtain ⟨g, rfl, hg1, hg2, _⟩ := OwnC.form (ownPK.2 ho) (by omega)
  obtain ⟨w', s, o, gr, z⟩ := put_own PK_ok (ownPK.2 ho) k (by have := ho.fits.1; omega) r0 r0.c rfl (k * 2) rfl
  exact ⟨g, w', rfl, s, o, gr, hg1, hg2⟩
end Go.Proofs.YtmbmjdogfjmlpaaDoor.Sp
