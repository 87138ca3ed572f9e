/- A slice of extents whose members are laid anew one by one. -/
import Derived.Test.YtkhenchhafmlmaaExParts
import Derived.Test.YtkhenchhafmlmaaExArg
namespace Go.Proofs.Ytkhenchhafmlmaa.Ex
set_option maxRecDepth 20000
open Go.RowKit
open Go.Proofs.Ytkhenchhafmlmaa.Mem Go.Proofs.Ytkhenchhafmlmaa.Crc Go.Proofs.Ytkhenchhafmlmaa.Rec Go.Proofs.Ytkhenchhafmlmaa.Reg
/-- A row with room for n extents at block g. -/
def RowX (w : World) (g n : Nat) : Prop := ∃ cur, w.heap[g]? = some (.cells cur 24 (0, 0)) ∧ n * 4 ≤ cur.size
theorem RowX.of {w : World} {base n c : Nat} {A : Option Addr} {l : List X} (h : OwnX w base (.slice A n c) l) (hn : 0 < n) : ∃ g, A = some ⟨g, 0, none⟩ ∧ base ≤ g ∧ RowX w g n := by
  rcases h.2 with ⟨e, h0⟩ | ⟨g, cap, cur, e, h1, h2, h3, h4, h5, _⟩
  · injection e; omega
  · have hf := h.fits.1
    injection e with e1 e2 e3
    exact ⟨g, e1, h1, cur, h2, by omega⟩
theorem RowX.kept {w w' : World} {g n : Nat} (h : RowX w g n) (hk : w'.heap[g]? = w.heap[g]?) : RowX w' g n := by
  obtain ⟨cur, h1, h2⟩ := h
  exact ⟨cur, hk.trans h1, h2⟩
theorem RowX.lt {w : World} {g n : Nat} (h : RowX w g n) : g < w.heap.size := by
  obtain ⟨cur, h1, _⟩ := h
  exact (Array.getElem?_eq_some_iff.1 h1).1
theorem setCells_other (g k : Nat) (hk : k ≠ g) : ∀ (vs : List Value) (o : Nat) (w : World), (w.setCells g o vs).heap[k]? = w.heap[k]?
  | [], _, _ => rfl
  | v :: vs, o, w => (setCells_other g k hk vs (o + 1) (w.setCell ⟨g, o, none⟩ v)).trans (heap_setCell_other w ⟨g, o, none⟩ k v (fun e => hk (by simp [e])))
theorem run_stX_row (W : World) (g n j : Nat) (h : RowX W g n) (hj : j < n) :
    ∃ W', (stX (.pointer (some ⟨g, j * 4, none⟩)) (.agg #[.int .i64 0, .int .i64 0, .int .i64 0, .bool false])).run Try.prog W = .ok () W' ∧ RowX W' g n ∧ (∀ B, B ≤ g → Below B W W') ∧ ∀ k, k ≠ g → W'.heap[k]? = W.heap[k]? := by
  obtain ⟨cur, h1, h2⟩ := h
  have hs := run_storeAt_mid (P := Try.prog) W g (j * 4) 24 x0.c ?_ (by kernel_rfl) (by simp [x0, X.c, Value.oneCell'])
  · refine ⟨_, hs, ?_, fun B hB => setCells_below g _ _ _ _ _ hB (Below.refl B W), fun k hk => setCells_other g k hk _ _ _⟩
    refine ⟨_, setCells_heap g _ (j * 4) W _ _ h1 (by show j * 4 + 4 ≤ cur.size; omega), ?_⟩
    simp [x0, X.c]
    omega
  · intro i hi
    have hi4 : i < 4 := hi
    have : j * 4 + i < cur.size := by omega
    exact ⟨by rw [cell_of_row _ _ _ _ _ _ h1, Array.getElem?_eq_getElem this]; rfl, frozen_of_row _ _ _ _ _ h1⟩
end Go.Proofs.Ytkhenchhafmlmaa.Ex
