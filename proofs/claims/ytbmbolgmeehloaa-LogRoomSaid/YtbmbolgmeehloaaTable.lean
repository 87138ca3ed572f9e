/- The contract of the program's table of 256 words: for every world it answers the array of the words behind all bytes, and below the old heap nothing has turned. -/
import Derived.Test.YtbmbolgmeehloaaLeaf
import Derived.Deep.WholeRow
import Derived.Deep.Draws
import Derived.RegionTactic
import Derived.ChangeAlike
import Derived.Laws.Rows
import Derived.Laws.NewBlocks
namespace Go.Proofs.Ytbmbolgmeehloaa.Crc
open Go.RowKit

def wordV (i : Nat) : Value := .int .u32 (turns 8 i : Int)
def tblN (n i : Nat) : Array Value := (List.ofFn (n := n) fun j => if j.val < i then wordV j.val else .int .u32 0).toArray
def tblAt (i : Nat) : Array Value := tblN 256 i

theorem tblN_size (n i : Nat) : (tblN n i).size = n := by simp [tblN]
theorem tblN_get (n i j : Nat) (h : j < i) (hi : j < n) : (tblN n i)[j]? = some (wordV j) := by
  simp [tblN, hi, h]
theorem tblN_set (n i : Nat) (h : i < n) : (tblN n i).setIfInBounds i (wordV i) = tblN n (i + 1) := by
  apply Array.ext_getElem?
  intro j
  rw [Array.getElem?_setIfInBounds, tblN_size]
  by_cases hj : i = j
  · subst hj
    rw [if_pos rfl, if_pos h, tblN_get n (i + 1) i (by omega) h]
  · rw [if_neg hj]
    by_cases hl : j < n
    · simp only [tblN, List.getElem?_toArray, List.getElem?_ofFn, hl]
      by_cases hji : j < i
      · simp [hji, show j < i + 1 by omega]
      · simp [hji, show ¬ j < i + 1 by omega]
    · rw [Array.getElem?_eq_none (by rw [tblN_size]; omega), Array.getElem?_eq_none (by rw [tblN_size]; omega)]
theorem tblN_zero (n : Nat) : Array.replicate n (Value.int .u32 0) = tblN n 0 := by
  apply Array.ext_getElem?
  intro j
  simp [tblN, Array.getElem?_replicate]
  split <;> simp_all
theorem tbl_size (i : Nat) : (tblAt i).size = 256 := tblN_size 256 i
theorem tbl_get (i j : Nat) (h : j < i) (hi : j < 256) : (tblAt i)[j]? = some (wordV j) := tblN_get 256 i j h hi
theorem tbl_set (i : Nat) (h : i < 256) : (tblAt i).setIfInBounds i (wordV i) = tblAt (i + 1) := tblN_set 256 i h
theorem tbl_zero : Array.replicate 256 (Value.int .u32 0) = tblAt 0 := tblN_zero 256

theorem tbl_one : (tblAt 256).all (·.oneCell') = true := by
  rw [Array.all_eq_true_iff_forall_mem]
  intro v hv
  obtain ⟨j, hj, rfl⟩ := Array.getElem_of_mem hv
  rw [tbl_size] at hj
  have e : (tblAt 256)[j]'(by rw [tbl_size]; exact hj) = wordV j := Option.some.inj ((Array.getElem?_eq_getElem _).symm.trans (tbl_get 256 j hj hj))
  rw [e]; rfl
theorem info_tbl : (Try.prog.info? 145).map (fun i => (i.zero, i.size)) = some (some (.agg (Array.replicate 256 (.int .u32 0))), 256) := by kernel_rfl

/-- The lowest bit that is one. -/
def lowest (i : Nat) : Nat := (bits .and .i64 (i : Int) (-(i : Int))).toNat
theorem lowest_all : ∀ i : Fin 256, bits .and .i64 (i.val : Int) (-(i.val : Int)) = (lowest i.val : Int) ∧ lowest i.val ≤ i.val ∧ (i.val = 0 → lowest i.val = 0) ∧ (0 < i.val → 0 < lowest i.val) ∧ i.val - lowest i.val ^^^ lowest i.val = i.val := by decide +kernel

theorem setCell_two (w : World) (A : Obj) (C : Array Value) (t : TypeId) (nd i : Nat) (v : Value) :
    (((w.alloc A).alloc (.cells C t)).drewN nd).setCell ⟨w.heap.size + 1, i, none⟩ v = ((w.alloc A).alloc (.cells (C.setIfInBounds i v) t)).drewN nd := by
  have h := World.setCell_alloc_at (w := w.alloc A) C t (w.heap.size + 1) i v (by simp)
  have e : ∀ (W : World) (a : Addr), (W.drewN nd).setCell a v = (W.setCell a v).drewN nd := fun _ _ => rfl
  rw [e, h]

theorem words_round (w : World) (i nd : Nat) (v : Value) (hi : i < 256) (hv : v = wordV i) :
    (((w.alloc (.cells (tblAt 0) 145)).alloc (.cells (tblAt i) 145)).drewN nd).setCell ⟨w.heap.size + 1, i, none⟩ v = ((w.alloc (.cells (tblAt 0) 145)).alloc (.cells (tblAt (i + 1)) 145)).drewN nd := by
  rw [setCell_two, hv, tbl_set i hi]

theorem below_setRow {B : Nat} {a w : World} (h : Below B a w) (g : Nat) (cs : Array Value) (hg : B ≤ g) : Below B a (w.setRow g cs) :=
  h.trans ⟨rfl, rfl, rfl, by simp, fun k hk => setRow_other w g k cs (by omega)⟩

set_option maxRecDepth 100000 in
set_option maxHeartbeats 400000 in
theorem words_any (w : World) :
    Calls Try.prog 120 #[] w fun e w' => e = .returned (.agg (tblAt 256)) ∧ Below w.heap.size w w' := by
  have hz := (zero_of_info info_tbl).1
  go_enter Try.func120, Try.ntmps120
  go_wp2
  rw [tbl_zero]
  clear hz
  go_loopw [2, 3, 4] (fun _ _ c wr => ∃ i nd : Nat, i ≤ 256 ∧ c = .int .i64 i ∧ wr = ((w.alloc (.cells (tblAt 0) 145)).alloc (.cells (tblAt i) 145)).drewN nd) (fun _ _ c _ => 256 - (intOf c).toNat)
  case atStart => exact ⟨0, 0, by omega, rfl, rfl⟩
  case round =>
    obtain ⟨i, nd, hi, rfl, rfl⟩ := hrel
    by_cases hlt : i < 256
    · obtain ⟨hL, h1, h2, h3, h4⟩ := lowest_all ⟨i, hlt⟩
      simp only [] at hL h1 h2 h3 h4
      have H4 : Hid (_ = _) := h4
      clear h4
      generalize lowest i = L at hL h1 h2 h3 H4
      by_cases hs : L = i
      · have hb : ((L : Int) == (i : Int)) = true := by simp [hs]
        have H2 := h2; clear h2
        have HS : Hid (_ = _) := hs
        clear hs
        go_wp2_with fail
        refine (shifted_any _ _ (by omega)).mono ?_
        rintro e w' ⟨rfl, rfl⟩
        have hg := tbl_size i
        go_wp2
        go_roundw
        case rel => exact ⟨i + 1, nd, by omega, by go_num, words_round w i nd _ hlt rfl⟩
        case measure => simp [intOf]; omega
      · have hb : ((L : Int) == (i : Int)) = false := by simp; omega
        have hsz := tbl_size i
        obtain ⟨M, hMd⟩ : ∃ M, i - L = M := ⟨_, rfl⟩
        have hml : M < 256 := by omega
        have hll : L < 256 := by omega
        have hx1 : (tblAt i)[M]'(by rw [tbl_size]; exact hml) = .int .u32 (turns 8 M : Int) := Option.some.inj ((Array.getElem?_eq_getElem _).symm.trans (tbl_get i _ (by omega) hml))
        have hx2 : (tblAt i)[L]'(by rw [tbl_size]; exact hll) = .int .u32 (turns 8 L : Int) := Option.some.inj ((Array.getElem?_eq_getElem _).symm.trans (tbl_get i _ (by omega) hll))
        have hM : (i : Int) - (L : Int) = (M : Int) := by omega
        have hX : bits .xor .u32 (turns 8 M : Int) (turns 8 L : Int) = (turns 8 i : Int) := by
          rw [u32_xor_nat _ _ (turns_lt 8 _ (by omega)) (turns_lt 8 _ (by omega)), ← turns_xor, ← hMd, H4.out]
        clear H4 hMd
        clear h1 h2 h3 hs
        go_wp2
        go_region
        go_wp2
        go_roundw
        case rel => exact ⟨i + 1, nd + 1, by omega, by go_num, words_round w i _ _ hlt rfl⟩
        case measure => simp [intOf]; omega
    · obtain rfl : i = 256 := by omega
      have hg1 : (((w.alloc (.cells (tblAt 0) 145)).alloc (.cells (tblAt 256) 145)).drewN nd).heap[w.heap.size + 1]? = some (.cells (tblAt 256) 145 (0, 0)) := heap_alloc2_new w _ _
      have hg0 : (((w.alloc (.cells (tblAt 0) 145)).alloc (.cells (tblAt 256) 145)).drewN nd).heap[w.heap.size]? = some (.cells (tblAt 0) 145 (0, 0)) := heap_alloc2_old w _ _
      have H1 : Hid (_ = _) := hg1
      have H0 : Hid (_ = _) := hg0
      clear hg1 hg0
      have hw : Below w.heap.size w (((w.alloc (.cells (tblAt 0) 145)).alloc (.cells (tblAt 256) 145)).drewN nd) := by
        have h := ((Below.refl w.heap.size w).alloc (Nat.le_refl _) (.cells (tblAt 0) 145)).alloc (by simp) (.cells (tblAt 256) 145)
        exact ⟨h.os, h.tape, h.output, h.size, h.block⟩
      generalize ((w.alloc (.cells (tblAt 0) 145)).alloc (.cells (tblAt 256) 145)).drewN nd = W at H1 H0 hw ⊢
      go_wp2_with (first
        | (with_reducible refine wpList_load_row rfl 145 _ rfl (w.heap.size + 1) rfl 145 (tblAt 256) (0, 0) _ H1.out Try.underlying145 rfl (by rw [tbl_size]; exact (zero_of_info info_tbl).2) ?_)
        | (with_reducible refine wpList_store_row rfl 145 _ _ rfl w.heap.size (tblAt 256) rfl rfl 145 (tblAt 0) H0.out (by rw [tbl_size]; exact (zero_of_info info_tbl).2) (by rw [tbl_size, tbl_size]) tbl_one ?_))
      refine bodyPost_ret (v := .agg (tblAt 256)) (results_cell_row rfl _ _ w.heap.size 145 (tblAt 256) (0, 0) _ rfl (setRow_heap _ _ _ _ _ _ H0.out) Try.underlying145 rfl ?_) rfl ⟨rfl, below_setRow hw _ _ (Nat.le_refl _)⟩
      rw [tbl_size]; exact (zero_of_info info_tbl).2
end Go.Proofs.Ytbmbolgmeehloaa.Crc
