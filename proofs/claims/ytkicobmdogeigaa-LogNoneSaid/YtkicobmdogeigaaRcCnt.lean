/- The table of how often each number was met, in plain words and in memory; and whether a record may be, as one bool. -/
import Derived.Test.YtkicobmdogeigaaRcTxn
import Derived.Maps.RangeWalk
import Derived.Maps.OwnOps
import Derived.Maps.OwnSet
import Derived.Maps.Ext
namespace Go.Proofs.Ytkicobmdogeigaa.Rec
set_option maxRecDepth 20000
open Go.RowKit
open Go.Proofs.Ytkicobmdogeigaa.Mem Go.Proofs.Ytkicobmdogeigaa.Crc

def keyI (b : Int) : Lit := .int .i64 b
def cV (k : Nat) : DataW Unit := .lit (.int .i64 (k : Int))
/-- The table behind the first k numbers. -/
def cntD (bs : List Int) : Nat → DataW Unit
  | 0 => .map []
  | k + 1 => (cntD bs k).put (keyI (bs.getD k 0)) (cV ((bs.take k).count (bs.getD k 0) + 1))
theorem keyI_inj {a b : Int} : keyI a = keyI b ↔ a = b := by
  unfold keyI
  constructor
  · intro h; injection h
  · intro h; rw [h]
theorem cntD_isMap (bs : List Int) : ∀ k, Maps.IsMap (cntD bs k)
  | 0 => ⟨[], rfl⟩
  | k + 1 => (cntD_isMap bs k).put _ _
theorem take_snocI (bs : List Int) (k : Nat) (h : k < bs.length) : bs.take (k + 1) = bs.take k ++ [bs.getD k 0] := by
  rw [List.take_succ_eq_append_getElem h]; simp [List.getD, h]
theorem cntD_has (bs : List Int) (b : Int) : ∀ k, k ≤ bs.length → Maps.has (cntD bs k) (keyI b) = decide (b ∈ bs.take k)
  | 0, _ => by simp [cntD]; rfl
  | k + 1, hk => by
    have ih := cntD_has bs b k (by omega)
    rw [take_snocI bs k (by omega)]
    show Maps.has ((cntD bs k).put _ _) _ = _
    by_cases h : b = bs.getD k 0
    · subst h
      rw [Maps.has_put_same (cntD_isMap bs k) (by unfold keyI; trivial)]; simp
    · rw [Maps.has_put_other (by rw [Ne, keyI_inj]; exact h), ih]
      simp only [List.mem_append, List.mem_singleton, h, or_false]
theorem cntD_at (bs : List Int) (b : Int) : ∀ k, k ≤ bs.length → (cntD bs k).atKey (keyI b) (.lit (.int .i64 0)) = cV ((bs.take k).count b)
  | 0, _ => by simp [cntD]; rfl
  | k + 1, hk => by
    have ih := cntD_at bs b k (by omega)
    rw [take_snocI bs k (by omega)]
    show DataW.atKey ((cntD bs k).put _ _) _ _ = _
    by_cases h : b = bs.getD k 0
    · subst h
      rw [Maps.atKey_put_same (cntD_isMap bs k) (by unfold keyI; trivial)]
      simp [List.count_append]
    · rw [Maps.atKey_put_other (by rw [Ne, keyI_inj]; exact h), ih]
      rw [List.count_append]
      have : List.count b [bs.getD k 0] = 0 := List.count_eq_zero.2 (by rw [List.mem_singleton]; exact h)
      rw [this]; rfl
/-- An entry of the table is a number that was met, and how often. -/
theorem cntD_entry (bs : List Int) (x c : Int) (k : Nat) (hk : k ≤ bs.length) (h : ∀ zd, (cntD bs k).atKey (keyI x) zd = .lit (.int .i64 c)) : x ∈ bs.take k ∧ c = ((bs.take k).count x : Int) := by
  have h1 := cntD_at bs x k hk
  rw [h] at h1
  unfold cV at h1
  injection h1 with h1
  injection h1 with _ h1
  refine ⟨?_, h1⟩
  have hh := cntD_has bs x k hk
  by_cases hm : x ∈ bs.take k
  · exact hm
  · exfalso
    have h2 := h (.lit (.int .i64 (c + 1)))
    have h3 := h .nil
    clear h h1 hh
    induction k with
    | zero => cases h3
    | succ k ih =>
      rw [take_snocI bs k (by omega)] at hm
      simp only [List.mem_append, List.mem_singleton, not_or] at hm
      have e : keyI x ≠ keyI (bs.getD k 0) := by rw [Ne, keyI_inj]; exact hm.2
      change DataW.atKey ((cntD bs k).put _ _) _ _ = _ at h2
      change DataW.atKey ((cntD bs k).put _ _) _ _ = _ at h3
      rw [Maps.atKey_put_other e] at h2 h3
      exact ih (by omega) hm.1 h2 h3

theorem intLitI {x : Int} (h : IsInt x) : (Lit.int .i64 x).wf = true := by
  obtain ⟨h1, h2⟩ := h
  simp [Lit.wf, show IntKind.i64.min = -9223372036854775808 from rfl, show IntKind.i64.max = 9223372036854775807 from rfl]
  omega
theorem intKey : Maps.Keyed Try.prog 3 := Maps.int_keyed Try.underlying3
abbrev Counts (w : World) (m n : Nat) (bs : List Int) (k : Nat) : Prop := w.ownsMap Try.prog 3 (plainElem Try.prog 3) m n (cntD bs k)

set_option maxRecDepth 100000 in
/-- 'm[b]', in whatever world holds the table. -/
theorem run_count (W : World) (m n k : Nat) (bs : List Int) (b : Int) (hb : IsInt b) (hk : k ≤ bs.length) (h : Counts W m n bs k) :
    (Instr.lookup 90 (.map (some m)) (.int .i64 b) false).run Try.prog W = .ok (.int .i64 ((bs.take k).count b : Int)) W := by
  have hz : (zeroValue 3).run Try.prog W = .ok (.int .i64 0) W := by rfl
  obtain ⟨c, hrun, hat, _⟩ := h.lookup_int intKey Try.underlying90 Try.underlying3 hz (Maps.keyOf_int_mk Try.underlying3 (intLitI hb))
  rw [hrun]
  have h2 := cntD_at bs b k hk
  unfold keyI at h2
  rw [h2] at hat
  unfold cV at hat
  injection hat with hat
  injection hat with _ hat
  rw [hat]
/-- 'm[b]++'. -/
theorem run_meet (W : World) (m n k : Nat) (bs : List Int) (b : Int) (hb : IsInt b) (hk : k < bs.length) (hget : bs.getD k 0 = b) (hn : n < maxLen) (hbs : bs.length ≤ 65536) (h : Counts W m n bs k) :
    ∃ w', (Instr.mapUpdate 90 (.map (some m)) (.int .i64 b) (.int .i64 (((bs.take k).count b : Int) + 1))).run Try.prog W = .ok () w' ∧ Counts w' m (n + 1) bs (k + 1) ∧ W.grownBy w' (some m) := by
  have hkey : keyOf Try.prog 3 (.int .i64 b) = some (keyI b) := Maps.keyOf_int_mk Try.underlying3 (intLitI hb)
  have hle : (bs.take k).count b ≤ 65536 := Nat.le_trans List.count_le_length (by rw [List.length_take]; omega)
  have hv : plainElem (H := Unit) Try.prog 3 (.int .i64 (((bs.take k).count b : Int) + 1)) = some (cV ((bs.take k).count b + 1), []) := by
    have := plainElem_int (H := Unit) (P := Try.prog) (a := (((bs.take k).count b : Int) + 1)) Try.underlying3 (intLitI ⟨by omega, by omega⟩)
    rw [this]; rfl
  obtain ⟨w2, hrun, hM2, hg2⟩ := h.update (t := 90) intKey Try.underlying90 hn hkey hv
  refine ⟨w2, hrun, ?_, hg2⟩
  have e : cntD bs (k + 1) = (cntD bs k).put (keyI b) (cV ((bs.take k).count b + 1)) := by
    show (cntD bs k).put _ _ = _
    rw [hget]
  show w2.ownsMap _ _ _ _ _ (cntD bs (k + 1))
  rw [e]; exact hM2

theorem nodup_count : ∀ l : List Int, l.Nodup → ∀ b, l.count b ≤ 1
  | [], _, b => by simp
  | x :: r, h, b => by
    rw [List.nodup_cons] at h
    have ih := nodup_count r h.2 b
    rw [List.count_cons]
    by_cases e : x = b
    · subst e
      rw [List.count_eq_zero.2 h.1]; simp
    · simp [e]; exact ih
theorem count_nodup : ∀ l : List Int, (∀ b, b ∈ l → l.count b ≤ 1) → l.Nodup
  | [], _ => List.nodup_nil
  | x :: r, h => by
    rw [List.nodup_cons]
    refine ⟨fun hm => ?_, count_nodup r fun b hb => ?_⟩
    · have h1 := h x (by simp)
      rw [List.count_cons_self] at h1
      have := List.count_pos_iff.2 hm
      omega
    · have h1 := h b (by simp [hb])
      rw [List.count_cons] at h1
      omega
def Tx.mayB (t : Tx) : Bool := decide (1 ≤ t.ws.length + t.rs.length) && (decide (t.ws.length + t.rs.length ≤ 58) && (decide (∀ x ∈ t.ws, x.2.length = 256) && (decide (∀ x ∈ t.nums, 0 ≤ x ∧ x < 1048576) && decide t.nums.Nodup)))
theorem mayB_iff (t : Tx) : t.mayB = true ↔ t.May := by
  unfold Tx.mayB
  simp only [Bool.and_eq_true, decide_eq_true_eq]
  exact ⟨fun ⟨a, b, c, d, e⟩ => ⟨a, b, c, d, e⟩, fun ⟨a, b, c, d, e⟩ => ⟨a, b, c, d, e⟩⟩
theorem mayB_false (t : Tx) (h : ¬ t.May) : t.mayB = false := by
  cases hb : t.mayB
  · rfl
  · exact absurd ((mayB_iff t).1 hb) h

def Answers (w : World) (v : Value) (e : Ending) (w' : World) : Prop := e = .returned v ∧ Below w.heap.size w w'

/-- What holds at the head of both loops. -/
structure Meets (w wr : World) (t : Tx) (cur : Array Value) (k : Nat) : Prop where
  box : wr.heap[w.heap.size]? = some (.cells cur 67 (0, 0))
  table : ∃ n, n ≤ k ∧ Counts wr (w.heap.size + 1) n t.nums k
  below : Below w.heap.size w wr
  size : w.heap.size + 1 < wr.heap.size

end Go.Proofs.Ytkicobmdogeigaa.Rec
