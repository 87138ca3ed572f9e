/- A list without a name, and a list with an attribute carried into its place, in plain words. -/
import Derived.Test.YtbagocghlijleaaAtSet
namespace Go.Proofs.Ytbagocghlijleaa.At
open Go.Proofs.Ytbagocghlijleaa.Lf (less less_irrefl less_total less_trans)

def woL (l : List Pr) (t : List UInt8) : List Pr := l.filter fun x => !decide (x.t = t)
theorem woL_mem (l : List Pr) (t : List UInt8) (x : Pr) : x ∈ woL l t ↔ x ∈ l ∧ x.t ≠ t := by
  unfold woL
  rw [List.mem_filter]
  simp
theorem woL_len (l : List Pr) (t : List UInt8) : (woL l t).length ≤ l.length := List.length_filter_le _ _
theorem woL_yes (l : List Pr) (t : List UInt8) (k : Nat) (h : k < l.length) (e : (l[k]).t = t) : woL (l.take (k + 1)) t = woL (l.take k) t := by
  rw [List.take_succ_eq_append_getElem h]
  unfold woL
  rw [List.filter_append]
  simp [e]
theorem woL_no (l : List Pr) (t : List UInt8) (k : Nat) (h : k < l.length) (e : (l[k]).t ≠ t) : woL (l.take (k + 1)) t = woL (l.take k) t ++ [l[k]] := by
  rw [List.take_succ_eq_append_getElem h]
  unfold woL
  rw [List.filter_append]
  simp [e]
theorem woL_shorter (l : List Pr) (t : List UInt8) : (woL l t).length < l.length ↔ ∃ x ∈ l, x.t = t := by
  unfold woL
  rw [List.length_filter_lt_length_iff_exists]
  simp
theorem woL_right {l : List Pr} (h : right l = true) (t : List UInt8) : right (woL l t) = true := by
  rw [right_iff] at h ⊢
  have hs : (woL l t).Sublist l := List.filter_sublist
  exact ⟨fun x hx => h.1 x (hs.subset hx), h.2.sublist hs⟩
theorem woL_del {l : List Pr} (h : right l = true) {t : List UInt8} (hh : hasA l t = true) : woL l t = delA l t :=
  right_same ((right_iff _).1 (woL_right h t)).2 ((right_iff _).1 (right_del h t)).2 (fun x => by rw [woL_mem, del_mem h hh])
/-- What the document answers for Drop is what the program's plain word says. -/
theorem woL_drop {l : List Pr} (h : right l = true) (t : List UInt8) : dropL l t = if (woL l t).length < l.length then (woL l t, 0) else ([], 15) := by
  unfold dropL
  rw [if_pos h]
  by_cases hh : hasA l t = true
  · rw [if_pos hh, if_pos ((woL_shorter l t).2 ((hasA_iff h t).1 hh)), woL_del h hh]
  · rw [if_neg hh, if_neg (fun e => hh ((hasA_iff h t).2 ((woL_shorter l t).1 e)))]
/-- p carried down to place k. -/
def bubL (W : List Pr) (p : Pr) (k : Nat) : List Pr := W.take k ++ ([p] ++ W.drop k)
theorem bubL_len (W : List Pr) (p : Pr) (k : Nat) : (bubL W p k).length = W.length + 1 := by
  unfold bubL
  simp only [List.length_append, List.length_take, List.length_drop, List.length_singleton]
  omega
theorem bubL_end (W : List Pr) (p : Pr) : bubL W p W.length = W ++ [p] := by unfold bubL; rw [List.take_length, List.drop_length]; rfl
theorem bubL_at (W : List Pr) (p : Pr) (k : Nat) (h : k ≤ W.length) : (bubL W p k)[k]? = some p := by
  unfold bubL
  rw [List.getElem?_append_right (by rw [List.length_take]; omega), List.length_take, show k - min k W.length = 0 by omega]
  rfl
theorem bubL_ahead (W : List Pr) (p : Pr) (k : Nat) (h : k < W.length) : (bubL W p (k + 1))[k]? = some W[k] := by
  unfold bubL
  rw [List.getElem?_append_left (by rw [List.length_take]; omega), List.getElem?_take_of_lt (by omega), List.getElem?_eq_getElem h]
theorem bubL_swap (W : List Pr) (p : Pr) (k : Nat) (h : k < W.length) : ((bubL W p (k + 1)).set (k + 1) W[k]).set k p = bubL W p k := by
  apply List.ext_getElem?
  intro i
  have hl : (bubL W p (k + 1)).length = W.length + 1 := bubL_len _ _ _
  rw [List.getElem?_set, List.getElem?_set, List.length_set, hl]
  by_cases h1 : k = i
  · subst h1
    rw [if_pos rfl, if_pos (by omega), bubL_at W p k (by omega)]
  · rw [if_neg h1]
    by_cases h2 : k + 1 = i
    · subst h2
      rw [if_pos rfl, if_pos (by omega)]
      unfold bubL
      rw [List.getElem?_append_right (by rw [List.length_take]; omega), List.length_take, show k + 1 - min k W.length = 1 by omega, List.getElem?_append_right (by simp), List.getElem?_drop]
      simp only [List.length_singleton]
      rw [show k + (1 - 1) = k by omega, List.getElem?_eq_getElem h]
    · rw [if_neg h2]
      unfold bubL
      rcases Nat.lt_or_ge i k with h3 | h3
      · rw [List.getElem?_append_left (by rw [List.length_take]; omega), List.getElem?_append_left (by rw [List.length_take]; omega), List.getElem?_take_of_lt (by omega), List.getElem?_take_of_lt (by omega)]
      · have e1 : (W.take (k + 1) ++ ([p] ++ W.drop (k + 1)))[i]? = W[i - 1]? := by
          rw [List.getElem?_append_right (by rw [List.length_take]; omega), List.length_take, List.getElem?_append_right (by simp; omega), List.getElem?_drop]
          congr 1
          simp only [List.length_singleton]
          omega
        have e2 : (W.take k ++ ([p] ++ W.drop k))[i]? = W[i - 1]? := by
          rw [List.getElem?_append_right (by rw [List.length_take]; omega), List.length_take, List.getElem?_append_right (by simp; omega), List.getElem?_drop]
          congr 1
          simp only [List.length_singleton]
          omega
        rw [e1, e2]
/-- Where p stands behind all that are less and ahead of all that are greater, the list is the one with p put. -/
theorem bubL_put {l : List Pr} (h : right l = true) {p : Pr} (hp : okP p = true) (k : Nat) (hk : k ≤ (woL l p.t).length) (h2 : ∀ y ∈ (woL l p.t).drop k, less p.t y.t = true) (h1 : k = 0 ∨ less p.t ((woL l p.t).getD (k - 1) p0).t = false) : bubL (woL l p.t) p k = putA l p := by
  have hw := woL_right h p.t
  have hp2 := ((right_iff _).1 hw).2
  have h3 : ∀ y ∈ (woL l p.t).take k, less y.t p.t = true := by
    intro y hy
    have hyw : y ∈ woL l p.t := List.mem_of_mem_take hy
    have hne := ((woL_mem l p.t y).1 hyw).2
    obtain ⟨i, hi, rfl⟩ := List.getElem_of_mem hy
    rw [List.length_take] at hi
    rcases h1 with h1 | h1
    · omega
    · rw [List.getElem_take]
      have hlast : k - 1 < (woL l p.t).length := by omega
      rw [getD_at hlast] at h1
      have hne2 := ((woL_mem l p.t _).1 (List.getElem_mem hlast)).2
      have hb : less ((woL l p.t)[k - 1]).t p.t = true := by
        cases hc : less ((woL l p.t)[k - 1]).t p.t with
        | true => rfl
        | false => exact absurd (less_total _ _ hc h1) hne2
      rcases Nat.lt_or_ge i (k - 1) with h4 | h4
      · exact less_trans _ _ _ (List.pairwise_iff_getElem.1 hp2 i (k - 1) (by omega) hlast h4) hb
      · have : i = k - 1 := by omega
        subst this
        exact hb
  have hr : right (bubL (woL l p.t) p k) = true := by
    unfold bubL
    exact right_parts (by rw [List.take_append_drop]; exact hw) hp h3 h2
  refine right_same ((right_iff _).1 hr).2 ((right_iff _).1 (right_put h hp)).2 (fun x => ?_)
  rw [put_mem h p x, ← woL_mem]
  unfold bubL
  have hm : x ∈ woL l p.t ↔ x ∈ (woL l p.t).take k ∨ x ∈ (woL l p.t).drop k := by
    rw [← List.mem_append, List.take_append_drop]
  rw [hm]
  simp only [List.mem_append, List.mem_singleton]
  constructor
  · rintro (a | a | a)
    · exact .inr (.inl a)
    · exact .inl a
    · exact .inr (.inr a)
  · rintro (a | a | a)
    · exact .inr (.inl a)
    · exact .inl a
    · exact .inr (.inr a)
end Go.Proofs.Ytbagocghlijleaa.At
