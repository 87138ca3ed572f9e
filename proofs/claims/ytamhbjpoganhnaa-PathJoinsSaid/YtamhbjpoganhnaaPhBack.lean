/- Paths in plain words: what is joined has just its parts, what is put behind has the parts of both, nothing goes up in what Plain tells. -/
import Derived.Test.YtamhbjpoganhnaaPhJoins
namespace Go.Proofs.Ytamhbjpoganhnaa.Ph
set_option maxRecDepth 20000
open Go.Proofs.Ytamhbjpoganhnaa.Lf

theorem pcs_append (b : List UInt8) : ∀ (n : Nat) (a : List UInt8), a.length < n → pcs (a ++ 47 :: b) = pcs a ++ pcs b
  | 0, _, h => by omega
  | n + 1, a, h => by
    cases hc : a.contains 47 with
    | false => rw [pcs_join a b hc, pcs_last hc, hd_all hc]; rfl
    | true =>
      have h1 := tl_lt a hc
      have h2 := pcs_append b n (tl a) (by omega)
      conv => lhs; rw [hd_tl hc]
      rw [List.append_assoc, List.cons_append, pcs_join _ _ (hd_no a), h2, pcs_on hc]
      rfl
theorem joinB_pcs : ∀ (n : Nat) (t : List UInt8), t.length < n → joinB (pcs t) = 47 :: t
  | 0, _, h => by omega
  | n + 1, t, h => by
    cases hc : t.contains 47 with
    | false =>
      rw [pcs_last hc, hd_all hc]
      simp [joinB]
    | true =>
      have h1 := tl_lt t hc
      have h2 := joinB_pcs n (tl t) (by omega)
      rw [pcs_on hc]
      unfold joinB at h2 ⊢
      rw [List.flatMap_cons, h2]
      conv => rhs; rw [hd_tl hc]
      rfl
theorem pcs_mem (n : Nat) : ∀ (t : List UInt8), t.length < n → ∀ x ∈ pcs t, x.contains 47 = false ∧ ∀ c ∈ x, c ∈ t := by
  induction n with
  | zero => intro t h; omega
  | succ n ih =>
    intro t h x hx
    cases hc : t.contains 47 with
    | false =>
      rw [pcs_last hc, hd_all hc, List.mem_singleton] at hx
      subst hx
      exact ⟨hc, fun c h => h⟩
    | true =>
      have h1 := tl_lt t hc
      rw [pcs_on hc, List.mem_cons] at hx
      rcases hx with rfl | hx
      · refine ⟨hd_no t, fun c hm => ?_⟩
        rw [hd_tl hc]
        exact List.mem_append_left _ hm
      · obtain ⟨k1, k2⟩ := ih (tl t) (by omega) x hx
        refine ⟨k1, fun c hm => ?_⟩
        rw [hd_tl hc]
        exact List.mem_append_right _ (List.mem_cons_of_mem _ (k2 c hm))
theorem pcs_parts : ∀ (l : List (List UInt8)), l ≠ [] → (∀ x ∈ l, x.contains 47 = false) → pcs ((joinB l).drop 1) = l
  | [], h, _ => absurd rfl h
  | [x], _, hn => by
    have := hn x (by simp)
    show pcs ((joinB [x]).drop 1) = [x]
    rw [show (joinB [x]).drop 1 = x by simp [joinB], pcs_last this, hd_all this]
  | x :: y :: l, _, hn => by
    have h1 := pcs_parts (y :: l) (by simp) (fun z hz => hn z (List.mem_cons_of_mem _ hz))
    have h2 := hn x (by simp)
    have e : (joinB (x :: y :: l)).drop 1 = x ++ 47 :: (joinB (y :: l)).drop 1 := by
      unfold joinB
      rw [List.flatMap_cons, List.flatMap_cons]
      simp
    rw [e, pcs_join _ _ h2, h1]
theorem flat_kept : ∀ l : List (List UInt8), (joinB (kept l)).length ≤ (joinB l).length
  | [] => Nat.le_refl _
  | x :: l => by
    have h := flat_kept l
    unfold kept at h ⊢
    rw [List.filter_cons]
    split
    · unfold joinB at h ⊢
      rw [List.flatMap_cons, List.flatMap_cons, List.length_append, List.length_append]
      omega
    · unfold joinB at h ⊢
      rw [List.flatMap_cons, List.length_append]
      omega
theorem ok_of {x : List UInt8} (hk : kp x = true) (hl : x.length ≤ 32) (h47 : x.contains 47 = false) (h0 : x.contains 0 = false) : okP x = true := by
  unfold okP
  by_cases hu : x = [46, 46]
  · rw [beq_iff_eq.2 hu]; rfl
  · rw [beq_false_of_ne hu, Bool.false_or]
    unfold kp at hk
    rw [Bool.and_eq_true] at hk
    have k1 : x ≠ [] := by rintro rfl; simp at hk
    have k2 : x ≠ [46] := by rintro rfl; simp at hk
    unfold may
    rw [h0, h47, decide_eq_true k2, decide_eq_true hu, decide_eq_true ⟨List.length_pos_iff.2 k1, hl⟩]
    rfl
theorem ok_kp {x : List UInt8} (h : okP x = true) : kp x = true := by
  have h1 := ok_pos h
  unfold okP at h
  rw [Bool.or_eq_true] at h
  unfold kp
  rw [beq_false_of_ne (show x ≠ [] by rintro rfl; simp at h1)]
  rcases h with h | h
  · rw [beq_iff_eq] at h
    subst h
    decide
  · unfold may at h
    rw [Bool.and_eq_true, Bool.and_eq_true, decide_eq_true_iff, decide_eq_true_iff] at h
    rw [beq_false_of_ne h.2.1]
    rfl
theorem ok_clean {x : List UInt8} (h : okP x = true) : x.contains 47 = false ∧ x.contains 0 = false := by
  unfold okP at h
  rw [Bool.or_eq_true] at h
  rcases h with h | h
  · rw [beq_iff_eq] at h
    subst h
    decide
  · unfold may at h
    simp only [Bool.and_eq_true, Bool.not_eq_true'] at h
    exact ⟨h.2.2.2.2, h.2.2.2.1⟩
theorem kept_all {l : List (List UInt8)} (h : l.all okP = true) : kept l = l := by
  unfold kept
  rw [List.filter_eq_self]
  exact fun x hx => ok_kp (List.all_eq_true.1 h x hx)
theorem long_all {l : List (List UInt8)} (h : l.all okP = true) : tooLong l = false := by
  unfold tooLong
  rw [← Bool.not_eq_true, List.any_eq_true]
  rintro ⟨x, hx, h2⟩
  have := ok_len (List.all_eq_true.1 h x hx)
  simp at h2
  omega
theorem joinB_clean {l : List (List UInt8)} (h : l.all okP = true) : (joinB l).contains 0 = false := by
  rw [← Bool.not_eq_true, List.contains_iff_mem]
  intro hm
  unfold joinB at hm
  obtain ⟨x, hx, hc⟩ := List.mem_flatMap.1 hm
  rcases List.mem_cons.1 hc with hc | hc
  · cases hc
  · have := (ok_clean (List.all_eq_true.1 h x hx)).2
    rw [← Bool.not_eq_true, List.contains_iff_mem] at this
    exact this hc
/-- The path of these parts. -/
def pathB (l : List (List UInt8)) : List UInt8 := if l = [] then [47] else joinB l
theorem isDir_ok {x : List UInt8} (h : okP x = true) : isDir x = (x == [46, 46]) := by
  have := ok_kp h
  unfold kp at this
  rw [Bool.and_eq_true, Bool.not_eq_true', Bool.not_eq_true'] at this
  unfold isDir
  rw [this.1, this.2]
  rfl
def upB (l : List (List UInt8)) : Bool := decide (l = []) || (lastP l == [46, 46])
theorem split_path {l : List (List UInt8)} (h : l.all okP = true) (hl : (pathB l).length ≤ 256) : splitP (pathB l) = (l, upB l, 0) := by
  by_cases he : l = []
  · subst he
    decide +kernel
  · unfold pathB at hl ⊢
    rw [if_neg he] at hl ⊢
    have h1 : joinB l = 47 :: (joinB l).drop 1 := by
      rw [join_eq he]
      rfl
    have hb : bad1 (joinB l) = false := by
      unfold bad1
      rw [joinB_clean h, h1]
      rfl
    have hp := pcs_parts l he (fun x hx => (ok_clean (List.all_eq_true.1 h x hx)).1)
    unfold splitP
    rw [hb, if_neg (by simp), if_neg (by omega), hp, long_all h, if_neg (by simp), kept_all h]
    have hlast : okP (lastP l) = true := by
      unfold lastP
      have hm : l.getLastD [] ∈ l := by
        rw [List.getLastD_eq_getLast?, List.getLast?_eq_some_getLast he, Option.getD_some]
        exact List.getLast_mem he
      exact List.all_eq_true.1 h _ hm
    rw [isDir_ok hlast]
    unfold upB
    rw [decide_eq_false he]
    rfl
/-- What Split tells is joined again. -/
theorem parts_ok {p : List UInt8} (h : (splitP p).2.2 = 0) : (splitP p).1.all okP = true ∧ (pathB (splitP p).1).length ≤ p.length ∧ p.length ≤ 256 ∧ (∃ t, p = 47 :: t ∧ t.contains 0 = false ∧ tooLong (pcs t) = false ∧ splitP p = (kept (pcs t), isDir (lastP (pcs t)), 0)) := by
  unfold splitP at h ⊢
  cases hb : bad1 p with
  | true => rw [hb] at h; cases h
  | false =>
    rw [hb] at h
    rw [if_neg (by simp)] at h ⊢
    rcases Nat.lt_or_ge 256 p.length with hl | hl
    · rw [if_pos hl] at h; cases h
    · rw [if_neg (by omega)] at h ⊢
      cases ht : tooLong (pcs (p.drop 1)) with
      | true => rw [ht] at h; cases h
      | false =>
        rw [if_neg (by simp)]
        dsimp only
        obtain ⟨t, rfl⟩ : ∃ t, p = 47 :: t := by
          unfold bad1 at hb
          cases p with
          | nil => cases hb
          | cons c t =>
            rw [Bool.or_eq_false_iff] at hb
            have := hb.1
            simp at this
            exact ⟨t, by rw [this]⟩
        have h0 : t.contains 0 = false := by
          unfold bad1 at hb
          rw [Bool.or_eq_false_iff] at hb
          have := hb.2
          rw [List.contains_cons] at this
          simpa using this
        rw [show (47 :: t).drop 1 = t from rfl] at ht ⊢
        have hall : (kept (pcs t)).all okP = true := by
          rw [List.all_eq_true]
          intro x hx
          unfold kept at hx
          obtain ⟨hx1, hx2⟩ := List.mem_filter.1 hx
          obtain ⟨k1, k2⟩ := pcs_mem (t.length + 1) t (by omega) x hx1
          refine ok_of hx2 ?_ k1 ?_
          · unfold tooLong at ht
            rw [← Bool.not_eq_true, List.any_eq_true] at ht
            rcases Nat.lt_or_ge 32 x.length with q | q
            · exact absurd ⟨x, hx1, by simpa using q⟩ ht
            · exact q
          · rw [← Bool.not_eq_true, List.contains_iff_mem] at h0 ⊢
            exact fun q => h0 (k2 _ q)
        refine ⟨hall, ?_, hl, t, rfl, h0, ht, rfl⟩
        unfold pathB
        split
        · simp
        · have := flat_kept (pcs t)
          rw [joinB_pcs (t.length + 1) t (by omega)] at this
          exact this
theorem parts_not {p : List UInt8} (h : ¬ (splitP p).2.2 = 0) : (splitP p).1 = [] := by
  unfold splitP at h ⊢
  cases hb : bad1 p with
  | true => rfl
  | false =>
    rw [hb] at h
    rw [if_neg (by simp)] at h ⊢
    rcases Nat.lt_or_ge 256 p.length with hl | hl
    · rw [if_pos hl]
    · rw [if_neg (by omega)] at h ⊢
      cases ht : tooLong (pcs (p.drop 1)) with
      | true => rfl
      | false => rw [ht] at h; exact absurd rfl h
theorem join_of {l : List (List UInt8)} (h : l.all okP = true) (hl : (pathB l).length ≤ 256) : joinP l = (pathB l, 0) := by
  unfold joinP pathB at *
  rw [h, if_pos rfl]
  by_cases he : l = []
  · subst he
    rw [if_neg (by simp [joinB])]
  · rw [if_neg he] at hl ⊢
    rw [if_neg (by omega)]
theorem join_ways (l : List (List UInt8)) : ((joinP l).1 = [] ∧ ((joinP l).2 = 1 ∨ (joinP l).2 = 2)) ∨ (l.all okP = true ∧ (pathB l).length ≤ 256 ∧ joinP l = (pathB l, 0)) := by
  cases h : l.all okP with
  | false => exact .inl (by unfold joinP; rw [h]; exact ⟨rfl, .inl rfl⟩)
  | true =>
    rcases Nat.lt_or_ge 256 (joinB l).length with hl | hl
    · exact .inl (by unfold joinP; rw [h, if_pos rfl, if_pos hl]; exact ⟨rfl, .inr rfl⟩)
    · have : (pathB l).length ≤ 256 := by
        unfold pathB
        split
        · simp
        · exact hl
      exact .inr ⟨rfl, this, join_of h this⟩
/-- A path with more behind it. -/
theorem split_more {p q : List UInt8} (h : (splitP p).2.2 = 0) (h2 : (splitP (p ++ 47 :: q)).2.2 = 0) :
    (splitP (47 :: q)).2.2 = 0 ∧ (splitP (p ++ 47 :: q)).2.1 = (splitP (47 :: q)).2.1 ∧ (splitP (p ++ 47 :: q)).1 = (splitP p).1 ++ (splitP (47 :: q)).1 := by
  obtain ⟨-, -, -, t, rfl, h0, ht, hs⟩ := parts_ok h
  obtain ⟨-, -, hl, u, hu, hu0, hut, hus⟩ := parts_ok h2
  have hue : u = t ++ 47 :: q := by
    rw [List.cons_append] at hu
    injection hu with _ hu
    exact hu.symm
  subst hue
  have hpc := pcs_append q (t.length + 1) t (by omega)
  rw [hpc] at hut hus
  have hq0 : q.contains 0 = false := by
    rw [← Bool.not_eq_true, List.contains_iff_mem] at hu0 ⊢
    exact fun e => hu0 (List.mem_append_right _ (List.mem_cons_of_mem _ e))
  have hqb : bad1 (47 :: q) = false := by
    unfold bad1
    rw [List.contains_cons, hq0]
    rfl
  have hqt : tooLong (pcs q) = false := by
    unfold tooLong at hut ⊢
    rw [List.any_append, Bool.or_eq_false_iff] at hut
    exact hut.2
  have hql : ¬ 256 < (47 :: q).length := by
    simp only [List.length_cons, List.length_append] at hl ⊢
    omega
  have hqs : splitP (47 :: q) = (kept (pcs q), isDir (lastP (pcs q)), 0) := by
    unfold splitP
    rw [hqb, if_neg (by simp), if_neg hql, show (47 :: q).drop 1 = q from rfl, hqt]
    rfl
  rw [hus, hqs, hs]
  refine ⟨rfl, ?_, ?_⟩
  · dsimp only
    congr 1
    unfold lastP
    cases hq : pcs q with
    | nil => exact absurd hq (pcs_ne q)
    | cons x l =>
      rw [List.getLastD_eq_getLast?, List.getLastD_eq_getLast?, List.getLast?_append, List.getLast?_eq_some_getLast (l := x :: l) (by simp)]
      rfl
  · dsimp only
    unfold kept
    rw [List.filter_append]

theorem plain_clean (l : List (List UInt8)) : ∀ a : List (List UInt8), (∀ x ∈ a, x ≠ [46, 46]) → ∀ x ∈ l.foldl plainS a, x ≠ [46, 46] := by
  induction l with
  | nil => intro a h; exact h
  | cons y l ih =>
    intro a h
    rw [List.foldl_cons]
    refine ih _ fun x hx => ?_
    unfold plainS at hx
    split at hx
    · exact h x (List.dropLast_subset _ hx)
    · rename_i hy
      rcases List.mem_append.1 hx with hx | hx
      · exact h x hx
      · rw [List.mem_singleton] at hx
        subst hx
        exact hy
theorem plain_stays (l : List (List UInt8)) : ∀ a : List (List UInt8), (∀ x ∈ l, x ≠ [46, 46]) → l.foldl plainS a = a ++ l := by
  induction l with
  | nil => intro a _; simp
  | cons y l ih =>
    intro a h
    rw [List.foldl_cons, ih _ (fun x hx => h x (List.mem_cons_of_mem _ hx)), plainS_no _ _ (h y (by simp))]
    simp
theorem plain_no (l : List (List UInt8)) : ∀ x ∈ plainP l, x ≠ [46, 46] := plain_clean l [] (by simp)
theorem plain_twice (l : List (List UInt8)) : plainP (plainP l) = plainP l := by
  have := plain_stays (plainP l) [] (plain_no l)
  rw [List.nil_append] at this
  exact this
end Go.Proofs.Ytamhbjpoganhnaa.Ph
