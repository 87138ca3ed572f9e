/- Cut, Mark and Put in plain words: what lies at each block behind them. -/
import Derived.Test.YtkhenchhafmlmaaExPlain
namespace Go.Proofs.Ytkhenchhafmlmaa.Ex
set_option maxRecDepth 20000

theorem lin_sub : ∀ {l m : List X}, m.Sublist l → Lin l → Lin m
  | _, _, .slnil, _ => trivial
  | _, _, .cons _ h, hl => lin_sub h hl.2.2
  | _, _, .cons_cons _ h, hl => ⟨hl.1, fun y hy => hl.2.1 y (h.subset hy), lin_sub h hl.2.2⟩
theorem lin_same : ∀ {l m : List X}, l.length = m.length → (∀ j, (h : j < l.length) → (h' : j < m.length) → (l[j]).a = (m[j]).a ∧ (l[j]).n = (m[j]).n) → Lin l → Lin m
  | [], [], _, _, _ => trivial
  | x :: l, y :: m, hlen, h, hl => by
    have h0 := h 0 (by simp) (by simp)
    simp only [List.getElem_cons_zero] at h0
    have hs : ∀ j, (h1 : j < l.length) → (h' : j < m.length) → (l[j]).a = (m[j]).a ∧ (l[j]).n = (m[j]).n := fun j h1 h' => by
      have := h (j + 1) (by simpa using h1) (by simpa using h')
      simpa using this
    have hlen' : l.length = m.length := by simpa using hlen
    refine ⟨by have := hl.1; omega, fun z hz => ?_, lin_same hlen' hs hl.2.2⟩
    obtain ⟨j, hj, rfl⟩ := List.getElem_of_mem hz
    have h1 := hs j (by omega) hj
    have := hl.2.1 (l[j]'(by omega)) (List.getElem_mem _)
    omega
theorem lin_flat {l : List X} {g : X → List X} (hl : Lin l) (hg : ∀ x ∈ l, Lin (g x) ∧ ∀ y ∈ g x, x.a ≤ y.a ∧ y.a + y.n ≤ x.a + x.n) : Lin (l.flatMap g) := by
  induction l with
  | nil => trivial
  | cons x l ih =>
    rw [List.flatMap_cons]
    refine lin_append.2 ⟨(hg x List.mem_cons_self).1, ih hl.2.2 fun y hy => hg y (List.mem_cons_of_mem _ hy), fun y hy z hz => ?_⟩
    obtain ⟨q, hq, hz⟩ := List.mem_flatMap.1 hz
    have h1 := (hg x List.mem_cons_self).2 y hy
    have h2 := (hg q (List.mem_cons_of_mem _ hq)).2 z hz
    have := hl.2.1 q hq
    omega

theorem cuts_flat (l : List X) (f t : Int) (g : List (X × Bool) → List X) (hg0 : g [] = []) (hga : ∀ a b, g (a ++ b) = g a ++ g b) : g (cuts l f t) = l.flatMap fun x => g (cuts1 x f t) := by
  unfold cuts
  induction l with
  | nil => exact hg0
  | cons x l ih => rw [List.flatMap_cons, hga, ih, List.flatMap_cons]
theorem leftR_append (a b : List (X × Bool)) : leftR (a ++ b) = leftR a ++ leftR b := by simp [leftR]
theorem markR_append (a b : List (X × Bool)) : markR (a ++ b) = markR a ++ markR b := by simp [markR]
theorem gone_append (a b : List (X × Bool)) : gone (a ++ b) = gone a ++ gone b := by simp [gone]

/-- The three parts of an extent, by where the bounds lie in it. -/
theorem cuts1_eq (x : X) (f t : Int) (hx : 1 ≤ x.n) (hft : f ≤ t) : ∃ c1 c2 : Int, x.a ≤ c1 ∧ c1 ≤ c2 ∧ c2 ≤ x.a + x.n ∧ (∀ b, x.a ≤ b → b < x.a + x.n → ((f ≤ b ∧ b < t) ↔ (c1 ≤ b ∧ b < c2))) ∧
    cuts1 x f t = [(part x x.a c1, false), (part x c1 c2, true), (part x c2 (x.a + x.n), false)].filter fun p => decide (0 < p.1.n) := by
  refine ⟨clampI f x.a (x.a + x.n), clampI t x.a (x.a + x.n), ?_, ?_, ?_, fun b h1 h2 => ?_, rfl⟩ <;> unfold clampI <;> omega
theorem cuts1_ok (x : X) (f t : Int) (hx : x.ok) (hft : f ≤ t) : Lin ((cuts1 x f t).map (·.1)) ∧ (∀ p ∈ cuts1 x f t, x.a ≤ p.1.a ∧ p.1.a + p.1.n ≤ x.a + x.n ∧ p.1.s = x.s + p.1.a - x.a ∧ p.1.u = x.u ∧ 1 ≤ p.1.n) ∧
    (∀ b, at_ (leftR (cuts1 x f t)) b = if x.a ≤ b ∧ b < x.a + x.n ∧ ¬ (f ≤ b ∧ b < t) then some (x.s + b - x.a, x.u) else none) ∧
    (∀ b, at_ (markR (cuts1 x f t)) b = if x.a ≤ b ∧ b < x.a + x.n then some (x.s + b - x.a, x.u && !decide (f ≤ b ∧ b < t)) else none) := by
  obtain ⟨hx1, hx2, hx3⟩ := hx
  obtain ⟨c1, c2, h1, h2, h3, h4, h5⟩ := cuts1_eq x f t hx2 hft
  rw [h5]
  have d : ∀ (f t : Int), (decide (0 < (part x f t).n)) = decide (f < t) := fun f t => by unfold part; dsimp only; congr 1; apply propext; omega
  have hb : ∀ b, x.a ≤ b ∧ b < x.a + x.n → (decide (f ≤ b ∧ b < t)) = decide (c1 ≤ b ∧ b < c2) := fun b hb => by congr 1; exact propext (h4 b hb.1 hb.2)
  have key : ∀ b, (x.a ≤ b ∧ b < x.a + x.n ∧ ¬ (f ≤ b ∧ b < t)) ↔ (x.a ≤ b ∧ b < c1) ∨ (c2 ≤ b ∧ b < x.a + x.n) := fun b => by
    constructor
    · rintro ⟨k1, k2, k3⟩
      rw [h4 b k1 k2] at k3
      omega
    · rintro (k | k)
      · refine ⟨by omega, by omega, ?_⟩; rw [h4 b (by omega) (by omega)]; omega
      · refine ⟨by omega, by omega, ?_⟩; rw [h4 b (by omega) (by omega)]; omega
  rcases Decidable.em (x.a < c1) with k1 | k1 <;> rcases Decidable.em (c1 < c2) with k2 | k2 <;> rcases Decidable.em (c2 < x.a + x.n) with k3 | k3 <;>
    simp only [List.filter_cons, List.filter_nil, d, k1, k2, k3, decide_true, decide_false, if_true, Bool.false_eq_true, if_false] <;>
    refine ⟨?_, ?_, ?_, ?_⟩
  all_goals first
    | (exfalso; omega)
    | (simp only [List.map_cons, List.map_nil, part, Lin, List.mem_cons, List.not_mem_nil, or_false, forall_eq_or_imp, forall_eq, false_imp_iff, implies_true, and_true]; omega)
    | (simp only [List.mem_cons, List.not_mem_nil, or_false, forall_eq_or_imp, forall_eq, part, true_and]; omega)
    | (intro b
       have hno : ¬ (x.a ≤ b ∧ b < x.a + x.n ∧ ¬ (f ≤ b ∧ b < t)) := fun h => by have := (key b).1 h; omega
       rw [if_neg hno]
       rfl)
    | (intro b
       by_cases hk : (x.a ≤ b ∧ b < c1) ∨ (c2 ≤ b ∧ b < x.a + x.n)
       · rw [if_pos ((key b).2 hk)]
         simp only [leftR, List.filter_cons, List.filter_nil, List.map_cons, List.map_nil, Bool.not_false, Bool.not_true, if_true, Bool.false_eq_true, if_false, at_, part]
         all_goals ((repeat' split) <;> first | rfl | (exfalso; omega) | (congr 2; omega))
       · rw [if_neg (fun h => hk ((key b).1 h))]
         simp only [leftR, List.filter_cons, List.filter_nil, List.map_cons, List.map_nil, Bool.not_false, Bool.not_true, if_true, Bool.false_eq_true, if_false, at_, part]
         (repeat' split) <;> first | rfl | (exfalso; omega) | (congr 2; omega))
    | (intro b
       by_cases hin : x.a ≤ b ∧ b < x.a + x.n
       · rw [if_pos hin, hb b hin]
         simp only [markR, List.map_cons, List.map_nil, Bool.not_false, Bool.not_true, Bool.and_true, Bool.and_false, at_, part]
         by_cases hc : c1 ≤ b ∧ b < c2
         · rw [decide_eq_true hc]
           (repeat' split) <;> first | rfl | (exfalso; omega) | (simp only [Bool.not_true, Bool.and_false]; congr 2; omega)
         · rw [decide_eq_false hc]
           (repeat' split) <;> first | rfl | (exfalso; omega) | (simp only [Bool.not_false, Bool.and_true]; congr 2; omega)
       · rw [if_neg hin]
         simp only [markR, List.map_cons, List.map_nil, at_, part]
         (repeat' split) <;> first | rfl | (exfalso; omega))
theorem Lin.ok {l : List X} (h : Lin l) : ∀ x ∈ l, x.ok := fun x hx => h.mem x hx
theorem cuts_lin {l : List X} (hl : Lin l) (f t : Int) (hft : f ≤ t) : Lin ((cuts l f t).map (·.1)) := by
  rw [cuts_flat l f t (fun ps => ps.map (·.1)) rfl (fun a b => by simp)]
  refine lin_flat hl fun x hx => ⟨(cuts1_ok x f t (hl.ok x hx) hft).1, fun y hy => ?_⟩
  obtain ⟨p, hp, rfl⟩ := List.mem_map.1 hy
  have := (cuts1_ok x f t (hl.ok x hx) hft).2.1 p hp
  exact ⟨this.1, this.2.1⟩
theorem left_lin {l : List X} (hl : Lin l) (f t : Int) (hft : f ≤ t) : Lin (leftR (cuts l f t)) := by
  refine lin_sub ?_ (cuts_lin hl f t hft)
  unfold leftR
  exact (List.filter_sublist).map _
theorem mark_lin {l : List X} (hl : Lin l) (f t : Int) (hft : f ≤ t) : Lin (markR (cuts l f t)) := by
  refine lin_same (by simp [markR]) (fun j h h' => ?_) (cuts_lin hl f t hft)
  simp [markR]
theorem left_at : ∀ {l : List X}, Lin l → ∀ (f t : Int), f ≤ t → ∀ b, at_ (leftR (cuts l f t)) b = if f ≤ b ∧ b < t then none else at_ l b
  | [], _, f, t, _, b => by simp [cuts, leftR, at_]
  | x :: l, hl, f, t, hft, b => by
    have e : cuts (x :: l) f t = cuts1 x f t ++ cuts l f t := by unfold cuts; rw [List.flatMap_cons]
    rw [e, leftR_append, at_append, (cuts1_ok x f t hl.1 hft).2.2.1 b, left_at hl.2.2 f t hft b]
    have e2 : at_ (x :: l) b = if x.a ≤ b ∧ b < x.a + x.n then some (x.s + b - x.a, x.u) else at_ l b := rfl
    rw [e2]
    by_cases hc : f ≤ b ∧ b < t
    · rw [if_neg (by intro h; exact h.2.2 hc), if_pos hc, if_pos hc]; rfl
    · rw [if_neg hc, if_neg hc]
      by_cases hi : x.a ≤ b ∧ b < x.a + x.n
      · rw [if_pos ⟨hi.1, hi.2, hc⟩, if_pos hi]; rfl
      · rw [if_neg (by intro h; exact hi ⟨h.1, h.2.1⟩), if_neg hi]; rfl
theorem mark_at : ∀ {l : List X}, Lin l → ∀ (f t : Int), f ≤ t → ∀ b, at_ (markR (cuts l f t)) b = (at_ l b).map fun v => (v.1, v.2 && !decide (f ≤ b ∧ b < t))
  | [], _, f, t, _, b => by simp [cuts, markR, at_]
  | x :: l, hl, f, t, hft, b => by
    have e : cuts (x :: l) f t = cuts1 x f t ++ cuts l f t := by unfold cuts; rw [List.flatMap_cons]
    rw [e, markR_append, at_append, (cuts1_ok x f t hl.1 hft).2.2.2 b, mark_at hl.2.2 f t hft b]
    have e2 : at_ (x :: l) b = if x.a ≤ b ∧ b < x.a + x.n then some (x.s + b - x.a, x.u) else at_ l b := rfl
    rw [e2]
    by_cases hi : x.a ≤ b ∧ b < x.a + x.n
    · rw [if_pos hi, if_pos hi]; rfl
    · rw [if_neg hi, if_neg hi]; rfl
theorem left_ok {l : List X} (h : right l = true) (f t : Int) (hft : f ≤ t) : Lin (leftR (cuts l f t)) ∧ Dev (leftR (cuts l f t)) ∧ Inj (leftR (cuts l f t)) := by
  obtain ⟨h1, h2, h3, h4, h5⟩ := right_lin h
  refine ⟨left_lin h1 f t hft, fun b d u hb => ?_, fun b b' d u u' hb hb' => ?_⟩
  · rw [left_at h1 f t hft] at hb
    split at hb
    · cases hb
    · exact h3 b d u hb
  · rw [left_at h1 f t hft] at hb hb'
    split at hb
    · cases hb
    · split at hb'
      · cases hb'
      · exact h4 b b' d u u' hb hb'
theorem mark_ok {l : List X} (h : right l = true) (f t : Int) (hft : f ≤ t) : Lin (markR (cuts l f t)) ∧ Dev (markR (cuts l f t)) ∧ Inj (markR (cuts l f t)) := by
  obtain ⟨h1, h2, h3, h4, h5⟩ := right_lin h
  have key : ∀ b d u, at_ (markR (cuts l f t)) b = some (d, u) → ∃ u', at_ l b = some (d, u') := fun b d u hb => by
    rw [mark_at h1 f t hft] at hb
    cases hl : at_ l b with
    | none => rw [hl] at hb; cases hb
    | some v =>
      rw [hl] at hb
      simp only [Option.map_some, Option.some.injEq, Prod.mk.injEq] at hb
      exact ⟨v.2, by rw [← hb.1]⟩
  refine ⟨mark_lin h1 f t hft, fun b d u hb => ?_, fun b b' d u u' hb hb' => ?_⟩
  · obtain ⟨u', e⟩ := key b d u hb; exact h3 b d u' e
  · obtain ⟨v, e⟩ := key b d u hb
    obtain ⟨v', e'⟩ := key b' d u' hb'
    exact h4 b b' d v v' e e'
theorem pack_s : ∀ (r : List X), ∀ y ∈ pack r, ∃ x ∈ r, y.s = x.s := by
  intro r
  rcases list_snoc r with rfl | ⟨p, e, rfl⟩
  · intro y hy; cases hy
  · rw [pack_snoc]
    intro y hy
    have ih := pack_s p
    rcases list_snoc (pack p) with h | ⟨q, x, h⟩
    · rw [h, join_nil] at hy
      exact ⟨e, by simp, by rw [List.mem_singleton.1 hy]⟩
    · rw [h, join_snoc] at hy
      have hx : ∃ z ∈ p, x.s = z.s := ih x (by rw [h]; simp)
      split at hy
      · rcases List.mem_append.1 hy with hy | hy
        · obtain ⟨z, hz, e⟩ := ih y (by rw [h]; simp [hy])
          exact ⟨z, by simp [hz], e⟩
        · obtain ⟨z, hz, e⟩ := hx
          exact ⟨z, by simp [hz], by rw [List.mem_singleton.1 hy]; exact e⟩
      · rcases List.mem_append.1 hy with hy | hy
        · obtain ⟨z, hz, e⟩ := ih y (by rw [h]; exact hy)
          exact ⟨z, by simp [hz], e⟩
        · exact ⟨e, by simp, by rw [List.mem_singleton.1 hy]⟩
termination_by r => r.length
decreasing_by simp_all
theorem cuts_len (l : List X) (f t : Int) : (cuts l f t).length ≤ 3 * l.length := by
  unfold cuts
  induction l with
  | nil => simp
  | cons x l ih =>
    rw [List.flatMap_cons, List.length_append, List.length_cons]
    have : (cuts1 x f t).length ≤ 3 := by
      unfold cuts1
      exact Nat.le_trans (List.length_filter_le _ _) (by simp)
    omega
/-- The parts of a right list are small, and so is what is put together of them. -/
theorem cuts_small {l : List X} (h : right l = true) (f t : Int) (hft : f ≤ t) : ∀ p ∈ cuts l f t, 0 ≤ p.1.a ∧ 1 ≤ p.1.n ∧ p.1.a + p.1.n ≤ 256 ∧ 1 ≤ p.1.s ∧ p.1.s ≤ 1024 := by
  obtain ⟨_, h2, h3, _, _⟩ := (right_iff l).1 h
  intro p hp
  unfold cuts at hp
  obtain ⟨x, hx, hp⟩ := List.mem_flatMap.1 hp
  have := (cuts1_ok x f t (h3.ok x hx) hft).2.1 p hp
  have := may_iff.1 (h2 x hx)
  omega
theorem lin_small {r : List X} (hr : Lin r) (hs : ∀ x ∈ r, 1 ≤ x.s ∧ x.s ≤ 1024) : ∀ y ∈ pack r, 0 ≤ y.a ∧ 1 ≤ y.n ∧ y.a + y.n ≤ 256 ∧ 1 ≤ y.s ∧ y.s ≤ 1024 := fun y hy => by
  have h1 := (pack_ok r hr).1.mem y hy
  obtain ⟨x, hx, e⟩ := pack_s r y hy
  have := hs x hx
  omega

/-! ### Put -/
theorem meets_iff {l : List X} {e : X} (hl : Lin l) (hd : ∀ x ∈ l, x.may = true) (he : e.may = true) :
    meets l e = true ↔ (∃ b v, e.a ≤ b ∧ b < e.a + e.n ∧ at_ l b = some v) ∨ (∃ b d u, e.s ≤ d ∧ d < e.s + e.n ∧ at_ l b = some (d, u)) := by
  have hem := may_iff.1 he
  unfold meets
  rw [List.any_eq_true]
  constructor
  · rintro ⟨x, hx, hm⟩
    have hxm := may_iff.1 (hd x hx)
    rw [Bool.or_eq_true] at hm
    rcases hm with hm | hm
    · obtain ⟨m1, m2⟩ := of_decide_eq_true hm
      exact .inl ⟨max x.a e.a, _, by omega, by omega, at_of hl hx (by omega) (by omega)⟩
    · obtain ⟨m1, m2⟩ := of_decide_eq_true hm
      obtain ⟨d, hd⟩ : ∃ d, d = max x.s e.s := ⟨_, rfl⟩
      have := at_of hl hx (b := x.a + (d - x.s)) (by omega) (by omega)
      rw [show x.s + (x.a + (d - x.s)) - x.a = d by omega] at this
      exact .inr ⟨_, d, x.u, by omega, by omega, this⟩
  · rintro (⟨b, v, h1, h2, h3⟩ | ⟨b, d, u, h1, h2, h3⟩)
    · obtain ⟨x, hx, k1, k2, k3⟩ := at_some h3
      refine ⟨x, hx, ?_⟩
      rw [Bool.or_eq_true]
      exact .inl (decide_eq_true (by omega))
    · obtain ⟨x, hx, k1, k2, k3⟩ := at_some h3
      refine ⟨x, hx, ?_⟩
      rw [Bool.or_eq_true]
      have := congrArg Prod.fst k3
      dsimp only at this
      exact .inr (decide_eq_true (by omega))
theorem ahead_split {l : List X} (hl : Lin l) (e : X) : (∀ x ∈ l.take (ahead l e), x.a < e.a) ∧ (∀ x ∈ l.drop (ahead l e), e.a ≤ x.a) := by
  induction l with
  | nil => exact ⟨fun x hx => by simp at hx, fun x hx => by simp at hx⟩
  | cons y l ih =>
    have ih := ih hl.2.2
    by_cases hy : y.a < e.a
    · have ha : ahead (y :: l) e = ahead l e + 1 := by unfold ahead; rw [List.filter_cons, if_pos (by simpa using hy)]; rfl
      rw [ha, List.take_succ_cons, List.drop_succ_cons]
      refine ⟨fun x hx => ?_, ih.2⟩
      rcases List.mem_cons.1 hx with h | h
      · rw [h]; exact hy
      · exact ih.1 x h
    · have hno : ∀ x ∈ y :: l, ¬ x.a < e.a := fun x hx => by
        rcases List.mem_cons.1 hx with h | h
        · rw [h]; exact hy
        · have := hl.2.1 x h; have := hl.1; omega
      have ha : ahead (y :: l) e = 0 := by
        unfold ahead
        rw [List.filter_eq_nil_iff.2 fun x hx => by simpa using hno x hx]
        rfl
      rw [ha]
      exact ⟨fun x hx => by simp at hx, fun x hx => by have := hno x hx; omega⟩
theorem put_lin {l : List X} {e : X} (hl : Lin l) (he : e.ok) (hm : ∀ x ∈ l, meet x.a x.n e.a e.n = false) : Lin (putRaw l e) ∧ ∀ b, at_ (putRaw l e) b = if e.a ≤ b ∧ b < e.a + e.n then some (e.s + b - e.a, e.u) else at_ l b := by
  obtain ⟨h1, h2⟩ := ahead_split hl e
  have hlr : Lin (l.take (ahead l e) ++ l.drop (ahead l e)) := by rw [List.take_append_drop]; exact hl
  obtain ⟨l1, l2, l3⟩ := lin_append.1 hlr
  have hmm : ∀ x ∈ l, x.a + x.n ≤ e.a ∨ e.a + e.n ≤ x.a := fun x hx => by
    have := hm x hx
    unfold meet at this
    rw [decide_eq_false_iff_not] at this
    have := hl.mem x hx
    omega
  obtain ⟨he1, he2, he3⟩ := he
  have hA : ∀ x ∈ l.take (ahead l e), x.a + x.n ≤ e.a := fun x hx => by
    have a1 := h1 x hx
    have := hmm x (List.mem_of_mem_take hx)
    omega
  have hB : ∀ x ∈ l.drop (ahead l e), e.a + e.n ≤ x.a := fun x hx => by
    have a1 := h2 x hx
    have hx' := hl.mem x (List.mem_of_mem_drop hx)
    have := hmm x (List.mem_of_mem_drop hx)
    omega
  refine ⟨?_, fun b => ?_⟩
  · unfold putRaw
    refine lin_append.2 ⟨l1, ⟨⟨he1, he2, he3⟩, hB, l2⟩, fun x hx y hy => ?_⟩
    rcases List.mem_cons.1 hy with h | h
    · rw [h]; exact hA x hx
    · exact l3 x hx y h
  · unfold putRaw
    have e2 : ∀ k : List X, at_ (e :: k) b = if e.a ≤ b ∧ b < e.a + e.n then some (e.s + b - e.a, e.u) else at_ k b := fun _ => rfl
    have hall : at_ l b = (at_ (l.take (ahead l e)) b).or (at_ (l.drop (ahead l e)) b) := by rw [← at_append, List.take_append_drop]
    rw [at_append, e2, hall]
    by_cases hc : e.a ≤ b ∧ b < e.a + e.n
    · rw [if_pos hc, if_pos hc, at_none fun x hx => by have := hA x hx; omega]; rfl
    · rw [if_neg hc, if_neg hc]
theorem put_ok {l : List X} {e : X} (h : right l = true) (he : e.may = true) (hm : meets l e = false) : Lin (putRaw l e) ∧ Dev (putRaw l e) ∧ Inj (putRaw l e) ∧ ∀ b, at_ (putRaw l e) b = if e.a ≤ b ∧ b < e.a + e.n then some (e.s + b - e.a, e.u) else at_ l b := by
  obtain ⟨h1, h2, h3, h4, h5⟩ := right_lin h
  obtain ⟨_, hmay, _⟩ := (right_iff l).1 h
  have hem := may_iff.1 he
  have hno := fun hp => Bool.eq_false_iff.1 hm ((meets_iff h1 hmay he).2 hp)
  have hfile : ∀ x ∈ l, meet x.a x.n e.a e.n = false := fun x hx => by
    cases hx' : meet x.a x.n e.a e.n with
    | false => rfl
    | true =>
      have : meets l e = true := by
        unfold meets
        rw [List.any_eq_true]
        exact ⟨x, hx, by rw [hx']; rfl⟩
      rw [hm] at this; cases this
  obtain ⟨k1, k2⟩ := put_lin h1 ⟨hem.1, hem.2.2.1, hem.2.2.2.1⟩ hfile
  have key : ∀ b d u, at_ (putRaw l e) b = some (d, u) → (e.a ≤ b ∧ b < e.a + e.n ∧ d = e.s + b - e.a) ∨ (at_ l b = some (d, u) ∧ ¬ (e.s ≤ d ∧ d < e.s + e.n)) := fun b d u hb => by
    rw [k2] at hb
    split at hb
    · rename_i hc
      injection hb with hb
      have := congrArg Prod.fst hb
      exact .inl ⟨hc.1, hc.2, this.symm⟩
    · exact .inr ⟨hb, fun hc => hno (.inr ⟨b, d, u, hc.1, hc.2, hb⟩)⟩
  refine ⟨k1, fun b d u hb => ?_, fun b b' d u u' hb hb' => ?_, k2⟩
  · rcases key b d u hb with ⟨c1, c2, c3⟩ | ⟨c, _⟩
    · omega
    · exact h3 b d u c
  · rcases key b d u hb with ⟨c1, c2, c3⟩ | ⟨c, c'⟩ <;> rcases key b' d u' hb' with ⟨d1, d2, d3⟩ | ⟨d1, d'⟩
    · omega
    · exact absurd ⟨by omega, by omega⟩ d'
    · exact absurd ⟨by omega, by omega⟩ c'
    · exact h4 b b' d u u' c d1
end Go.Proofs.Ytkhenchhafmlmaa.Ex
