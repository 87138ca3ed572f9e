/- Lists of attributes with one more, one less, and what one holds, in plain words; what was set is got, all others stay; the order does not matter. -/
import Derived.Test.YtbagocghlijleaaAtPlain
namespace Go.Proofs.Ytbagocghlijleaa.At
set_option maxRecDepth 20000
open Go.Proofs.Ytbagocghlijleaa.Mem Go.Proofs.Ytbagocghlijleaa.Crc Go.Proofs.Ytbagocghlijleaa.Bst
open Go.Proofs.Ytbagocghlijleaa.Lf (less less_irrefl less_trans less_total less_asym)

def posA (l : List Pr) (t : List UInt8) : Nat := (l.takeWhile fun y => less y.t t).length
def hasA (l : List Pr) (t : List UInt8) : Bool := decide (posA l t < l.length ∧ (l.getD (posA l t) p0).t = t)
def putA (l : List Pr) (p : Pr) : List Pr := if hasA l p.t = true then l.set (posA l p.t) p else l.take (posA l p.t) ++ ([p] ++ l.drop (posA l p.t))
def setL (l : List Pr) (p : Pr) : List Pr × Int := if right l = true ∧ okP p = true then (if sizeL (putA l p) ≤ 250 then (putA l p, 0) else ([], 15)) else ([], 1)
def delA (l : List Pr) (t : List UInt8) : List Pr := l.take (posA l t) ++ l.drop (posA l t + 1)
def dropL (l : List Pr) (t : List UInt8) : List Pr × Int := if right l = true then (if hasA l t = true then (delA l t, 0) else ([], 15)) else ([], 1)
def getL (l : List Pr) (t : List UInt8) : List UInt8 × Int := if right l = true then (if hasA l t = true then ((l.getD (posA l t) p0).v, 0) else ([], 15)) else ([], 1)

theorem posA_le : ∀ (l : List Pr) (t : List UInt8), posA l t ≤ l.length
  | [], _ => Nat.le_refl _
  | x :: l, t => by
    have := posA_le l t
    unfold posA at this ⊢
    rw [List.takeWhile_cons]
    split
    · rw [List.length_cons, List.length_cons]; omega
    · simp
theorem posA_take : ∀ (l : List Pr) (t : List UInt8), ∀ y ∈ l.take (posA l t), less y.t t = true
  | [], _, y, h => by simp at h
  | x :: l, t, y, h => by
    unfold posA at h
    by_cases hx : less x.t t = true
    · rw [List.takeWhile_cons_of_pos (by simpa using hx), List.length_cons, List.take_succ_cons] at h
      rcases List.mem_cons.1 h with rfl | h
      · exact hx
      · exact posA_take l t y h
    · rw [List.takeWhile_cons_of_neg (by simpa using hx)] at h
      simp at h
theorem posA_drop : ∀ (l : List Pr) (t : List UInt8), l.Pairwise (fun x y => less x.t y.t = true) → ∀ y ∈ l.drop (posA l t), less y.t t = false
  | [], _, _, y, h => by simp at h
  | x :: l, t, hp, y, h => by
    unfold posA at h
    rw [List.pairwise_cons] at hp
    by_cases hx : less x.t t = true
    · rw [List.takeWhile_cons_of_pos (by simpa using hx), List.length_cons, List.drop_succ_cons] at h
      exact posA_drop l t hp.2 y h
    · rw [List.takeWhile_cons_of_neg (by simpa using hx)] at h
      rcases List.mem_cons.1 h with rfl | h
      · simpa using hx
      · cases hy : less y.t t with
        | false => rfl
        | true => exact absurd (less_trans _ _ _ (hp.1 y h) hy) hx
/-- A search that ends at i ends at the place. -/
theorem posA_is : ∀ (l : List Pr) (t : List UInt8) (i : Nat), i ≤ l.length → (∀ a, (h : a < l.length) → a < i → less (l[a]).t t = true) → (∀ h : i < l.length, less (l[i]).t t = false) → posA l t = i
  | [], t, i, hi, _, _ => by
    have : i = 0 := by simpa using hi
    rw [this]; rfl
  | y :: l, t, 0, _, _, h => by
    have := h (by simp)
    unfold posA
    rw [List.takeWhile_cons_of_neg (by simpa using this)]
    rfl
  | y :: l, t, i + 1, hi, h1, h2 => by
    have h0 := h1 0 (by simp) (by omega)
    have ih := posA_is l t i (by simpa using hi) (fun a ha hai => h1 (a + 1) (by simpa using ha) (by omega)) (fun h => h2 (by simpa using h))
    unfold posA at ih ⊢
    rw [List.takeWhile_cons_of_pos (by simpa using h0), List.length_cons, ih]
theorem cutA {l : List Pr} {k : Nat} (h : k < l.length) : l = l.take k ++ (l[k] :: l.drop (k + 1)) := by rw [← List.drop_eq_getElem_cons h, List.take_append_drop]
theorem hasA_at {l : List Pr} {t : List UInt8} (h : hasA l t = true) : ∃ hk : posA l t < l.length, (l[posA l t]).t = t := by
  unfold hasA at h
  rw [decide_eq_true_iff] at h
  refine ⟨h.1, ?_⟩
  have := h.2
  rwa [List.getD_eq_getElem?_getD, List.getElem?_eq_getElem h.1, Option.getD_some] at this
theorem getD_at {l : List Pr} {k : Nat} (h : k < l.length) : l.getD k p0 = l[k] := by rw [List.getD_eq_getElem?_getD, List.getElem?_eq_getElem h, Option.getD_some]
theorem hasA_iff {l : List Pr} (h : right l = true) (t : List UInt8) : hasA l t = true ↔ ∃ x ∈ l, x.t = t := by
  constructor
  · intro hh
    obtain ⟨hk, e⟩ := hasA_at hh
    exact ⟨_, List.getElem_mem hk, e⟩
  · rintro ⟨x, hx, e⟩
    have hp := ((right_iff l).1 h).2
    rw [← List.take_append_drop (posA l t) l] at hx
    rcases List.mem_append.1 hx with hx | hx
    · have := posA_take l t x hx
      rw [e, less_irrefl] at this; cases this
    · have hk : posA l t < l.length := by
        rcases Nat.lt_or_ge (posA l t) l.length with c | c
        · exact c
        · rw [List.drop_of_length_le c] at hx; cases hx
      unfold hasA
      rw [decide_eq_true_iff, getD_at hk]
      refine ⟨hk, ?_⟩
      rw [List.drop_eq_getElem_cons hk] at hx
      rcases List.mem_cons.1 hx with rfl | hx
      · exact e
      · have h1 := posA_drop l t hp l[posA l t] (by rw [List.drop_eq_getElem_cons hk]; exact List.mem_cons_self)
        have h2 : less (l[posA l t]).t x.t = true := by
          rw [cutA hk, List.pairwise_append, List.pairwise_cons] at hp
          exact hp.2.1.1 x hx
        rw [e, h1] at h2; cases h2
/-- What lies round a place, in a right list. -/
theorem aroundA {l : List Pr} (h : right l = true) {t : List UInt8} (hh : hasA l t = true) : ∃ x A B, l = A ++ (x :: B) ∧ x.t = t ∧ A = l.take (posA l t) ∧ B = l.drop (posA l t + 1) ∧ (∀ y ∈ A, less y.t t = true) ∧ (∀ y ∈ B, less t y.t = true) ∧ l.getD (posA l t) p0 = x := by
  obtain ⟨hk, e⟩ := hasA_at hh
  refine ⟨l[posA l t], _, _, cutA hk, e, rfl, rfl, posA_take l t, fun y hy => ?_, getD_at hk⟩
  have hp := ((right_iff l).1 h).2
  rw [cutA hk, List.pairwise_append, List.pairwise_cons] at hp
  rw [← e]
  have := hp.2.1.1 y
  rw [e] at this ⊢
  exact this hy
theorem ne_of_less {a b : List UInt8} (h : less a b = true) : a ≠ b := fun e => by rw [e, less_irrefl] at h; cases h
theorem del_mem {l : List Pr} (h : right l = true) {t : List UInt8} (hh : hasA l t = true) (x : Pr) : x ∈ delA l t ↔ x ∈ l ∧ x.t ≠ t := by
  obtain ⟨z, A, B, e, hz, hA, hB, h1, h2, _⟩ := aroundA h hh
  unfold delA
  rw [← hA, ← hB, List.mem_append]
  have hl : x ∈ l ↔ x ∈ A ∨ x = z ∨ x ∈ B := by rw [e, List.mem_append, List.mem_cons]
  rw [hl]
  constructor
  · rintro (hx | hx)
    · exact ⟨.inl hx, ne_of_less (h1 x hx)⟩
    · exact ⟨.inr (.inr hx), (ne_of_less (h2 x hx)).symm⟩
  · rintro ⟨hx | rfl | hx, hn⟩
    · exact .inl hx
    · exact absurd hz hn
    · exact .inr hx
theorem put_mem {l : List Pr} (h : right l = true) (p : Pr) (x : Pr) : x ∈ putA l p ↔ x = p ∨ (x ∈ l ∧ x.t ≠ p.t) := by
  unfold putA
  by_cases hh : hasA l p.t = true
  · rw [if_pos hh]
    obtain ⟨hk, _⟩ := hasA_at hh
    have hd := del_mem h hh x
    unfold delA at hd
    rw [List.set_eq_take_append_cons_drop, if_pos hk, List.mem_append, List.mem_cons, ← hd, List.mem_append]
    constructor
    · rintro (a | a | a)
      · exact .inr (.inl a)
      · exact .inl a
      · exact .inr (.inr a)
    · rintro (a | a | a)
      · exact .inr (.inl a)
      · exact .inl a
      · exact .inr (.inr a)
  · rw [if_neg hh]
    have hn : ∀ y ∈ l, y.t ≠ p.t := fun y hy e => hh ((hasA_iff h p.t).2 ⟨y, hy, e⟩)
    rw [List.mem_append, List.singleton_append, List.mem_cons]
    have hl : x ∈ l ↔ x ∈ l.take (posA l p.t) ∨ x ∈ l.drop (posA l p.t) := by rw [← List.mem_append, List.take_append_drop]
    constructor
    · rintro (a | a | a)
      · exact .inr ⟨hl.2 (.inl a), hn x (hl.2 (.inl a))⟩
      · exact .inl a
      · exact .inr ⟨hl.2 (.inr a), hn x (hl.2 (.inr a))⟩
    · rintro (a | ⟨a, _⟩)
      · exact .inr (.inl a)
      · rcases hl.1 a with a | a
        · exact .inl a
        · exact .inr (.inr a)
theorem right_parts {A B : List Pr} {x : Pr} (h : right (A ++ B) = true) (hx : okP x = true) (h1 : ∀ y ∈ A, less y.t x.t = true) (h2 : ∀ y ∈ B, less x.t y.t = true) : right (A ++ ([x] ++ B)) = true := by
  rw [right_iff] at h ⊢
  obtain ⟨k1, k2⟩ := h
  rw [List.pairwise_append] at k2
  refine ⟨fun y hy => ?_, ?_⟩
  · rcases List.mem_append.1 hy with hy | hy
    · exact k1 y (List.mem_append.2 (.inl hy))
    · rcases List.mem_append.1 hy with hy | hy
      · rw [List.mem_singleton.1 hy]; exact hx
      · exact k1 y (List.mem_append.2 (.inr hy))
  · rw [List.pairwise_append]
    refine ⟨k2.1, ?_, fun a ha b hb => ?_⟩
    · rw [List.singleton_append, List.pairwise_cons]
      exact ⟨h2, k2.2.1⟩
    · rw [List.singleton_append] at hb
      rcases List.mem_cons.1 hb with rfl | hb
      · exact h1 a ha
      · exact k2.2.2 a ha b hb
theorem right_del {l : List Pr} (h : right l = true) (t : List UInt8) : right (delA l t) = true := by
  rw [right_iff] at h ⊢
  have hsub : (delA l t).Sublist l := by
    have h1 : (l.drop (posA l t + 1)).Sublist (l.drop (posA l t)) := by
      rw [← List.drop_drop]
      exact List.drop_sublist _ _
    have h2 := List.Sublist.append (List.Sublist.refl (l.take (posA l t))) h1
    rwa [List.take_append_drop] at h2
  exact ⟨fun x hx => h.1 x (hsub.subset hx), h.2.sublist hsub⟩
theorem right_put {l : List Pr} (h : right l = true) {p : Pr} (hp : okP p = true) : right (putA l p) = true := by
  unfold putA
  by_cases hh : hasA l p.t = true
  · rw [if_pos hh]
    obtain ⟨hk, _⟩ := hasA_at hh
    obtain ⟨z, A, B, e, hz, hA, hB, h1, h2, _⟩ := aroundA h hh
    rw [List.set_eq_take_append_cons_drop, if_pos hk, ← hA, ← hB]
    have hd := right_del h p.t
    unfold delA at hd
    rw [← hA, ← hB] at hd
    exact right_parts hd hp h1 h2
  · rw [if_neg hh]
    refine right_parts (by rw [List.take_append_drop]; exact h) hp (posA_take l p.t) (fun y hy => ?_)
    cases hl : less p.t y.t with
    | true => rfl
    | false =>
      have h1 := posA_drop l p.t ((right_iff l).1 h).2 y hy
      exact absurd ((hasA_iff h p.t).2 ⟨y, List.mem_of_mem_drop hy, (less_total _ _ hl h1).symm⟩) hh
theorem get_of {l : List Pr} (h : right l = true) {x : Pr} (hx : x ∈ l) : getL l x.t = (x.v, 0) := by
  have hh := (hasA_iff h x.t).2 ⟨x, hx, rfl⟩
  obtain ⟨z, A, B, e, hz, hA, hB, h1, h2, hg⟩ := aroundA h hh
  unfold getL
  rw [if_pos h, if_pos hh, hg]
  have hl : x ∈ A ∨ x = z ∨ x ∈ B := by rw [e, List.mem_append, List.mem_cons] at hx; exact hx
  rcases hl with hx | rfl | hx
  · exact absurd rfl (ne_of_less (h1 x hx))
  · rfl
  · exact absurd rfl (ne_of_less (h2 x hx))
theorem get_none {l : List Pr} (h : right l = true) {t : List UInt8} (hn : ∀ x ∈ l, x.t ≠ t) : getL l t = ([], 15) ∧ dropL l t = ([], 15) := by
  have hh : ¬ hasA l t = true := fun hh => by
    obtain ⟨x, hx, e⟩ := (hasA_iff h t).1 hh
    exact hn x hx e
  unfold getL dropL
  rw [if_pos h, if_pos h, if_neg hh, if_neg hh]
  exact ⟨rfl, rfl⟩
theorem set_zero {l : List Pr} {p : Pr} (h : (setL l p).2 = 0) : right l = true ∧ okP p = true ∧ sizeL (putA l p) ≤ 250 ∧ setL l p = (putA l p, 0) := by
  unfold setL at h ⊢
  by_cases h1 : right l = true ∧ okP p = true
  · rw [if_pos h1] at h ⊢
    by_cases h2 : sizeL (putA l p) ≤ 250
    · rw [if_pos h2]; exact ⟨h1.1, h1.2, h2, rfl⟩
    · rw [if_neg h2] at h; exact absurd h (by decide)
  · rw [if_neg h1] at h; exact absurd h (by decide)
theorem set_ways (l : List Pr) (p : Pr) : setL l p = ([], 1) ∨ setL l p = ([], 15) ∨ ∃ a, setL l p = (a, 0) := by
  unfold setL
  split
  · split
    · exact .inr (.inr ⟨_, rfl⟩)
    · exact .inr (.inl rfl)
  · exact .inl rfl
/-- What was set is got, until it is dropped; all others stay. -/
theorem set_gets {l : List Pr} {p : Pr} {a : List Pr} (h : setL l p = (a, 0)) : right a = true ∧ enc a = (blockL a, 0) ∧ getL a p.t = (p.v, 0) ∧ (∀ o, o ≠ p.t → getL l o = getL a o) ∧ dropL a p.t = (delA a p.t, 0) ∧ getL (delA a p.t) p.t = ([], 15) ∧ dropL (delA a p.t) p.t = ([], 15) := by
  obtain ⟨h1, h2, h3, h4⟩ := set_zero (l := l) (p := p) (by rw [h])
  rw [h4] at h
  injection h with h _
  have hm := fun x => put_mem h1 p x
  have hr := right_put h1 h2
  rw [h] at hr hm h3
  clear h h4
  have hh : hasA a p.t = true := (hasA_iff hr p.t).2 ⟨p, (hm p).2 (.inl rfl), rfl⟩
  refine ⟨hr, enc_yes hr h3, get_of hr ((hm p).2 (.inl rfl)), fun o ho => ?_, by unfold dropL; rw [if_pos hr, if_pos hh], get_none (right_del hr p.t) (fun x hx => ((del_mem hr hh x).1 hx).2)⟩
  by_cases hx : ∃ x ∈ l, x.t = o
  · obtain ⟨x, hx, rfl⟩ := hx
    rw [get_of h1 hx, get_of hr ((hm x).2 (.inr ⟨hx, ho⟩))]
  · have k1 : ∀ x ∈ l, x.t ≠ o := fun x hx' e => hx ⟨x, hx', e⟩
    have k2 : ∀ x ∈ a, x.t ≠ o := fun x hx' e => by
      rcases (hm x).1 hx' with rfl | ⟨hx', _⟩
      · exact ho e.symm
      · exact k1 x hx' e
    rw [(get_none h1 k1).1, (get_none hr k2).1]
/-- A right list is known by what it has. -/
theorem right_same : ∀ {a b : List Pr}, a.Pairwise (fun x y => less x.t y.t = true) → b.Pairwise (fun x y => less x.t y.t = true) → (∀ x, x ∈ a ↔ x ∈ b) → a = b
  | [], [], _, _, _ => rfl
  | [], y :: b, _, _, h => by have := (h y).2 List.mem_cons_self; cases this
  | x :: a, [], _, _, h => by have := (h x).1 List.mem_cons_self; cases this
  | x :: a, y :: b, ha, hb, h => by
    rw [List.pairwise_cons] at ha hb
    have e : x = y := by
      rcases List.mem_cons.1 ((h x).1 List.mem_cons_self) with e | e
      · exact e
      · rcases List.mem_cons.1 ((h y).2 List.mem_cons_self) with e2 | e2
        · exact e2.symm
        · have h1 := hb.1 x e
          have h2 := ha.1 y e2
          rw [less_asym h1] at h2; cases h2
    subst e
    have hn : ∀ {c : List Pr}, (∀ z ∈ c, less x.t z.t = true) → x ∉ c := fun hc hx => ne_of_less (hc x hx) rfl
    rw [right_same ha.2 hb.2 (fun z => by
      constructor
      · intro hz
        rcases List.mem_cons.1 ((h z).1 (List.mem_cons_of_mem _ hz)) with rfl | hz'
        · exact absurd hz (hn ha.1)
        · exact hz'
      · intro hz
        rcases List.mem_cons.1 ((h z).2 (List.mem_cons_of_mem _ hz)) with rfl | hz'
        · exact absurd hz (hn hb.1)
        · exact hz')]
end Go.Proofs.Ytbagocghlijleaa.At
