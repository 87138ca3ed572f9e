/- A directory held against what its names stand for: each deed changes both alike. In plain words. -/
import Derived.Test.YtbagocghlijleaaGreatHtSteps
namespace Go.Proofs.YtbagocghlijleaaGreat.Ht
set_option maxRecDepth 20000
open Go.Proofs.YtbagocghlijleaaGreat.Mem Go.Proofs.YtbagocghlijleaaGreat.Crc Go.Proofs.YtbagocghlijleaaGreat.Bst Go.Proofs.YtbagocghlijleaaGreat.Lf

abbrev Mdl := List UInt8 → Option Int
def holdsM (T : Leaves) (M : Mdl) : Prop := ∀ x, has T x ↔ M x.t = some x.i
def putM (M : Mdl) (e : Nm) : Mdl := fun t => if t = e.t then some e.i else M t
def offM (M : Mdl) (t : List UInt8) : Mdl := fun u => if u = t then none else M u
theorem holdsM.there {T : Leaves} {M : Mdl} (h : holdsM T M) (t : List UInt8) : (∃ x, has T x ∧ x.t = t) ↔ M t ≠ none := by
  constructor
  · rintro ⟨x, hx, rfl⟩ hn
    rw [(h x).1 hx] at hn; cases hn
  · intro hn
    cases hm : M t with
    | none => exact absurd hm hn
    | some i => exact ⟨⟨t, i⟩, (h _).2 hm, rfl⟩
theorem holdsM.gone {T : Leaves} {M : Mdl} (h : holdsM T M) (t : List UInt8) : (∀ x, has T x → x.t ≠ t) ↔ M t = none := by
  constructor
  · intro hn
    cases hm : M t with
    | none => rfl
    | some i => exact absurd rfl (hn ⟨t, i⟩ ((h _).2 hm))
  · rintro hm x hx rfl
    rw [(h x).1 hx] at hm; cases hm
theorem nm_eq {x e : Nm} (h1 : x.t = e.t) (h2 : x.i = e.i) : x = e := by
  cases x; cases e
  dsimp only at h1 h2
  rw [h1, h2]
theorem holdsM.put {T U : Leaves} {M : Mdl} (h : holdsM T M) (e : Nm) (hu : ∀ x, has U x ↔ x = e ∨ (has T x ∧ x.t ≠ e.t)) : holdsM U (putM M e) := fun x => by
  rw [hu, h x]
  unfold putM
  by_cases hx : x.t = e.t
  · rw [if_pos hx]
    constructor
    · rintro (rfl | ⟨_, hn⟩)
      · rfl
      · exact absurd hx hn
    · intro hi
      injection hi with hi
      exact .inl (nm_eq hx hi.symm)
  · rw [if_neg hx]
    constructor
    · rintro (rfl | ⟨hm, _⟩)
      · exact absurd rfl hx
      · exact hm
    · intro hm
      exact .inr ⟨hm, hx⟩
theorem holdsM.off {T U : Leaves} {M : Mdl} (h : holdsM T M) (t : List UInt8) (hu : ∀ x, has U x ↔ has T x ∧ x.t ≠ t) : holdsM U (offM M t) := fun x => by
  rw [hu, h x]
  unfold offM
  by_cases hx : x.t = t
  · rw [if_pos hx]
    constructor
    · rintro ⟨_, hn⟩; exact absurd hx hn
    · intro hi; cases hi
  · rw [if_neg hx]
    exact ⟨fun hm => hm.1, fun hm => ⟨hm, hx⟩⟩
theorem add_model {d : List (List UInt8)} {T : Leaves} {M : Mdl} (h : readD d = some T) (hM : holdsM T M) (e : Nm) : (okN e = false ∧ addD d e = ([], 1)) ∨ (okN e = true ∧ M e.t ≠ none ∧ addD d e = ([], 4)) ∨ (okN e = true ∧ M e.t = none ∧ (addD d e = ([], 9) ∨ ∃ r U, addD d e = (r, 0) ∧ readD r = some U ∧ holdsM U (putM M e))) := by
  rcases addD_ways h e with h1 | ⟨h1, h2, h3⟩ | ⟨h1, h2, h3⟩
  · exact .inl h1
  · exact .inr (.inl ⟨h1, (hM.there e.t).1 h2, h3⟩)
  · refine .inr (.inr ⟨h1, (hM.gone e.t).1 h2, h3.imp id ?_⟩)
    rintro ⟨r, U, ha, hU, hx⟩
    refine ⟨r, U, ha, hU, hM.put e (fun x => ?_)⟩
    rw [hx]
    exact or_congr_right ⟨fun k => ⟨k, h2 x k⟩, fun k => k.1⟩
theorem remove_model {d : List (List UInt8)} {T : Leaves} {M : Mdl} (h : readD d = some T) (hM : holdsM T M) (t : List UInt8) : (okN ⟨t, 0⟩ = false ∧ removeD d t = ([], 1)) ∨ (okN ⟨t, 0⟩ = true ∧ M t = none ∧ removeD d t = ([], 3)) ∨ (okN ⟨t, 0⟩ = true ∧ M t ≠ none ∧ ∃ r U, removeD d t = (r, 0) ∧ readD r = some U ∧ holdsM U (offM M t)) := by
  rcases removeD_ok h t with h1 | ⟨h1, h2, h3⟩ | ⟨h1, h2, r, U, ha, hU, hx⟩
  · exact .inl h1
  · exact .inr (.inl ⟨h1, (hM.gone t).1 h2, h3⟩)
  · exact .inr (.inr ⟨h1, (hM.there t).1 h2, r, U, ha, hU, hM.off t hx⟩)
theorem set_model {d : List (List UInt8)} {T : Leaves} {M : Mdl} (h : readD d = some T) (hM : holdsM T M) (e : Nm) : (okN e = false ∧ setD d e = ([], 1)) ∨ (okN e = true ∧ M e.t = none ∧ setD d e = ([], 3)) ∨ (okN e = true ∧ M e.t ≠ none ∧ ∃ r U, setD d e = (r, 0) ∧ readD r = some U ∧ holdsM U (putM M e)) := by
  rcases setD_ok h e with h1 | ⟨h1, h2, h3⟩ | ⟨h1, h2, r, U, ha, hU, hx⟩
  · exact .inl h1
  · exact .inr (.inl ⟨h1, (hM.gone e.t).1 h2, h3⟩)
  · exact .inr (.inr ⟨h1, (hM.there e.t).1 h2, r, U, ha, hU, hM.put e hx⟩)
theorem find_model {d : List (List UInt8)} {T : Leaves} {M : Mdl} (h : readD d = some T) (hM : holdsM T M) (t : List UInt8) : (∃ i, M t = some i ∧ findD d t = (i, 0)) ∨ (M t = none ∧ ∃ e, e ≠ 0 ∧ findD d t = (0, e)) := by
  have ht := (readD_iff d T).1 h
  rcases findD_ok h t with ⟨h1, h2⟩ | ⟨h1, h2, h3⟩ | ⟨h1, x, hx, hxt, h3⟩
  · refine .inr ⟨(hM.gone t).1 (fun x hx e => ?_), 1, by decide, h2⟩
    have hok := (okN_may (ht.ok hx)).1
    rw [e] at hok
    unfold okN at h1
    rw [hok] at h1
    simp at h1
  · exact .inr ⟨(hM.gone t).1 h2, 3, by decide, h3⟩
  · exact .inl ⟨x.i, by rw [← hxt]; exact (hM x).1 hx, h3⟩
theorem holdsM_new : holdsM [(⟨0, 0⟩, [])] (fun _ => none) := fun x => ⟨fun h => absurd h (has_new x), fun h => by cases h⟩
/-- As many entries as names that stand for something. -/
theorem many_model {d : List (List UInt8)} {T : Leaves} {M : Mdl} (h : readD d = some T) (hM : holdsM T M) {K : List (List UInt8)} (hK : K.Nodup) (hm : ∀ t, t ∈ K ↔ M t ≠ none) (n : Int) (hn : (K.length : Int) ≤ n) : (afterT T [] n).length = K.length := by
  have ht := (readD_iff d T).1 h
  have hl := ht.many hK (fun t => (hm t).trans (hM.there t).symm)
  unfold afterT
  have e : (inOrder T).filter (fun x => decide (([] : List UInt8) = []) || bel [] x.t) = inOrder T := by simp
  rw [e, List.length_take]
  omega
end Go.Proofs.YtbagocghlijleaaGreat.Ht
