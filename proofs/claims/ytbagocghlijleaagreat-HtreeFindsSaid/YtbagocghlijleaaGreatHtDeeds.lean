/- What Add, Remove, Set and Find answer, in plain words: that what is told is right, and that just that name's entry is another one behind them. -/
import Derived.Test.YtbagocghlijleaaGreatHtPlain
namespace Go.Proofs.YtbagocghlijleaaGreat.Ht
set_option maxRecDepth 20000
open Go.Proofs.YtbagocghlijleaaGreat.Mem Go.Proofs.YtbagocghlijleaaGreat.Crc Go.Proofs.YtbagocghlijleaaGreat.Bst Go.Proofs.YtbagocghlijleaaGreat.Lf

def leafOf (b : List UInt8) : Option (List Nm) := if (decP b).2 = 0 then some (decP b).1 else none
theorem decP_ways (b : List UInt8) : (∃ l, enc l = (b, 0) ∧ decP b = (l, 0)) ∨ decP b = ([], 13) := by
  by_cases h : ∃ l, enc l = (b, 0)
  · obtain ⟨l, h⟩ := h
    exact .inl ⟨l, h, decP_of h⟩
  · exact .inr (decP_none (fun l hl => h ⟨l, hl⟩))
theorem leafOf_iff {b : List UInt8} {l : List Nm} : leafOf b = some l ↔ enc l = (b, 0) := by
  constructor
  · intro h
    unfold leafOf at h
    rcases decP_ways b with ⟨m, hm, hd⟩ | hd
    · rw [hd, if_pos rfl] at h
      injection h with h
      rw [← h]; exact hm
    · rw [hd, if_neg (by decide)] at h
      cases h
  · intro h
    unfold leafOf
    rw [decP_of h, if_pos rfl]
theorem leaf_right {b : List UInt8} {l : List Nm} (h : enc l = (b, 0)) : right l = true ∧ sizeL l ≤ 248 ∧ b = blockL l := by
  obtain ⟨h1, h2, h3⟩ := enc_zero (l := l) (by rw [h])
  rw [h3] at h
  injection h with h _
  exact ⟨h1, h2, h.symm⟩
/-- The sums of a leaf's names lie between its row's sum and the next one's. -/
def fitsL (lo : Nat) (hi : Option Nat) (l : List Nm) : Bool := l.all fun x => decide (lo ≤ sum x.t) && (match hi with | none => true | some h => decide (sum x.t < h))
theorem fitsL_iff {lo : Nat} {hi : Option Nat} {l : List Nm} : fitsL lo hi l = true ↔ ∀ x ∈ l, lo ≤ sum x.t ∧ ∀ h, hi = some h → sum x.t < h := by
  unfold fitsL
  rw [List.all_eq_true]
  refine forall_congr' fun x => forall_congr' fun _ => ?_
  rw [Bool.and_eq_true, decide_eq_true_iff]
  cases hi with
  | none => simp
  | some h => simp
abbrev Leaves := List (Rw × List Nm)
def readL (d : List (List UInt8)) : List Rw → Option Leaves
  | [] => some []
  | r :: rs => match leafOf (d.getD r.b []) with
    | none => none
    | some l => if fitsL r.s (rs.head?.map Rw.s) l = true then (match readL d rs with | none => none | some T => some ((r, l) :: T)) else none
def readD (d : List (List UInt8)) : Option Leaves :=
  if d.length = 0 then none else if d.length = 1 then readL d [⟨0, 0⟩] else (match rowsD (d.getD 0 []) (d.length - 1) with | none => none | some rs => readL d rs)
/-- Leaves whose names lie between the rows. -/
def between : Leaves → Prop
  | [] => True
  | p :: T => (∀ x ∈ p.2, p.1.s ≤ sum x.t) ∧ (∀ q, T.head? = some q → ∀ x ∈ p.2, sum x.t < q.1.s) ∧ between T
theorem readL_iff (d : List (List UInt8)) : ∀ (rs : List Rw) (T : Leaves), readL d rs = some T ↔ T.map Prod.fst = rs ∧ (∀ p ∈ T, enc p.2 = (d.getD p.1.b [], 0)) ∧ between T
  | [], T => by
    unfold readL
    constructor
    · intro h
      injection h with h
      subst h
      exact ⟨rfl, (fun p hp => by cases hp), trivial⟩
    · rintro ⟨h, _⟩
      rw [List.map_eq_nil_iff] at h
      rw [h]
  | r :: rs, T => by
    have hread : readL d (r :: rs) = match leafOf (d.getD r.b []) with
      | none => none
      | some l => if fitsL r.s (rs.head?.map Rw.s) l = true then (match readL d rs with | none => none | some T => some ((r, l) :: T)) else none := by rw [readL]
    rw [hread]
    constructor
    · intro h
      cases hl : leafOf (d.getD r.b []) with
      | none => rw [hl] at h; cases h
      | some l =>
        rw [hl] at h
        dsimp only at h
        by_cases hf : fitsL r.s (rs.head?.map Rw.s) l = true
        · rw [if_pos hf] at h
          cases ht : readL d rs with
          | none => rw [ht] at h; cases h
          | some U =>
            rw [ht] at h
            injection h with h
            subst h
            obtain ⟨h1, h2, h3⟩ := (readL_iff d rs U).1 ht
            have hf' := fitsL_iff.1 hf
            refine ⟨by rw [List.map_cons, h1], fun p hp => ?_, fun x hx => (hf' x hx).1, fun q hq x hx => (hf' x hx).2 _ ?_, h3⟩
            · rcases List.mem_cons.1 hp with rfl | hp
              · exact leafOf_iff.1 hl
              · exact h2 p hp
            · rw [← h1, List.head?_map, hq]; rfl
        · rw [if_neg hf] at h; cases h
    · rintro ⟨h1, h2, h3⟩
      match T, h1, h2, h3 with
      | p :: U, h1, h2, h3 =>
        rw [List.map_cons] at h1
        injection h1 with e1 e2
        subst e1
        have hl : leafOf (d.getD p.1.b []) = some p.2 := leafOf_iff.2 (h2 p List.mem_cons_self)
        have hU : readL d rs = some U := (readL_iff d rs U).2 ⟨e2, fun q hq => h2 q (List.mem_cons_of_mem _ hq), h3.2.2⟩
        have hf : fitsL p.1.s (rs.head?.map Rw.s) p.2 = true := fitsL_iff.2 (fun x hx => ⟨h3.1 x hx, fun h hh => by
          rw [← e2, List.head?_map] at hh
          cases hu : U.head? with
          | none => rw [hu] at hh; cases hh
          | some q =>
            rw [hu] at hh
            injection hh with hh
            have := h3.2.1 q hu x hx
            rw [← hh]; exact this⟩)
        rw [hl]
        dsimp only
        rw [if_pos hf, hU]
/-- What is read of right blocks, and of no others. -/
structure TreeOk (d : List (List UInt8)) (T : Leaves) : Prop where
  rows : (d.length = 1 ∧ T.map Prod.fst = [⟨0, 0⟩]) ∨ (2 ≤ d.length ∧ rowsOk (d.length - 1) (T.map Prod.fst) = true ∧ d.getD 0 [] = indexL (T.map Prod.fst))
  leaf : ∀ p ∈ T, enc p.2 = (d.getD p.1.b [], 0)
  between : between T
theorem readD_iff (d : List (List UInt8)) (T : Leaves) : readD d = some T ↔ TreeOk d T := by
  unfold readD
  by_cases h0 : d.length = 0
  · rw [if_pos h0]
    constructor
    · intro h; cases h
    · intro h
      rcases h.rows with ⟨h1, _⟩ | ⟨h1, _⟩ <;> omega
  · rw [if_neg h0]
    by_cases h1 : d.length = 1
    · rw [if_pos h1, readL_iff]
      constructor
      · rintro ⟨a, b, c⟩
        exact ⟨.inl ⟨h1, a⟩, b, c⟩
      · intro h
        refine ⟨?_, h.leaf, h.between⟩
        rcases h.rows with ⟨_, h2⟩ | ⟨h2, _⟩
        · exact h2
        · omega
    · rw [if_neg h1]
      constructor
      · intro h
        cases hr : rowsD (d.getD 0 []) (d.length - 1) with
        | none => rw [hr] at h; cases h
        | some rs =>
          rw [hr] at h
          dsimp only at h
          obtain ⟨a, b, c⟩ := (readL_iff d rs T).1 h
          obtain ⟨k1, k2⟩ := rowsD_some hr
          subst a
          exact ⟨.inr ⟨by omega, k1, k2.symm⟩, b, c⟩
      · intro h
        rcases h.rows with ⟨h2, _⟩ | ⟨_, h2, h3⟩
        · exact absurd h2 h1
        · rw [h3, rowsD_index h2]
          exact (readL_iff d _ T).2 ⟨rfl, h.leaf, h.between⟩

/-! ### Entries in order -/
def inOrder (T : Leaves) : List Nm := T.flatMap fun p => sortR ordB p.2
theorem between_far {p : Rw × List Nm} {T : Leaves} (hT : (p :: T).Pairwise (fun a b => a.1.s < b.1.s)) (h : between (p :: T)) : ∀ q ∈ T, ∀ x ∈ p.2, sum x.t < q.1.s := by
  intro q hq x hx
  match T, hT, h, hq with
  | r :: U, hT, h, hq =>
    have h1 := h.2.1 r rfl x hx
    rcases List.mem_cons.1 hq with rfl | hq
    · exact h1
    · have h2 := (List.pairwise_cons.1 (List.pairwise_cons.1 hT).2).1 q hq
      omega
theorem between_low : ∀ {T : Leaves}, between T → ∀ p ∈ T, ∀ x ∈ p.2, p.1.s ≤ sum x.t
  | p :: T, h, q, hq, x, hx => by
    rcases List.mem_cons.1 hq with rfl | hq
    · exact h.1 x hx
    · exact between_low h.2.2 q hq x hx
theorem inOrder_pair : ∀ {T : Leaves}, T.Pairwise (fun a b => a.1.s < b.1.s) → between T → (∀ p ∈ T, apart p.2) → (inOrder T).Pairwise (fun a b => ordB a b = true)
  | [], _, _, _ => List.Pairwise.nil
  | p :: T, hT, hb, ha => by
    unfold inOrder
    rw [List.flatMap_cons, List.pairwise_append]
    refine ⟨sortR_pair ordB_trans p.2 (apart_B (ha p List.mem_cons_self)), inOrder_pair (List.pairwise_cons.1 hT).2 hb.2.2 (fun q hq => ha q (List.mem_cons_of_mem _ hq)), fun x hx y hy => ?_⟩
    obtain ⟨q, hq, hy⟩ := List.mem_flatMap.1 hy
    have h1 := between_far hT hb q hq x ((sortR_mem ordB p.2 x).1 hx)
    have h2 := between_low hb q (List.mem_cons_of_mem _ hq) y ((sortR_mem ordB q.2 y).1 hy)
    exact bel_sum (by omega)
theorem TreeOk.rising {d : List (List UInt8)} {T : Leaves} (h : TreeOk d T) : T.Pairwise (fun a b => a.1.s < b.1.s) := by
  rcases h.rows with ⟨_, h1⟩ | ⟨_, h1, _⟩
  · have hl : T.length = 1 := by rw [← List.length_map (f := Prod.fst), h1]; rfl
    obtain ⟨p, rfl⟩ := List.length_eq_one_iff.1 hl
    exact List.pairwise_singleton _ _
  · have := (rowsOk_iff.1 h1).2.2.2.2
    rwa [List.pairwise_map] at this
theorem TreeOk.right {d : List (List UInt8)} {T : Leaves} (h : TreeOk d T) : ∀ p ∈ T, Lf.right p.2 = true := fun p hp => (leaf_right (h.leaf p hp)).1
theorem TreeOk.order {d : List (List UInt8)} {T : Leaves} (h : TreeOk d T) : (inOrder T).Pairwise (fun a b => ordB a b = true) :=
  inOrder_pair h.rising h.between (fun p hp => right_apart (h.right p hp))
theorem inOrder_mem (T : Leaves) (x : Nm) : x ∈ inOrder T ↔ ∃ p ∈ T, x ∈ p.2 := by
  unfold inOrder
  rw [List.mem_flatMap]
  exact exists_congr fun p => and_congr_right fun _ => sortR_mem ordB p.2 x

/-! ### What After answers -/
def afterT (T : Leaves) (name : List UInt8) (n : Int) : List Nm := ((inOrder T).filter fun x => decide (name = []) || bel name x.t).take n.toNat
def afterD (d : List (List UInt8)) (name : List UInt8) (n : Int) : List Nm × Int := match readD d with | none => ([], 13) | some T => (afterT T name n, 0)
/-- Behind an entry that is there, in order, come just the entries behind it. -/
theorem after_split {l p q : List Nm} {x : Nm} (hl : l.Pairwise (fun a b => ordB a b = true)) (h : l = p ++ x :: q) (hne : x.t ≠ []) : (l.filter fun y => decide (x.t = []) || bel x.t y.t) = q := by
  subst h
  rw [List.pairwise_append] at hl
  obtain ⟨h1, h2, h3⟩ := hl
  rw [List.pairwise_cons] at h2
  have hd : decide (x.t = []) = false := decide_eq_false hne
  rw [List.filter_append, List.filter_cons]
  have hp : p.filter (fun y => decide (x.t = []) || bel x.t y.t) = [] := by
    rw [List.filter_eq_nil_iff]
    intro y hy
    rw [hd, Bool.false_or, bel_asym (h3 y hy x List.mem_cons_self)]
    simp
  have hx : (decide (x.t = []) || bel x.t x.t) = false := by rw [hd, bel_irrefl]; rfl
  have hq : q.filter (fun y => decide (x.t = []) || bel x.t y.t) = q := by
    rw [List.filter_eq_self]
    intro y hy
    rw [hd, Bool.false_or]
    exact h2.1 y hy
  rw [hp, hx, hq]
  simp
end Go.Proofs.YtbagocghlijleaaGreat.Ht

namespace Go.Proofs.YtbagocghlijleaaGreat.Ht
set_option maxRecDepth 20000
open Go.Proofs.YtbagocghlijleaaGreat.Mem Go.Proofs.YtbagocghlijleaaGreat.Crc Go.Proofs.YtbagocghlijleaaGreat.Bst Go.Proofs.YtbagocghlijleaaGreat.Lf

theorem between_swap {p q : Rw × List Nm} {B C : Leaves} (hs : q.1.s = p.1.s) : ∀ (A : Leaves), between (A ++ p :: B) → between (q :: C) → between (A ++ q :: C)
  | [], _, h' => h'
  | a :: A, h, h' => by
    rw [List.cons_append] at h ⊢
    refine ⟨h.1, fun r hr x hx => ?_, between_swap hs A h.2.2 h'⟩
    match A, h, hr with
    | [], h, hr =>
      injection hr with hr
      subst hr
      rw [hs]
      exact h.2.1 p rfl x hx
    | c :: A, h, hr => exact h.2.1 r hr x hx
theorem between_behind : ∀ (A : Leaves) {L : Leaves}, between (A ++ L) → between L
  | [], _, h => h
  | _ :: A, _, h => between_behind A h.2.2
theorem getD_set_other {d : List (List UInt8)} {i j : Nat} {b : List UInt8} (h : i ≠ j) : (d.set i b).getD j [] = d.getD j [] := by
  rw [List.getD_eq_getElem?_getD, List.getD_eq_getElem?_getD, List.getElem?_set_ne h]
theorem getD_set_here {d : List (List UInt8)} {i : Nat} {b : List UInt8} (h : i < d.length) : (d.set i b).getD i [] = b := by
  rw [List.getD_eq_getElem?_getD, List.getElem?_set_self h]; rfl
theorem getD_app_low {d : List (List UInt8)} {i : Nat} {b : List UInt8} (h : i < d.length) : (d ++ [b]).getD i [] = d.getD i [] := by
  rw [List.getD_eq_getElem?_getD, List.getD_eq_getElem?_getD, List.getElem?_append_left h]
theorem getD_app_end {d : List (List UInt8)} {b : List UInt8} : (d ++ [b]).getD d.length [] = b := by
  rw [List.getD_eq_getElem?_getD, List.getElem?_append_right (Nat.le_refl _), Nat.sub_self]; rfl
/-- Where a leaf's block lies, and that no other leaf lies there. -/
theorem TreeOk.place {d : List (List UInt8)} {A B : Leaves} {p : Rw × List Nm} (h : TreeOk d (A ++ p :: B)) : p.1.b < d.length ∧ (∀ q ∈ A, q.1.b ≠ p.1.b) ∧ (∀ q ∈ B, q.1.b ≠ p.1.b) ∧ (2 ≤ d.length → p.1.b ≠ 0) := by
  rcases h.rows with ⟨h1, h2⟩ | ⟨h1, h2, _⟩
  · have hl : (A ++ p :: B).length = 1 := by rw [← List.length_map (f := Prod.fst), h2]; rfl
    simp only [List.length_append, List.length_cons] at hl
    have hA : A = [] := List.length_eq_zero_iff.1 (by omega)
    have hB : B = [] := List.length_eq_zero_iff.1 (by omega)
    subst hA hB
    simp only [List.nil_append, List.map_cons, List.map_nil, List.cons.injEq, and_true] at h2
    rw [h2]
    exact ⟨by rw [h1]; decide, (fun q hq => by cases hq), (fun q hq => by cases hq), fun hh => by omega⟩
  · obtain ⟨⟨k1, k2, k3⟩, k4, k5, _⟩ := rowsOk_iff.1 h2
    have hp := k4 p.1 (List.mem_map_of_mem (by simp))
    rw [List.map_append, List.map_append, List.map_cons, List.map_cons, List.nodup_append] at k5
    obtain ⟨n1, n2, n3⟩ := k5
    rw [List.nodup_cons] at n2
    refine ⟨by omega, fun q hq e => ?_, fun q hq e => ?_, fun _ => by omega⟩
    · exact n3 q.1.b (List.mem_map_of_mem (List.mem_map_of_mem hq)) p.1.b List.mem_cons_self e
    · exact n2.1 (by rw [← e]; exact List.mem_map_of_mem (List.mem_map_of_mem hq))
/-- Another leaf in a leaf's place. -/
theorem TreeOk.turn {d : List (List UInt8)} {A B : Leaves} {p : Rw × List Nm} (h : TreeOk d (A ++ p :: B)) {l : List Nm} {b : List UInt8} (hl : enc l = (b, 0)) (hb : ∀ x ∈ l, p.1.s ≤ sum x.t ∧ ∀ q, B.head? = some q → sum x.t < q.1.s) : TreeOk (d.set p.1.b b) (A ++ (p.1, l) :: B) := by
  obtain ⟨p1, p2, p3, p4⟩ := h.place
  have em : (A ++ (p.1, l) :: B).map Prod.fst = (A ++ p :: B).map Prod.fst := by simp
  refine ⟨?_, fun q hq => ?_, ?_⟩
  · rw [em, List.length_set]
    rcases h.rows with h1 | ⟨h1, h2, h3⟩
    · exact .inl h1
    · exact .inr ⟨h1, h2, by rw [getD_set_other (p4 h1)]; exact h3⟩
  · rcases List.mem_append.1 hq with hq | hq
    · rw [getD_set_other (fun e => p2 q hq e.symm)]
      exact h.leaf q (List.mem_append_left _ hq)
    · rcases List.mem_cons.1 hq with rfl | hq
      · rw [getD_set_here p1]; exact hl
      · rw [getD_set_other (fun e => p3 q hq e.symm)]
        exact h.leaf q (List.mem_append_right _ (List.mem_cons_of_mem _ hq))
  · exact between_swap (p := p) (q := (p.1, l)) rfl A h.between ⟨fun x hx => (hb x hx).1, fun q hq x hx => (hb x hx).2 q hq, (between_behind A h.between).2.2⟩
/-- One block's leaf, cut in two. -/
theorem treeOk_two {lo hi : List Nm} {a b : List UInt8} {s : Nat} (hlo : enc lo = (a, 0)) (hhi : enc hi = (b, 0)) (h0 : 0 < s) (h32 : s < 4294967296) (h1 : ∀ x ∈ lo, sum x.t < s) (h2 : ∀ x ∈ hi, s ≤ sum x.t) : TreeOk [indexL [⟨0, 1⟩, ⟨s, 2⟩], a, b] [(⟨0, 1⟩, lo), (⟨s, 2⟩, hi)] := by
  refine ⟨.inr ⟨by simp, rowsOk_iff.2 ⟨by simp, ?_, by simp, rfl, ?_⟩, rfl⟩, ?_, ?_⟩
  · intro r hr
    simp only [List.map_cons, List.map_nil, List.mem_cons, List.not_mem_nil, or_false] at hr
    rcases hr with rfl | rfl
    · simp
    · exact ⟨by dsimp only; omega, by simp, h32⟩
  · simp only [List.map_cons, List.map_nil]
    rw [List.pairwise_cons]
    refine ⟨fun r hr => ?_, List.pairwise_singleton _ _⟩
    rw [List.mem_singleton] at hr
    rw [hr]; exact h0
  · intro p hp
    simp only [List.mem_cons, List.not_mem_nil, or_false] at hp
    rcases hp with rfl | rfl
    · exact hlo
    · exact hhi
  · refine ⟨fun x hx => Nat.zero_le _, fun q hq x hx => ?_, ⟨fun x hx => h2 x hx, (fun q hq => by cases hq), trivial⟩⟩
    injection hq with hq
    rw [← hq]; exact h1 x hx
/-- A leaf among others, cut in two; the new one's block lies behind all. -/
theorem TreeOk.cut {d : List (List UInt8)} {A B : Leaves} {p : Rw × List Nm} (h : TreeOk d (A ++ p :: B)) (hd : 2 ≤ d.length) (hd2 : d.length ≤ 30) {lo hi : List Nm} {a b : List UInt8} {s : Nat} (hlo : enc lo = (a, 0)) (hhi : enc hi = (b, 0)) (h0 : p.1.s < s) (h32 : s < 4294967296) (hB : ∀ q ∈ B, s < q.1.s) (h1 : ∀ x ∈ lo, p.1.s ≤ sum x.t ∧ sum x.t < s) (h2 : ∀ x ∈ hi, s ≤ sum x.t ∧ ∀ q, B.head? = some q → sum x.t < q.1.s) :
    TreeOk (((d ++ [b]).set p.1.b a).set 0 (indexL (A.map Prod.fst ++ p.1 :: ⟨s, d.length⟩ :: B.map Prod.fst))) (A ++ (p.1, lo) :: (⟨s, d.length⟩, hi) :: B) := by
  obtain ⟨p1, p2, p3, p4⟩ := h.place
  have hr := h.rows
  rcases hr with ⟨k1, _⟩ | ⟨_, k2, _⟩
  · omega
  · obtain ⟨⟨m1, m2, m3⟩, m4, m5, m6, m7⟩ := rowsOk_iff.1 k2
    have em : (A ++ (p.1, lo) :: ((⟨s, d.length⟩ : Rw), hi) :: B).map Prod.fst = A.map Prod.fst ++ p.1 :: ⟨s, d.length⟩ :: B.map Prod.fst := by simp
    have hlen : (((d ++ [b]).set p.1.b a).set 0 (indexL (A.map Prod.fst ++ p.1 :: ⟨s, d.length⟩ :: B.map Prod.fst))).length = d.length + 1 := by simp
    have hm : ∀ q ∈ A ++ p :: B, 1 ≤ q.1.b ∧ q.1.b ≤ d.length - 1 ∧ q.1.s < 4294967296 := fun q hq => m4 q.1 (List.mem_map_of_mem hq)
    rw [List.map_append, List.map_cons] at m1 m5 m6 m7
    refine ⟨.inr ⟨by rw [hlen]; omega, ?_, ?_⟩, fun q hq => ?_, ?_⟩
    · rw [em, hlen, rowsOk_iff]
      refine ⟨⟨?_, by omega, by omega⟩, fun r hr => ?_, ?_, ?_, ?_⟩
      · simp only [List.length_append, List.length_cons, List.length_map] at m1 ⊢
        omega
      · rcases List.mem_append.1 hr with hr | hr
        · obtain ⟨q, hq, rfl⟩ := List.mem_map.1 hr
          have := hm q (List.mem_append_left _ hq)
          omega
        · rcases List.mem_cons.1 hr with rfl | hr
          · have := hm p (by simp)
            omega
          · rcases List.mem_cons.1 hr with rfl | hr
            · exact ⟨by dsimp only; omega, by dsimp only; omega, h32⟩
            · obtain ⟨q, hq, rfl⟩ := List.mem_map.1 hr
              have := hm q (List.mem_append_right _ (List.mem_cons_of_mem _ hq))
              omega
      · rw [List.map_append, List.map_cons] at m5
        rw [List.map_append, List.map_cons, List.map_cons]
        rw [List.nodup_append, List.nodup_cons] at m5 ⊢
        obtain ⟨n1, ⟨n2, n3⟩, n4⟩ := m5
        have hA : ∀ z ∈ (A.map Prod.fst).map Rw.b, z < d.length := fun z hz => by
          obtain ⟨r, hr, rfl⟩ := List.mem_map.1 hz
          obtain ⟨q, hq, rfl⟩ := List.mem_map.1 hr
          have := hm q (List.mem_append_left _ hq); omega
        have hB' : ∀ z ∈ (B.map Prod.fst).map Rw.b, z < d.length := fun z hz => by
          obtain ⟨r, hr, rfl⟩ := List.mem_map.1 hz
          obtain ⟨q, hq, rfl⟩ := List.mem_map.1 hr
          have := hm q (List.mem_append_right _ (List.mem_cons_of_mem _ hq)); omega
        refine ⟨n1, ⟨fun hz => ?_, List.nodup_cons.2 ⟨fun hz => ?_, n3⟩⟩, fun x hx y hy => ?_⟩
        · rcases List.mem_cons.1 hz with hz | hz
          · dsimp only at hz; omega
          · exact n2 hz
        · have := hB' _ hz
          dsimp only at this; omega
        · rcases List.mem_cons.1 hy with rfl | hy
          · exact n4 x hx _ List.mem_cons_self
          · rcases List.mem_cons.1 hy with rfl | hy
            · have := hA x hx
              dsimp only; omega
            · exact n4 x hx y (List.mem_cons_of_mem _ hy)
      · cases A with
        | nil => exact m6
        | cons c A => exact m6
      · rw [List.pairwise_append, List.pairwise_cons] at m7 ⊢
        obtain ⟨q1, ⟨q2, q3⟩, q4⟩ := m7
        refine ⟨q1, ⟨fun r hr => ?_, List.pairwise_cons.2 ⟨fun r hr => ?_, q3⟩⟩, fun x hx y hy => ?_⟩
        · rcases List.mem_cons.1 hr with rfl | hr
          · exact h0
          · exact q2 r hr
        · obtain ⟨q, hq, rfl⟩ := List.mem_map.1 hr
          exact hB q hq
        · rcases List.mem_cons.1 hy with rfl | hy
          · exact q4 x hx _ List.mem_cons_self
          · rcases List.mem_cons.1 hy with rfl | hy
            · have := q4 x hx _ List.mem_cons_self
              dsimp only; omega
            · exact q4 x hx y (List.mem_cons_of_mem _ hy)
    · rw [em, getD_set_here (by simp)]
    · have hz : ∀ i, i ≠ 0 → (((d ++ [b]).set p.1.b a).set 0 (indexL (A.map Prod.fst ++ p.1 :: ⟨s, d.length⟩ :: B.map Prod.fst))).getD i [] = ((d ++ [b]).set p.1.b a).getD i [] := fun i hi => getD_set_other (fun e => hi e.symm)
      rcases List.mem_append.1 hq with hq | hq
      · have hk := hm q (List.mem_append_left _ hq)
        rw [hz _ (by omega), getD_set_other (fun e => p2 q hq e.symm), getD_app_low (by omega)]
        exact h.leaf q (List.mem_append_left _ hq)
      · rcases List.mem_cons.1 hq with rfl | hq
        · have hk := hm p (by simp)
          rw [hz _ (by dsimp only; omega), getD_set_here (by rw [List.length_append]; omega)]
          exact hlo
        · rcases List.mem_cons.1 hq with rfl | hq
          · rw [hz _ (by dsimp only; omega), getD_set_other (by dsimp only; omega)]
            dsimp only
            rw [getD_app_end]
            exact hhi
          · have hk := hm q (List.mem_append_right _ (List.mem_cons_of_mem _ hq))
            rw [hz _ (by omega), getD_set_other (fun e => p3 q hq e.symm), getD_app_low (by omega)]
            exact h.leaf q (List.mem_append_right _ (List.mem_cons_of_mem _ hq))
    · refine between_swap (p := p) (q := (p.1, lo)) (C := (⟨s, d.length⟩, hi) :: B) rfl A h.between ⟨fun x hx => (h1 x hx).1, fun q hq x hx => ?_, ⟨fun x hx => (h2 x hx).1, fun q hq x hx => (h2 x hx).2 q hq, (between_behind A h.between).2.2⟩⟩
      injection hq with hq
      rw [← hq]
      exact (h1 x hx).2

/-! ### The leaf of a name -/
/-- The last of the first k rows whose sum is not above s; 0, if there is none. -/
def atL (rs : List Rw) (s : Nat) : Nat → Nat
  | 0 => 0
  | k + 1 => if (rs.getD k ⟨0, 0⟩).s ≤ s then k else atL rs s k
theorem atL_most (rs : List Rw) (s : Nat) : ∀ k, 0 < k → atL rs s k < k
  | k + 1, _ => by
    unfold atL
    split
    · omega
    · rcases Nat.eq_zero_or_pos k with rfl | hk
      · simp [atL]
      · have := atL_most rs s k hk
        omega
theorem atL_above (rs : List Rw) (s : Nat) : ∀ k j, atL rs s k < j → j < k → s < (rs.getD j ⟨0, 0⟩).s
  | k + 1, j, h, hj => by
    unfold atL at h
    split at h
    · omega
    · rename_i hn
      by_cases e : j = k
      · rw [e]; omega
      · exact atL_above rs s k j h (by omega)
theorem atL_low (rs : List Rw) (s : Nat) (h0 : (rs.getD 0 ⟨0, 0⟩).s = 0) : ∀ k, (rs.getD (atL rs s k) ⟨0, 0⟩).s ≤ s
  | 0 => by
    show (rs.getD 0 ⟨0, 0⟩).s ≤ s
    rw [h0]; exact Nat.zero_le _
  | k + 1 => by
    unfold atL
    split
    · assumption
    · exact atL_low rs s h0 k
/-- A right directory, parted at the leaf of a name. -/
theorem TreeOk.parted {d : List (List UInt8)} {T : Leaves} (h : TreeOk d T) (s : Nat) : ∃ A p B, T = A ++ p :: B ∧ A.length = atL (T.map Prod.fst) s T.length ∧ p.1.s ≤ s ∧ (∀ q ∈ B, s < q.1.s) := by
  have h0 : 0 < T.length ∧ ((T.map Prod.fst).getD 0 ⟨0, 0⟩).s = 0 := by
    rcases h.rows with ⟨_, h2⟩ | ⟨_, h2, _⟩
    · refine ⟨?_, by rw [h2]; rfl⟩
      rw [← List.length_map (f := Prod.fst), h2]; decide
    · obtain ⟨⟨k1, k2, k3⟩, _, _, k6, _⟩ := rowsOk_iff.1 h2
      rw [List.length_map] at k1
      refine ⟨by omega, ?_⟩
      cases T with
      | nil => simp at k1; omega
      | cons p T =>
        simp only [List.map_cons, List.head?_cons, Option.map_some, Option.some.injEq] at k6
        exact k6
  have hk := atL_most (T.map Prod.fst) s T.length h0.1
  have hg : ∀ j, (hj : j < T.length) → (T.map Prod.fst).getD j ⟨0, 0⟩ = (T[j]).1 := fun j hj => by
    rw [List.getD_eq_getElem?_getD, List.getElem?_map, List.getElem?_eq_getElem hj]; rfl
  refine ⟨T.take (atL (T.map Prod.fst) s T.length), T[atL (T.map Prod.fst) s T.length], T.drop (atL (T.map Prod.fst) s T.length + 1), ?_, ?_, ?_, fun q hq => ?_⟩
  · rw [← List.drop_eq_getElem_cons hk, List.take_append_drop]
  · rw [List.length_take]; omega
  · have := atL_low (T.map Prod.fst) s h0.2 T.length
    rw [hg _ hk] at this
    exact this
  · obtain ⟨i, hi, rfl⟩ := List.mem_iff_getElem.1 hq
    rw [List.length_drop] at hi
    have := atL_above (T.map Prod.fst) s T.length (atL (T.map Prod.fst) s T.length + 1 + i) (by omega) (by omega)
    rw [hg _ (by omega)] at this
    rw [List.getElem_drop]
    exact this
/-- An entry of a name lies in no leaf but the name's. -/
theorem TreeOk.within {d : List (List UInt8)} {A B : Leaves} {p : Rw × List Nm} (h : TreeOk d (A ++ p :: B)) {s : Nat} (h1 : p.1.s ≤ s) (h2 : ∀ q ∈ B, s < q.1.s) {x : Nm} (hx : sum x.t = s) (hi : x ∈ inOrder (A ++ p :: B)) : x ∈ p.2 := by
  obtain ⟨q, hq, hxq⟩ := (inOrder_mem _ x).1 hi
  rcases List.mem_append.1 hq with hq | hq
  · exfalso
    obtain ⟨A1, A2, rfl⟩ := List.append_of_mem hq
    have hb := h.between
    have hr := h.rising
    rw [List.append_assoc, List.cons_append] at hb hr
    have := between_far (List.pairwise_append.1 hr).2.1 (between_behind A1 hb) p (by simp) x hxq
    omega
  · rcases List.mem_cons.1 hq with rfl | hq
    · exact hxq
    · exfalso
      have k1 := h2 q hq
      have k2 := between_low h.between q (List.mem_append_right _ (List.mem_cons_of_mem _ hq)) x hxq
      omega
end Go.Proofs.YtbagocghlijleaaGreat.Ht

namespace Go.Proofs.YtbagocghlijleaaGreat.Ht
set_option maxRecDepth 20000
open Go.Proofs.YtbagocghlijleaaGreat.Mem Go.Proofs.YtbagocghlijleaaGreat.Crc Go.Proofs.YtbagocghlijleaaGreat.Bst Go.Proofs.YtbagocghlijleaaGreat.Lf

/-! ### The place of a name in a leaf -/
/-- So many entries stand ahead of the first one of that name. -/
def placeA (l : List Nm) (t : List UInt8) : Nat := (l.takeWhile fun y => decide (y.t ≠ t)).length
theorem placeA_le : ∀ (l : List Nm) (t : List UInt8), placeA l t ≤ l.length
  | [], _ => Nat.le_refl _
  | x :: l, t => by
    unfold placeA
    rw [List.takeWhile_cons]
    split
    · have := placeA_le l t
      unfold placeA at this
      rw [List.length_cons, List.length_cons]; omega
    · simp
theorem placeA_here : ∀ (l : List Nm) (t : List UInt8) (h : placeA l t < l.length), (l[placeA l t]).t = t
  | [], _, h => by cases h
  | x :: l, t, h => by
    by_cases e : x.t = t
    · have : placeA (x :: l) t = 0 := by unfold placeA; rw [List.takeWhile_cons, if_neg (by simp [e])]; rfl
      simp only [this, List.getElem_cons_zero, e]
    · have : placeA (x :: l) t = placeA l t + 1 := by unfold placeA; rw [List.takeWhile_cons, if_pos (by simp [e])]; rfl
      simp only [this, List.getElem_cons_succ]
      exact placeA_here l t (by rw [this, List.length_cons] at h; omega)
theorem placeA_none : ∀ (l : List Nm) (t : List UInt8), ¬ placeA l t < l.length → ∀ x ∈ l, x.t ≠ t
  | [], _, _, x, hx => by cases hx
  | y :: l, t, h, x, hx => by
    by_cases e : y.t = t
    · have : placeA (y :: l) t = 0 := by unfold placeA; rw [List.takeWhile_cons, if_neg (by simp [e])]; rfl
      rw [this, List.length_cons] at h; omega
    · have : placeA (y :: l) t = placeA l t + 1 := by unfold placeA; rw [List.takeWhile_cons, if_pos (by simp [e])]; rfl
      rw [this, List.length_cons] at h
      rcases List.mem_cons.1 hx with rfl | hx
      · exact e
      · exact placeA_none l t (by omega) x hx
theorem apart_same {l : List Nm} (h : apart l) {x y : Nm} (hx : x ∈ l) (hy : y ∈ l) (e : x.t = y.t) : x = y := by
  obtain ⟨i, hi, rfl⟩ := List.mem_iff_getElem.1 hx
  obtain ⟨j, hj, rfl⟩ := List.mem_iff_getElem.1 hy
  have hp := List.pairwise_iff_getElem.1 h
  rcases Nat.lt_trichotomy i j with c | c | c
  · exact absurd e (hp i j hi hj c)
  · subst c; rfl
  · exact absurd e.symm (hp j i hj hi c)
theorem without_mem {l : List Nm} (h : apart l) {k : Nat} (hk : k < l.length) (x : Nm) : x ∈ l.take k ++ l.drop (k + 1) ↔ x ∈ l ∧ x.t ≠ (l[k]).t := by
  have e : l = l.take k ++ (l[k] :: l.drop (k + 1)) := by rw [← List.drop_eq_getElem_cons hk, List.take_append_drop]
  have h' := h
  unfold apart at h'
  rw [e, List.pairwise_append, List.pairwise_cons] at h'
  obtain ⟨_, ⟨h2, _⟩, h3⟩ := h'
  constructor
  · intro hx
    rcases List.mem_append.1 hx with hx | hx
    · exact ⟨List.mem_of_mem_take hx, h3 x hx _ List.mem_cons_self⟩
    · exact ⟨List.mem_of_mem_drop hx, (h2 x hx).symm⟩
  · rintro ⟨hx, hn⟩
    rw [e] at hx
    rcases List.mem_append.1 hx with hx | hx
    · exact List.mem_append_left _ hx
    · rcases List.mem_cons.1 hx with rfl | hx
      · exact absurd rfl hn
      · exact List.mem_append_right _ hx
theorem set_mem {l : List Nm} (h : apart l) {k : Nat} (hk : k < l.length) (i : Int) (x : Nm) : x ∈ l.set k ⟨(l[k]).t, i⟩ ↔ x = ⟨(l[k]).t, i⟩ ∨ (x ∈ l ∧ x.t ≠ (l[k]).t) := by
  rw [← without_mem h hk, List.set_eq_take_append_cons_drop, if_pos hk, List.mem_append, List.mem_cons, List.mem_append]
  constructor
  · rintro (h | h | h)
    · exact .inr (.inl h)
    · exact .inl h
    · exact .inr (.inr h)
  · rintro (h | h | h)
    · exact .inr (.inl h)
    · exact .inl h
    · exact .inr (.inr h)
theorem right_set {l : List Nm} (h : right l = true) {k : Nat} (hk : k < l.length) (i : Int) (hi : 0 ≤ i ∧ i ≤ 1048576) : right (l.set k ⟨(l[k]).t, i⟩) = true ∧ sizeL (l.set k ⟨(l[k]).t, i⟩) = sizeL l := by
  have e : l = l.take k ++ ([l[k]] ++ l.drop (k + 1)) := by rw [List.singleton_append, ← List.drop_eq_getElem_cons hk, List.take_append_drop]
  have es : l.set k ⟨(l[k]).t, i⟩ = l.take k ++ ([⟨(l[k]).t, i⟩] ++ l.drop (k + 1)) := by rw [List.set_eq_take_append_cons_drop, if_pos hk]; rfl
  have hok : okN l[k] = true := ((right_iff l).1 h).1 _ (List.getElem_mem hk)
  have hw := right_without l k h
  have h2 := ((right_iff l).1 h).2
  rw [e, List.pairwise_append, List.singleton_append, List.pairwise_cons] at h2
  obtain ⟨_, ⟨k2, _⟩, k3⟩ := h2
  have hmay : may (l[k]).t = true := (okN_may hok).1
  refine ⟨?_, ?_⟩
  · rw [es]
    exact right_more _ _ _ hw (by unfold okN; rw [hmay, Bool.true_and]; exact decide_eq_true hi) (fun y hy => k3 y hy (l[k]) List.mem_cons_self) (fun y hy => k2 y hy)
  · have h1 : sizeL l = sizeL (l.take k ++ ([l[k]] ++ l.drop (k + 1))) := by rw [← e]
    rw [es, h1, size_more, size_more]

/-! ### A leaf in a leaf's place -/
def withL (d : List (List UInt8)) (b : Nat) (l : List Nm) : Option (List (List UInt8)) := if (enc (sortR ordN l)).2 = 0 then some (d.set b (enc (sortR ordN l)).1) else none
theorem enc_eq {l : List Nm} (h : (enc l).2 = 0) : enc l = ((enc l).1, 0) := by rw [← h]
/-- What entries a directory has, by its leaves. -/
def has (T : Leaves) (x : Nm) : Prop := ∃ p ∈ T, x ∈ p.2
theorem has_mem (T : Leaves) (x : Nm) : has T x ↔ x ∈ inOrder T := (inOrder_mem T x).symm
theorem has_parts (A B : Leaves) (p : Rw × List Nm) (x : Nm) : has (A ++ p :: B) x ↔ x ∈ p.2 ∨ has (A ++ B) x := by
  unfold has
  constructor
  · rintro ⟨q, hq, hx⟩
    rcases List.mem_append.1 hq with hq | hq
    · exact .inr ⟨q, List.mem_append_left _ hq, hx⟩
    · rcases List.mem_cons.1 hq with rfl | hq
      · exact .inl hx
      · exact .inr ⟨q, List.mem_append_right _ hq, hx⟩
  · rintro (hx | ⟨q, hq, hx⟩)
    · exact ⟨p, by simp, hx⟩
    · rcases List.mem_append.1 hq with hq | hq
      · exact ⟨q, List.mem_append_left _ hq, hx⟩
      · exact ⟨q, List.mem_append_right _ (List.mem_cons_of_mem _ hq), hx⟩
/-- No name twice in a right directory. -/
theorem TreeOk.one {d : List (List UInt8)} {T : Leaves} (h : TreeOk d T) {x y : Nm} (hx : has T x) (hy : has T y) (e : x.t = y.t) : x = y := by
  refine apart_same (l := inOrder T) (List.Pairwise.imp (fun {a b} hl he => ?_) h.order) ((has_mem T x).1 hx) ((has_mem T y).1 hy) e
  unfold ordB at hl
  rw [he, bel_irrefl] at hl
  cases hl

/-! ### Where entries are cut -/
def parts (l : List Nm) (c : Nat) : Bool := decide (sum (l.getD c n0).t ≠ sum (l.getD (c - 1) n0).t)
def cutUp (l : List Nm) : Nat → Nat → Option Nat
  | 0, _ => none
  | n + 1, c => if parts l c = true then some c else cutUp l n (c + 1)
def cutDown (l : List Nm) : Nat → Option Nat
  | 0 => none
  | c + 1 => if parts l (c + 1) = true then some (c + 1) else cutDown l c
def cutL (l : List Nm) : Option Nat := match cutUp l (l.length - (l.length + 1) / 2) ((l.length + 1) / 2) with | some c => some c | none => cutDown l ((l.length + 1) / 2 - 1)
theorem cutUp_some (l : List Nm) : ∀ n c k, cutUp l n c = some k → c ≤ k ∧ k < c + n ∧ parts l k = true
  | 0, _, _, h => by cases h
  | n + 1, c, k, h => by
    unfold cutUp at h
    split at h
    · injection h with h
      subst h
      exact ⟨Nat.le_refl _, by omega, by assumption⟩
    · have := cutUp_some l n (c + 1) k h
      exact ⟨by omega, by omega, this.2.2⟩
theorem cutDown_some (l : List Nm) : ∀ c k, cutDown l c = some k → 1 ≤ k ∧ k ≤ c ∧ parts l k = true
  | 0, _, h => by cases h
  | c + 1, k, h => by
    unfold cutDown at h
    split at h
    · injection h with h
      subst h
      exact ⟨by omega, Nat.le_refl _, by assumption⟩
    · have := cutDown_some l c k h
      exact ⟨this.1, by omega, this.2.2⟩
theorem cutL_some {l : List Nm} {c : Nat} (h : cutL l = some c) : 1 ≤ c ∧ c < l.length ∧ parts l c = true := by
  unfold cutL at h
  cases hu : cutUp l (l.length - (l.length + 1) / 2) ((l.length + 1) / 2) with
  | some k =>
    rw [hu] at h
    injection h with h
    subst h
    have := cutUp_some l _ _ _ hu
    exact ⟨by omega, by omega, this.2.2⟩
  | none =>
    rw [hu] at h
    have := cutDown_some l _ _ h
    exact ⟨this.1, by omega, this.2.2⟩
/-- Cut there, the first part's sums lie below the other part's first one. -/
theorem cut_sums {l : List Nm} (hl : l.Pairwise (fun a b => ordB a b = true)) {c : Nat} (h1 : 1 ≤ c) (h2 : c < l.length) (h3 : parts l c = true) : (∀ x ∈ l.take c, sum x.t < sum (l[c]).t) ∧ (∀ x ∈ l.drop c, sum (l[c]).t ≤ sum x.t) ∧ sum (l[c - 1]).t < sum (l[c]).t := by
  have hp := List.pairwise_iff_getElem.1 hl
  have le : ∀ i j (hi : i < l.length) (hj : j < l.length), i ≤ j → sum (l[i]).t ≤ sum (l[j]).t := fun i j hi hj hij => by
    rcases Nat.lt_or_ge i j with c | c
    · rcases bel_iff.1 (hp i j hi hj c) with h | ⟨h, _⟩ <;> omega
    · have : i = j := by omega
      subst this; exact Nat.le_refl _
  have hn : sum (l[c - 1]).t < sum (l[c]).t := by
    have h4 := le (c - 1) c (by omega) h2 (by omega)
    unfold parts at h3
    rw [decide_eq_true_iff, List.getD_eq_getElem?_getD, List.getD_eq_getElem?_getD, List.getElem?_eq_getElem h2, List.getElem?_eq_getElem (by omega : c - 1 < l.length)] at h3
    simp only [Option.getD_some] at h3
    omega
  refine ⟨fun x hx => ?_, fun x hx => ?_, hn⟩
  · obtain ⟨i, hi, rfl⟩ := List.mem_iff_getElem.1 hx
    rw [List.length_take] at hi
    rw [List.getElem_take]
    have := le i (c - 1) (by omega) (by omega) (by omega)
    omega
  · obtain ⟨i, hi, rfl⟩ := List.mem_iff_getElem.1 hx
    rw [List.length_drop] at hi
    rw [List.getElem_drop]
    exact le c (c + i) h2 (by omega) (by omega)

/-! ### The answers -/
def p0 : Rw × List Nm := (⟨0, 0⟩, [])
def leafAt (T : Leaves) (t : List UInt8) : Rw × List Nm := T.getD (atL (T.map Prod.fst) (sum t) T.length) p0
def splitD (d : List (List UInt8)) (T : Leaves) (k : Nat) (l : List Nm) : List (List UInt8) × Int :=
  match cutL l with
  | none => ([], 9)
  | some c =>
    if 30 ≤ T.length then ([], 9) else
    if (enc (sortR ordN (l.take c))).2 = 0 ∧ (enc (sortR ordN (l.drop c))).2 = 0 then
      (if d.length = 1 then ([indexL [⟨0, 1⟩, ⟨sum (l.getD c n0).t, 2⟩], (enc (sortR ordN (l.take c))).1, (enc (sortR ordN (l.drop c))).1], 0)
      else (((d ++ [(enc (sortR ordN (l.drop c))).1]).set (T.getD k p0).1.b (enc (sortR ordN (l.take c))).1).set 0 (indexL ((T.map Prod.fst).take (k + 1) ++ (⟨sum (l.getD c n0).t, d.length⟩ :: (T.map Prod.fst).drop (k + 1)))), 0))
    else ([], 9)
def addD (d : List (List UInt8)) (e : Nm) : List (List UInt8) × Int :=
  match readD d with
  | none => ([], 13)
  | some T =>
    if okN e = false then ([], 1) else
    if placeA (leafAt T e.t).2 e.t < (leafAt T e.t).2.length then ([], 4) else
    match withL d (leafAt T e.t).1.b ((leafAt T e.t).2 ++ [e]) with
    | some c => (c, 0)
    | none => splitD d T (atL (T.map Prod.fst) (sum e.t) T.length) (sortR ordB ((leafAt T e.t).2 ++ [e]))
def removeD (d : List (List UInt8)) (t : List UInt8) : List (List UInt8) × Int :=
  match readD d with
  | none => ([], 13)
  | some T =>
    if okN ⟨t, 0⟩ = false then ([], 1) else
    if placeA (leafAt T t).2 t < (leafAt T t).2.length then
      (match withL d (leafAt T t).1.b ((leafAt T t).2.take (placeA (leafAt T t).2 t) ++ (leafAt T t).2.drop (placeA (leafAt T t).2 t + 1)) with | some c => (c, 0) | none => ([], 0))
    else ([], 3)
def setD (d : List (List UInt8)) (e : Nm) : List (List UInt8) × Int :=
  match readD d with
  | none => ([], 13)
  | some T =>
    if okN e = false then ([], 1) else
    if placeA (leafAt T e.t).2 e.t < (leafAt T e.t).2.length then
      (match withL d (leafAt T e.t).1.b ((leafAt T e.t).2.set (placeA (leafAt T e.t).2 e.t) e) with | some c => (c, 0) | none => ([], 0))
    else ([], 3)
def findD (d : List (List UInt8)) (t : List UInt8) : Int × Int :=
  match readD d with
  | none => (0, 13)
  | some T =>
    if okN ⟨t, 0⟩ = false then (0, 1) else
    if placeA (leafAt T t).2 t < (leafAt T t).2.length then (((leafAt T t).2.getD (placeA (leafAt T t).2 t) n0).i, 0) else (0, 3)

/-- The leaf of a name, and what lies round it. -/
theorem TreeOk.around {d : List (List UInt8)} {T : Leaves} (h : TreeOk d T) (t : List UInt8) : ∃ A B, T = A ++ leafAt T t :: B ∧ A.length = atL (T.map Prod.fst) (sum t) T.length ∧ (leafAt T t).1.s ≤ sum t ∧ (∀ q ∈ B, sum t < q.1.s) ∧ (∀ x, x.t = t → (has T x ↔ x ∈ (leafAt T t).2)) := by
  obtain ⟨A, p, B, e, h1, h2, h3⟩ := h.parted (sum t)
  have ep : leafAt T t = p := by
    unfold Ht.leafAt
    rw [← h1, List.getD_eq_getElem?_getD, e, List.getElem?_append_right (Nat.le_refl _), Nat.sub_self]; rfl
  refine ⟨A, B, by rw [ep]; exact e, h1, by rw [ep]; exact h2, h3, fun x hx => ?_⟩
  rw [ep]
  subst e
  constructor
  · intro hh
    exact h.within h2 h3 (by rw [hx]) ((has_mem _ x).1 hh)
  · intro hh
    exact (has_parts A B p x).2 (.inl hh)
/-- An entry of that name is there just if it is found in the name's leaf. -/
theorem TreeOk.there {d : List (List UInt8)} {T : Leaves} (h : TreeOk d T) (t : List UInt8) : placeA (Ht.leafAt T t).2 t < (Ht.leafAt T t).2.length ↔ ∃ x, has T x ∧ x.t = t := by
  obtain ⟨_, _, _, _, _, _, hh⟩ := h.around t
  constructor
  · intro hp
    have := placeA_here _ _ hp
    exact ⟨_, (hh _ this).2 (List.getElem_mem hp), this⟩
  · rintro ⟨x, hx, hxt⟩
    by_cases hp : placeA (Ht.leafAt T t).2 t < (Ht.leafAt T t).2.length
    · exact hp
    · exact absurd hxt (placeA_none _ _ hp x ((hh x hxt).1 hx))
/-- Another leaf in the place of the leaf of a name, whose entries but for that name are the same. -/
theorem TreeOk.other {d : List (List UInt8)} {T : Leaves} (h : TreeOk d T) (t : List UInt8) {l : List Nm} (he : (enc l).2 = 0) (hl : ∀ x ∈ l, x ∈ (Ht.leafAt T t).2 ∨ x.t = t) : ∃ U, TreeOk (d.set (Ht.leafAt T t).1.b (enc l).1) U ∧ (∀ x, has U x ↔ x ∈ l ∨ (has T x ∧ x ∉ (Ht.leafAt T t).2)) := by
  obtain ⟨A, B, e, h1, h2, h3, h4⟩ := h.around t
  generalize Ht.leafAt T t = p at *
  subst e
  have hk := TreeOk.turn h (enc_eq he) (fun x hx => by
    rcases hl x hx with hx | hx
    · exact ⟨between_low h.between p (by simp) x hx, fun q hq => between_far (List.pairwise_append.1 h.rising).2.1 (between_behind A h.between) q (List.mem_of_mem_head? hq) x hx⟩
    · rw [hx]
      exact ⟨h2, fun q hq => h3 q (List.mem_of_mem_head? hq)⟩)
  refine ⟨_, hk, fun x => ?_⟩
  rw [has_parts, has_parts]
  constructor
  · rintro (hx | hx)
    · exact .inl hx
    · refine .inr ⟨.inr hx, fun hp => ?_⟩
      obtain ⟨q, hq, hxq⟩ := hx
      have hr := h.rising
      rcases List.mem_append.1 hq with hq | hq
      · obtain ⟨A1, A2, rfl⟩ := List.append_of_mem hq
        have hb := h.between
        rw [List.append_assoc, List.cons_append] at hb hr
        have k1 := between_far (List.pairwise_append.1 hr).2.1 (between_behind A1 hb) p (by simp) x hxq
        have k2 := between_low h.between p (by simp) x hp
        omega
      · have k1 := between_far (List.pairwise_append.1 hr).2.1 (between_behind A h.between) q hq x hp
        have k2 := between_low h.between q (List.mem_append_right _ (List.mem_cons_of_mem _ hq)) x hxq
        omega
  · rintro (hx | ⟨hx | hx, hn⟩)
    · exact .inl hx
    · exact absurd hx hn
    · exact .inr hx
end Go.Proofs.YtbagocghlijleaaGreat.Ht
