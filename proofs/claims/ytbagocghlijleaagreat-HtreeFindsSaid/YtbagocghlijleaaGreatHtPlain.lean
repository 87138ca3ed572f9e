/- Directories as blocks in plain words: the order of names by their sums, an index's bytes, what is read of blocks, entries in order, and that what is told of the leaves one behind the other is in order. Begun ahead of the layer's code: it names nothing of it. -/
import Derived.Test.YtbagocghlijleaaGreatLfPlain
namespace Go.Proofs.YtbagocghlijleaaGreat.Ht
set_option maxRecDepth 20000
open Go.Proofs.YtbagocghlijleaaGreat.Mem Go.Proofs.YtbagocghlijleaaGreat.Crc Go.Proofs.YtbagocghlijleaaGreat.Bst Go.Proofs.YtbagocghlijleaaGreat.Lf

/-! ### The order -/
def bel (a b : List UInt8) : Bool := decide (sum a < sum b) || (decide (sum a = sum b) && less a b)
theorem bel_iff {a b : List UInt8} : bel a b = true ↔ sum a < sum b ∨ (sum a = sum b ∧ less a b = true) := by
  unfold bel
  rw [Bool.or_eq_true, Bool.and_eq_true, decide_eq_true_iff, decide_eq_true_iff]
theorem bel_irrefl (a : List UInt8) : bel a a = false := by
  cases h : bel a a with
  | false => rfl
  | true =>
    rcases bel_iff.1 h with h | ⟨_, h⟩
    · omega
    · rw [less_irrefl] at h; cases h
theorem bel_trans {a b c : List UInt8} (h : bel a b = true) (h' : bel b c = true) : bel a c = true := by
  rw [bel_iff] at *
  rcases h with h | ⟨h, k⟩
  · rcases h' with h' | ⟨h', k'⟩
    · exact .inl (by omega)
    · exact .inl (by omega)
  · rcases h' with h' | ⟨h', k'⟩
    · exact .inl (by omega)
    · exact .inr ⟨by omega, less_trans a b c k k'⟩
theorem bel_total {a b : List UInt8} (h : bel a b = false) (h' : bel b a = false) : a = b := by
  have e : ∀ x y, bel x y = false → ¬ (sum x < sum y ∨ (sum x = sum y ∧ less x y = true)) := fun x y hf hk => by
    rw [bel_iff.2 hk] at hf; cases hf
  have h1 := e a b h
  have h2 := e b a h'
  have h3 : sum a = sum b := by omega
  refine less_total a b ?_ ?_
  · cases hl : less a b with
    | false => rfl
    | true => exact absurd (.inr ⟨h3, hl⟩) h1
  · cases hl : less b a with
    | false => rfl
    | true => exact absurd (.inr ⟨h3.symm, hl⟩) h2
theorem bel_asym {a b : List UInt8} (h : bel a b = true) : bel b a = false := by
  cases hb : bel b a with
  | false => rfl
  | true =>
    have := bel_trans h hb
    rw [bel_irrefl] at this
    cases this
theorem bel_sum {a b : List UInt8} (h : sum a < sum b) : bel a b = true := bel_iff.2 (.inl h)

/-! ### Sorting: one entry laid where it belongs; by names alone, or in order -/
def ordN (a b : Nm) : Bool := less a.t b.t
def ordB (a b : Nm) : Bool := bel a.t b.t
/-- x laid ahead of the first one that doesn't stand ahead of it .. from behind: what stands behind x is passed. -/
def insR (o : Nm → Nm → Bool) (x : Nm) : List Nm → List Nm
  | [] => [x]
  | y :: l => if o y x = true then y :: insR o x l else x :: y :: l
def sortR (o : Nm → Nm → Bool) : List Nm → List Nm
  | [] => []
  | x :: l => insR o x (sortR o l)
theorem insR_mem (o : Nm → Nm → Bool) (x : Nm) : ∀ (l : List Nm) (y : Nm), y ∈ insR o x l ↔ y = x ∨ y ∈ l
  | [], y => by simp [insR]
  | z :: l, y => by
    unfold insR
    split
    · rw [List.mem_cons, insR_mem o x l y, List.mem_cons]
      constructor
      · rintro (h | h | h)
        · exact .inr (.inl h)
        · exact .inl h
        · exact .inr (.inr h)
      · rintro (h | h | h)
        · exact .inr (.inl h)
        · exact .inl h
        · exact .inr (.inr h)
    · rw [List.mem_cons]
theorem insR_len (o : Nm → Nm → Bool) (x : Nm) : ∀ l : List Nm, (insR o x l).length = l.length + 1
  | [] => rfl
  | z :: l => by
    unfold insR
    split
    · rw [List.length_cons, insR_len o x l, List.length_cons]
    · rfl
theorem sortR_mem (o : Nm → Nm → Bool) : ∀ (l : List Nm) (y : Nm), y ∈ sortR o l ↔ y ∈ l
  | [], y => Iff.rfl
  | x :: l, y => by
    show y ∈ insR o x (sortR o l) ↔ _
    rw [insR_mem, sortR_mem o l y, List.mem_cons]
theorem sortR_len (o : Nm → Nm → Bool) : ∀ l : List Nm, (sortR o l).length = l.length
  | [] => rfl
  | x :: l => by
    show (insR o x (sortR o l)).length = _
    rw [insR_len, sortR_len o l]; rfl
/-- Laid into a list in order, where it stands beside none that it doesn't part from. -/
theorem insR_pair {o : Nm → Nm → Bool} (ht : ∀ a b c, o a b = true → o b c = true → o a c = true) (x : Nm) : ∀ (l : List Nm), l.Pairwise (fun a b => o a b = true) → (∀ y ∈ l, o y x = true ∨ o x y = true) → (insR o x l).Pairwise (fun a b => o a b = true)
  | [], _, _ => List.pairwise_singleton _ _
  | z :: l, h, hx => by
    unfold insR
    rw [List.pairwise_cons] at h
    split
    · rename_i hz
      rw [List.pairwise_cons]
      refine ⟨fun y hy => ?_, insR_pair ht x l h.2 (fun y hy => hx y (List.mem_cons_of_mem _ hy))⟩
      rcases (insR_mem o x l y).1 hy with rfl | hy
      · exact hz
      · exact h.1 y hy
    · rename_i hz
      have hxz : o x z = true := (hx z List.mem_cons_self).resolve_left hz
      rw [List.pairwise_cons, List.pairwise_cons]
      refine ⟨fun y hy => ?_, h⟩
      rcases List.mem_cons.1 hy with rfl | hy
      · exact hxz
      · exact ht _ _ _ hxz (h.1 y hy)
theorem sortR_pair {o : Nm → Nm → Bool} (ht : ∀ a b c, o a b = true → o b c = true → o a c = true) : ∀ (l : List Nm), l.Pairwise (fun a b => o a b = true ∨ o b a = true) → (sortR o l).Pairwise (fun a b => o a b = true)
  | [], _ => List.Pairwise.nil
  | x :: l, h => by
    rw [List.pairwise_cons] at h
    refine insR_pair ht x _ (sortR_pair ht l h.2) (fun y hy => ?_)
    exact (h.1 y ((sortR_mem o l y).1 hy)).symm
theorem ordN_trans (a b c : Nm) (h : ordN a b = true) (h' : ordN b c = true) : ordN a c = true := less_trans _ _ _ h h'
theorem ordB_trans (a b c : Nm) (h : ordB a b = true) (h' : ordB b c = true) : ordB a c = true := bel_trans h h'
/-- Two lists in order with the same entries are the same. -/
theorem pair_unique {o : Nm → Nm → Bool} (ht : ∀ a b c, o a b = true → o b c = true → o a c = true) (hi : ∀ a, o a a = false) : ∀ (l m : List Nm), l.Pairwise (fun a b => o a b = true) → m.Pairwise (fun a b => o a b = true) → (∀ y, y ∈ l ↔ y ∈ m) → l = m
  | [], [], _, _, _ => rfl
  | [], y :: m, _, _, h => absurd ((h y).2 List.mem_cons_self) (by simp)
  | x :: l, [], _, _, h => absurd ((h x).1 List.mem_cons_self) (by simp)
  | x :: l, y :: m, hl, hm, h => by
    rw [List.pairwise_cons] at hl hm
    have irr : ∀ a b, o a b = true → o b a = true → False := fun a b h1 h2 => by
      have := ht _ _ _ h1 h2
      rw [hi] at this; cases this
    have e : x = y := by
      rcases List.mem_cons.1 ((h x).1 List.mem_cons_self) with e | e
      · exact e
      · rcases List.mem_cons.1 ((h y).2 List.mem_cons_self) with e' | e'
        · exact e'.symm
        · exact (irr _ _ (hm.1 x e) (hl.1 y e')).elim
    subst e
    rw [pair_unique ht hi l m hl.2 hm.2 (fun z => ?_)]
    constructor
    · intro hz
      rcases List.mem_cons.1 ((h z).1 (List.mem_cons_of_mem _ hz)) with e | e
      · subst e
        have := hl.1 z hz
        rw [hi] at this; cases this
      · exact e
    · intro hz
      rcases List.mem_cons.1 ((h z).2 (List.mem_cons_of_mem _ hz)) with e | e
      · subst e
        have := hm.1 z hz
        rw [hi] at this; cases this
      · exact e
/-- No name twice: any two of the list part, by names and in order. -/
def apart (l : List Nm) : Prop := l.Pairwise (fun a b => a.t ≠ b.t)
theorem apart_N {l : List Nm} (h : apart l) : l.Pairwise (fun a b => ordN a b = true ∨ ordN b a = true) := List.Pairwise.imp (fun {a b} hne => by
  cases h1 : ordN a b with
  | true => exact .inl rfl
  | false =>
    cases h2 : ordN b a with
    | true => exact .inr rfl
    | false => exact absurd (less_total _ _ h1 h2) hne) h
theorem apart_B {l : List Nm} (h : apart l) : l.Pairwise (fun a b => ordB a b = true ∨ ordB b a = true) := List.Pairwise.imp (fun {a b} hne => by
  cases h1 : ordB a b with
  | true => exact .inl rfl
  | false =>
    cases h2 : ordB b a with
    | true => exact .inr rfl
    | false => exact absurd (bel_total h1 h2) hne) h
theorem right_apart {l : List Nm} (h : right l = true) : apart l := List.Pairwise.imp (fun {a b} hl e => by
  rw [e, less_irrefl] at hl; cases hl) ((right_iff l).1 h).2
/-- A right list is what sorting by names makes of any of its orders. -/
theorem sortN_right {l : List Nm} (h : right l = true) {m : List Nm} (hm : apart m) (he : ∀ y, y ∈ m ↔ y ∈ l) : sortR ordN m = l :=
  pair_unique ordN_trans (fun a => less_irrefl a.t) _ _ (sortR_pair ordN_trans m (apart_N hm)) ((right_iff l).1 h).2 (fun y => (sortR_mem ordN m y).trans (he y))
/-- Sorted by names, a list of names that may be, none twice, is right. -/
theorem sortN_is_right {m : List Nm} (hm : apart m) (hok : ∀ x ∈ m, okN x = true) : right (sortR ordN m) = true :=
  (right_iff _).2 ⟨fun x hx => hok x ((sortR_mem ordN m x).1 hx), sortR_pair ordN_trans m (apart_N hm)⟩

/-! ### The index -/
structure Rw where
  s : Nat
  b : Nat
  deriving DecidableEq
def codeR (r : Rw) : List UInt8 := bytesL r.s 4 ++ bytesL r.b 4
def codesR : List Rw → List UInt8
  | [] => []
  | r :: l => codeR r ++ codesR l
theorem codesR_len : ∀ l : List Rw, (codesR l).length = 8 * l.length
  | [] => rfl
  | r :: l => by simp only [codesR, codeR, List.length_append, bytesL_len, codesR_len l, List.length_cons]; omega
theorem codesR_app : ∀ a b : List Rw, codesR (a ++ b) = codesR a ++ codesR b
  | [], b => rfl
  | x :: a, b => by simp only [List.cons_append, codesR, codesR_app a b, List.append_assoc]
def headI (l : List Rw) : List UInt8 := bytesL l.length 2 ++ ([255, 255] ++ codesR l)
def bodyI (l : List Rw) : List UInt8 := headI l ++ zeros (248 - 8 * l.length)
def indexL (l : List Rw) : List UInt8 := bodyI l ++ bytesL (sum (bodyI l)) 4
theorem headI_len (l : List Rw) : (headI l).length = 4 + 8 * l.length := by simp only [headI, List.length_append, bytesL_len, codesR_len, List.length_cons, List.length_nil]; omega
theorem bodyI_len {l : List Rw} (h : l.length ≤ 30) : (bodyI l).length = 252 := by
  simp only [bodyI, List.length_append, headI_len, zeros, List.length_replicate]; omega
theorem indexL_len {l : List Rw} (h : l.length ≤ 30) : (indexL l).length = 256 := by
  simp only [indexL, List.length_append, bodyI_len h, bytesL_len]
/-- The rows that n rows of a block tell. -/
def rowAt (b : List UInt8) (i : Nat) : Rw := ⟨num2 b (4 + 8 * i) 4, num2 b (8 + 8 * i) 4⟩
def rowsAt (b : List UInt8) (n : Nat) : List Rw := (List.range n).map (rowAt b)
theorem rowsAt_len (b : List UInt8) (n : Nat) : (rowsAt b n).length = n := by simp [rowsAt]
/-- May rows be of n leaves? -/
def rowsOk (n : Nat) (l : List Rw) : Bool :=
  decide (l.length = n ∧ 2 ≤ n ∧ n ≤ 30) && (l.all (fun r => decide (1 ≤ r.b ∧ r.b ≤ n ∧ r.s < 4294967296)) && (decide ((l.map Rw.b).Nodup) && (decide ((l.head?.map Rw.s) = some 0) && decide (l.Pairwise (fun a b => a.s < b.s)))))
def rowsD (b : List UInt8) (n : Nat) : Option (List Rw) := if rowsOk n (rowsAt b n) = true ∧ indexL (rowsAt b n) = b then some (rowsAt b n) else none
theorem rowsOk_iff {n : Nat} {l : List Rw} : rowsOk n l = true ↔ (l.length = n ∧ 2 ≤ n ∧ n ≤ 30) ∧ (∀ r ∈ l, 1 ≤ r.b ∧ r.b ≤ n ∧ r.s < 4294967296) ∧ (l.map Rw.b).Nodup ∧ l.head?.map Rw.s = some 0 ∧ l.Pairwise (fun a b => a.s < b.s) := by
  unfold rowsOk
  simp only [Bool.and_eq_true, decide_eq_true_iff, List.all_eq_true]
theorem rowAt_index (l : List Rw) (hb : ∀ r ∈ l, r.b ≤ 30 ∧ r.s < 4294967296) (i : Nat) (hi : i < l.length) : rowAt (indexL l) i = l[i] := by
  obtain ⟨h1, h2⟩ := hb l[i] (List.getElem_mem hi)
  obtain ⟨R, hR⟩ : ∃ R, indexL l = (bytesL l.length 2 ++ ([255, 255] ++ codesR (l.take i))) ++ (bytesL (l[i]).s 4 ++ (bytesL (l[i]).b 4 ++ R)) := by
    refine ⟨codesR (l.drop (i + 1)) ++ (zeros (248 - 8 * l.length) ++ bytesL (sum (bodyI l)) 4), ?_⟩
    have e : codesR l = codesR (l.take i) ++ (codeR l[i] ++ codesR (l.drop (i + 1))) := by
      rw [show codeR l[i] ++ codesR (l.drop (i + 1)) = codesR (l[i] :: l.drop (i + 1)) from rfl, ← List.drop_eq_getElem_cons hi, ← codesR_app, List.take_append_drop]
    unfold indexL bodyI headI
    rw [e]
    unfold codeR
    simp only [List.append_assoc]
  have hpl : (bytesL l.length 2 ++ ([255, 255] ++ codesR (l.take i))).length = 4 + 8 * i := by
    simp only [List.length_append, bytesL_len, codesR_len, List.length_cons, List.length_nil, List.length_take]
    omega
  have e4 : (indexL l).drop (4 + 8 * i) = bytesL (l[i]).s 4 ++ (bytesL (l[i]).b 4 ++ R) := by rw [hR]; exact drop_at hpl
  have e8 : (indexL l).drop (8 + 8 * i) = bytesL (l[i]).b 4 ++ R := by rw [show 8 + 8 * i = 4 + 8 * i + 4 by omega, ← List.drop_drop, e4]; exact drop_at (bytesL_len _ _)
  unfold rowAt num2
  rw [e4, e8, take_at (bytesL_len _ _), take_at (bytesL_len _ _), nmb_bytes _ _ (by omega), nmb_bytes _ _ (by omega)]
theorem rowsAt_index (l : List Rw) (hb : ∀ r ∈ l, r.b ≤ 30 ∧ r.s < 4294967296) : rowsAt (indexL l) l.length = l := by
  refine List.ext_getElem (rowsAt_len _ _) (fun i h1 h2 => ?_)
  simp only [rowsAt, List.getElem_map, List.getElem_range]
  exact rowAt_index l hb i h2
/-- An index that was made of rows that may be is read as them. -/
theorem rowsD_index {n : Nat} {l : List Rw} (h : rowsOk n l = true) : rowsD (indexL l) n = some l := by
  have h' := rowsOk_iff.1 h
  obtain ⟨⟨h1, h2, h3⟩, h4, _⟩ := h'
  have e : rowsAt (indexL l) n = l := by rw [← h1]; exact rowsAt_index l (fun r hr => ⟨by have := h4 r hr; omega, (h4 r hr).2.2⟩)
  unfold rowsD
  rw [e, if_pos ⟨h, rfl⟩]
theorem rowsD_some {b : List UInt8} {n : Nat} {l : List Rw} (h : rowsD b n = some l) : rowsOk n l = true ∧ indexL l = b := by
  unfold rowsD at h
  split at h
  · injection h with h
    subst h
    assumption
  · cases h
end Go.Proofs.YtbagocghlijleaaGreat.Ht
