/- Lists of any elements in memory. -/
import Derived.Test.YtmbmjdogfjmlpaaDoorSpMem
import Derived.Lib.BufferWrite
import Derived.Deep.MidRow
namespace Go.Proofs.YtmbmjdogfjmlpaaDoor.Sp
set_option maxRecDepth 20000
open Go.RowKit
open Go.Proofs.YtmbmjdogfjmlpaaDoor.Mem Go.Proofs.YtmbmjdogfjmlpaaDoor.Rec
variable {α : Type}

/-- What a kind of element is: its type, the slice's, its cells. -/
structure Rk (α : Type) where
  T : TypeId
  S : TypeId
  k : Nat
  by_ : Nat
  zero : Value
  enc : α → List Value
structure Rk.Ok (R : Rk α) : Prop where
  len : ∀ x, (R.enc x).length = R.k
  one : ∀ x, ∀ u ∈ R.enc x, u.oneCell' = true
  pos : 0 < R.k
  und : Tryd.prog.underlying R.S = some (.slice R.T)
  info : (Tryd.prog.info? R.T).map (fun i => (i.zero, i.size, i.bytes)) = some (some R.zero, R.k, R.by_)
  zs : R.zero.cells.size = R.k
  bound : R.by_ ≤ 64

def Rk.cells (R : Rk α) (l : List α) : List Value := l.flatMap R.enc
theorem Rk.cells_append (R : Rk α) (l m : List α) : R.cells (l ++ m) = R.cells l ++ R.cells m := by unfold Rk.cells; rw [List.flatMap_append]
theorem Rk.cells_one (R : Rk α) (x : α) : R.cells [x] = R.enc x := by simp [Rk.cells]
theorem Rk.Ok.clen {R : Rk α} (h : R.Ok) : ∀ l : List α, (R.cells l).length = l.length * R.k
  | [] => by simp [Rk.cells]
  | x :: l => by
    have := h.clen l
    unfold Rk.cells at this ⊢
    rw [List.flatMap_cons, List.length_append, this, List.length_cons, h.len, Nat.add_mul]
    omega
theorem Rk.Ok.get {R : Rk α} (h : R.Ok) : ∀ (l : List α) (j i : Nat) (hj : j < l.length), i < R.k → (R.cells l)[j * R.k + i]? = (R.enc l[j])[i]?
  | x :: l, 0, i, hj, hi => by
    unfold Rk.cells
    rw [List.flatMap_cons, Nat.zero_mul, Nat.zero_add, List.getElem?_append_left (by rw [h.len]; exact hi)]
    rfl
  | x :: l, j + 1, i, hj, hi => by
    have := h.get l j i (by simpa using hj) hi
    unfold Rk.cells at this ⊢
    rw [List.flatMap_cons, List.getElem?_append_right (by rw [h.len, Nat.add_mul]; omega), h.len, show (j + 1) * R.k + i - R.k = j * R.k + i by rw [Nat.add_mul]; omega, this]
    rfl
theorem Rk.Ok.ones {R : Rk α} (h : R.Ok) (l : List α) : ∀ u ∈ R.cells l, u.oneCell' = true := by
  intro u hu
  unfold Rk.cells at hu
  obtain ⟨x, _, hx⟩ := List.mem_flatMap.1 hu
  exact h.one x u hx
theorem Rk.Ok.size {R : Rk α} (h : R.Ok) : (Tryd.prog.info? R.T).map (·.size) = some R.k := by
  obtain ⟨i0, hi0, _, hz1, _⟩ := info_parts h.info
  rw [hi0]; simp [hz1]
theorem Rk.Ok.take {R : Rk α} (h : R.Ok) (l : List α) (i : Nat) : (R.cells l).take (i * R.k) = R.cells (l.take i) := by
  by_cases hi : i ≤ l.length
  · conv => lhs; rw [← List.take_append_drop i l, R.cells_append]
    rw [List.take_left' (by rw [h.clen, List.length_take, Nat.min_eq_left hi])]
  · rw [List.take_of_length_le (by rw [h.clen]; exact Nat.mul_le_mul_right _ (by omega)), List.take_of_length_le (by omega)]
theorem Rk.Ok.drop {R : Rk α} (h : R.Ok) (l : List α) (i : Nat) : (R.cells l).drop (i * R.k) = R.cells (l.drop i) := by
  by_cases hi : i ≤ l.length
  · conv => lhs; rw [← List.take_append_drop i l, R.cells_append]
    rw [List.drop_left' (by rw [h.clen, List.length_take, Nat.min_eq_left hi])]
  · rw [List.drop_of_length_le (by rw [h.clen]; exact Nat.mul_le_mul_right _ (by omega)), List.drop_of_length_le (by omega)]
    simp [Rk.cells]

/-- A slice reads as a list of such elements, all below block B. -/
def HoldsC (R : Rk α) (w : World) (B : Nat) (A : Option Addr) (n : Nat) (l : List α) : Prop :=
  l.length = n ∧ (0 < n → ∃ b off, A = some ⟨b, off, none⟩ ∧ b < B ∧ ∀ j, (h : j < l.length) → ∀ i, i < R.k → w.cell? ⟨b, off + j * R.k + i, none⟩ = (R.enc l[j])[i]?)
theorem HoldsC.below {R : Rk α} {w w' : World} {B : Nat} {A : Option Addr} {n : Nat} {l : List α} (h : HoldsC R w B A n l) (hb : Below B w w') : HoldsC R w' B A n l :=
  ⟨h.1, fun hn => by
    obtain ⟨b, off, e, hl, hc⟩ := h.2 hn
    exact ⟨b, off, e, hl, fun j hj k hk => (hb.cell (p := ⟨b, off + j * R.k + k, none⟩) hl).trans (hc j hj k hk)⟩⟩
theorem HoldsC.more {R : Rk α} {w : World} {B B' : Nat} {A : Option Addr} {n : Nat} {l : List α} (h : HoldsC R w B A n l) (hB : B ≤ B') : HoldsC R w B' A n l :=
  ⟨h.1, fun hn => by
    obtain ⟨b, off, e, hl, hc⟩ := h.2 hn
    exact ⟨b, off, e, by omega, hc⟩⟩
theorem HoldsC.sub {R : Rk α} {w : World} {B b off n i m : Nat} {l : List α} (h : HoldsC R w B (some ⟨b, off, none⟩) n l) (hm : i + m ≤ n) : HoldsC R w B (some ⟨b, off + i * R.k, none⟩) m ((l.drop i).take m) :=
  ⟨by rw [List.length_take, List.length_drop, h.1]; omega, fun h0 => by
    obtain ⟨b', off', e, hl, hc⟩ := h.2 (by omega)
    injection e with e
    injection e with e1 e2
    subst e1 e2
    refine ⟨_, _, rfl, hl, fun j hj k hk => ?_⟩
    have hj' : j < m := by rw [List.length_take] at hj; omega
    rw [List.getElem_take, List.getElem_drop, show off + i * R.k + j * R.k + k = off + (i + j) * R.k + k by rw [Nat.add_mul]; omega]
    exact hc (i + j) (by rw [h.1]; omega) k hk⟩
theorem HoldsC.take {R : Rk α} {w : World} {B n m : Nat} {A : Option Addr} {l : List α} (h : HoldsC R w B A n l) (hm : m ≤ n) : HoldsC R w B A m (l.take m) :=
  ⟨by rw [List.length_take, h.1]; omega, fun h0 => by
    obtain ⟨b, off, e, hl, hc⟩ := h.2 (by omega)
    refine ⟨b, off, e, hl, fun j hj k hk => ?_⟩
    rw [List.getElem_take]
    exact hc j (by rw [List.length_take] at hj; omega) k hk⟩
theorem HoldsC.addr {R : Rk α} {w : World} {B n : Nat} {A : Option Addr} {l : List α} (h : HoldsC R w B A n l) (h0 : 0 < n) : ∃ b off, A = some ⟨b, off, none⟩ ∧ b < B := by
  obtain ⟨b, off, e, hl, _⟩ := h.2 h0
  exact ⟨b, off, e, hl⟩
theorem HoldsC.nil (R : Rk α) (w : World) (B : Nat) (A : Option Addr) : HoldsC R w B A 0 [] := ⟨rfl, fun h => absurd h (by omega)⟩
theorem HoldsC.kept {R : Rk α} {w w' : World} {B b off n : Nat} {l : List α} (h : HoldsC R w B (some ⟨b, off, none⟩) n l) (hk : w'.heap[b]? = w.heap[b]?) : HoldsC R w' B (some ⟨b, off, none⟩) n l :=
  ⟨h.1, fun hn => by
    obtain ⟨b', off', e, hl, hc⟩ := h.2 hn
    injection e with e
    injection e with e1 e2
    subst e1 e2
    refine ⟨_, _, rfl, hl, fun j hj k hk' => ?_⟩
    rw [← hc j hj k hk']
    unfold World.cell?
    simp only [hk]⟩
theorem HoldsC.cell {R : Rk α} {w : World} {B b off n : Nat} {l : List α} (h : HoldsC R w B (some ⟨b, off, none⟩) n l) (j : Nat) (hj : j < l.length) (i : Nat) (hi : i < R.k) :
    w.cell? ⟨b, off + j * R.k + i, none⟩ = (R.enc l[j])[i]? := by
  obtain ⟨b', off', e, _, hc⟩ := h.2 (by rw [← h.1]; omega)
  injection e with e
  injection e with e1 e2
  subst e1 e2
  exact hc j hj i hi
theorem HoldsC.range {R : Rk α} (ok : R.Ok) {w : World} {B b off n : Nat} {l : List α} (h : HoldsC R w B (some ⟨b, off, none⟩) n l) (j : Nat) (hj : j < l.length) : w.rangeAt b (off + j * R.k) (R.enc l[j]) := fun i v hi => by
  have hk : i < R.k := by rw [← ok.len l[j]]; exact (List.getElem?_eq_some_iff.1 hi).1
  rw [h.cell j hj i hk, hi]

/-- A row of them that the call made itself. -/
def OwnC (R : Rk α) (w : World) (base : Nat) (v : Value) (l : List α) : Prop := w.ownsRow base R.T R.k v l.length (R.cells l)
theorem OwnC.nil (R : Rk α) (w : World) (base : Nat) : OwnC R w base (.slice none 0 0) [] := ⟨by simp [Rk.cells], .inl ⟨rfl, rfl⟩⟩
theorem OwnC.shape {R : Rk α} {w : World} {base : Nat} {v : Value} {l : List α} (h : OwnC R w base v l) : ∃ A c, v = .slice A l.length c := by
  rcases h.2 with ⟨rfl, h0⟩ | ⟨g, cap, _, rfl, _⟩
  · exact ⟨none, 0, by rw [h0]⟩
  · exact ⟨_, _, rfl⟩
theorem OwnC.lt {R : Rk α} {w : World} {base : Nat} {v : Value} {l : List α} (h : OwnC R w base v l) : ∀ k, v.ownBlock = some k → base ≤ k ∧ k < w.heap.size := World.ownsRow.lt h
theorem OwnC.mono {R : Rk α} {w : World} {base base' : Nat} {v : Value} {l : List α} (h : OwnC R w base v l) (hb : base' ≤ base) : OwnC R w base' v l := by
  refine ⟨h.1, h.2.imp id ?_⟩
  rintro ⟨g, cap, cur, e, h1, h2⟩
  exact ⟨g, cap, cur, e, Nat.le_trans hb h1, h2⟩
theorem OwnC.rise {R : Rk α} {w : World} {base base' : Nat} {v : Value} {l : List α} (h : OwnC R w base v l) (hb : ∀ k, v.ownBlock = some k → base' ≤ k) : OwnC R w base' v l := by
  refine ⟨h.1, h.2.imp id ?_⟩
  rintro ⟨g, cap, cur, e, h1, h2⟩
  exact ⟨g, cap, cur, e, hb g (by rw [e]; rfl), h2⟩
theorem OwnC.below {R : Rk α} {w w' : World} {base : Nat} {v : Value} {l : List α} (h : OwnC R w base v l) (hb : Below w.heap.size w w') : OwnC R w' base v l := by
  refine ⟨h.1, h.2.imp id ?_⟩
  rintro ⟨g, cap, cur, e, h1, h2, h3⟩
  exact ⟨g, cap, cur, e, h1, (hb.block g (Array.getElem?_eq_some_iff.1 h2).1).trans h2, h3⟩
/-- Where the row's own block isn't turned. -/
theorem OwnC.kept {R : Rk α} {w w' : World} {base : Nat} {v : Value} {l : List α} (h : OwnC R w base v l) (hk : ∀ g, v.ownBlock = some g → w'.heap[g]? = w.heap[g]?) : OwnC R w' base v l := by
  refine ⟨h.1, h.2.imp id ?_⟩
  rintro ⟨g, cap, cur, e, h1, h2, h3⟩
  exact ⟨g, cap, cur, e, h1, (hk g (by rw [e]; rfl)).trans h2, h3⟩
theorem OwnC.fits {R : Rk α} {w : World} {base n c : Nat} {A : Option Addr} {l : List α} (h : OwnC R w base (.slice A n c) l) : n = l.length ∧ n ≤ c ∧ c ≤ maxLen := by
  rcases h.2 with ⟨e, h0⟩ | ⟨g, cap, cur, e, h1, h2, h3, h4, _⟩
  · injection e with e1 e2 e3
    subst e2 e3
    exact ⟨h0.symm, Nat.le_refl _, Nat.zero_le _⟩
  · injection e with e1 e2 e3
    subst e2 e3
    exact ⟨rfl, h3, h4⟩
theorem OwnC.reads {R : Rk α} (ok : R.Ok) {w : World} {base n c : Nat} {A : Option Addr} {l : List α} (h : OwnC R w base (.slice A n c) l) : HoldsC R w w.heap.size A n l := by
  have h0 := h
  refine ⟨h.fits.1.symm, fun hn => ?_⟩
  rcases h.2 with ⟨e, h0⟩ | ⟨g, cap, cur, e, h1, h2, h3, h4, _⟩
  · injection e with e1 e2 e3
    omega
  · injection e with e1 e2 e3
    subst e1
    subst e2
    subst e3
    refine ⟨g, 0, rfl, (Array.getElem?_eq_some_iff.1 h2).1, fun j hj k hk => ?_⟩
    have h5 : w.ownsRow base R.T R.k (.slice (some ⟨g, 0, none⟩) l.length c) l.length (R.cells l) := h0
    have hlt : j * R.k + k < l.length * R.k := by
      have := Nat.mul_le_mul_right R.k (show j + 1 ≤ l.length from hj)
      rw [Nat.add_mul, Nat.one_mul] at this; omega
    rw [show 0 + j * R.k + k = j * R.k + k by omega, World.ownsRow.cellAt h5 (j * R.k + k) hlt, ok.get l j k hj hk]
theorem OwnC.form {R : Rk α} {W : World} {base n c : Nat} {A : Option Addr} {l : List α} (h : OwnC R W base (.slice A n c) l) (hn : 0 < n) : ∃ g, A = some ⟨g, 0, none⟩ ∧ base ≤ g ∧ g < W.heap.size ∧ ∀ j, W.frozen? ⟨g, j, none⟩ = false := by
  rcases h.2 with ⟨e, h0⟩ | ⟨g, cap, cur, e, h1, h2, h3, h4, _⟩
  · injection e; omega
  · injection e with e1 e2 e3
    exact ⟨g, e1, h1, (Array.getElem?_eq_some_iff.1 h2).1, fun j => frozen_of_row _ _ _ _ _ h2⟩
theorem ownC_empty (R : Rk α) (w : World) : OwnC R (w.alloc (.cells #[] R.T)) w.heap.size (.slice (some ⟨w.heap.size, 0, none⟩) 0 0) [] :=
  ⟨by simp [Rk.cells], .inr ⟨w.heap.size, 0, _, rfl, Nat.le_refl _, heap_alloc_new w _, Nat.zero_le _, by unfold maxLen; omega, by simp, by simp [Rk.cells]⟩⟩
/-- A new block that holds just these elements. -/
theorem ownC_new {R : Rk α} (ok : R.Ok) (w : World) (l : List α) (hl : l.length ≤ maxLen) : OwnC R (w.alloc (.cells (R.cells l).toArray R.T)) w.heap.size (.slice (some ⟨w.heap.size, 0, none⟩) l.length l.length) l :=
  ⟨ok.clen l, .inr ⟨w.heap.size, _, _, rfl, Nat.le_refl _, heap_alloc_new w _, Nat.le_refl _, hl, by simp [ok.clen], by simp [← ok.clen l]⟩⟩

/-- One element more (the variadic argument in a block of its own, made last). -/
theorem run_appC {R : Rk α} (ok : R.Ok) (W : World) (base : Nat) (v : Value) (l : List α) (hown : OwnC R W base v l) (x : α) (ty : TypeId) (cs : Array Value) (hcs : cs = (R.enc x).toArray) (hlen : (l.length + 1) * R.by_ ≤ 140737488355328) (hlen2 : l.length + 1 ≤ 140737488355328) (hbase : base ≤ W.heap.size) :
    ∃ v' W', (Builtin.append_ #[R.S, R.S] ty #[v, .slice (some ⟨W.heap.size, 0, none⟩) 1 1]).run Tryd.prog (W.alloc (.cells cs R.T)) = .ok v' W' ∧ OwnC R W' base v' (l ++ [x]) ∧ Grows W W' v v' := by
  subst hcs
  obtain ⟨i0, hi0, hz0, hz1, hz2⟩ := info_parts ok.info
  obtain ⟨v', W', hrun, h2, h3, _, h5⟩ := run_append_own_at (P := Tryd.prog) (w := W.alloc (.cells (R.enc x).toArray R.T)) base R.S ty R.T i0 _ R.k R.by_ ok.und hi0 hz0 hz1 hz2 ok.zs ok.pos
    v l.length (R.cells l) (World.ownsRow.alloc hown _) ⟨W.heap.size, 0, none⟩ 1 1 (R.enc x) (by rw [ok.len]; omega) (fun j u hu => by
      have hadd : (⟨W.heap.size, 0, none⟩ : Addr).add j = ⟨W.heap.size, j, none⟩ := by unfold Addr.add; split <;> simp_all
      rw [hadd, cell_of_row _ _ j _ _ _ (heap_alloc_new W _)]
      rw [← hu]; simp) (ok.one x) (by unfold maxLen; omega) hlen (by simp; omega)
  refine ⟨v', W', hrun, ?_, ?_, fun k hk => ?_⟩
  · unfold OwnC
    rw [R.cells_append, List.length_append, R.cells_one]
    exact h2
  · exact grown_trans (grown_of_below ((Below.refl _ W).alloc (Nat.le_refl _) _) _) h3
  · rcases h5 with e | e
    · rw [e] at hk; exact .inl hk
    · rw [e] at hk
      injection hk with hk
      simp at hk
      exact .inr (by omega)


/-! ### The row of one's own, as a flat row of cells -/
theorem own_put {R : Rk α} (ok : R.Ok) {w w' : World} {base g cap : Nat} {l l' : List α} (h : OwnC R w base (.slice (some ⟨g, 0, none⟩) l.length cap) l) (hl : l'.length = l.length)
    (hb : ∀ cur, w.heap[g]? = some (.cells cur R.T (0, 0)) → cur.size = cap * R.k → cur.toList.take (l.length * R.k) = R.cells l → ∃ cur', w'.heap[g]? = some (.cells cur' R.T (0, 0)) ∧ cur'.size = cur.size ∧ cur'.toList.take (l.length * R.k) = R.cells l') :
    OwnC R w' base (.slice (some ⟨g, 0, none⟩) l.length cap) l' := by
  rcases h.2 with ⟨e, _⟩ | ⟨g1, cap1, cur, e, h1, h2, h3, h4, h5, h6⟩
  · cases e
  · injection e with e1 e2 e3
    injection e1 with e1
    injection e1 with e1
    subst e1 e3
    obtain ⟨cur', hc1, hc2, hc3⟩ := hb cur h2 h5 h6
    refine ⟨ok.clen l', .inr ⟨g, cap, cur', by rw [hl], h1, hc1, by rw [hl]; exact h3, h4, by rw [hc2]; exact h5, by rw [hl]; exact hc3⟩⟩

theorem setCells_grown (g : Nat) : ∀ (vs : List Value) (o : Nat) (w : World), w.grownBy (w.setCells g o vs) (some g)
  | [], _, w => World.grownBy.refl _ _
  | v :: vs, o, w => by
    rw [World.setCells]
    exact grown_trans (Lib.grownBy_setCell w g o v) (setCells_grown g vs (o + 1) _)
theorem setCells_size (g : Nat) : ∀ (vs : List Value) (o : Nat) (w : World), (w.setCells g o vs).heap.size = w.heap.size
  | [], _, w => rfl
  | v :: vs, o, w => by rw [World.setCells, setCells_size g vs (o + 1)]; simp [World.setCell]
theorem take_over {β : Type} (c L ys : List β) (a n : Nat) (hc : c.take n = L) (hn : n ≤ c.length) (ha : a + ys.length ≤ n) : (c.take a ++ (ys ++ c.drop (a + ys.length))).take n = L.take a ++ (ys ++ L.drop (a + ys.length)) := by
  have hL : L.length = n := by rw [← hc, List.length_take]; omega
  obtain ⟨r, hr⟩ : ∃ r, c = L ++ r := ⟨c.drop n, by rw [← hc, List.take_append_drop]⟩
  subst hr
  have h1 : (L ++ r).take a = L.take a := List.take_append_of_le_length (by omega)
  have h2 : (L ++ r).drop (a + ys.length) = L.drop (a + ys.length) ++ r := List.drop_append_of_le_length (by omega)
  rw [h1, h2, ← List.append_assoc ys, ← List.append_assoc]
  exact List.take_left' (by simp; omega)
/-- A whole element laid into a row of one's own. -/
theorem put_own {R : Rk α} (ok : R.Ok) {w : World} {base g n cap : Nat} {l : List α} (h : OwnC R w base (.slice (some ⟨g, 0, none⟩) n cap) l) (j : Nat) (hj : j < l.length) (x : α) (cs : Array Value) (hcs : cs = (R.enc x).toArray) (o : Nat) (ho : o = j * R.k) :
    ∃ w', (Instr.storeAt R.T (.pointer (some ⟨g, o, none⟩)) (.agg cs)).run Tryd.prog w = .ok () w' ∧ OwnC R w' base (.slice (some ⟨g, 0, none⟩) n cap) (l.set j x) ∧ w.grownBy w' (some g) ∧ w'.heap.size = w.heap.size := by
  subst hcs ho
  have hn := h.fits.1
  subst hn
  rcases h.2 with ⟨e, _⟩ | ⟨g1, cap1, cur, e, h1, h2, h3, h4, h5, h6⟩
  · cases e
  · injection e with e1 e2 e3
    injection e1 with e1
    injection e1 with e1
    subst e1 e3
    have hle : j * R.k + R.k ≤ l.length * R.k := by
      have := Nat.mul_le_mul_right R.k (show j + 1 ≤ l.length from hj)
      rwa [Nat.add_mul, Nat.one_mul] at this
    have hcap : l.length * R.k ≤ cap * R.k := Nat.mul_le_mul_right _ h3
    have hsz : ((R.enc x).toArray).size = R.k := by simp [ok.len]
    have hs := run_storeAt_mid (P := Tryd.prog) w g (j * R.k) R.T (R.enc x).toArray (fun i hi => by
      rw [hsz] at hi
      exact ⟨by rw [cell_of_row _ _ _ _ _ _ h2, Array.getElem?_eq_getElem (by omega)]; rfl, frozen_of_row _ _ _ _ _ h2⟩) (by rw [hsz]; exact ok.size) (by
      rw [Array.all_eq_true_iff_forall_mem]
      intro u hu
      exact ok.one x u (by simpa using hu))
    refine ⟨_, hs, ?_, setCells_grown _ _ _ _, setCells_size _ _ _ _⟩
    refine ⟨ok.clen _, .inr ⟨g, cap, _, by rw [List.length_set], h1, setCells_heap g _ _ w _ _ h2 (by simp [ok.len]; omega), by rw [List.length_set]; exact h3, h4, ?_, ?_⟩⟩
    · simp [ok.len]
      omega
    · rw [List.length_set]
      have hx : R.cells (l.set j x) = R.cells (l.take j) ++ (R.enc x ++ R.cells (l.drop (j + 1))) := by
        rw [List.set_eq_take_append_cons_drop, if_pos hj, R.cells_append, show x :: l.drop (j + 1) = [x] ++ l.drop (j + 1) from rfl, R.cells_append, R.cells_one]
      rw [hx, ← ok.take, ← ok.drop, ← h6]
      have hcl : cur.toList.length = cap * R.k := by simpa using h5
      have e1 : (j + 1) * R.k = j * R.k + (R.enc x).length := by rw [ok.len, Nat.add_mul, Nat.one_mul]
      rw [e1]
      exact take_over cur.toList _ (R.enc x) (j * R.k) (l.length * R.k) rfl (by omega) (by rw [ok.len]; omega)


/-- The kind of an attribute. -/
def PK : Rk Rn := ⟨33, 22, 2, 24, .agg #[.int .i64 0, .string ⟨#[]⟩], Rn.cl⟩
theorem PK_ok : PK.Ok where
  len _ := rfl
  one x u hu := by
    have h1 : u ∈ [Value.int .i64 x.a, .string ⟨x.t.toArray⟩] := hu
    simp only [List.mem_cons, List.not_mem_nil, or_false] at h1
    rcases h1 with rfl | rfl <;> rfl
  pos := by decide
  und := Tryd.underlying22
  info := by kernel_rfl
  zs := rfl
  bound := by decide
theorem ownPK {w : World} {base : Nat} {v : Value} {l : List Rn} : OwnC PK w base v l ↔ OwnX w base v l := Iff.rfl
theorem holdsPK {w : World} {B n : Nat} {A : Option Addr} {l : List Rn} : HoldsC PK w B A n l ↔ HoldsX w B A n l := by
  unfold HoldsC HoldsX
  refine and_congr Iff.rfl (imp_congr_right fun _ => ?_)
  constructor
  · rintro ⟨b, off, h1, h2, h3⟩
    refine ⟨b, off, h1, h2, fun j hj k hk => ?_⟩
    have := h3 j hj k hk
    rw [show PK.enc l[j] = (l[j]).cl from rfl] at this
    rw [show PK.k = 2 from rfl] at this
    rw [this]; simp [Rn.cl, Rn.c]
  · rintro ⟨b, off, h1, h2, h3⟩
    refine ⟨b, off, h1, h2, fun j hj k hk => ?_⟩
    have := h3 j hj k hk
    rw [show PK.enc l[j] = (l[j]).cl from rfl, show PK.k = 2 from rfl, this]; simp [Rn.cl, Rn.c]
end Go.Proofs.YtmbmjdogfjmlpaaDoor.Sp
