/- Lists of texts in memory (rows of any kind of element). -/
import Derived.Test.YtamhbjpoganhnaaLfName
import Derived.Laws.ResultCell
import Derived.Deep.WholeRow
import Derived.Deep.MidRow
import Derived.WalkSpells
import Derived.Maps.AppendAt
import Derived.Lib.AppendZeros
import Derived.Lib.BufferWrite
namespace Go.Proofs.Ytamhbjpoganhnaa.Ph
set_option maxRecDepth 20000
open Go.RowKit
open Go.Proofs.Ytamhbjpoganhnaa.Mem
variable {α : Type}
def Grows (w w' : World) (v v' : Value) : Prop := w.grownBy w' v.ownBlock ∧ ∀ k, v'.ownBlock = some k → v.ownBlock = some k ∨ w.heap.size ≤ k
theorem grown_of_below {w w' : World} (h : Below w.heap.size w w') (row : Option Nat) : w.grownBy w' row := ⟨h.os, h.tape, h.output, h.size, fun i hi _ => h.block i hi⟩
theorem grown_trans {w w' w'' : World} {row : Option Nat} (h : w.grownBy w' row) (h' : w'.grownBy w'' row) : w.grownBy w'' row :=
  ⟨h'.os.trans h.os, h'.tape.trans h.tape, h'.output.trans h.output, Nat.le_trans h.size h'.size, fun i hi hn => (h'.block i (Nat.lt_of_lt_of_le hi h.size) hn).trans (h.block i hi hn)⟩
theorem Grows.refl (w : World) (v : Value) : Grows w w v v := ⟨World.grownBy.refl _ _, fun _ h => .inl h⟩
theorem Grows.trans {w w' w'' : World} {v v' v'' : Value} (h : Grows w w' v v') (h' : Grows w' w'' v' v'') : Grows w w'' v v'' := by
  refine ⟨⟨h'.1.os.trans h.1.os, h'.1.tape.trans h.1.tape, h'.1.output.trans h.1.output, Nat.le_trans h.1.size h'.1.size, fun i hi hn => ?_⟩, fun k hk => ?_⟩
  · refine (h'.1.block i (Nat.lt_of_lt_of_le hi h.1.size) (fun e => ?_)).trans (h.1.block i hi hn)
    rcases h.2 i e.symm with e1 | e1
    · exact hn e1.symm
    · omega
  · rcases h'.2 k hk with e | e
    · exact h.2 k e
    · exact .inr (Nat.le_trans h.1.size e)
theorem Grows.below {w w' : World} {v v' : Value} {base : Nat} (h : Grows w w' v v') (hb : base ≤ w.heap.size) (hv : ∀ k, v.ownBlock = some k → base ≤ k) : Below base w w' := (Below.refl base w).grown h.1 hb hv

theorem text_size (t : List UInt8) : (⟨t.toArray⟩ : ByteArray).size = t.length := by simp [ByteArray.size]
theorem text_list (t : List UInt8) : (⟨t.toArray⟩ : ByteArray).toList = t := by rw [ByteArray.toList_eq]
theorem text_back (s : ByteArray) : (⟨s.data.toList.toArray⟩ : ByteArray) = s := by simp
/-- What a kind of element is: its type, the slice's, its cells. -/
structure Rk (α : Type) where
  T : TypeId
  S : TypeId
  k : Nat
  by_ : Nat
  zero : Value
  enc : α → List Value
structure Rk.Ok (R : Rk α) : Prop where
  len : ∀ x, (R.enc x).length = R.k
  one : ∀ x, ∀ u ∈ R.enc x, u.oneCell' = true
  pos : 0 < R.k
  und : Try.prog.underlying R.S = some (.slice R.T)
  info : (Try.prog.info? R.T).map (fun i => (i.zero, i.size, i.bytes)) = some (some R.zero, R.k, R.by_)
  zs : R.zero.cells.size = R.k
  bound : R.by_ ≤ 64

def Rk.cells (R : Rk α) (l : List α) : List Value := l.flatMap R.enc
theorem Rk.cells_append (R : Rk α) (l m : List α) : R.cells (l ++ m) = R.cells l ++ R.cells m := by unfold Rk.cells; rw [List.flatMap_append]
theorem Rk.cells_one (R : Rk α) (x : α) : R.cells [x] = R.enc x := by simp [Rk.cells]
theorem Rk.Ok.clen {R : Rk α} (h : R.Ok) : ∀ l : List α, (R.cells l).length = l.length * R.k
  | [] => by simp [Rk.cells]
  | x :: l => by
    have := h.clen l
    unfold Rk.cells at this ⊢
    rw [List.flatMap_cons, List.length_append, this, List.length_cons, h.len, Nat.add_mul]
    omega
theorem Rk.Ok.get {R : Rk α} (h : R.Ok) : ∀ (l : List α) (j i : Nat) (hj : j < l.length), i < R.k → (R.cells l)[j * R.k + i]? = (R.enc l[j])[i]?
  | x :: l, 0, i, hj, hi => by
    unfold Rk.cells
    rw [List.flatMap_cons, Nat.zero_mul, Nat.zero_add, List.getElem?_append_left (by rw [h.len]; exact hi)]
    rfl
  | x :: l, j + 1, i, hj, hi => by
    have := h.get l j i (by simpa using hj) hi
    unfold Rk.cells at this ⊢
    rw [List.flatMap_cons, List.getElem?_append_right (by rw [h.len, Nat.add_mul]; omega), h.len, show (j + 1) * R.k + i - R.k = j * R.k + i by rw [Nat.add_mul]; omega, this]
    rfl
theorem Rk.Ok.ones {R : Rk α} (h : R.Ok) (l : List α) : ∀ u ∈ R.cells l, u.oneCell' = true := by
  intro u hu
  unfold Rk.cells at hu
  obtain ⟨x, _, hx⟩ := List.mem_flatMap.1 hu
  exact h.one x u hx
theorem Rk.Ok.size {R : Rk α} (h : R.Ok) : (Try.prog.info? R.T).map (·.size) = some R.k := by
  obtain ⟨i0, hi0, _, hz1, _⟩ := info_parts h.info
  rw [hi0]; simp [hz1]
theorem Rk.Ok.take {R : Rk α} (h : R.Ok) (l : List α) (i : Nat) : (R.cells l).take (i * R.k) = R.cells (l.take i) := by
  by_cases hi : i ≤ l.length
  · conv => lhs; rw [← List.take_append_drop i l, R.cells_append]
    rw [List.take_left' (by rw [h.clen, List.length_take, Nat.min_eq_left hi])]
  · rw [List.take_of_length_le (by rw [h.clen]; exact Nat.mul_le_mul_right _ (by omega)), List.take_of_length_le (by omega)]
theorem Rk.Ok.drop {R : Rk α} (h : R.Ok) (l : List α) (i : Nat) : (R.cells l).drop (i * R.k) = R.cells (l.drop i) := by
  by_cases hi : i ≤ l.length
  · conv => lhs; rw [← List.take_append_drop i l, R.cells_append]
    rw [List.drop_left' (by rw [h.clen, List.length_take, Nat.min_eq_left hi])]
  · rw [List.drop_of_length_le (by rw [h.clen]; exact Nat.mul_le_mul_right _ (by omega)), List.drop_of_length_le (by omega)]
    simp [Rk.cells]

/-- A slice reads as a list of such elements, all below block B. -/
def HoldsC (R : Rk α) (w : World) (B : Nat) (A : Option Addr) (n : Nat) (l : List α) : Prop :=
  l.length = n ∧ (0 < n → ∃ b off, A = some ⟨b, off, none⟩ ∧ b < B ∧ ∀ j, (h : j < l.length) → ∀ i, i < R.k → w.cell? ⟨b, off + j * R.k + i, none⟩ = (R.enc l[j])[i]?)
theorem HoldsC.below {R : Rk α} {w w' : World} {B : Nat} {A : Option Addr} {n : Nat} {l : List α} (h : HoldsC R w B A n l) (hb : Below B w w') : HoldsC R w' B A n l :=
  ⟨h.1, fun hn => by
    obtain ⟨b, off, e, hl, hc⟩ := h.2 hn
    exact ⟨b, off, e, hl, fun j hj k hk => (hb.cell (p := ⟨b, off + j * R.k + k, none⟩) hl).trans (hc j hj k hk)⟩⟩
theorem HoldsC.more {R : Rk α} {w : World} {B B' : Nat} {A : Option Addr} {n : Nat} {l : List α} (h : HoldsC R w B A n l) (hB : B ≤ B') : HoldsC R w B' A n l :=
  ⟨h.1, fun hn => by
    obtain ⟨b, off, e, hl, hc⟩ := h.2 hn
    exact ⟨b, off, e, by omega, hc⟩⟩
theorem HoldsC.sub {R : Rk α} {w : World} {B b off n i m : Nat} {l : List α} (h : HoldsC R w B (some ⟨b, off, none⟩) n l) (hm : i + m ≤ n) : HoldsC R w B (some ⟨b, off + i * R.k, none⟩) m ((l.drop i).take m) :=
  ⟨by rw [List.length_take, List.length_drop, h.1]; omega, fun h0 => by
    obtain ⟨b', off', e, hl, hc⟩ := h.2 (by omega)
    injection e with e
    injection e with e1 e2
    subst e1 e2
    refine ⟨_, _, rfl, hl, fun j hj k hk => ?_⟩
    have hj' : j < m := by rw [List.length_take] at hj; omega
    rw [List.getElem_take, List.getElem_drop, show off + i * R.k + j * R.k + k = off + (i + j) * R.k + k by rw [Nat.add_mul]; omega]
    exact hc (i + j) (by rw [h.1]; omega) k hk⟩
theorem HoldsC.take {R : Rk α} {w : World} {B n m : Nat} {A : Option Addr} {l : List α} (h : HoldsC R w B A n l) (hm : m ≤ n) : HoldsC R w B A m (l.take m) :=
  ⟨by rw [List.length_take, h.1]; omega, fun h0 => by
    obtain ⟨b, off, e, hl, hc⟩ := h.2 (by omega)
    refine ⟨b, off, e, hl, fun j hj k hk => ?_⟩
    rw [List.getElem_take]
    exact hc j (by rw [List.length_take] at hj; omega) k hk⟩
theorem HoldsC.addr {R : Rk α} {w : World} {B n : Nat} {A : Option Addr} {l : List α} (h : HoldsC R w B A n l) (h0 : 0 < n) : ∃ b off, A = some ⟨b, off, none⟩ ∧ b < B := by
  obtain ⟨b, off, e, hl, _⟩ := h.2 h0
  exact ⟨b, off, e, hl⟩
theorem HoldsC.nil (R : Rk α) (w : World) (B : Nat) (A : Option Addr) : HoldsC R w B A 0 [] := ⟨rfl, fun h => absurd h (by omega)⟩
theorem HoldsC.kept {R : Rk α} {w w' : World} {B b off n : Nat} {l : List α} (h : HoldsC R w B (some ⟨b, off, none⟩) n l) (hk : w'.heap[b]? = w.heap[b]?) : HoldsC R w' B (some ⟨b, off, none⟩) n l :=
  ⟨h.1, fun hn => by
    obtain ⟨b', off', e, hl, hc⟩ := h.2 hn
    injection e with e
    injection e with e1 e2
    subst e1 e2
    refine ⟨_, _, rfl, hl, fun j hj k hk' => ?_⟩
    rw [← hc j hj k hk']
    unfold World.cell?
    simp only [hk]⟩
theorem HoldsC.cell {R : Rk α} {w : World} {B b off n : Nat} {l : List α} (h : HoldsC R w B (some ⟨b, off, none⟩) n l) (j : Nat) (hj : j < l.length) (i : Nat) (hi : i < R.k) :
    w.cell? ⟨b, off + j * R.k + i, none⟩ = (R.enc l[j])[i]? := by
  obtain ⟨b', off', e, _, hc⟩ := h.2 (by rw [← h.1]; omega)
  injection e with e
  injection e with e1 e2
  subst e1 e2
  exact hc j hj i hi
theorem HoldsC.range {R : Rk α} (ok : R.Ok) {w : World} {B b off n : Nat} {l : List α} (h : HoldsC R w B (some ⟨b, off, none⟩) n l) (j : Nat) (hj : j < l.length) : w.rangeAt b (off + j * R.k) (R.enc l[j]) := fun i v hi => by
  have hk : i < R.k := by rw [← ok.len l[j]]; exact (List.getElem?_eq_some_iff.1 hi).1
  rw [h.cell j hj i hk, hi]

/-- A row of them that the call made itself. -/
def OwnC (R : Rk α) (w : World) (base : Nat) (v : Value) (l : List α) : Prop := w.ownsRow base R.T R.k v l.length (R.cells l)
theorem OwnC.nil (R : Rk α) (w : World) (base : Nat) : OwnC R w base (.slice none 0 0) [] := ⟨by simp [Rk.cells], .inl ⟨rfl, rfl⟩⟩
theorem OwnC.shape {R : Rk α} {w : World} {base : Nat} {v : Value} {l : List α} (h : OwnC R w base v l) : ∃ A c, v = .slice A l.length c := by
  rcases h.2 with ⟨rfl, h0⟩ | ⟨g, cap, _, rfl, _⟩
  · exact ⟨none, 0, by rw [h0]⟩
  · exact ⟨_, _, rfl⟩
theorem OwnC.lt {R : Rk α} {w : World} {base : Nat} {v : Value} {l : List α} (h : OwnC R w base v l) : ∀ k, v.ownBlock = some k → base ≤ k ∧ k < w.heap.size := World.ownsRow.lt h
theorem OwnC.mono {R : Rk α} {w : World} {base base' : Nat} {v : Value} {l : List α} (h : OwnC R w base v l) (hb : base' ≤ base) : OwnC R w base' v l := by
  refine ⟨h.1, h.2.imp id ?_⟩
  rintro ⟨g, cap, cur, e, h1, h2⟩
  exact ⟨g, cap, cur, e, Nat.le_trans hb h1, h2⟩
theorem OwnC.rise {R : Rk α} {w : World} {base base' : Nat} {v : Value} {l : List α} (h : OwnC R w base v l) (hb : ∀ k, v.ownBlock = some k → base' ≤ k) : OwnC R w base' v l := by
  refine ⟨h.1, h.2.imp id ?_⟩
  rintro ⟨g, cap, cur, e, h1, h2⟩
  exact ⟨g, cap, cur, e, hb g (by rw [e]; rfl), h2⟩
theorem OwnC.below {R : Rk α} {w w' : World} {base : Nat} {v : Value} {l : List α} (h : OwnC R w base v l) (hb : Below w.heap.size w w') : OwnC R w' base v l := by
  refine ⟨h.1, h.2.imp id ?_⟩
  rintro ⟨g, cap, cur, e, h1, h2, h3⟩
  exact ⟨g, cap, cur, e, h1, (hb.block g (Array.getElem?_eq_some_iff.1 h2).1).trans h2, h3⟩
/-- Where the row's own block isn't turned. -/
theorem OwnC.kept {R : Rk α} {w w' : World} {base : Nat} {v : Value} {l : List α} (h : OwnC R w base v l) (hk : ∀ g, v.ownBlock = some g → w'.heap[g]? = w.heap[g]?) : OwnC R w' base v l := by
  refine ⟨h.1, h.2.imp id ?_⟩
  rintro ⟨g, cap, cur, e, h1, h2, h3⟩
  exact ⟨g, cap, cur, e, h1, (hk g (by rw [e]; rfl)).trans h2, h3⟩
theorem OwnC.fits {R : Rk α} {w : World} {base n c : Nat} {A : Option Addr} {l : List α} (h : OwnC R w base (.slice A n c) l) : n = l.length ∧ n ≤ c ∧ c ≤ maxLen := by
  rcases h.2 with ⟨e, h0⟩ | ⟨g, cap, cur, e, h1, h2, h3, h4, _⟩
  · injection e with e1 e2 e3
    subst e2 e3
    exact ⟨h0.symm, Nat.le_refl _, Nat.zero_le _⟩
  · injection e with e1 e2 e3
    subst e2 e3
    exact ⟨rfl, h3, h4⟩
theorem OwnC.reads {R : Rk α} (ok : R.Ok) {w : World} {base n c : Nat} {A : Option Addr} {l : List α} (h : OwnC R w base (.slice A n c) l) : HoldsC R w w.heap.size A n l := by
  have h0 := h
  refine ⟨h.fits.1.symm, fun hn => ?_⟩
  rcases h.2 with ⟨e, h0⟩ | ⟨g, cap, cur, e, h1, h2, h3, h4, _⟩
  · injection e with e1 e2 e3
    omega
  · injection e with e1 e2 e3
    subst e1
    subst e2
    subst e3
    refine ⟨g, 0, rfl, (Array.getElem?_eq_some_iff.1 h2).1, fun j hj k hk => ?_⟩
    have h5 : w.ownsRow base R.T R.k (.slice (some ⟨g, 0, none⟩) l.length c) l.length (R.cells l) := h0
    have hlt : j * R.k + k < l.length * R.k := by
      have := Nat.mul_le_mul_right R.k (show j + 1 ≤ l.length from hj)
      rw [Nat.add_mul, Nat.one_mul] at this; omega
    rw [show 0 + j * R.k + k = j * R.k + k by omega, World.ownsRow.cellAt h5 (j * R.k + k) hlt, ok.get l j k hj hk]
theorem OwnC.form {R : Rk α} {W : World} {base n c : Nat} {A : Option Addr} {l : List α} (h : OwnC R W base (.slice A n c) l) (hn : 0 < n) : ∃ g, A = some ⟨g, 0, none⟩ ∧ base ≤ g ∧ g < W.heap.size ∧ ∀ j, W.frozen? ⟨g, j, none⟩ = false := by
  rcases h.2 with ⟨e, h0⟩ | ⟨g, cap, cur, e, h1, h2, h3, h4, _⟩
  · injection e; omega
  · injection e with e1 e2 e3
    exact ⟨g, e1, h1, (Array.getElem?_eq_some_iff.1 h2).1, fun j => frozen_of_row _ _ _ _ _ h2⟩
theorem ownC_empty (R : Rk α) (w : World) : OwnC R (w.alloc (.cells #[] R.T)) w.heap.size (.slice (some ⟨w.heap.size, 0, none⟩) 0 0) [] :=
  ⟨by simp [Rk.cells], .inr ⟨w.heap.size, 0, _, rfl, Nat.le_refl _, heap_alloc_new w _, Nat.zero_le _, by unfold maxLen; omega, by simp, by simp [Rk.cells]⟩⟩
/-- A new block that holds just these elements. -/
theorem ownC_new {R : Rk α} (ok : R.Ok) (w : World) (l : List α) (hl : l.length ≤ maxLen) : OwnC R (w.alloc (.cells (R.cells l).toArray R.T)) w.heap.size (.slice (some ⟨w.heap.size, 0, none⟩) l.length l.length) l :=
  ⟨ok.clen l, .inr ⟨w.heap.size, _, _, rfl, Nat.le_refl _, heap_alloc_new w _, Nat.le_refl _, hl, by simp [ok.clen], by simp [← ok.clen l]⟩⟩

/-- One element more (the variadic argument in a block of its own, made last). -/
theorem run_appC {R : Rk α} (ok : R.Ok) (W : World) (base : Nat) (v : Value) (l : List α) (hown : OwnC R W base v l) (x : α) (ty : TypeId) (cs : Array Value) (hcs : cs = (R.enc x).toArray) (hlen : l.length + 1 ≤ 1099511627776) (hbase : base ≤ W.heap.size) :
    ∃ v' W', (Builtin.append_ #[R.S, R.S] ty #[v, .slice (some ⟨W.heap.size, 0, none⟩) 1 1]).run Try.prog (W.alloc (.cells cs R.T)) = .ok v' W' ∧ OwnC R W' base v' (l ++ [x]) ∧ Grows W W' v v' := by
  subst hcs
  obtain ⟨i0, hi0, hz0, hz1, hz2⟩ := info_parts ok.info
  have hb64 := ok.bound
  obtain ⟨v', W', hrun, h2, h3, _, h5⟩ := run_append_own_at (P := Try.prog) (w := W.alloc (.cells (R.enc x).toArray R.T)) base R.S ty R.T i0 _ R.k R.by_ ok.und hi0 hz0 hz1 hz2 ok.zs ok.pos
    v l.length (R.cells l) (World.ownsRow.alloc hown _) ⟨W.heap.size, 0, none⟩ 1 1 (R.enc x) (by rw [ok.len]; omega) (fun j u hu => by
      have hadd : (⟨W.heap.size, 0, none⟩ : Addr).add j = ⟨W.heap.size, j, none⟩ := by unfold Addr.add; split <;> simp_all
      rw [hadd, cell_of_row _ _ j _ _ _ (heap_alloc_new W _)]
      rw [← hu]; simp) (ok.one x) (by unfold maxLen; omega) (by
        calc (l.length + 1) * R.by_ ≤ (l.length + 1) * 64 := Nat.mul_le_mul_left _ hb64
          _ ≤ 140737488355328 := by omega) (by simp; omega)
  refine ⟨v', W', hrun, ?_, ?_, fun k hk => ?_⟩
  · unfold OwnC
    rw [R.cells_append, List.length_append, R.cells_one]
    exact h2
  · exact grown_trans (grown_of_below ((Below.refl _ W).alloc (Nat.le_refl _) _) _) h3
  · rcases h5 with e | e
    · rw [e] at hk; exact .inl hk
    · rw [e] at hk
      injection hk with hk
      simp at hk
      exact .inr (by omega)


/-- Texts. -/
def SK : Rk (List UInt8) := ⟨9, 23, 1, 16, .string ⟨#[]⟩, fun t => [.string ⟨t.toArray⟩]⟩
theorem skOk : SK.Ok where
  len := fun _ => rfl
  one := fun x u hu => by
    have : u = .string ⟨x.toArray⟩ := by simpa [SK] using hu
    subst this
    rfl
  pos := by decide
  und := Try.underlying23
  info := by kernel_rfl
  zs := rfl
  bound := by decide
theorem wpList_apprun {w : World} {ops : Array Oper} {rest : List Oper} {o : Oper} {a : Act} {Q : Exit → Act → World → Prop} (hgd : o.guard = none) (d x : Operand) (dT sT : TypeId)
    (ho : o.op = .call { callee := .builtin .append, args := #[d, x], argTypes := #[dT, sT] }) (vd vx : Value) (hd : a.eval d = vd) (hx : a.eval x = vx) (v : Value) (w' : World) (hrun : (Builtin.append_ #[dT, sT] o.type #[vd, vx]).run Try.prog w = .ok v w')
    (h : wpList Try.prog ops Q rest (a.put o.dst v) w') : wpList Try.prog ops Q (o :: rest) a w := by
  refine wpList_plain hgd fun K hK => ?_
  unfold Oper.wp execOp
  simp only [ho, resolve, invoke, builtin, Sem.run_bind, Sem.run_pure, Result.andThen_ok, List.map_toArray, List.map_cons, List.map_nil, hd, hx, hrun]
  exact hK _ _ h
theorem sk_len (l : List (List UInt8)) : (SK.cells l).length = l.length := by rw [skOk.clen]; show l.length * 1 = _; omega
theorem sk_get (l : List (List UInt8)) (j : Nat) (h : j < l.length) : (SK.cells l)[j]? = some (.string ⟨(l[j]).toArray⟩) := by
  have := skOk.get l j 0 h (by decide)
  rw [show j * SK.k + 0 = j by show j * 1 + 0 = j; omega] at this
  rw [this]
  rfl
theorem sk_cell {w : World} {B b off n : Nat} {l : List (List UInt8)} (h : HoldsC SK w B (some ⟨b, off, none⟩) n l) (j : Nat) (hj : j < l.length) : w.cell? ⟨b, off + j, none⟩ = some (.string ⟨(l[j]).toArray⟩) := by
  have := h.cell j hj 0 (by decide)
  rw [show off + j * SK.k + 0 = off + j by show off + j * 1 + 0 = off + j; omega] at this
  rw [this]
  rfl
/-- One text more (laid in a block of its own, made last). -/
theorem run_appS (W : World) (base : Nat) (v : Value) (l : List (List UInt8)) (hown : OwnC SK W base v l) (x : List UInt8) (ty : TypeId) (hlen : l.length + 1 ≤ 8796093022208) (hbase : base ≤ W.heap.size) :
    ∃ v' W', (Builtin.append_ #[23, 23] ty #[v, .slice (some ⟨W.heap.size, 0, none⟩) 1 1]).run Try.prog (W.alloc (.cells #[.string ⟨x.toArray⟩] 9)) = .ok v' W' ∧ OwnC SK W' base v' (l ++ [x]) ∧ Grows W W' v v' := by
  obtain ⟨i0, hi0, hz0, hz1, hz2⟩ := info_parts skOk.info
  obtain ⟨v', W', hrun, h2, h3, _, h5⟩ := run_append_own_at (P := Try.prog) (w := W.alloc (.cells #[.string ⟨x.toArray⟩] 9)) base 23 ty 9 i0 _ 1 16 skOk.und hi0 hz0 hz1 hz2 skOk.zs skOk.pos
    v l.length (SK.cells l) (World.ownsRow.alloc hown _) ⟨W.heap.size, 0, none⟩ 1 1 [.string ⟨x.toArray⟩] (by simp) (fun j u hu => by
      have hadd : (⟨W.heap.size, 0, none⟩ : Addr).add j = ⟨W.heap.size, j, none⟩ := by unfold Addr.add; split <;> simp_all
      rw [hadd, cell_of_row _ _ j _ _ _ (heap_alloc_new W _)]
      rw [← hu]; simp) (by intro u hu; simp at hu; subst hu; rfl) (by unfold maxLen; omega) (by omega) (by simp; omega)
  refine ⟨v', W', hrun, ?_, ?_, fun k hk => ?_⟩
  · unfold OwnC
    rw [SK.cells_append, List.length_append, SK.cells_one]
    exact h2
  · exact grown_trans (grown_of_below ((Below.refl _ W).alloc (Nat.le_refl _) _) _) h3
  · rcases h5 with e | e
    · rw [e] at hk; exact .inl hk
    · rw [e] at hk
      injection hk with hk
      simp at hk
      exact .inr (by omega)
/-- All of another list. -/
theorem run_addS (w : World) (ty : TypeId) (base : Nat) (v : Value) (l : List (List UInt8)) (hown : OwnC SK w base v l) (B : Nat) (A : Option Addr) (m c : Nat) (ys : List (List UInt8)) (hr : HoldsC SK w B A m ys)
    (hlen : l.length + m ≤ 8796093022208) (hbase : base ≤ w.heap.size) :
    ∃ v' w', (Builtin.append_ #[23, 23] ty #[v, .slice A m c]).run Try.prog w = .ok v' w' ∧ OwnC SK w' base v' (l ++ ys) ∧ Grows w w' v v' := by
  obtain ⟨i0, hi, hz0, hz1, hz2⟩ := info_parts skOk.info
  have hl := hr.1
  rcases A with _ | ad
  · have hm : m = 0 := by
      rcases Nat.eq_zero_or_pos m with h0 | h0
      · exact h0
      · obtain ⟨b, off, e, _⟩ := hr.2 h0; cases e
    subst hm
    obtain rfl : ys = [] := List.eq_nil_of_length_eq_zero hl
    have hi' : Try.prog.info? 9 = some i0 := hi
    refine ⟨v, w, ?_, by simpa using hown, Grows.refl _ _⟩
    rcases hown.2 with ⟨rfl, _⟩ | ⟨g, cap, cur, rfl, _, _, hnc, _⟩
    · simp [Builtin.append_, run_underlying Try.underlying23, sizeOf, typeInfo, hi', Builtin.lenOf, Builtin.firstCells]
    · simp [Builtin.append_, run_underlying Try.underlying23, sizeOf, typeInfo, hi', Builtin.lenOf, Builtin.firstCells, hnc, storeCells]
  · have hcells : ∀ j u, (SK.cells ys)[j]? = some u → w.cell? (ad.add j) = some u := by
      intro j u hu
      have hj : j < ys.length := by
        have := (List.getElem?_eq_some_iff.1 hu).1
        rwa [sk_len] at this
      obtain ⟨b, off, e, _⟩ := hr.2 (by omega)
      injection e with e
      subst e
      have hadd : (⟨b, off, none⟩ : Addr).add j = ⟨b, off + j, none⟩ := by unfold Addr.add; split <;> simp_all
      rw [hadd, sk_cell hr j hj, ← hu, sk_get ys j hj]
    obtain ⟨v', w', hrun, h2, h3, _, h5⟩ := run_append_own_at (P := Try.prog) w base 23 ty 9 i0 _ 1 16 skOk.und hi hz0 hz1 hz2 skOk.zs skOk.pos v l.length (SK.cells l) hown ad m c (SK.cells ys) (by rw [sk_len]; omega) hcells (skOk.ones ys) (by unfold maxLen; omega) (by omega) hbase
    refine ⟨v', w', hrun, ?_, h3, fun k hk => ?_⟩
    · unfold OwnC
      rw [List.length_append, SK.cells_append, hl]
      exact h2
    · rcases h5 with e | e
      · rw [e] at hk; exact .inl hk
      · rw [e] at hk
        injection hk with hk
        exact .inr (by omega)
/-- The row, cut shorter. -/
theorem OwnC.cut {w : World} {base g n c : Nat} {l : List (List UInt8)} (h : OwnC SK w base (.slice (some ⟨g, 0, none⟩) n c) l) (m : Nat) (hm : m ≤ n) : OwnC SK w base (.slice (some ⟨g, 0, none⟩) m c) (l.take m) := by
  have hf := h.fits
  rcases h.2 with ⟨e, _⟩ | ⟨g1, cap, cur, e, h1, h2, h3, h4, h5, h6⟩
  · cases e
  · injection e with e1 e2 e3
    injection e1 with e1
    injection e1 with e1
    subst e1 e3
    have hlm : (l.take m).length = m := by rw [List.length_take]; omega
    refine ⟨by rw [skOk.clen], .inr ⟨g, c, cur, by rw [hlm], h1, h2, by rw [hlm]; omega, h4, h5, ?_⟩⟩
    rw [hlm, ← skOk.take, ← h6, List.take_take, Nat.min_eq_left]
    exact Nat.mul_le_mul_right _ (by omega)
end Go.Proofs.Ytamhbjpoganhnaa.Ph
