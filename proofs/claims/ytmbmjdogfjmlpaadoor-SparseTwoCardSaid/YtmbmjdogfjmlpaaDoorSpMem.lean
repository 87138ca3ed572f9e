/- Attributes in memory: a list of them, one in a variable; appends of one and of many. -/
import Derived.Test.YtmbmjdogfjmlpaaDoorSpFacts
import Derived.Test.YtmbmjdogfjmlpaaDoorRcMem
import Derived.Laws.ResultCell
import Derived.Deep.WholeRow
import Derived.Deep.MidRow
import Derived.WalkSpells
import Derived.Maps.AppendAt
import Derived.Lib.AppendZeros
namespace Go.Proofs.YtmbmjdogfjmlpaaDoor.Sp
set_option maxRecDepth 20000
open Go.RowKit
open Go.Proofs.YtmbmjdogfjmlpaaDoor.Mem Go.Proofs.YtmbmjdogfjmlpaaDoor.Rec

def Rn.c (x : Rn) : Array Value := #[.int .i64 x.a, .string ⟨x.t.toArray⟩]
def Rn.cl (x : Rn) : List Value := [.int .i64 x.a, .string ⟨x.t.toArray⟩]
def cellsX (l : List Rn) : List Value := l.flatMap Rn.cl
theorem cellsX_len : ∀ l : List Rn, (cellsX l).length = l.length * 2
  | [] => rfl
  | x :: l => by
    have := cellsX_len l
    unfold cellsX at this ⊢
    rw [List.flatMap_cons, List.length_append, this, List.length_cons]
    show 2 + _ = _
    omega
theorem cellsX_append (l m : List Rn) : cellsX (l ++ m) = cellsX l ++ cellsX m := by unfold cellsX; rw [List.flatMap_append]
theorem cellsX_get : ∀ (l : List Rn) (j k : Nat) (h : j < l.length), k < 2 → (cellsX l)[j * 2 + k]? = (l[j]).c[k]?
  | x :: l, 0, k, h, hk => by
    unfold cellsX
    rw [List.flatMap_cons, Nat.zero_mul, Nat.zero_add, List.getElem?_append_left (by exact hk)]
    simp [Rn.cl, Rn.c]
  | x :: l, j + 1, k, h, hk => by
    have := cellsX_get l j k (by simpa using h) hk
    unfold cellsX at this ⊢
    rw [List.flatMap_cons, List.getElem?_append_right (by show 2 ≤ _; omega)]
    show (List.flatMap Rn.cl l)[(j + 1) * 2 + k - 2]? = _
    rw [show (j + 1) * 2 + k - 2 = j * 2 + k by omega, this]
    rfl
theorem info_x : (Tryd.prog.info? 33).map (fun i => (i.zero, i.size, i.bytes)) = some (some (.agg #[.int .i64 0, .string ⟨#[]⟩]), 2, 24) := by kernel_rfl

/-- A slice reads as a list of extents, all below block B. -/
def HoldsX (w : World) (B : Nat) (A : Option Addr) (n : Nat) (l : List Rn) : Prop :=
  l.length = n ∧ (0 < n → ∃ b off, A = some ⟨b, off, none⟩ ∧ b < B ∧ ∀ j, (h : j < l.length) → ∀ k, k < 2 → w.cell? ⟨b, off + j * 2 + k, none⟩ = (l[j]).c[k]?)
theorem HoldsX.below {w w' : World} {B : Nat} {A : Option Addr} {n : Nat} {l : List Rn} (h : HoldsX w B A n l) (hb : Below B w w') : HoldsX w' B A n l :=
  ⟨h.1, fun hn => by
    obtain ⟨b, off, e, hl, hc⟩ := h.2 hn
    exact ⟨b, off, e, hl, fun j hj k hk => (hb.cell (p := ⟨b, off + j * 2 + k, none⟩) hl).trans (hc j hj k hk)⟩⟩
theorem HoldsX.more {w : World} {B B' : Nat} {A : Option Addr} {n : Nat} {l : List Rn} (h : HoldsX w B A n l) (hB : B ≤ B') : HoldsX w B' A n l :=
  ⟨h.1, fun hn => by
    obtain ⟨b, off, e, hl, hc⟩ := h.2 hn
    exact ⟨b, off, e, by omega, hc⟩⟩
theorem HoldsX.sub {w : World} {B b off n i m : Nat} {l : List Rn} (h : HoldsX w B (some ⟨b, off, none⟩) n l) (hm : i + m ≤ n) : HoldsX w B (some ⟨b, off + i * 2, none⟩) m ((l.drop i).take m) :=
  ⟨by rw [List.length_take, List.length_drop, h.1]; omega, fun h0 => by
    obtain ⟨b', off', e, hl, hc⟩ := h.2 (by omega)
    injection e with e
    injection e with e1 e2
    subst e1 e2
    refine ⟨_, _, rfl, hl, fun j hj k hk => ?_⟩
    have hj' : j < m := by rw [List.length_take] at hj; omega
    rw [List.getElem_take, List.getElem_drop, show off + i * 2 + j * 2 + k = off + (i + j) * 2 + k by omega]
    exact hc (i + j) (by rw [h.1]; omega) k hk⟩
theorem HoldsX.take {w : World} {B n m : Nat} {A : Option Addr} {l : List Rn} (h : HoldsX w B A n l) (hm : m ≤ n) : HoldsX w B A m (l.take m) :=
  ⟨by rw [List.length_take, h.1]; omega, fun h0 => by
    obtain ⟨b, off, e, hl, hc⟩ := h.2 (by omega)
    refine ⟨b, off, e, hl, fun j hj k hk => ?_⟩
    rw [List.getElem_take]
    exact hc j (by rw [List.length_take] at hj; omega) k hk⟩
theorem HoldsX.addr {w : World} {B n : Nat} {A : Option Addr} {l : List Rn} (h : HoldsX w B A n l) (h0 : 0 < n) : ∃ b off, A = some ⟨b, off, none⟩ ∧ b < B := by
  obtain ⟨b, off, e, hl, _⟩ := h.2 h0
  exact ⟨b, off, e, hl⟩
theorem HoldsX.nil (w : World) (B : Nat) (A : Option Addr) : HoldsX w B A 0 [] := ⟨rfl, fun h => absurd h (by omega)⟩

/-- A row of extents that the call made itself. -/
def OwnX (w : World) (base : Nat) (v : Value) (l : List Rn) : Prop := w.ownsRow base 33 2 v l.length (cellsX l)
theorem OwnX.nil (w : World) (base : Nat) : OwnX w base (.slice none 0 0) [] := ⟨rfl, .inl ⟨rfl, rfl⟩⟩
theorem OwnX.shape {w : World} {base : Nat} {v : Value} {l : List Rn} (h : OwnX w base v l) : ∃ A c, v = .slice A l.length c := by
  rcases h.2 with ⟨rfl, h0⟩ | ⟨g, cap, _, rfl, _⟩
  · exact ⟨none, 0, by rw [h0]⟩
  · exact ⟨_, _, rfl⟩
theorem OwnX.lt {w : World} {base : Nat} {v : Value} {l : List Rn} (h : OwnX w base v l) : ∀ k, v.ownBlock = some k → base ≤ k ∧ k < w.heap.size := World.ownsRow.lt h
theorem OwnX.mono {w : World} {base base' : Nat} {v : Value} {l : List Rn} (h : OwnX w base v l) (hb : base' ≤ base) : OwnX w base' v l := by
  refine ⟨h.1, h.2.imp id ?_⟩
  rintro ⟨g, cap, cur, e, h1, h2⟩
  exact ⟨g, cap, cur, e, Nat.le_trans hb h1, h2⟩
theorem OwnX.below {w w' : World} {base : Nat} {v : Value} {l : List Rn} (h : OwnX w base v l) (hb : Below w.heap.size w w') : OwnX w' base v l := by
  refine ⟨h.1, h.2.imp id ?_⟩
  rintro ⟨g, cap, cur, e, h1, h2, h3⟩
  exact ⟨g, cap, cur, e, h1, (hb.block g (Array.getElem?_eq_some_iff.1 h2).1).trans h2, h3⟩
/-- Where the row's own block isn't turned. -/
theorem OwnX.kept {w w' : World} {base : Nat} {v : Value} {l : List Rn} (h : OwnX w base v l) (hk : ∀ g, v.ownBlock = some g → w'.heap[g]? = w.heap[g]?) : OwnX w' base v l := by
  refine ⟨h.1, h.2.imp id ?_⟩
  rintro ⟨g, cap, cur, e, h1, h2, h3⟩
  exact ⟨g, cap, cur, e, h1, (hk g (by rw [e]; rfl)).trans h2, h3⟩
theorem OwnX.fits {w : World} {base n c : Nat} {A : Option Addr} {l : List Rn} (h : OwnX w base (.slice A n c) l) : n = l.length ∧ n ≤ c ∧ c ≤ maxLen := by
  rcases h.2 with ⟨e, h0⟩ | ⟨g, cap, cur, e, h1, h2, h3, h4, _⟩
  · injection e with e1 e2 e3
    subst e2 e3
    exact ⟨h0.symm, Nat.le_refl _, Nat.zero_le _⟩
  · injection e with e1 e2 e3
    subst e2 e3
    exact ⟨rfl, h3, h4⟩
theorem OwnX.reads {w : World} {base n c : Nat} {A : Option Addr} {l : List Rn} (h : OwnX w base (.slice A n c) l) : HoldsX w w.heap.size A n l := by
  have h0 := h
  refine ⟨h.fits.1.symm, fun hn => ?_⟩
  rcases h.2 with ⟨e, h0⟩ | ⟨g, cap, cur, e, h1, h2, h3, h4, _⟩
  · injection e with e1 e2 e3
    omega
  · injection e with e1 e2 e3
    subst e1
    subst e2
    subst e3
    refine ⟨g, 0, rfl, (Array.getElem?_eq_some_iff.1 h2).1, fun j hj k hk => ?_⟩
    have h5 : w.ownsRow base 33 2 (.slice (some ⟨g, 0, none⟩) l.length c) l.length (cellsX l) := h0
    rw [show 0 + j * 2 + k = j * 2 + k by omega, World.ownsRow.cellAt h5 (j * 2 + k) (by omega), cellsX_get l j k hj hk]

/-! ### A variable of one extent -/
def ldX (x : Value) : Sem Value := Instr.loadAt 33 x
theorem ldX_eq (x : Value) : Instr.loadAt 33 x = ldX x := rfl
def stX (x v : Value) : Sem Unit := Instr.storeAt 33 x v
theorem stX_eq (x v : Value) : Instr.storeAt 33 x v = stX x v := rfl
def VarX (w : World) (g : Nat) (x : Rn) : Prop := w.heap[g]? = some (.cells x.c 33 (0, 0))
theorem VarX.lt {w : World} {g : Nat} {x : Rn} (h : VarX w g x) : g < w.heap.size := (Array.getElem?_eq_some_iff.1 h).1
theorem VarX.keep {w w' : World} {g B : Nat} {x : Rn} (h : VarX w g x) (hb : Below B w w') (hg : g < B) : VarX w' g x := (hb.block _ hg).trans h
theorem VarX.new (w : World) (x : Rn) : VarX (w.alloc (.cells x.c 33)) w.heap.size x := heap_alloc_new w _
theorem VarX.alloc {w : World} {g : Nat} {x : Rn} (h : VarX w g x) (o : Obj) : VarX (w.alloc o) g x := (heap_alloc_old w o h.lt).trans h
theorem VarX.cells {w : World} {g : Nat} {x : Rn} (h : VarX w g x) :
    w.cell? ⟨g, 0, none⟩ = some (.int .i64 x.a) ∧ w.cell? ⟨g, 1, none⟩ = some (.string ⟨x.t.toArray⟩) :=
  ⟨cell_of_row w g 0 _ _ _ h, cell_of_row w g 1 _ _ _ h⟩
theorem VarX.load {w : World} {g : Nat} {x : Rn} (h : VarX w g x) : (ldX (.pointer (some ⟨g, 0, none⟩))).run Tryd.prog w = .ok (.agg x.c) w := by
  have hl : (loadVar 33 ⟨g, 0, none⟩).run Tryd.prog w = .ok (.agg x.c) w := run_loadVar_row w g _ _ x.c (0, 0) _ h Tryd.underlying33 rfl (by kernel_rfl)
  unfold ldX Instr.loadAt Instr.sureAddr
  simp [hl]
theorem run_stX_new (w : World) (x : Rn) :
    (stX (.pointer (some ⟨w.heap.size, 0, none⟩)) (.agg x.c)).run Tryd.prog (w.alloc (.cells #[.int .i64 0, .string ⟨#[]⟩] 33)) = .ok () (w.alloc (.cells x.c 33)) :=
  run_storeAt_new w 33 _ x.c (by kernel_rfl) rfl (by simp [Rn.c, Value.oneCell'])
/-- An extent of a slice, read whole. -/
theorem run_ldX_at {w : World} {B b off n : Nat} {l : List Rn} (h : HoldsX w B (some ⟨b, off, none⟩) n l) (j : Nat) (hj : j < l.length) (o : Nat) (ho : o = off + j * 2) :
    (ldX (.pointer (some ⟨b, o, none⟩))).run Tryd.prog w = .ok (.agg (l[j]).c) w := by
  obtain ⟨b', off', e, _, hc⟩ := h.2 (by rw [← h.1]; omega)
  injection e with e
  injection e with e1 e2
  subst e1 e2
  subst ho
  have hr : w.rangeAt b (off + j * 2) (l[j]).cl := fun k v hk => by
    have hk2 : k < 2 := (List.getElem?_eq_some_iff.1 hk).1
    rw [hc j hj k hk2, ← hk]
    simp [Rn.c, Rn.cl]
  exact run_loadAt_mid w b (off + j * 2) 33 (l[j]).cl _ hr Tryd.underlying33 rfl (by kernel_rfl)
theorem HoldsX.cell {w : World} {B b off n : Nat} {l : List Rn} (h : HoldsX w B (some ⟨b, off, none⟩) n l) (j : Nat) (hj : j < l.length) :
    w.cell? ⟨b, off + j * 2, none⟩ = some (.int .i64 (l[j]).a) ∧ w.cell? ⟨b, off + j * 2 + 1, none⟩ = some (.string ⟨(l[j]).t.toArray⟩) := by
  obtain ⟨b', off', e, _, hc⟩ := h.2 (by rw [← h.1]; omega)
  injection e with e
  injection e with e1 e2
  subst e1 e2
  exact ⟨hc j hj 0 (by omega), hc j hj 1 (by omega)⟩

/-- What turns the row of v alone, or makes it anew. -/
def Grows (w w' : World) (v v' : Value) : Prop := w.grownBy w' v.ownBlock ∧ ∀ k, v'.ownBlock = some k → v.ownBlock = some k ∨ w.heap.size ≤ k
theorem grown_of_below {w w' : World} (h : Below w.heap.size w w') (row : Option Nat) : w.grownBy w' row := ⟨h.os, h.tape, h.output, h.size, fun i hi _ => h.block i hi⟩
theorem grown_trans {w w' w'' : World} {row : Option Nat} (h : w.grownBy w' row) (h' : w'.grownBy w'' row) : w.grownBy w'' row :=
  ⟨h'.os.trans h.os, h'.tape.trans h.tape, h'.output.trans h.output, Nat.le_trans h.size h'.size, fun i hi hn => (h'.block i (Nat.lt_of_lt_of_le hi h.size) hn).trans (h.block i hi hn)⟩
theorem Grows.refl (w : World) (v : Value) : Grows w w v v := ⟨World.grownBy.refl _ _, fun _ h => .inl h⟩
theorem Grows.trans {w w' w'' : World} {v v' v'' : Value} (h : Grows w w' v v') (h' : Grows w' w'' v' v'') : Grows w w'' v v'' := by
  refine ⟨⟨h'.1.os.trans h.1.os, h'.1.tape.trans h.1.tape, h'.1.output.trans h.1.output, Nat.le_trans h.1.size h'.1.size, fun i hi hn => ?_⟩, fun k hk => ?_⟩
  · refine (h'.1.block i (Nat.lt_of_lt_of_le hi h.1.size) (fun e => ?_)).trans (h.1.block i hi hn)
    rcases h.2 i e.symm with e1 | e1
    · exact hn e1.symm
    · omega
  · rcases h'.2 k hk with e | e
    · exact h.2 k e
    · exact .inr (Nat.le_trans h.1.size e)
theorem Grows.below {w w' : World} {v v' : Value} {base : Nat} (h : Grows w w' v v') (hb : base ≤ w.heap.size) (hv : ∀ k, v.ownBlock = some k → base ≤ k) : Below base w w' := (Below.refl base w).grown h.1 hb hv

theorem run_appX (W : World) (base : Nat) (v : Value) (l : List Rn) (hown : OwnX W base v l) (x : Rn) (ty : TypeId) (hlen : l.length + 1 ≤ 4398046511104) (hbase : base ≤ W.heap.size) :
    ∃ v' W', (Builtin.append_ #[22, 22] ty #[v, .slice (some ⟨W.heap.size, 0, none⟩) 1 1]).run Tryd.prog (W.alloc (.cells #[.int .i64 x.a, .string ⟨x.t.toArray⟩] 33)) = .ok v' W' ∧ OwnX W' base v' (l ++ [x]) ∧ Grows W W' v v' := by
  obtain ⟨i0, hi0, hz0, hz1, hz2⟩ := info_parts info_x
  obtain ⟨v', W', hrun, h2, h3, _, h5⟩ := run_append_own_at (P := Tryd.prog) (w := W.alloc (.cells #[.int .i64 x.a, .string ⟨x.t.toArray⟩] 33)) base 22 ty 33 i0 _ 2 24 Tryd.underlying22 hi0 hz0 hz1 hz2 rfl (by decide)
    v l.length (cellsX l) (World.ownsRow.alloc hown _) ⟨W.heap.size, 0, none⟩ 1 1 x.cl rfl (fun j u hu => by
      have hadd : (⟨W.heap.size, 0, none⟩ : Addr).add j = ⟨W.heap.size, j, none⟩ := by unfold Addr.add; split <;> simp_all
      rw [hadd, cell_of_row _ _ j _ _ _ (heap_alloc_new W _)]
      rw [← hu]; simp [Rn.cl]) (by intro u hu; simp [Rn.cl] at hu; rcases hu with rfl | rfl <;> rfl) (by unfold maxLen; omega) (by omega) (by simp; omega)
  refine ⟨v', W', hrun, ?_, ?_, fun k hk => ?_⟩
  · unfold OwnX
    rw [cellsX_append, List.length_append, show cellsX [x] = x.cl by simp [cellsX]]
    exact h2
  · exact grown_trans (grown_of_below ((Below.refl _ W).alloc (Nat.le_refl _) _) _) h3
  · rcases h5 with e | e
    · rw [e] at hk; exact .inl hk
    · rw [e] at hk
      injection hk with hk
      simp at hk
      exact .inr (by omega)
theorem wpList_apprun {w : World} {ops : Array Oper} {rest : List Oper} {o : Oper} {a : Act} {Q : Exit → Act → World → Prop} (hgd : o.guard = none) (d x : Operand) (dT sT : TypeId)
    (ho : o.op = .call { callee := .builtin .append, args := #[d, x], argTypes := #[dT, sT] }) (vd vx : Value) (hd : a.eval d = vd) (hx : a.eval x = vx) (v : Value) (w' : World) (hrun : (Builtin.append_ #[dT, sT] o.type #[vd, vx]).run Tryd.prog w = .ok v w')
    (h : wpList Tryd.prog ops Q rest (a.put o.dst v) w') : wpList Tryd.prog ops Q (o :: rest) a w := by
  refine wpList_plain hgd fun K hK => ?_
  unfold Oper.wp execOp
  simp only [ho, resolve, invoke, builtin, Sem.run_bind, Sem.run_pure, Result.andThen_ok, List.map_toArray, List.map_cons, List.map_nil, hd, hx, hrun]
  exact hK _ _ h
theorem run_addX (w : World) (ty : TypeId) (base : Nat) (v : Value) (l : List Rn) (hown : OwnX w base v l) (B : Nat) (A : Option Addr) (m c : Nat) (ys : List Rn) (hr : HoldsX w B A m ys)
    (hlen : l.length + m ≤ 5864062014800) (hbase : base ≤ w.heap.size) :
    ∃ v' w', (Builtin.append_ #[22, 22] ty #[v, .slice A m c]).run Tryd.prog w = .ok v' w' ∧ OwnX w' base v' (l ++ ys) ∧ Grows w w' v v' := by
  obtain ⟨i0, hi, hz0, hz1, hz2⟩ := info_parts info_x
  obtain ⟨hl, hc⟩ := hr
  rcases A with _ | ad
  · have hm : m = 0 := by
      rcases Nat.eq_zero_or_pos m with h0 | h0
      · exact h0
      · obtain ⟨b, off, e, _⟩ := hc h0; cases e
    subst hm
    obtain rfl : ys = [] := List.eq_nil_of_length_eq_zero hl
    refine ⟨v, w, ?_, by simpa using hown, Grows.refl _ _⟩
    rcases hown.2 with ⟨rfl, _⟩ | ⟨g, cap, cur, rfl, _, _, hnc, _⟩
    · simp [Builtin.append_, run_underlying Tryd.underlying22, sizeOf, typeInfo, hi, Builtin.lenOf, Builtin.firstCells]
    · simp [Builtin.append_, run_underlying Tryd.underlying22, sizeOf, typeInfo, hi, Builtin.lenOf, Builtin.firstCells, hnc, storeCells]
  · have hcells : ∀ j u, (cellsX ys)[j]? = some u → w.cell? (ad.add j) = some u := by
      intro j u hu
      have hj : j < ys.length * 2 := by
        have := (List.getElem?_eq_some_iff.1 hu).1
        rwa [cellsX_len] at this
      obtain ⟨b, off, e, _, hcell⟩ := hc (by omega)
      injection e with e
      subst e
      have hadd : (⟨b, off, none⟩ : Addr).add j = ⟨b, off + j, none⟩ := by unfold Addr.add; split <;> simp_all
      rw [hadd, show off + j = off + j / 2 * 2 + j % 2 by omega, hcell (j / 2) (by omega) (j % 2) (by omega), ← cellsX_get ys (j / 2) (j % 2) (by omega) (by omega), show j / 2 * 2 + j % 2 = j by omega]
      exact hu
    have h1 : ∀ u ∈ cellsX ys, u.oneCell' = true := by
      intro u hu
      unfold cellsX at hu
      obtain ⟨x, _, hx⟩ := List.mem_flatMap.1 hu
      simp [Rn.cl] at hx
      rcases hx with rfl | rfl <;> rfl
    obtain ⟨v', w', hrun, h2, h3, _, h5⟩ := run_append_own_at (P := Tryd.prog) w base 22 ty 33 i0 _ 2 24 Tryd.underlying22 hi hz0 hz1 hz2 rfl (by decide) v l.length (cellsX l) hown ad m c (cellsX ys) (by rw [cellsX_len, hl]) hcells h1 (by unfold maxLen; omega) (by omega) hbase
    refine ⟨v', w', hrun, ?_, h3, fun k hk => ?_⟩
    · unfold OwnX
      rw [List.length_append, cellsX_append, hl]
      exact h2
    · rcases h5 with e | e
      · rw [e] at hk; exact .inl hk
      · rw [e] at hk
        injection hk with hk
        exact .inr (by omega)
theorem ownX_empty (w : World) : OwnX (w.alloc (.cells #[] 33)) w.heap.size (.slice (some ⟨w.heap.size, 0, none⟩) 0 0) [] :=
  ⟨rfl, .inr ⟨w.heap.size, 0, _, rfl, Nat.le_refl _, heap_alloc_new w _, Nat.zero_le _, by unfold maxLen; omega, rfl, rfl⟩⟩

theorem OwnX.form {W : World} {base n c : Nat} {A : Option Addr} {l : List Rn} (h : OwnX W base (.slice A n c) l) (hn : 0 < n) : ∃ g, A = some ⟨g, 0, none⟩ ∧ base ≤ g ∧ g < W.heap.size ∧ ∀ j, W.frozen? ⟨g, j, none⟩ = false := by
  rcases h.2 with ⟨e, h0⟩ | ⟨g, cap, cur, e, h1, h2, h3, h4, _⟩
  · injection e; omega
  · injection e with e1 e2 e3
    exact ⟨g, e1, h1, (Array.getElem?_eq_some_iff.1 h2).1, fun j => frozen_of_row _ _ _ _ _ h2⟩


structure Rn.rep (x : Rn) : Prop where
  i : -9223372036854775808 ≤ x.a ∧ x.a ≤ 9223372036854775807
  t : x.t.length ≤ maxLen
theorem text_size (t : List UInt8) : (⟨t.toArray⟩ : ByteArray).size = t.length := by simp [ByteArray.size]
theorem text_list (t : List UInt8) : (⟨t.toArray⟩ : ByteArray).toList = t := by rw [ByteArray.toList_eq]
theorem text_back (s : ByteArray) : (⟨s.data.toList.toArray⟩ : ByteArray) = s := by simp
end Go.Proofs.YtmbmjdogfjmlpaaDoor.Sp
