/- Extents in memory: a variable of one, a slice of them, a row of the call's own; the smallest calls about them, the program's and the document's. -/
import Derived.Test.YtkhenchhafmlmaaExPlain
import Derived.Test.YtkhenchhafmlmaaRcMem
import Derived.Laws.ResultCell
import Derived.Deep.WholeRow
import Derived.Deep.MidRow
import Derived.WalkSpells
namespace Go.Proofs.Ytkhenchhafmlmaa.Ex
set_option maxRecDepth 20000
open Go.RowKit
open Go.Proofs.Ytkhenchhafmlmaa.Mem Go.Proofs.Ytkhenchhafmlmaa.Crc Go.Proofs.Ytkhenchhafmlmaa.Rec

def X.c (x : X) : Array Value := #[.int .i64 x.a, .int .i64 x.s, .int .i64 x.n, .bool x.u]
def X.cl (x : X) : List Value := [.int .i64 x.a, .int .i64 x.s, .int .i64 x.n, .bool x.u]
def cellsX (l : List X) : List Value := l.flatMap X.cl
theorem cellsX_len : ∀ l : List X, (cellsX l).length = l.length * 4
  | [] => rfl
  | x :: l => by
    have := cellsX_len l
    unfold cellsX at this ⊢
    rw [List.flatMap_cons, List.length_append, this, List.length_cons]
    show 4 + _ = _
    omega
theorem cellsX_append (l m : List X) : cellsX (l ++ m) = cellsX l ++ cellsX m := by unfold cellsX; rw [List.flatMap_append]
theorem cellsX_get : ∀ (l : List X) (j k : Nat) (h : j < l.length), k < 4 → (cellsX l)[j * 4 + k]? = (l[j]).c[k]?
  | x :: l, 0, k, h, hk => by
    unfold cellsX
    rw [List.flatMap_cons, Nat.zero_mul, Nat.zero_add, List.getElem?_append_left (by exact hk)]
    simp [X.cl, X.c]
  | x :: l, j + 1, k, h, hk => by
    have := cellsX_get l j k (by simpa using h) hk
    unfold cellsX at this ⊢
    rw [List.flatMap_cons, List.getElem?_append_right (by show 4 ≤ _; omega)]
    show (List.flatMap X.cl l)[(j + 1) * 4 + k - 4]? = _
    rw [show (j + 1) * 4 + k - 4 = j * 4 + k by omega, this]
    rfl
theorem info_x : (Try.prog.info? 24).map (fun i => (i.zero, i.size, i.bytes)) = some (some (.agg #[.int .i64 0, .int .i64 0, .int .i64 0, .bool false]), 4, 32) := by kernel_rfl

/-- A slice reads as a list of extents, all below block B. -/
def HoldsX (w : World) (B : Nat) (A : Option Addr) (n : Nat) (l : List X) : Prop :=
  l.length = n ∧ (0 < n → ∃ b off, A = some ⟨b, off, none⟩ ∧ b < B ∧ ∀ j, (h : j < l.length) → ∀ k, k < 4 → w.cell? ⟨b, off + j * 4 + k, none⟩ = (l[j]).c[k]?)
theorem HoldsX.below {w w' : World} {B : Nat} {A : Option Addr} {n : Nat} {l : List X} (h : HoldsX w B A n l) (hb : Below B w w') : HoldsX w' B A n l :=
  ⟨h.1, fun hn => by
    obtain ⟨b, off, e, hl, hc⟩ := h.2 hn
    exact ⟨b, off, e, hl, fun j hj k hk => (hb.cell (p := ⟨b, off + j * 4 + k, none⟩) hl).trans (hc j hj k hk)⟩⟩
theorem HoldsX.more {w : World} {B B' : Nat} {A : Option Addr} {n : Nat} {l : List X} (h : HoldsX w B A n l) (hB : B ≤ B') : HoldsX w B' A n l :=
  ⟨h.1, fun hn => by
    obtain ⟨b, off, e, hl, hc⟩ := h.2 hn
    exact ⟨b, off, e, by omega, hc⟩⟩
theorem HoldsX.sub {w : World} {B b off n i m : Nat} {l : List X} (h : HoldsX w B (some ⟨b, off, none⟩) n l) (hm : i + m ≤ n) : HoldsX w B (some ⟨b, off + i * 4, none⟩) m ((l.drop i).take m) :=
  ⟨by rw [List.length_take, List.length_drop, h.1]; omega, fun h0 => by
    obtain ⟨b', off', e, hl, hc⟩ := h.2 (by omega)
    injection e with e
    injection e with e1 e2
    subst e1 e2
    refine ⟨_, _, rfl, hl, fun j hj k hk => ?_⟩
    have hj' : j < m := by rw [List.length_take] at hj; omega
    rw [List.getElem_take, List.getElem_drop, show off + i * 4 + j * 4 + k = off + (i + j) * 4 + k by omega]
    exact hc (i + j) (by rw [h.1]; omega) k hk⟩
theorem HoldsX.take {w : World} {B n m : Nat} {A : Option Addr} {l : List X} (h : HoldsX w B A n l) (hm : m ≤ n) : HoldsX w B A m (l.take m) :=
  ⟨by rw [List.length_take, h.1]; omega, fun h0 => by
    obtain ⟨b, off, e, hl, hc⟩ := h.2 (by omega)
    refine ⟨b, off, e, hl, fun j hj k hk => ?_⟩
    rw [List.getElem_take]
    exact hc j (by rw [List.length_take] at hj; omega) k hk⟩
theorem HoldsX.addr {w : World} {B n : Nat} {A : Option Addr} {l : List X} (h : HoldsX w B A n l) (h0 : 0 < n) : ∃ b off, A = some ⟨b, off, none⟩ ∧ b < B := by
  obtain ⟨b, off, e, hl, _⟩ := h.2 h0
  exact ⟨b, off, e, hl⟩
theorem HoldsX.nil (w : World) (B : Nat) (A : Option Addr) : HoldsX w B A 0 [] := ⟨rfl, fun h => absurd h (by omega)⟩

/-- A row of extents that the call made itself. -/
def OwnX (w : World) (base : Nat) (v : Value) (l : List X) : Prop := w.ownsRow base 24 4 v l.length (cellsX l)
theorem OwnX.nil (w : World) (base : Nat) : OwnX w base (.slice none 0 0) [] := ⟨rfl, .inl ⟨rfl, rfl⟩⟩
theorem OwnX.shape {w : World} {base : Nat} {v : Value} {l : List X} (h : OwnX w base v l) : ∃ A c, v = .slice A l.length c := by
  rcases h.2 with ⟨rfl, h0⟩ | ⟨g, cap, _, rfl, _⟩
  · exact ⟨none, 0, by rw [h0]⟩
  · exact ⟨_, _, rfl⟩
theorem OwnX.lt {w : World} {base : Nat} {v : Value} {l : List X} (h : OwnX w base v l) : ∀ k, v.ownBlock = some k → base ≤ k ∧ k < w.heap.size := World.ownsRow.lt h
theorem OwnX.mono {w : World} {base base' : Nat} {v : Value} {l : List X} (h : OwnX w base v l) (hb : base' ≤ base) : OwnX w base' v l := by
  refine ⟨h.1, h.2.imp id ?_⟩
  rintro ⟨g, cap, cur, e, h1, h2⟩
  exact ⟨g, cap, cur, e, Nat.le_trans hb h1, h2⟩
theorem OwnX.below {w w' : World} {base : Nat} {v : Value} {l : List X} (h : OwnX w base v l) (hb : Below w.heap.size w w') : OwnX w' base v l := by
  refine ⟨h.1, h.2.imp id ?_⟩
  rintro ⟨g, cap, cur, e, h1, h2, h3⟩
  exact ⟨g, cap, cur, e, h1, (hb.block g (Array.getElem?_eq_some_iff.1 h2).1).trans h2, h3⟩
/-- Where the row's own block isn't turned. -/
theorem OwnX.kept {w w' : World} {base : Nat} {v : Value} {l : List X} (h : OwnX w base v l) (hk : ∀ g, v.ownBlock = some g → w'.heap[g]? = w.heap[g]?) : OwnX w' base v l := by
  refine ⟨h.1, h.2.imp id ?_⟩
  rintro ⟨g, cap, cur, e, h1, h2, h3⟩
  exact ⟨g, cap, cur, e, h1, (hk g (by rw [e]; rfl)).trans h2, h3⟩
theorem OwnX.fits {w : World} {base n c : Nat} {A : Option Addr} {l : List X} (h : OwnX w base (.slice A n c) l) : n = l.length ∧ n ≤ c ∧ c ≤ maxLen := by
  rcases h.2 with ⟨e, h0⟩ | ⟨g, cap, cur, e, h1, h2, h3, h4, _⟩
  · injection e with e1 e2 e3
    subst e2 e3
    exact ⟨h0.symm, Nat.le_refl _, Nat.zero_le _⟩
  · injection e with e1 e2 e3
    subst e2 e3
    exact ⟨rfl, h3, h4⟩
theorem OwnX.reads {w : World} {base n c : Nat} {A : Option Addr} {l : List X} (h : OwnX w base (.slice A n c) l) : HoldsX w w.heap.size A n l := by
  have h0 := h
  refine ⟨h.fits.1.symm, fun hn => ?_⟩
  rcases h.2 with ⟨e, h0⟩ | ⟨g, cap, cur, e, h1, h2, h3, h4, _⟩
  · injection e with e1 e2 e3
    omega
  · injection e with e1 e2 e3
    subst e1
    subst e2
    subst e3
    refine ⟨g, 0, rfl, (Array.getElem?_eq_some_iff.1 h2).1, fun j hj k hk => ?_⟩
    have h5 : w.ownsRow base 24 4 (.slice (some ⟨g, 0, none⟩) l.length c) l.length (cellsX l) := h0
    rw [show 0 + j * 4 + k = j * 4 + k by omega, World.ownsRow.cellAt h5 (j * 4 + k) (by omega), cellsX_get l j k hj hk]

/-! ### A variable of one extent -/
def ldX (x : Value) : Sem Value := Instr.loadAt 24 x
theorem ldX_eq (x : Value) : Instr.loadAt 24 x = ldX x := rfl
def stX (x v : Value) : Sem Unit := Instr.storeAt 24 x v
theorem stX_eq (x v : Value) : Instr.storeAt 24 x v = stX x v := rfl
def VarX (w : World) (g : Nat) (x : X) : Prop := w.heap[g]? = some (.cells x.c 24 (0, 0))
theorem VarX.lt {w : World} {g : Nat} {x : X} (h : VarX w g x) : g < w.heap.size := (Array.getElem?_eq_some_iff.1 h).1
theorem VarX.keep {w w' : World} {g B : Nat} {x : X} (h : VarX w g x) (hb : Below B w w') (hg : g < B) : VarX w' g x := (hb.block _ hg).trans h
theorem VarX.new (w : World) (x : X) : VarX (w.alloc (.cells x.c 24)) w.heap.size x := heap_alloc_new w _
theorem VarX.alloc {w : World} {g : Nat} {x : X} (h : VarX w g x) (o : Obj) : VarX (w.alloc o) g x := (heap_alloc_old w o h.lt).trans h
theorem VarX.cells {w : World} {g : Nat} {x : X} (h : VarX w g x) :
    w.cell? ⟨g, 0, none⟩ = some (.int .i64 x.a) ∧ w.cell? ⟨g, 1, none⟩ = some (.int .i64 x.s) ∧ w.cell? ⟨g, 2, none⟩ = some (.int .i64 x.n) ∧ w.cell? ⟨g, 3, none⟩ = some (.bool x.u) :=
  ⟨cell_of_row w g 0 _ _ _ h, cell_of_row w g 1 _ _ _ h, cell_of_row w g 2 _ _ _ h, cell_of_row w g 3 _ _ _ h⟩
theorem VarX.load {w : World} {g : Nat} {x : X} (h : VarX w g x) : (ldX (.pointer (some ⟨g, 0, none⟩))).run Try.prog w = .ok (.agg x.c) w := by
  have hl : (loadVar 24 ⟨g, 0, none⟩).run Try.prog w = .ok (.agg x.c) w := run_loadVar_row w g _ _ x.c (0, 0) _ h Try.underlying24 rfl (by kernel_rfl)
  unfold ldX Instr.loadAt Instr.sureAddr
  simp [hl]
theorem run_stX_new (w : World) (x : X) :
    (stX (.pointer (some ⟨w.heap.size, 0, none⟩)) (.agg x.c)).run Try.prog (w.alloc (.cells #[.int .i64 0, .int .i64 0, .int .i64 0, .bool false] 24)) = .ok () (w.alloc (.cells x.c 24)) :=
  run_storeAt_new w 24 _ x.c (by kernel_rfl) rfl (by simp [X.c, Value.oneCell'])
/-- An extent of a slice, read whole. -/
theorem run_ldX_at {w : World} {B b off n : Nat} {l : List X} (h : HoldsX w B (some ⟨b, off, none⟩) n l) (j : Nat) (hj : j < l.length) (o : Nat) (ho : o = off + j * 4) :
    (ldX (.pointer (some ⟨b, o, none⟩))).run Try.prog w = .ok (.agg (l[j]).c) w := by
  obtain ⟨b', off', e, _, hc⟩ := h.2 (by rw [← h.1]; omega)
  injection e with e
  injection e with e1 e2
  subst e1 e2
  subst ho
  have hr : w.rangeAt b (off + j * 4) (l[j]).cl := fun k v hk => by
    have hk4 : k < 4 := (List.getElem?_eq_some_iff.1 hk).1
    rw [hc j hj k hk4, ← hk]
    simp [X.c, X.cl]
  exact run_loadAt_mid w b (off + j * 4) 24 (l[j]).cl _ hr Try.underlying24 rfl (by kernel_rfl)
theorem HoldsX.cell {w : World} {B b off n : Nat} {l : List X} (h : HoldsX w B (some ⟨b, off, none⟩) n l) (j : Nat) (hj : j < l.length) :
    w.cell? ⟨b, off + j * 4, none⟩ = some (.int .i64 (l[j]).a) ∧ w.cell? ⟨b, off + j * 4 + 1, none⟩ = some (.int .i64 (l[j]).s) ∧ w.cell? ⟨b, off + j * 4 + 2, none⟩ = some (.int .i64 (l[j]).n) ∧ w.cell? ⟨b, off + j * 4 + 3, none⟩ = some (.bool (l[j]).u) := by
  obtain ⟨b', off', e, _, hc⟩ := h.2 (by rw [← h.1]; omega)
  injection e with e
  injection e with e1 e2
  subst e1 e2
  exact ⟨hc j hj 0 (by omega), hc j hj 1 (by omega), hc j hj 2 (by omega), hc j hj 3 (by omega)⟩

/-! ### The smallest calls -/
/-- What an int can be. -/
def i64 (v : Int) : Prop := -9223372036854775808 ≤ v ∧ v ≤ 9223372036854775807
structure X.rep (x : X) : Prop where
  a : i64 x.a
  s : i64 x.s
  n : i64 x.n
/-- Numbers that no sum carries over. -/
structure X.sm (x : X) : Prop where
  a : -1048576 ≤ x.a ∧ x.a ≤ 1048576
  s : -1048576 ≤ x.s ∧ x.s ≤ 1048576
  n : -1048576 ≤ x.n ∧ x.n ≤ 1048576
theorem sm_of_may {x : X} (h : x.may = true) : x.sm := by
  have := may_iff.1 h
  exact ⟨by omega, by omega, by omega⟩
theorem may_no {x : X} (h : ¬ (0 ≤ x.a ∧ 1 ≤ x.s ∧ 1 ≤ x.n ∧ x.a + x.n ≤ 256 ∧ x.s + x.n ≤ 1024)) : x.may = false := by unfold X.may; rw [decide_eq_false_iff_not]; exact h

set_option maxRecDepth 100000 in
theorem may_any (x : X) (hx : x.rep) (w : World) :
    Calls Try.prog 35 #[.agg x.c] w fun e w' => e = .returned (.bool (x.may)) ∧ Below w.heap.size w w' := by
  obtain ⟨C, hC⟩ : ∃ C, C = x.c := ⟨_, rfl⟩
  obtain ⟨W, hW⟩ : ∃ W, W = w.alloc (.cells C 24) := ⟨_, rfl⟩
  have hbw : Below w.heap.size w W := by rw [hW]; exact (Below.refl _ _).alloc (Nat.le_refl _) _
  have hv : VarX W w.heap.size x := by rw [hW, hC]; exact VarX.new w x
  obtain ⟨q0, q1, q2, q3⟩ := hv.cells
  rw [← hC]
  have HW := Lib.hid hW
  have HB := Lib.hid hbw; clear hbw hv hC
  obtain ⟨⟨xa1, xa2⟩, ⟨xs1, xs2⟩, ⟨xn1, xn2⟩⟩ := hx
  obtain ⟨a, s, n, u⟩ := x
  simp only at q0 q1 q2 q3 xa1 xa2 xs1 xs2 xn1 xn2
  rw [hW] at q0 q1 q2 q3
  clear hW
  go_enter Try.func35, Try.ntmps35
  rcases Decidable.em (0 ≤ a) with h0 | h0
  rotate_left
  · go_wp2
    go_ret
    exact ⟨by rw [may_no (by dsimp only; omega)]; rfl, HW.out ▸ HB.out⟩
  rcases Decidable.em (1 ≤ s) with h1 | h1
  rotate_left
  · go_wp2
    go_ret
    exact ⟨by rw [may_no (by dsimp only; omega)]; rfl, HW.out ▸ HB.out⟩
  rcases Decidable.em (1 ≤ n) with h2 | h2
  rotate_left
  · go_wp2
    go_ret
    exact ⟨by rw [may_no (by dsimp only; omega)]; rfl, HW.out ▸ HB.out⟩
  rcases Decidable.em (n ≤ 256 - a) with h3 | h3
  rotate_left
  · go_wp2
    go_ret
    exact ⟨by rw [may_no (by dsimp only; omega)]; rfl, HW.out ▸ HB.out⟩
  rcases Decidable.em (n ≤ 1024 - s) with h4 | h4
  rotate_left
  · go_wp2
    go_ret
    exact ⟨by rw [may_no (by dsimp only; omega)]; rfl, HW.out ▸ HB.out⟩
  go_wp2
  go_ret
  exact ⟨by rw [may_iff.2 (by dsimp only; omega)]; rfl, HW.out ▸ HB.out⟩

set_option maxRecDepth 100000 in
theorem rmay_any (x : X) (hx : x.rep) (w : World) :
    Calls Try.prog 39 #[.agg x.c] w fun e w' => e = .returned (.bool (x.may)) ∧ Below w.heap.size w w' := by
  obtain ⟨C, hC⟩ : ∃ C, C = x.c := ⟨_, rfl⟩
  obtain ⟨W, hW⟩ : ∃ W, W = w.alloc (.cells C 24) := ⟨_, rfl⟩
  have hbw : Below w.heap.size w W := by rw [hW]; exact (Below.refl _ _).alloc (Nat.le_refl _) _
  have hv : VarX W w.heap.size x := by rw [hW, hC]; exact VarX.new w x
  obtain ⟨q0, q1, q2, q3⟩ := hv.cells
  rw [← hC]
  have HW := Lib.hid hW
  have HB := Lib.hid hbw; clear hbw hv hC
  obtain ⟨⟨xa1, xa2⟩, ⟨xs1, xs2⟩, ⟨xn1, xn2⟩⟩ := hx
  obtain ⟨a, s, n, u⟩ := x
  simp only at q0 q1 q2 q3 xa1 xa2 xs1 xs2 xn1 xn2
  rw [hW] at q0 q1 q2 q3
  clear hW
  go_enter Try.func39, Try.ntmps39
  rcases Decidable.em (0 ≤ a) with h0 | h0
  rotate_left
  · go_wp2
    go_ret
    exact ⟨by rw [may_no (by dsimp only; omega)]; rfl, HW.out ▸ HB.out⟩
  rcases Decidable.em (1 ≤ s) with h1 | h1
  rotate_left
  · go_wp2
    go_ret
    exact ⟨by rw [may_no (by dsimp only; omega)]; rfl, HW.out ▸ HB.out⟩
  rcases Decidable.em (1 ≤ n) with h2 | h2
  rotate_left
  · go_wp2
    go_ret
    exact ⟨by rw [may_no (by dsimp only; omega)]; rfl, HW.out ▸ HB.out⟩
  rcases Decidable.em (n ≤ 256) with h3 | h3
  rotate_left
  · go_wp2
    go_ret
    exact ⟨by rw [may_no (by dsimp only; omega)]; rfl, HW.out ▸ HB.out⟩
  rcases Decidable.em (a ≤ 256 - n) with h4 | h4
  rotate_left
  · go_wp2
    go_ret
    exact ⟨by rw [may_no (by dsimp only; omega)]; rfl, HW.out ▸ HB.out⟩
  rcases Decidable.em (s ≤ 1024 - n) with h5 | h5
  rotate_left
  · go_wp2
    go_ret
    exact ⟨by rw [may_no (by dsimp only; omega)]; rfl, HW.out ▸ HB.out⟩
  go_wp2
  go_ret
  exact ⟨by rw [may_iff.2 (by dsimp only; omega)]; rfl, HW.out ▸ HB.out⟩


theorem goes_yes {x e : X} (h : e.a = x.a + x.n ∧ e.s = x.s + x.n ∧ e.u = x.u) : goes x e = true := decide_eq_true h
theorem goes_no {x e : X} (h : ¬ (e.a = x.a + x.n ∧ e.s = x.s + x.n ∧ e.u = x.u)) : goes x e = false := by unfold goes; rw [decide_eq_false_iff_not]; exact h
set_option maxRecDepth 100000 in
theorem goes_any (x e : X) (hx : x.sm) (w : World) :
    Calls Try.prog 62 #[.agg x.c, .agg e.c] w fun E w' => E = .returned (.bool (goes x e)) ∧ Below w.heap.size w w' := by
  obtain ⟨C, hC⟩ : ∃ C, C = x.c := ⟨_, rfl⟩
  obtain ⟨D, hD⟩ : ∃ D, D = e.c := ⟨_, rfl⟩
  obtain ⟨W, hW⟩ : ∃ W, W = (w.alloc (.cells C 24)).alloc (.cells D 24) := ⟨_, rfl⟩
  have z1 : (w.alloc (.cells C 24)).heap.size = w.heap.size + 1 := by simp
  have hbw : Below w.heap.size w W := by rw [hW]; exact ((Below.refl _ _).alloc (Nat.le_refl _) _).alloc (by omega) _
  have hv : VarX W w.heap.size x := by rw [hW, hC]; exact (VarX.new w x).alloc _
  have hu : VarX W (w.heap.size + 1) e := by rw [hW, hD, ← z1]; exact VarX.new _ e
  obtain ⟨q0, q1, q2, q3⟩ := hv.cells
  obtain ⟨p0, p1, p2, p3⟩ := hu.cells
  rw [← hC, ← hD]
  have HW := Lib.hid hW
  have HB := Lib.hid hbw; clear hbw hv hu hC hD z1
  obtain ⟨⟨xa1, xa2⟩, ⟨xs1, xs2⟩, ⟨xn1, xn2⟩⟩ := hx
  obtain ⟨a, s, n, u⟩ := x
  obtain ⟨a', s', n', u'⟩ := e
  simp only at q0 q1 q2 q3 p0 p1 p2 p3 xa1 xa2 xs1 xs2 xn1 xn2
  rw [hW] at q0 q1 q2 q3 p0 p1 p2 p3
  clear hW
  go_enter Try.func62, Try.ntmps62
  rcases Decidable.em (a' = a + n) with h0 | h0
  rotate_left
  · have k0 : (a' == a + n) = false := beq_false_of_ne h0
    go_wp2
    go_ret
    exact ⟨by rw [goes_no (by dsimp only; omega)]; rfl, HW.out ▸ HB.out⟩
  have k0 : (a' == a + n) = true := beq_iff_eq.2 h0
  rcases Decidable.em (s' = s + n) with h1 | h1
  rotate_left
  · have k1 : (s' == s + n) = false := beq_false_of_ne h1
    go_wp2
    go_ret
    exact ⟨by rw [goes_no (by dsimp only; omega)]; rfl, HW.out ▸ HB.out⟩
  have k1 : (s' == s + n) = true := beq_iff_eq.2 h1
  have H0 := Lib.hid h0; clear h0
  have H1 := Lib.hid h1; clear h1
  cases u <;> cases u'
  all_goals
    go_wp2
    go_ret
    refine ⟨?_, HW.out ▸ HB.out⟩
    have h0 := H0.out
    have h1 := H1.out
    first
      | (rw [goes_no (by simp)]; rfl)
      | (rw [goes_yes (by refine ⟨by dsimp only; omega, by dsimp only; omega, ?_⟩; rfl)]; rfl)

set_option maxRecDepth 100000 in
theorem rgoes_any (x e : X) (hx : x.sm) (w : World) :
    Calls Try.prog 42 #[.agg x.c, .agg e.c] w fun E w' => E = .returned (.bool (goes x e)) ∧ Below w.heap.size w w' := by
  obtain ⟨C, hC⟩ : ∃ C, C = x.c := ⟨_, rfl⟩
  obtain ⟨D, hD⟩ : ∃ D, D = e.c := ⟨_, rfl⟩
  obtain ⟨W, hW⟩ : ∃ W, W = (w.alloc (.cells C 24)).alloc (.cells D 24) := ⟨_, rfl⟩
  have z1 : (w.alloc (.cells C 24)).heap.size = w.heap.size + 1 := by simp
  have hbw : Below w.heap.size w W := by rw [hW]; exact ((Below.refl _ _).alloc (Nat.le_refl _) _).alloc (by omega) _
  have hv : VarX W w.heap.size x := by rw [hW, hC]; exact (VarX.new w x).alloc _
  have hu : VarX W (w.heap.size + 1) e := by rw [hW, hD, ← z1]; exact VarX.new _ e
  obtain ⟨q0, q1, q2, q3⟩ := hv.cells
  obtain ⟨p0, p1, p2, p3⟩ := hu.cells
  rw [← hC, ← hD]
  have HW := Lib.hid hW
  have HB := Lib.hid hbw; clear hbw hv hu hC hD z1
  obtain ⟨⟨xa1, xa2⟩, ⟨xs1, xs2⟩, ⟨xn1, xn2⟩⟩ := hx
  obtain ⟨a, s, n, u⟩ := x
  obtain ⟨a', s', n', u'⟩ := e
  simp only at q0 q1 q2 q3 p0 p1 p2 p3 xa1 xa2 xs1 xs2 xn1 xn2
  rw [hW] at q0 q1 q2 q3 p0 p1 p2 p3
  clear hW
  go_enter Try.func42, Try.ntmps42
  rcases Decidable.em (a + n = a') with h0 | h0
  rotate_left
  · have k0 : (a + n == a') = false := beq_false_of_ne h0
    go_wp2
    go_ret
    exact ⟨by rw [goes_no (by dsimp only; omega)]; rfl, HW.out ▸ HB.out⟩
  have k0 : (a + n == a') = true := beq_iff_eq.2 h0
  rcases Decidable.em (s + n = s') with h1 | h1
  rotate_left
  · have k1 : (s + n == s') = false := beq_false_of_ne h1
    go_wp2
    go_ret
    exact ⟨by rw [goes_no (by dsimp only; omega)]; rfl, HW.out ▸ HB.out⟩
  have k1 : (s + n == s') = true := beq_iff_eq.2 h1
  have H0 := Lib.hid h0; clear h0
  have H1 := Lib.hid h1; clear h1
  cases u <;> cases u'
  all_goals
    go_wp2
    go_ret
    refine ⟨?_, HW.out ▸ HB.out⟩
    have h0 := H0.out
    have h1 := H1.out
    first
      | (rw [goes_no (by simp)]; rfl)
      | (rw [goes_yes (by refine ⟨by dsimp only; omega, by dsimp only; omega, ?_⟩; rfl)]; rfl)

theorem meet_any (a n b m : Int) (h1 : i64 (a + n)) (h2 : i64 (b + m)) (w : World) :
    Calls Try.prog 36 #[.int .i64 a, .int .i64 n, .int .i64 b, .int .i64 m] w fun e w' => e = .returned (.bool (meet a n b m)) ∧ w = w' := by
  obtain ⟨h1a, h1b⟩ := h1
  obtain ⟨h2a, h2b⟩ := h2
  rcases Decidable.em (a < b + m) with g1 | g1
  · rcases Decidable.em (b < a + n) with g2 | g2
    · have hr : meet a n b m = true := decide_eq_true ⟨g1, g2⟩
      rw [hr]; clear hr
      go_enter Try.func36, Try.ntmps36
      go_wp2
      go_ret
      exact ⟨rfl, rfl⟩
    · have hr : meet a n b m = false := decide_eq_false (fun e => g2 e.2)
      rw [hr]; clear hr
      go_enter Try.func36, Try.ntmps36
      go_wp2
      go_ret
      exact ⟨rfl, rfl⟩
  · have hr : meet a n b m = false := decide_eq_false (fun e => g1 e.1)
    rw [hr]; clear hr
    go_enter Try.func36, Try.ntmps36
    go_wp2
    go_ret
    exact ⟨rfl, rfl⟩
theorem bounds_any (f t : Int) (w : World) :
    Calls Try.prog 43 #[.int .i64 f, .int .i64 t] w fun e w' => e = .returned (.bool (bnds f t)) ∧ w = w' := by
  rcases Decidable.em (0 ≤ f) with g1 | g1
  · rcases Decidable.em (f ≤ t) with g2 | g2
    · have hr : bnds f t = true := decide_eq_true ⟨g1, g2⟩
      rw [hr]; clear hr
      go_enter Try.func43, Try.ntmps43
      go_wp2
      go_ret
      exact ⟨rfl, rfl⟩
    · have hr : bnds f t = false := decide_eq_false (fun e => g2 e.2)
      rw [hr]; clear hr
      go_enter Try.func43, Try.ntmps43
      go_wp2
      go_ret
      exact ⟨rfl, rfl⟩
  · have hr : bnds f t = false := decide_eq_false (fun e => g1 e.1)
    rw [hr]; clear hr
    go_enter Try.func43, Try.ntmps43
    go_wp2
    go_ret
    exact ⟨rfl, rfl⟩
end Go.Proofs.Ytkhenchhafmlmaa.Ex
