/- An inode in memory, and the small calls about it: whether it may be, whether it is none, whether two are the same, and a copy; the program's and the document's. -/
import Derived.Test.YtbppgihbnjnapaaInPlain
import Derived.Laws.ResultCell
import Derived.Deep.WholeRow
import Derived.Deep.MidRow
import Derived.WalkSpells
namespace Go.Proofs.Ytbppgihbnjnapaa.Ino
set_option maxRecDepth 20000
open Go.RowKit
open Go.Proofs.Ytbppgihbnjnapaa.Mem Go.Proofs.Ytbppgihbnjnapaa.Crc Go.Proofs.Ytbppgihbnjnapaa.Rec

/-! ### The operations on a whole inode, sealed -/
def ldI (x : Value) : Sem Value := Instr.loadAt 24 x
theorem ldI_eq (x : Value) : Instr.loadAt 24 x = ldI x := rfl
def stI (x v : Value) : Sem Unit := Instr.storeAt 24 x v
theorem stI_eq (x v : Value) : Instr.storeAt 24 x v = stI x v := rfl
theorem in0_c : in0.c none 0 = #[.int .i64 0, .int .i64 0, .int .i64 0, .bool false, .int .i64 0, .slice none 0 0] := rfl

attribute [local go_sem ↓] ldI_eq stI_eq
/-- A variable of an inode. -/
def VarI (w : World) (g : Nat) (x : In) (A : Option Addr) (c : Nat) : Prop := w.heap[g]? = some (.cells (x.c A c) 24 (0, 0))
theorem VarI.lt {w : World} {g : Nat} {x : In} {A : Option Addr} {c : Nat} (h : VarI w g x A c) : g < w.heap.size := (Array.getElem?_eq_some_iff.1 h).1
theorem VarI.keep {w w' : World} {g B : Nat} {x : In} {A : Option Addr} {c : Nat} (h : VarI w g x A c) (hb : Below B w w') (hg : g < B) : VarI w' g x A c := (hb.block _ hg).trans h
theorem VarI.new (w : World) (x : In) (A : Option Addr) (c : Nat) : VarI (w.alloc (.cells (x.c A c) 24)) w.heap.size x A c := heap_alloc_new w _
theorem VarI.alloc {w : World} {g : Nat} {x : In} {A : Option Addr} {c : Nat} (h : VarI w g x A c) (o : Obj) : VarI (w.alloc o) g x A c := (heap_alloc_old w o h.lt).trans h
theorem VarI.cells {w : World} {g : Nat} {x : In} {A : Option Addr} {c : Nat} (h : VarI w g x A c) :
    w.cell? ⟨g, 0, none⟩ = some (.int .i64 x.kind) ∧ w.cell? ⟨g, 1, none⟩ = some (.int .i64 x.links) ∧ w.cell? ⟨g, 2, none⟩ = some (.int .i64 x.size) ∧ w.cell? ⟨g, 3, none⟩ = some (.bool x.inl) ∧ w.cell? ⟨g, 4, none⟩ = some (.int .i64 x.attrs) ∧ w.cell? ⟨g, 5, none⟩ = some (.slice A x.body.length c) :=
  ⟨cell_of_row w g 0 _ _ _ h, cell_of_row w g 1 _ _ _ h, cell_of_row w g 2 _ _ _ h, cell_of_row w g 3 _ _ _ h, cell_of_row w g 4 _ _ _ h, cell_of_row w g 5 _ _ _ h⟩
theorem VarI.load {w : World} {g : Nat} {x : In} {A : Option Addr} {c : Nat} (h : VarI w g x A c) : (ldI (.pointer (some ⟨g, 0, none⟩))).run Try.prog w = .ok (.agg (x.c A c)) w := by
  have hl : (loadVar 24 ⟨g, 0, none⟩).run Try.prog w = .ok (.agg (x.c A c)) w := run_loadVar_row w g _ _ (x.c A c) (0, 0) _ h Try.underlying24 rfl (by kernel_rfl)
  unfold ldI Instr.loadAt Instr.sureAddr
  simp [hl]
theorem run_stI_new (w : World) (x : In) (A : Option Addr) (c : Nat) :
    (stI (.pointer (some ⟨w.heap.size, 0, none⟩)) (.agg (x.c A c))).run Try.prog (w.alloc (.cells #[.int .i64 0, .int .i64 0, .int .i64 0, .bool false, .int .i64 0, .slice none 0 0] 24)) = .ok () (w.alloc (.cells (x.c A c) 24)) :=
  run_storeAt_new w 24 _ (x.c A c) (by kernel_rfl) rfl (by simp [In.c, Value.oneCell'])
theorem setCells_other (g : Nat) : ∀ (vs : List Value) (o : Nat) (w : World) (k : Nat), k ≠ g → (w.setCells g o vs).heap[k]? = w.heap[k]?
  | [], _, _, _, _ => rfl
  | v :: vs, o, w, k, h => (setCells_other g vs (o + 1) (w.setCell ⟨g, o, none⟩ v) k h).trans (Below.heap_setCell _ _ _ _ (by simpa using h))
/-- A store of a whole inode into a variable of one's own. -/
theorem run_stI_at (W : World) (g : Nat) (x y : In) (A A' : Option Addr) (c c' : Nat) (hg : VarI W g y A' c') :
    ∃ W', (stI (.pointer (some ⟨g, 0, none⟩)) (.agg (x.c A c))).run Try.prog W = .ok () W' ∧ VarI W' g x A c ∧ (∀ B, B ≤ g → Below B W W') ∧ (∀ k, k ≠ g → W'.heap[k]? = W.heap[k]?) := by
  have hs := run_storeAt_mid (P := Try.prog) W g 0 24 (x.c A c) ?_ (by kernel_rfl) (by simp [In.c, Value.oneCell'])
  · refine ⟨_, hs, ?_, fun B hB => setCells_below g _ _ _ _ _ hB (Below.refl B W), fun k hk => setCells_other g _ _ _ k hk⟩
    show (W.setCells g 0 _).heap[g]? = _
    rw [setCells_heap g _ 0 W _ _ hg (by exact Nat.le_refl _)]
    rfl
  · intro j hj
    have : j < (y.c A' c').size := hj
    rw [Nat.zero_add]
    exact ⟨by rw [cell_of_row _ _ _ _ _ _ hg, Array.getElem?_eq_getElem this]; rfl, frozen_of_row _ _ _ _ _ hg⟩
theorem results_inode {fn : Func} {p u : Tmp} (h : fn.results = #[.cell p 24, .tmp u]) (tmps : Array Value) (w : World) (g : Nat) (x : In) (A : Option Addr) (c : Nat) (v : Value)
    (hp : tmps.getD p undef = .pointer (some ⟨g, 0, none⟩)) (hv : tmps.getD u undef = v) (hg : VarI w g x A c) :
    (results fn tmps).run Try.prog w = .ok (.tuple #[.agg (x.c A c), v]) w := by
  have hl : (loadVar 24 ⟨g, 0, none⟩).run Try.prog w = .ok (.agg (x.c A c)) w := run_loadVar_row w g _ _ (x.c A c) (0, 0) _ hg Try.underlying24 rfl (by kernel_rfl)
  rw [results_cell_tmp h, hp, hv]
  simp [asAddr, hl, Result.andThen]

/-- What an inode in memory is. -/
structure InAt (w : World) (B : Nat) (x : In) (A : Option Addr) (c : Nat) : Prop where
  holds : Holds w B A x.body.length x.body
  len : x.body.length ≤ c
  cap : c ≤ maxLen
theorem InAt.below {w w' : World} {B : Nat} {x : In} {A : Option Addr} {c : Nat} (h : InAt w B x A c) (hb : Below B w w') : InAt w' B x A c := ⟨h.holds.below hb, h.len, h.cap⟩
theorem InAt.more {w : World} {B B' : Nat} {x : In} {A : Option Addr} {c : Nat} (h : InAt w B x A c) (hB : B ≤ B') : InAt w B' x A c := ⟨h.holds.more hB, h.len, h.cap⟩
theorem InAt.zero (w : World) (B : Nat) : InAt w B in0 none 0 := ⟨⟨rfl, fun h => absurd h (by simp [in0])⟩, by simp [in0], by unfold maxLen; simp⟩
theorem InAt.own {w : World} {base : Nat} {x : In} {A : Option Addr} {c : Nat} (h : Owned w base (.slice A x.body.length c) x.body) : InAt w w.heap.size x A c := ⟨Owned.reads h, (Owned.fits h).1, (Owned.fits h).2⟩

theorem nil_iff (x : In) : x.nil = decide (x.kind = 0 ∧ x.links = 0 ∧ x.size = 0 ∧ x.inl = false ∧ x.attrs = 0 ∧ x.body.length = 0) := by
  obtain ⟨a, b, d, i, e, l⟩ := x
  unfold In.nil in0
  simp only [In.mk.injEq, List.length_eq_zero_iff]
theorem nil_no {x : In} (h : ¬ (x.kind = 0 ∧ x.links = 0 ∧ x.size = 0 ∧ x.inl = false ∧ x.attrs = 0 ∧ x.body.length = 0)) : x.nil = false := by rw [nil_iff, decide_eq_false_iff_not]; exact h
theorem nil_yes {x : In} (h : x.kind = 0 ∧ x.links = 0 ∧ x.size = 0 ∧ x.inl = false ∧ x.attrs = 0 ∧ x.body.length = 0) : x.nil = true := by rw [nil_iff]; exact decide_eq_true h
theorem may_no {x : In} (h : ¬ (1 ≤ x.kind ∧ x.kind ≤ 3 ∧ 0 ≤ x.links ∧ x.links ≤ 100 ∧ 0 ≤ x.size ∧ x.size ≤ 65536 ∧ 0 ≤ x.attrs ∧ x.attrs ≤ 1023 ∧ x.body.length = 60 ∧ (x.inl = true → x.kind ≠ 2 ∧ x.size ≤ 60))) : x.may = false := by unfold In.may; rw [decide_eq_false_iff_not]; exact h
theorem may_yes {x : In} (h : 1 ≤ x.kind ∧ x.kind ≤ 3 ∧ 0 ≤ x.links ∧ x.links ≤ 100 ∧ 0 ≤ x.size ∧ x.size ≤ 65536 ∧ 0 ≤ x.attrs ∧ x.attrs ≤ 1023 ∧ x.body.length = 60 ∧ (x.inl = true → x.kind ≠ 2 ∧ x.size ≤ 60)) : x.may = true := by unfold In.may; exact decide_eq_true h

set_option maxRecDepth 100000 in
theorem nil_any (x : In) (A : Option Addr) (c : Nat) (w : World) :
    Calls Try.prog 19 #[.agg (x.c A c)] w fun e w' => e = .returned (.bool x.nil) ∧ Below w.heap.size w w' := by
  obtain ⟨C, hC⟩ : ∃ C, C = x.c A c := ⟨_, rfl⟩
  obtain ⟨W, hW⟩ : ∃ W, W = w.alloc (.cells C 24) := ⟨_, rfl⟩
  have hbw : Below w.heap.size w W := by rw [hW]; exact (Below.refl _ _).alloc (Nat.le_refl _) _
  have hv : VarI W w.heap.size x A c := by rw [hW, hC]; exact VarI.new w x A c
  obtain ⟨q0, q1, q2, q3, q4, q5⟩ := hv.cells
  rw [← hC]
  have HW := Lib.hid hW
  have HB := Lib.hid hbw; clear hbw hv hC
  obtain ⟨kind, links, size, inl, attrs, body⟩ := x
  simp only at q0 q1 q2 q3 q4 q5
  generalize hN : body.length = N at q5
  have HN := Lib.hid hN; clear hN
  rw [hW] at q0 q1 q2 q3 q4 q5
  clear hW
  go_enter Try.func19, Try.ntmps19
  rcases Decidable.em (kind = 0) with h0 | h0
  rotate_left
  · go_wp2
    go_ret
    exact ⟨by rw [nil_no (by have hn := HN.out; rintro ⟨e0, e1, e2, -, e4, e5⟩; simp only at e0 e1 e2 e4 e5; omega)]; rfl, HW.out ▸ HB.out⟩
  rcases Decidable.em (links = 0) with h1 | h1
  rotate_left
  · go_wp2
    go_ret
    exact ⟨by rw [nil_no (by have hn := HN.out; rintro ⟨e0, e1, e2, -, e4, e5⟩; simp only at e0 e1 e2 e4 e5; omega)]; rfl, HW.out ▸ HB.out⟩
  rcases Decidable.em (size = 0) with h2 | h2
  rotate_left
  · go_wp2
    go_ret
    exact ⟨by rw [nil_no (by have hn := HN.out; rintro ⟨e0, e1, e2, -, e4, e5⟩; simp only at e0 e1 e2 e4 e5; omega)]; rfl, HW.out ▸ HB.out⟩
  cases inl with
  | true =>
    go_wp2
    go_ret
    exact ⟨by rw [nil_no (by simp)]; rfl, HW.out ▸ HB.out⟩
  | false =>
    rcases Decidable.em (attrs = 0) with h4 | h4
    rotate_left
    · go_wp2
      go_ret
      exact ⟨by rw [nil_no (by have hn := HN.out; rintro ⟨e0, e1, e2, -, e4, e5⟩; simp only at e0 e1 e2 e4 e5; omega)]; rfl, HW.out ▸ HB.out⟩
    rcases Decidable.em (N = 0) with h5 | h5
    rotate_left
    · have h5' : ((N : Int) == 0) = false := beq_false_of_ne (by omega)
      go_wp2
      go_ret
      exact ⟨by rw [nil_no (by have hn := HN.out; rintro ⟨e0, e1, e2, -, e4, e5⟩; simp only at e0 e1 e2 e4 e5; omega)]; rfl, HW.out ▸ HB.out⟩
    go_wp2
    go_ret
    exact ⟨by rw [nil_yes ⟨h0, h1, h2, rfl, h4, HN.out.trans h5⟩]; rfl, HW.out ▸ HB.out⟩

set_option maxRecDepth 100000 in
theorem rnil_any (x : In) (A : Option Addr) (c : Nat) (w : World) :
    Calls Try.prog 17 #[.agg (x.c A c)] w fun e w' => e = .returned (.bool x.nil) ∧ Below w.heap.size w w' := by
  obtain ⟨C, hC⟩ : ∃ C, C = x.c A c := ⟨_, rfl⟩
  obtain ⟨W, hW⟩ : ∃ W, W = w.alloc (.cells C 24) := ⟨_, rfl⟩
  have hbw : Below w.heap.size w W := by rw [hW]; exact (Below.refl _ _).alloc (Nat.le_refl _) _
  have hv : VarI W w.heap.size x A c := by rw [hW, hC]; exact VarI.new w x A c
  obtain ⟨q0, q1, q2, q3, q4, q5⟩ := hv.cells
  rw [← hC]
  have HW := Lib.hid hW
  have HB := Lib.hid hbw; clear hbw hv hC
  obtain ⟨kind, links, size, inl, attrs, body⟩ := x
  simp only at q0 q1 q2 q3 q4 q5
  generalize hN : body.length = N at q5
  have HN := Lib.hid hN; clear hN
  rw [hW] at q0 q1 q2 q3 q4 q5
  clear hW
  go_enter Try.func17, Try.ntmps17
  rcases Decidable.em (kind = 0) with h0 | h0
  rotate_left
  · go_wp2
    go_ret
    exact ⟨by rw [nil_no (by have hn := HN.out; rintro ⟨e0, e1, e2, -, e4, e5⟩; simp only at e0 e1 e2 e4 e5; omega)]; rfl, HW.out ▸ HB.out⟩
  rcases Decidable.em (links = 0) with h1 | h1
  rotate_left
  · go_wp2
    go_ret
    exact ⟨by rw [nil_no (by have hn := HN.out; rintro ⟨e0, e1, e2, -, e4, e5⟩; simp only at e0 e1 e2 e4 e5; omega)]; rfl, HW.out ▸ HB.out⟩
  rcases Decidable.em (size = 0) with h2 | h2
  rotate_left
  · go_wp2
    go_ret
    exact ⟨by rw [nil_no (by have hn := HN.out; rintro ⟨e0, e1, e2, -, e4, e5⟩; simp only at e0 e1 e2 e4 e5; omega)]; rfl, HW.out ▸ HB.out⟩
  cases inl with
  | true =>
    go_wp2
    go_ret
    exact ⟨by rw [nil_no (by simp)]; rfl, HW.out ▸ HB.out⟩
  | false =>
    rcases Decidable.em (attrs = 0) with h4 | h4
    rotate_left
    · go_wp2
      go_ret
      exact ⟨by rw [nil_no (by have hn := HN.out; rintro ⟨e0, e1, e2, -, e4, e5⟩; simp only at e0 e1 e2 e4 e5; omega)]; rfl, HW.out ▸ HB.out⟩
    rcases Decidable.em (N = 0) with h5 | h5
    rotate_left
    · have h5' : ((N : Int) == 0) = false := beq_false_of_ne (by omega)
      go_wp2
      go_ret
      exact ⟨by rw [nil_no (by have hn := HN.out; rintro ⟨e0, e1, e2, -, e4, e5⟩; simp only at e0 e1 e2 e4 e5; omega)]; rfl, HW.out ▸ HB.out⟩
    go_wp2
    go_ret
    exact ⟨by rw [nil_yes ⟨h0, h1, h2, rfl, h4, HN.out.trans h5⟩]; rfl, HW.out ▸ HB.out⟩

theorem between_any (v a b : Int) (w : World) :
    Calls Try.prog 27 #[.int .i64 v, .int .i64 a, .int .i64 b] w fun e w' => e = .returned (.bool (decide (a ≤ v ∧ v ≤ b))) ∧ w = w' := by
  rcases Decidable.em (a ≤ v) with h | h
  · rcases Decidable.em (v ≤ b) with h' | h'
    · have hr : decide (a ≤ v ∧ v ≤ b) = true := decide_eq_true ⟨h, h'⟩
      rw [hr]; clear hr
      go_enter Try.func27, Try.ntmps27
      go_wp2
      go_ret
      exact ⟨rfl, rfl⟩
    · have hr : decide (a ≤ v ∧ v ≤ b) = false := decide_eq_false (fun e => h' e.2)
      rw [hr]; clear hr
      go_enter Try.func27, Try.ntmps27
      go_wp2
      go_ret
      exact ⟨rfl, rfl⟩
  · have hr : decide (a ≤ v ∧ v ≤ b) = false := decide_eq_false (fun e => h e.1)
    rw [hr]; clear hr
    go_enter Try.func27, Try.ntmps27
    go_wp2
    go_ret
    exact ⟨rfl, rfl⟩
theorem numbered_any (n : Int) (w : World) :
    Calls Try.prog 18 #[.int .i64 n] w fun e w' => e = .returned (.bool (decide (0 ≤ n ∧ n ≤ 1048576))) ∧ w = w' := by
  have hbt := between_any n 0 1048576 w
  generalize decide (0 ≤ n ∧ n ≤ 1048576) = b at hbt ⊢
  have HBT := Lib.hid hbt; clear hbt
  go_enter Try.func18, Try.ntmps18
  go_wp2_with fail
  with_reducible refine HBT.out.mono ?_
  rintro e w1 ⟨rfl, rfl⟩
  go_wp2
  go_ret
  exact ⟨rfl, rfl⟩

set_option maxRecDepth 100000 in
theorem may_any (x : In) (A : Option Addr) (c : Nat) (w : World) :
    Calls Try.prog 20 #[.agg (x.c A c)] w fun e w' => e = .returned (.bool x.may) ∧ Below w.heap.size w w' := by
  obtain ⟨C, hC⟩ : ∃ C, C = x.c A c := ⟨_, rfl⟩
  obtain ⟨W, hW⟩ : ∃ W, W = w.alloc (.cells C 24) := ⟨_, rfl⟩
  have hbw : Below w.heap.size w W := by rw [hW]; exact (Below.refl _ _).alloc (Nat.le_refl _) _
  have hv : VarI W w.heap.size x A c := by rw [hW, hC]; exact VarI.new w x A c
  obtain ⟨q0, q1, q2, q3, q4, q5⟩ := hv.cells
  rw [← hC]
  have HW := Lib.hid hW
  have HB := Lib.hid hbw; clear hbw hv hC
  obtain ⟨kind, links, size, inl, attrs, body⟩ := x
  simp only at q0 q1 q2 q3 q4 q5
  generalize hN : body.length = N at q5
  have HN := Lib.hid hN; clear hN
  rw [hW] at q0 q1 q2 q3 q4 q5
  clear hW
  go_enter Try.func20, Try.ntmps20
  cases inl with
  | false =>
    go_wp2_with fail
    with_reducible refine (between_any kind 1 3 _).mono ?_
    rintro e w1 ⟨rfl, rfl⟩
    rcases Decidable.em (1 ≤ kind ∧ kind ≤ 3) with k1 | k1
    rotate_left
    · rw [decide_eq_false k1]
      go_wp2
      go_ret
      exact ⟨by rw [may_no (by have hn := HN.out; rintro ⟨a1, a2, a3, a4, a5, a6, a7, a8, a9, a10⟩; simp only at a1 a2 a3 a4 a5 a6 a7 a8 a9; omega)]; rfl, HW.out ▸ HB.out⟩
    rw [decide_eq_true k1]
    have Hk1 := Lib.hid k1; clear k1
    go_wp2_with fail
    with_reducible refine (between_any links 0 100 _).mono ?_
    rintro e w1 ⟨rfl, rfl⟩
    rcases Decidable.em (0 ≤ links ∧ links ≤ 100) with k2 | k2
    rotate_left
    · rw [decide_eq_false k2]
      go_wp2
      go_ret
      exact ⟨by rw [may_no (by have hn := HN.out; rintro ⟨a1, a2, a3, a4, a5, a6, a7, a8, a9, a10⟩; simp only at a1 a2 a3 a4 a5 a6 a7 a8 a9; omega)]; rfl, HW.out ▸ HB.out⟩
    rw [decide_eq_true k2]
    have Hk2 := Lib.hid k2; clear k2
    go_wp2_with fail
    with_reducible refine (between_any size 0 65536 _).mono ?_
    rintro e w1 ⟨rfl, rfl⟩
    rcases Decidable.em (0 ≤ size ∧ size ≤ 65536) with k3 | k3
    rotate_left
    · rw [decide_eq_false k3]
      go_wp2
      go_ret
      exact ⟨by rw [may_no (by have hn := HN.out; rintro ⟨a1, a2, a3, a4, a5, a6, a7, a8, a9, a10⟩; simp only at a1 a2 a3 a4 a5 a6 a7 a8 a9; omega)]; rfl, HW.out ▸ HB.out⟩
    rw [decide_eq_true k3]
    have Hk3 := Lib.hid k3; clear k3
    go_wp2_with fail
    with_reducible refine (between_any attrs 0 1023 _).mono ?_
    rintro e w1 ⟨rfl, rfl⟩
    rcases Decidable.em (0 ≤ attrs ∧ attrs ≤ 1023) with k4 | k4
    rotate_left
    · rw [decide_eq_false k4]
      go_wp2
      go_ret
      exact ⟨by rw [may_no (by have hn := HN.out; rintro ⟨a1, a2, a3, a4, a5, a6, a7, a8, a9, a10⟩; simp only at a1 a2 a3 a4 a5 a6 a7 a8 a9; omega)]; rfl, HW.out ▸ HB.out⟩
    rw [decide_eq_true k4]
    have Hk4 := Lib.hid k4; clear k4
    rcases Decidable.em (N = 60) with k5 | k5
    rotate_left
    · have k5' : ((N : Int) == 60) = false := beq_false_of_ne (by omega)
      go_wp2
      go_ret
      exact ⟨by rw [may_no (by have hn := HN.out; rintro ⟨a1, a2, a3, a4, a5, a6, a7, a8, a9, a10⟩; simp only at a1 a2 a3 a4 a5 a6 a7 a8 a9; omega)]; rfl, HW.out ▸ HB.out⟩
    subst k5
    go_wp2
    go_ret
    exact ⟨by rw [may_yes ⟨Hk1.out.1, Hk1.out.2, Hk2.out.1, Hk2.out.2, Hk3.out.1, Hk3.out.2, Hk4.out.1, Hk4.out.2, HN.out, fun h => by simp at h⟩]; rfl, HW.out ▸ HB.out⟩
  | true =>
    rcases Decidable.em (kind = 2) with g1 | g1
    · go_wp2
      go_ret
      exact ⟨by rw [may_no (by have hn := HN.out; rintro ⟨a1, a2, a3, a4, a5, a6, a7, a8, a9, a10⟩; simp only at a1 a2 a3 a4 a5 a6 a7 a8 a9; exact (a10 rfl).1 g1)]; rfl, HW.out ▸ HB.out⟩
    rcases Decidable.em (60 < size) with g2 | g2
    · go_wp2
      go_ret
      exact ⟨by rw [may_no (by have hn := HN.out; rintro ⟨a1, a2, a3, a4, a5, a6, a7, a8, a9, a10⟩; simp only at a1 a2 a3 a4 a5 a6 a7 a8 a9; have := (a10 rfl).2; simp only at this; omega)]; rfl, HW.out ▸ HB.out⟩
    go_wp2_with fail
    with_reducible refine (between_any kind 1 3 _).mono ?_
    rintro e w1 ⟨rfl, rfl⟩
    rcases Decidable.em (1 ≤ kind ∧ kind ≤ 3) with k1 | k1
    rotate_left
    · rw [decide_eq_false k1]
      go_wp2
      go_ret
      exact ⟨by rw [may_no (by have hn := HN.out; rintro ⟨a1, a2, a3, a4, a5, a6, a7, a8, a9, a10⟩; simp only at a1 a2 a3 a4 a5 a6 a7 a8 a9; omega)]; rfl, HW.out ▸ HB.out⟩
    rw [decide_eq_true k1]
    have Hk1 := Lib.hid k1; clear k1
    go_wp2_with fail
    with_reducible refine (between_any links 0 100 _).mono ?_
    rintro e w1 ⟨rfl, rfl⟩
    rcases Decidable.em (0 ≤ links ∧ links ≤ 100) with k2 | k2
    rotate_left
    · rw [decide_eq_false k2]
      go_wp2
      go_ret
      exact ⟨by rw [may_no (by have hn := HN.out; rintro ⟨a1, a2, a3, a4, a5, a6, a7, a8, a9, a10⟩; simp only at a1 a2 a3 a4 a5 a6 a7 a8 a9; omega)]; rfl, HW.out ▸ HB.out⟩
    rw [decide_eq_true k2]
    have Hk2 := Lib.hid k2; clear k2
    go_wp2_with fail
    with_reducible refine (between_any size 0 65536 _).mono ?_
    rintro e w1 ⟨rfl, rfl⟩
    rcases Decidable.em (0 ≤ size ∧ size ≤ 65536) with k3 | k3
    rotate_left
    · rw [decide_eq_false k3]
      go_wp2
      go_ret
      exact ⟨by rw [may_no (by have hn := HN.out; rintro ⟨a1, a2, a3, a4, a5, a6, a7, a8, a9, a10⟩; simp only at a1 a2 a3 a4 a5 a6 a7 a8 a9; omega)]; rfl, HW.out ▸ HB.out⟩
    rw [decide_eq_true k3]
    have Hk3 := Lib.hid k3; clear k3
    go_wp2_with fail
    with_reducible refine (between_any attrs 0 1023 _).mono ?_
    rintro e w1 ⟨rfl, rfl⟩
    rcases Decidable.em (0 ≤ attrs ∧ attrs ≤ 1023) with k4 | k4
    rotate_left
    · rw [decide_eq_false k4]
      go_wp2
      go_ret
      exact ⟨by rw [may_no (by have hn := HN.out; rintro ⟨a1, a2, a3, a4, a5, a6, a7, a8, a9, a10⟩; simp only at a1 a2 a3 a4 a5 a6 a7 a8 a9; omega)]; rfl, HW.out ▸ HB.out⟩
    rw [decide_eq_true k4]
    have Hk4 := Lib.hid k4; clear k4
    rcases Decidable.em (N = 60) with k5 | k5
    rotate_left
    · have k5' : ((N : Int) == 60) = false := beq_false_of_ne (by omega)
      go_wp2
      go_ret
      exact ⟨by rw [may_no (by have hn := HN.out; rintro ⟨a1, a2, a3, a4, a5, a6, a7, a8, a9, a10⟩; simp only at a1 a2 a3 a4 a5 a6 a7 a8 a9; omega)]; rfl, HW.out ▸ HB.out⟩
    subst k5
    go_wp2
    go_ret
    exact ⟨by rw [may_yes ⟨Hk1.out.1, Hk1.out.2, Hk2.out.1, Hk2.out.2, Hk3.out.1, Hk3.out.2, Hk4.out.1, Hk4.out.2, HN.out, fun _ => ⟨g1, by show size ≤ 60; omega⟩⟩]; rfl, HW.out ▸ HB.out⟩

def chk (x : In) : Int := if x.may then 0 else 1
theorem chk_no {x : In} (h : x.may = false) : chk x = 1 := by unfold chk; rw [h]; rfl
theorem chk_yes {x : In} (h : x.may = true) : chk x = 0 := by unfold chk; rw [h]; rfl
set_option maxRecDepth 100000 in
theorem check_any (x : In) (A : Option Addr) (c : Nat) (w : World) :
    Calls Try.prog 12 #[.agg (x.c A c)] w fun e w' => e = .returned (.int .i64 (chk x)) ∧ Below w.heap.size w w' := by
  have l1 := (VarI.new w x A c).load
  have hb0 : Hid (Below w.heap.size w (w.alloc (.cells (x.c A c) 24))) := Lib.hid ((Below.refl _ _).alloc (Nat.le_refl _) _)
  go_enter Try.func12, Try.ntmps12
  go_wp2_with fail
  with_reducible refine (may_any x A c _).mono ?_
  rintro e w1 ⟨rfl, hb⟩
  have HB : Hid (Below w.heap.size w w1) := Lib.hid (hb0.out.trans (hb.mono hb0.out.size))
  clear hb l1
  cases hm : x.may with
  | true =>
    go_wp2
    go_ret
    exact ⟨by rw [chk_yes hm]; rfl, HB.out⟩
  | false =>
    go_wp2
    go_ret
    exact ⟨by rw [chk_no hm]; rfl, HB.out⟩

set_option maxRecDepth 100000 in
set_option maxHeartbeats 2000000 in
theorem rcheck_any (x : In) (A : Option Addr) (c : Nat) (w : World) :
    Calls Try.prog 13 #[.agg (x.c A c)] w fun e w' => e = .returned (.int .i64 (chk x)) ∧ Below w.heap.size w w' := by
  obtain ⟨C, hC⟩ : ∃ C, C = x.c A c := ⟨_, rfl⟩
  obtain ⟨W, hW⟩ : ∃ W, W = w.alloc (.cells C 24) := ⟨_, rfl⟩
  have hbw : Below w.heap.size w W := by rw [hW]; exact (Below.refl _ _).alloc (Nat.le_refl _) _
  have hv : VarI W w.heap.size x A c := by rw [hW, hC]; exact VarI.new w x A c
  obtain ⟨q0, q1, q2, q3, q4, q5⟩ := hv.cells
  rw [← hC]
  have HW := Lib.hid hW
  have HB := Lib.hid hbw; clear hbw hv hC
  obtain ⟨kind, links, size, inl, attrs, body⟩ := x
  simp only at q0 q1 q2 q3 q4 q5
  generalize hN : body.length = N at q5
  have HN := Lib.hid hN; clear hN
  rw [hW] at q0 q1 q2 q3 q4 q5
  clear hW
  go_enter Try.func13, Try.ntmps13
  rcases Decidable.em (1 ≤ kind) with k1 | k1
  rotate_left
  · go_wp2
    go_ret
    exact ⟨by rw [chk_no (may_no (by have hn := HN.out; rintro ⟨a1, a2, a3, a4, a5, a6, a7, a8, a9, a10⟩; simp only at a1 a2 a3 a4 a5 a6 a7 a8 a9; omega))]; rfl, HW.out ▸ HB.out⟩
  rcases Decidable.em (kind ≤ 3) with k2 | k2
  rotate_left
  · go_wp2
    go_ret
    exact ⟨by rw [chk_no (may_no (by have hn := HN.out; rintro ⟨a1, a2, a3, a4, a5, a6, a7, a8, a9, a10⟩; simp only at a1 a2 a3 a4 a5 a6 a7 a8 a9; omega))]; rfl, HW.out ▸ HB.out⟩
  rcases Decidable.em (0 ≤ links) with k3 | k3
  rotate_left
  · go_wp2
    go_ret
    exact ⟨by rw [chk_no (may_no (by have hn := HN.out; rintro ⟨a1, a2, a3, a4, a5, a6, a7, a8, a9, a10⟩; simp only at a1 a2 a3 a4 a5 a6 a7 a8 a9; omega))]; rfl, HW.out ▸ HB.out⟩
  rcases Decidable.em (links ≤ 100) with k4 | k4
  rotate_left
  · go_wp2
    go_ret
    exact ⟨by rw [chk_no (may_no (by have hn := HN.out; rintro ⟨a1, a2, a3, a4, a5, a6, a7, a8, a9, a10⟩; simp only at a1 a2 a3 a4 a5 a6 a7 a8 a9; omega))]; rfl, HW.out ▸ HB.out⟩
  rcases Decidable.em (0 ≤ size) with k5 | k5
  rotate_left
  · go_wp2
    go_ret
    exact ⟨by rw [chk_no (may_no (by have hn := HN.out; rintro ⟨a1, a2, a3, a4, a5, a6, a7, a8, a9, a10⟩; simp only at a1 a2 a3 a4 a5 a6 a7 a8 a9; omega))]; rfl, HW.out ▸ HB.out⟩
  rcases Decidable.em (size ≤ 65536) with k6 | k6
  rotate_left
  · go_wp2
    go_ret
    exact ⟨by rw [chk_no (may_no (by have hn := HN.out; rintro ⟨a1, a2, a3, a4, a5, a6, a7, a8, a9, a10⟩; simp only at a1 a2 a3 a4 a5 a6 a7 a8 a9; omega))]; rfl, HW.out ▸ HB.out⟩
  rcases Decidable.em (0 ≤ attrs) with k7 | k7
  rotate_left
  · go_wp2
    go_ret
    exact ⟨by rw [chk_no (may_no (by have hn := HN.out; rintro ⟨a1, a2, a3, a4, a5, a6, a7, a8, a9, a10⟩; simp only at a1 a2 a3 a4 a5 a6 a7 a8 a9; omega))]; rfl, HW.out ▸ HB.out⟩
  rcases Decidable.em (attrs < 1024) with k8 | k8
  rotate_left
  · go_wp2
    go_ret
    exact ⟨by rw [chk_no (may_no (by have hn := HN.out; rintro ⟨a1, a2, a3, a4, a5, a6, a7, a8, a9, a10⟩; simp only at a1 a2 a3 a4 a5 a6 a7 a8 a9; omega))]; rfl, HW.out ▸ HB.out⟩
  rcases Decidable.em (N = 60) with k9 | k9
  rotate_left
  · have k9' : ((N : Int) != 60) = true := bne_iff_ne.2 (by omega)
    go_wp2
    go_ret
    exact ⟨by rw [chk_no (may_no (by have hn := HN.out; rintro ⟨a1, a2, a3, a4, a5, a6, a7, a8, a9, a10⟩; simp only at a1 a2 a3 a4 a5 a6 a7 a8 a9; omega))]; rfl, HW.out ▸ HB.out⟩
  subst k9
  cases inl with
  | false =>
    go_wp2
    go_ret
    exact ⟨by rw [chk_yes (may_yes ⟨k1, k2, k3, k4, k5, k6, k7, by show attrs ≤ 1023; omega, HN.out, fun h => by simp at h⟩)]; rfl, HW.out ▸ HB.out⟩
  | true =>
    rcases Decidable.em (kind = 2) with g1 | g1
    · go_wp2
      go_ret
      exact ⟨by rw [chk_no (may_no (by have hn := HN.out; rintro ⟨a1, a2, a3, a4, a5, a6, a7, a8, a9, a10⟩; simp only at a1 a2 a3 a4 a5 a6 a7 a8 a9; exact (a10 rfl).1 g1))]; rfl, HW.out ▸ HB.out⟩
    rcases Decidable.em (60 < size) with g2 | g2
    · go_wp2
      go_ret
      exact ⟨by rw [chk_no (may_no (by have hn := HN.out; rintro ⟨a1, a2, a3, a4, a5, a6, a7, a8, a9, a10⟩; simp only at a1 a2 a3 a4 a5 a6 a7 a8 a9; have := (a10 rfl).2; simp only at this; omega))]; rfl, HW.out ▸ HB.out⟩
    go_wp2
    go_ret
    exact ⟨by rw [chk_yes (may_yes ⟨k1, k2, k3, k4, k5, k6, k7, by show attrs ≤ 1023; omega, HN.out, fun _ => ⟨g1, by show size ≤ 60; omega⟩⟩)]; rfl, HW.out ▸ HB.out⟩
end Go.Proofs.Ytbppgihbnjnapaa.Ino
