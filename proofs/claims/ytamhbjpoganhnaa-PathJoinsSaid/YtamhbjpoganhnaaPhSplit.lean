/- Split: the parts of a path. -/
import Derived.Test.YtamhbjpoganhnaaPhPieces
namespace Go.Proofs.Ytamhbjpoganhnaa.Ph
set_option maxRecDepth 20000
open Go Go.RowKit Go.Shelf
open Go.Proofs.Ytamhbjpoganhnaa.Lf Go.Proofs.Ytamhbjpoganhnaa.Mem Go.Proofs.Ytamhbjpoganhnaa.Reg
attribute [local go_sem] Oper.semAt_some

theorem results_cells3 {fn : Func} {a b c : Tmp} {ta tb tc : TypeId} (h : fn.results = #[.cell a ta, .cell b tb, .cell c tc]) (tmps : Array Value) (w : World) (ga gb gc : Nat) (x y z : Value)
    (pa : tmps.getD a undef = .pointer (some ⟨ga, 0, none⟩)) (pb : tmps.getD b undef = .pointer (some ⟨gb, 0, none⟩)) (pc : tmps.getD c undef = .pointer (some ⟨gc, 0, none⟩))
    (la : (loadVar ta ⟨ga, 0, none⟩).run Try.prog w = .ok x w) (lb : (loadVar tb ⟨gb, 0, none⟩).run Try.prog w = .ok y w) (lc : (loadVar tc ⟨gc, 0, none⟩).run Try.prog w = .ok z w) :
    (results fn tmps).run Try.prog w = .ok (.tuple #[x, y, z]) w := by
  have pa' : tmps[a]?.getD undef = .pointer (some ⟨ga, 0, none⟩) := by simpa using pa
  have pb' : tmps[b]?.getD undef = .pointer (some ⟨gb, 0, none⟩) := by simpa using pb
  have pc' : tmps[c]?.getD undef = .pointer (some ⟨gc, 0, none⟩) := by simpa using pc
  simp [results, h, pa', pb', pc', asAddr, la, lb, lc]
/-- What Split's answer is. -/
def Split3 (w : World) (r : List (List UInt8) × Bool × Int) (e : Ending) (w' : World) : Prop :=
  ∃ v, e = .returned (.tuple #[v, .bool r.2.1, .int .i64 r.2.2]) ∧ OwnC SK w' w.heap.size v r.1 ∧ Below w.heap.size w w'
theorem boxed_load (w : World) (g : Nat) (v : Value) (t : TypeId) (h : w.cell? ⟨g, 0, none⟩ = some v) (ha : t = 23 ∨ t = 4 ∨ t = 24) : (loadVar t ⟨g, 0, none⟩).run Try.prog w = .ok v w := by
  rcases ha with rfl | rfl | rfl <;> go_simp
theorem boxes3 (w : World) (a b c : Value) : (((w.alloc (.cells #[a] 23)).alloc (.cells #[b] 4)).alloc (.cells #[c] 24)).heap[w.heap.size]? = some (.cells #[a] 23 (0, 0)) ∧
    (((w.alloc (.cells #[a] 23)).alloc (.cells #[b] 4)).alloc (.cells #[c] 24)).heap[w.heap.size + 1]? = some (.cells #[b] 4 (0, 0)) ∧
    (((w.alloc (.cells #[a] 23)).alloc (.cells #[b] 4)).alloc (.cells #[c] 24)).heap[w.heap.size + 1 + 1]? = some (.cells #[c] 24 (0, 0)) ∧
    Below w.heap.size w (((w.alloc (.cells #[a] 23)).alloc (.cells #[b] 4)).alloc (.cells #[c] 24)) := by
  have z1 : (w.alloc (.cells #[a] 23)).heap.size = w.heap.size + 1 := by simp
  have z2 : ((w.alloc (.cells #[a] 23)).alloc (.cells #[b] 4)).heap.size = w.heap.size + 1 + 1 := by simp
  refine ⟨?_, ?_, ?_, ?_⟩
  · exact (Below.heap_alloc _ _ _ (by rw [z2]; omega)).trans ((Below.heap_alloc _ _ _ (by rw [z1]; omega)).trans (heap_alloc_new w _))
  · refine (Below.heap_alloc _ _ _ (by rw [z2]; omega)).trans ?_
    rw [← z1]
    exact heap_alloc_new _ _
  · rw [← z2]
    exact heap_alloc_new _ _
  · exact (((Below.refl _ w).alloc (Nat.le_refl _) _).alloc (by rw [z1]; omega) _).alloc (by rw [z2]; omega) _
theorem split_end {w W : World} {g : Nat} {fn : Func} {tmps : Array Value} {v : Value} {l : List (List UInt8)} {b : Bool} {k : Int} {a1 a2 a3 : Tmp} (h : fn.results = #[.cell a1 23, .cell a2 4, .cell a3 24])
    (pa : tmps.getD a1 undef = .pointer (some ⟨g, 0, none⟩)) (pb : tmps.getD a2 undef = .pointer (some ⟨g + 1, 0, none⟩)) (pc : tmps.getD a3 undef = .pointer (some ⟨g + 1 + 1, 0, none⟩))
    (ha : W.heap[g]? = some (.cells #[v] 23 (0, 0))) (hb : W.heap[g + 1]? = some (.cells #[.bool b] 4 (0, 0))) (hc : W.heap[g + 1 + 1]? = some (.cells #[.int .i64 k] 24 (0, 0)))
    (ho : OwnC SK W w.heap.size v l) (hbl : Below w.heap.size w W) : ∃ x, (results fn tmps).run Try.prog W = .ok x W ∧ Split3 w (l, b, k) (.returned x) W :=
  ⟨_, results_cells3 h _ _ g (g + 1) (g + 1 + 1) _ _ _ pa pb pc (boxed_load _ _ _ _ (cell_of_row _ _ 0 _ _ _ ha) (.inl rfl)) (boxed_load _ _ _ _ (cell_of_row _ _ 0 _ _ _ hb) (.inr (.inl rfl))) (boxed_load _ _ _ _ (cell_of_row _ _ 0 _ _ _ hc) (.inr (.inr rfl))), v, rfl, ho, hbl⟩
theorem split_ret {w W : World} {g : Nat} {tmps : Array Value} {v : Value} {l : List (List UInt8)} {b : Bool} {k : Int} {post : Ending → World → Prop} (HP : Hid (post = Split3 w (l, b, k)))
    (pa : tmps.getD 2 undef = .pointer (some ⟨g, 0, none⟩)) (pb : tmps.getD 3 undef = .pointer (some ⟨g + 1, 0, none⟩)) (pc : tmps.getD 4 undef = .pointer (some ⟨g + 1 + 1, 0, none⟩))
    (ha : W.heap[g]? = some (.cells #[v] 23 (0, 0))) (hb : W.heap[g + 1]? = some (.cells #[.bool b] 4 (0, 0))) (hc : W.heap[g + 1 + 1]? = some (.cells #[.int .i64 k] 24 (0, 0)))
    (ho : OwnC SK W w.heap.size v l) (hbl : Below w.heap.size w W) : bodyPost Try.prog Try.f9 post Exit.ret { tmps := tmps, defers := [] } W := by
  obtain ⟨x, hx, hs⟩ := split_end (fn := Try.f9) rfl pa pb pc ha hb hc ho hbl
  refine bodyPost_ret hx rfl ?_
  rw [HP.out]
  exact hs
set_option maxHeartbeats 1000000 in
theorem split_bad1 (p : List UInt8) (w : World) (hb : bad1 p = true) : Calls Try.prog 9 #[.string ⟨p.toArray⟩] w (Split3 w ([], false, 1)) := by
  have hP := fun W => prefix_any p W
  have hC := fun W => contains_any ⟨p.toArray⟩ 0 W
  unfold bad1 at hb
  have HC : Hid (∀ W, Calls Try.prog 17 #[.string ⟨p.toArray⟩, .string ⟨#[0]⟩] W fun e w' => e = .returned (.bool (p.contains 0)) ∧ w' = W) := Lib.hid hC
  clear hC
  generalize (p.take 1 == [47]) = a at *
  generalize p.contains 0 = b at *
  generalize (⟨p.toArray⟩ : ByteArray) = S at *
  have HP := Lib.hid hP; clear hP
  obtain ⟨post, hpost⟩ : ∃ post, post = Split3 w ([], false, 1) := ⟨_, rfl⟩
  rw [← hpost]
  have HPO := Lib.hid hpost; clear hpost
  cases a with
  | false =>
    clear hb
    go_enter Try.func9, Try.ntmps9
    go_wp2_with (with_reducible refine (HP.out _).mono ?_; rintro e w' ⟨rfl, rfl⟩)
    obtain ⟨k1, k2, k3, k4⟩ := boxes3 w (.slice none 0 0) (.bool false) (.int .i64 1)
    exact split_ret HPO rfl rfl rfl k1 k2 k3 (OwnC.nil SK _ _) k4
  | true =>
    have : b = true := by simpa using hb
    subst this
    clear hb
    go_enter Try.func9, Try.ntmps9
    go_wp2_with (first | (with_reducible refine (HP.out _).mono ?_; rintro e w' ⟨rfl, rfl⟩) | (with_reducible refine (HC.out _).mono ?_; rintro e w' ⟨rfl, rfl⟩))
    obtain ⟨k1, k2, k3, k4⟩ := boxes3 w (.slice none 0 0) (.bool false) (.int .i64 1)
    exact split_ret HPO rfl rfl rfl k1 k2 k3 (OwnC.nil SK _ _) k4
set_option maxHeartbeats 1000000 in
theorem split_long (p : List UInt8) (hp : p.length ≤ maxLen) (w : World) (hb : bad1 p = false) (hl : 256 < p.length) : Calls Try.prog 9 #[.string ⟨p.toArray⟩] w (Split3 w ([], false, 2)) := by
  unfold maxLen at hp
  have hP := fun W => prefix_any p W
  have hC := fun W => contains_any ⟨p.toArray⟩ 0 W
  unfold bad1 at hb
  have HC : Hid (∀ W, Calls Try.prog 17 #[.string ⟨p.toArray⟩, .string ⟨#[0]⟩] W fun e w' => e = .returned (.bool (p.contains 0)) ∧ w' = W) := Lib.hid hC
  clear hC
  have hsz : (⟨p.toArray⟩ : ByteArray).size = p.length := by simp [ByteArray.size]
  generalize (p.take 1 == [47]) = a at *
  generalize p.contains 0 = b at *
  generalize (⟨p.toArray⟩ : ByteArray) = S at *
  obtain ⟨rfl, rfl⟩ : a = true ∧ b = false := by
    cases a <;> cases b <;> simp at hb ⊢
  clear hb
  generalize p.length = n at *
  have hl2 : (256 : Int) < (n : Int) := by omega
  have HP := Lib.hid hP; clear hP
  obtain ⟨post, hpost⟩ : ∃ post, post = Split3 w ([], false, 2) := ⟨_, rfl⟩
  rw [← hpost]
  have HPO := Lib.hid hpost; clear hpost
  go_enter Try.func9, Try.ntmps9
  go_wp2_with (first | (with_reducible refine (HP.out _).mono ?_; rintro e w' ⟨rfl, rfl⟩) | (with_reducible refine (HC.out _).mono ?_; rintro e w' ⟨rfl, rfl⟩))
  obtain ⟨k1, k2, k3, k4⟩ := boxes3 w (.slice none 0 0) (.bool false) (.int .i64 2)
  exact split_ret HPO rfl rfl rfl k1 k2 k3 (OwnC.nil SK _ _) k4

/-- Between two rounds: the answer's boxes, the parts' and the last piece's. -/
structure Sp5 (W0 : World) (M : Nat) (s : List (List UInt8)) (W : World) : Prop where
  below : Below M W0 W
  r0 : W.heap[M]? = some (.cells #[.slice none 0 0] 23 (0, 0))
  r1 : W.heap[M + 1]? = some (.cells #[.bool false] 4 (0, 0))
  r2 : W.heap[M + 1 + 1]? = some (.cells #[.int .i64 0] 24 (0, 0))
  part : ∃ v, W.heap[M + 1 + 1 + 1]? = some (.cells #[v] 23 (0, 0)) ∧ OwnC SK W (M + 6) v (kept s)
  last : W.heap[M + 1 + 1 + 1 + 1]? = some (.cells #[.string ⟨(lastP s).toArray⟩] 9 (0, 0))
  fine : tooLong s = false
/-- A round has left: its piece is too long. -/
structure Sp5x (W0 : World) (M : Nat) (c : Code) (s : List (List UInt8)) (W : World) : Prop where
  ret : c = .ret
  below : Below M W0 W
  r0 : W.heap[M]? = some (.cells #[.slice none 0 0] 23 (0, 0))
  r1 : W.heap[M + 1]? = some (.cells #[.bool false] 4 (0, 0))
  r2 : W.heap[M + 1 + 1]? = some (.cells #[.int .i64 2] 24 (0, 0))
  long : tooLong s = true
theorem keep_cells {W W' : World} {row : Option Nat} (hg : W.grownBy W' row) (hr : ∀ r, row = some r → ∃ o : Obj, W.heap[r]? = some o ∧ o.isCells = false) {k : Nat} {cs : Array Value} {ty : TypeId} {z} (h : W.heap[k]? = some (.cells cs ty z)) : W'.heap[k]? = some (.cells cs ty z) := by
  refine (hg.block k (Array.getElem?_eq_some_iff.1 h).1 (fun e => ?_)).trans h
  obtain ⟨o, ho, hc⟩ := hr k e.symm
  rw [h] at ho
  injection ho with ho
  subst ho
  cases hc
theorem ownC_walks {W W' : World} {row : Option Nat} (hg : W.grownBy W' row) (hr : ∀ r, row = some r → ∃ o : Obj, W.heap[r]? = some o ∧ o.isCells = false) {base : Nat} {v : Value} {l : List (List UInt8)} (h : OwnC SK W base v l) : OwnC SK W' base v l := by
  refine ⟨h.1, h.2.imp id ?_⟩
  rintro ⟨g, cap, cur, e, h1, h2, h3⟩
  exact ⟨g, cap, cur, e, h1, keep_cells hg hr h2, h3⟩
theorem sp5_own (W0 : World) (M : Nat) (hM : M ≤ W0.heap.size) (B : Nat) (hB : M ≤ B) : OwnFrom B (Sp5 W0 M) := by
  intro s W W' row h hg hr
  have hr2 : ∀ r, row = some r → ∃ o : Obj, W.heap[r]? = some o ∧ o.isCells = false := fun r e => (hr r e).2
  obtain ⟨v, h1, h2⟩ := h.part
  exact ⟨h.below.grown hg (Nat.le_trans hM h.below.size) (fun k e => Nat.le_trans hB (hr k e).1), keep_cells hg hr2 h.r0, keep_cells hg hr2 h.r1, keep_cells hg hr2 h.r2, ⟨v, keep_cells hg hr2 h1, ownC_walks hg hr2 h2⟩, keep_cells hg hr2 h.last, h.fine⟩
theorem sp5x_own (W0 : World) (M : Nat) (hM : M ≤ W0.heap.size) (B : Nat) (hB : M ≤ B) (c : Code) : OwnFrom B (Sp5x W0 M c) := by
  intro s W W' row h hg hr
  have hr2 : ∀ r, row = some r → ∃ o : Obj, W.heap[r]? = some o ∧ o.isCells = false := fun r e => (hr r e).2
  exact ⟨h.ret, h.below.grown hg (Nat.le_trans hM h.below.size) (fun k e => Nat.le_trans hB (hr k e).1), keep_cells hg hr2 h.r0, keep_cells hg hr2 h.r1, keep_cells hg hr2 h.r2, h.long⟩
theorem kept_snoc (s : List (List UInt8)) (x : List UInt8) : kept (s ++ [x]) = if kp x then kept s ++ [x] else kept s := by
  unfold kept
  rw [List.filter_append]
  cases h : kp x <;> simp [h]
theorem last_snoc (s : List (List UInt8)) (x : List UInt8) : lastP (s ++ [x]) = x := by simp [lastP]
theorem long_snoc (s : List (List UInt8)) (x : List UInt8) : tooLong (s ++ [x]) = (tooLong s || decide (32 < x.length)) := by simp [tooLong]
theorem kept_len (s : List (List UInt8)) : (kept s).length ≤ s.length := List.length_filter_le _ _

theorem text_tl (a : List UInt8) : (⟨a.toArray⟩ : ByteArray).toList = a := by rw [ByteArray.toList_eq]
theorem round_apprun {n l : Nat} {w : World} {ops : Array Oper} {rest : List Oper} {o : Oper} {a : Act} {Q : Exit → Act → World → Prop} (hgd : o.guard = none) (d x : Operand) (dT sT : TypeId)
    (ho : o.op = .call { callee := .builtin .append, args := #[d, x], argTypes := #[dT, sT] }) (vd vx : Value) (hd : a.eval d = vd) (hx : a.eval x = vx) (v : Value) (w' : World) (hrun : (Builtin.append_ #[dT, sT] o.type #[vd, vx]).run Try.prog w = .ok v w')
    (h : wpListIn (Fence.wide.inRound l) n Try.prog ops Q rest (a.put o.dst v) w') : wpListIn (Fence.wide.inRound l) n Try.prog ops Q (o :: rest) a w := by
  refine wpListIn_plain hgd fun K hK => op_round (fun c e => by rw [ho] at e; cases e) ?_
  unfold Oper.wp execOp
  simp only [ho, resolve, invoke, builtin, Sem.run_bind, Sem.run_pure, Result.andThen_ok, List.map_toArray, List.map_cons, List.map_nil, hd, hx, hrun]
  exact hK _ _ h
theorem set_other (W : World) (k j : Nat) (v : Value) (h : j ≠ k) : (W.setCell ⟨k, 0, none⟩ v).heap[j]? = W.heap[j]? := Below.heap_setCell _ _ _ _ h
theorem sp5_skip {W0 W : World} {M B : Nat} {s : List (List UInt8)} {x : List UInt8} (h : Sp5 W0 M s W) (hk : kp x = false) (hx : x.length ≤ 32) :
    KeepsFrom B W (W.setCell ⟨M + 1 + 1 + 1 + 1, 0, none⟩ (.string ⟨x.toArray⟩)) ∧ True ∧ Sp5 W0 M (s ++ [x]) (W.setCell ⟨M + 1 + 1 + 1 + 1, 0, none⟩ (.string ⟨x.toArray⟩)) := by
  refine ⟨(KeepsOthers.setCell _ _ _).from _, trivial, ?_⟩
  obtain ⟨v, h1, h2⟩ := h.part
  have ho : OwnC SK (W.setCell ⟨M + 1 + 1 + 1 + 1, 0, none⟩ (.string ⟨x.toArray⟩)) (M + 6) v (kept s) := h2.kept fun g hg => set_other _ _ _ _ (by have := (h2.lt g hg).1; omega)
  refine ⟨h.below.setCell (p := ⟨M + 1 + 1 + 1 + 1, 0, none⟩) (by show M ≤ M + 1 + 1 + 1 + 1; omega) _, (set_other _ _ _ _ (by omega)).trans h.r0, (set_other _ _ _ _ (by omega)).trans h.r1, (set_other _ _ _ _ (by omega)).trans h.r2, ⟨v, (set_other _ _ _ _ (by omega)).trans h1, ?_⟩, ?_, ?_⟩
  · rw [kept_snoc, hk]; exact ho
  · rw [last_snoc]; exact heap_setCell_same W _ 0 _ _ _ h.last
  · rw [long_snoc, h.fine]; simp; omega
theorem sp5_take {W0 W W' : World} {M B : Nat} {s : List (List UInt8)} {x : List UInt8} {v v' : Value} (h : Sp5 W0 M s W) (h1 : W.heap[M + 1 + 1 + 1]? = some (.cells #[v] 23 (0, 0))) (h2 : OwnC SK W (M + 6) v (kept s)) (hM : M + 6 ≤ W.heap.size) (hk : kp x = true) (hx : x.length ≤ 32)
    (ho : OwnC SK W' (M + 6) v' (kept s ++ [x])) (hg : Grows W W' v v') :
    KeepsFrom B W ((W'.setCell ⟨M + 1 + 1 + 1, 0, none⟩ v').setCell ⟨M + 1 + 1 + 1 + 1, 0, none⟩ (.string ⟨x.toArray⟩)) ∧ True ∧ Sp5 W0 M (s ++ [x]) ((W'.setCell ⟨M + 1 + 1 + 1, 0, none⟩ v').setCell ⟨M + 1 + 1 + 1 + 1, 0, none⟩ (.string ⟨x.toArray⟩)) := by
  have hblk : ∀ k, k < M + 6 → W'.heap[k]? = W.heap[k]? := fun k hk => hg.1.block k (by omega) (fun e => by have := (h2.lt k e.symm).1; omega)
  refine ⟨(((KeepsOthers.of_grownBy hg.1 fun j o e hj => ?_).trans (KeepsOthers.setCell _ _ _)).trans (KeepsOthers.setCell _ _ _)).from _, trivial, ?_⟩
  · rcases h2.2 with ⟨rfl, _⟩ | ⟨g, cap, cur, rfl, _, hh, _⟩
    · cases e
    · injection e with e
      dsimp only at e
      subst e
      rw [hh] at hj
      injection hj with hj
      subst hj
      rfl
  have hbel : Below M W W' := hg.below (by omega) (fun k hk => by have := (h2.lt k hk).1; omega)
  have ho1 : OwnC SK (W'.setCell ⟨M + 1 + 1 + 1, 0, none⟩ v') (M + 6) v' (kept s ++ [x]) := ho.kept fun g hg => set_other _ _ _ _ (by have := (ho.lt g hg).1; omega)
  have ho2 : OwnC SK ((W'.setCell ⟨M + 1 + 1 + 1, 0, none⟩ v').setCell ⟨M + 1 + 1 + 1 + 1, 0, none⟩ (.string ⟨x.toArray⟩)) (M + 6) v' (kept s ++ [x]) := ho1.kept fun g hg => set_other _ _ _ _ (by have := (ho1.lt g hg).1; omega)
  have hs3 : (W'.setCell ⟨M + 1 + 1 + 1, 0, none⟩ v').heap[M + 1 + 1 + 1]? = some (.cells #[v'] 23 (0, 0)) := heap_setCell_same W' _ 0 _ _ _ ((hblk _ (by omega)).trans h1)
  have hs4 : (W'.setCell ⟨M + 1 + 1 + 1, 0, none⟩ v').heap[M + 1 + 1 + 1 + 1]? = some (.cells #[.string ⟨(lastP s).toArray⟩] 9 (0, 0)) := (set_other _ _ _ _ (by omega)).trans ((hblk _ (by omega)).trans h.last)
  refine ⟨((h.below.trans hbel).setCell (p := ⟨M + 1 + 1 + 1, 0, none⟩) (by show M ≤ M + 1 + 1 + 1; omega) _).setCell (p := ⟨M + 1 + 1 + 1 + 1, 0, none⟩) (by show M ≤ M + 1 + 1 + 1 + 1; omega) _, (set_other _ _ _ _ (by omega)).trans ((set_other _ _ _ _ (by omega)).trans ((hblk _ (by omega)).trans h.r0)), (set_other _ _ _ _ (by omega)).trans ((set_other _ _ _ _ (by omega)).trans ((hblk _ (by omega)).trans h.r1)), (set_other _ _ _ _ (by omega)).trans ((set_other _ _ _ _ (by omega)).trans ((hblk _ (by omega)).trans h.r2)), ⟨v', (set_other _ _ _ _ (by omega)).trans hs3, ?_⟩, ?_, ?_⟩
  · rw [kept_snoc, hk]; exact ho2
  · rw [last_snoc]; exact heap_setCell_same _ _ 0 _ _ _ hs4
  · rw [long_snoc, h.fine]; simp; omega
theorem sp5_long {W0 W : World} {M B : Nat} {s : List (List UInt8)} {x : List UInt8} (h : Sp5 W0 M s W) (hx : 32 < x.length) :
    KeepsFrom B W (((W.setCell ⟨M, 0, none⟩ (.slice none 0 0)).setCell ⟨M + 1, 0, none⟩ (.bool false)).setCell ⟨M + 1 + 1, 0, none⟩ (.int .i64 2)) ∧ Sp5x W0 M .ret (s ++ [x]) (((W.setCell ⟨M, 0, none⟩ (.slice none 0 0)).setCell ⟨M + 1, 0, none⟩ (.bool false)).setCell ⟨M + 1 + 1, 0, none⟩ (.int .i64 2)) := by
  refine ⟨(((KeepsOthers.setCell _ _ _).trans (KeepsOthers.setCell _ _ _)).trans (KeepsOthers.setCell _ _ _)).from _, ?_⟩
  have e0 : (W.setCell ⟨M, 0, none⟩ (.slice none 0 0)).heap[M]? = some (.cells #[.slice none 0 0] 23 (0, 0)) := heap_setCell_same W _ 0 _ _ _ h.r0
  have e1 : ((W.setCell ⟨M, 0, none⟩ (.slice none 0 0)).setCell ⟨M + 1, 0, none⟩ (.bool false)).heap[M + 1]? = some (.cells #[.bool false] 4 (0, 0)) := heap_setCell_same _ _ 0 _ _ _ ((set_other _ _ _ _ (by omega)).trans h.r1)
  refine ⟨rfl, ((h.below.setCell (p := ⟨M, 0, none⟩) (Nat.le_refl _) _).setCell (p := ⟨M + 1, 0, none⟩) (by show M ≤ M + 1; omega) _).setCell (p := ⟨M + 1 + 1, 0, none⟩) (by show M ≤ M + 1 + 1; omega) _, (set_other _ _ _ _ (by omega)).trans ((set_other _ _ _ _ (by omega)).trans e0), (set_other _ _ _ _ (by omega)).trans e1, ?_, ?_⟩
  · exact heap_setCell_same _ _ 0 _ _ _ ((set_other _ _ _ _ (by omega)).trans ((set_other _ _ _ _ (by omega)).trans h.r2))
  · rw [long_snoc]; simp; exact .inr hx

/-- A post that asks for no panic. -/
def noP (Q : Exit → Act → World → Prop) : Exit → Act → World → Prop
  | .panic _, _, _ => False
  | e, a, w => Q e a w
theorem wpIn_calm {n : Nat} {P : Program} {c : Code} {Q : Exit → Act → World → Prop} {a : Act} {w : World} (h : c.wp P (noP Q) a w) : c.wpIn Fence.wide n P Q a w :=
  wpIn_mono (wpIn_wide.2 h) fun e a w h => by cases e <;> first | exact h | exact h.elim

set_option maxRecDepth 100000 in
set_option maxHeartbeats 4000000 in
theorem split_loop (p : List UInt8) (w : World) (hb : bad1 p = false) (hl : p.length ≤ 256) : Calls Try.prog 9 #[.string ⟨p.toArray⟩] w
    (Split3 w (if tooLong (pcs (p.drop 1)) then ([], false, 2) else (kept (pcs (p.drop 1)), isDir (lastP (pcs (p.drop 1))), 0))) := by
  have hP := fun W => prefix_any p W
  have hC := fun W => contains_any ⟨p.toArray⟩ 0 W
  have hct : ∃ c t, p = c :: t := by
    cases p with
    | nil => cases hb
    | cons c t => exact ⟨c, t, rfl⟩
  obtain ⟨c, t, hpe⟩ := hct
  have hst : ∀ (n : Nat) (hn : 1 ≤ n) (Bs : Nat) (V : World), V.cell? ⟨Bs, 0, none⟩ = some (.string ⟨p.toArray⟩) → SeqStopsK Fence.wide n Try.prog 24 #[.pointer (some ⟨Bs, 0, none⟩)] pcV (fun _ _ => True) (fun ys => ys = pcs (p.drop 1)) (fun pre => pre <+: pcs (p.drop 1)) (pcs (p.drop 1)).length V := fun n hn Bs V hV => by
    have := pieces_stops n hn Bs c t (by rw [hpe] at hl; simp at hl; omega) V (by rw [← hpe]; exact hV)
    rw [hpe]
    exact this
  have hN : (pcs (p.drop 1)).length ≤ 257 := by
    have := pcs_len (p.drop 1)
    rw [List.length_drop] at this
    omega
  clear hpe c t
  unfold bad1 at hb
  have HC : Hid (∀ W, Calls Try.prog 17 #[.string ⟨p.toArray⟩, .string ⟨#[0]⟩] W fun e w' => e = .returned (.bool (p.contains 0)) ∧ w' = W) := Lib.hid hC
  clear hC
  have hsz : (⟨p.toArray⟩ : ByteArray).size = p.length := by simp [ByteArray.size]
  generalize pcs (p.drop 1) = ps at *
  generalize (p.take 1 == [47]) = a at *
  generalize p.contains 0 = b at *
  generalize (⟨p.toArray⟩ : ByteArray) = S at *
  obtain ⟨rfl, rfl⟩ : a = true ∧ b = false := by
    cases a <;> cases b <;> simp at hb ⊢
  clear hb
  generalize p.length = n at *
  have hl2 : ¬ (256 : Int) < (n : Int) := by omega
  have HP := Lib.hid hP; clear hP
  have HST := Lib.hid hst; clear hst
  obtain ⟨post, hpost⟩ : ∃ post, post = Split3 w (if tooLong ps then ([], false, 2) else (kept ps, isDir (lastP ps), 0)) := ⟨_, rfl⟩
  rw [← hpost]
  have HPO := Lib.hid hpost; clear hpost
  refine (callsIn_wide (n := 3)).1 ?_
  refine callsIn_of_wp_marks Try.func9 rfl trivial ?_ rfl
  simp only [Try.ntmps9, List.size_toArray, List.length_cons, List.length_nil, Nat.reduceAdd, Nat.reduceSub, Array.replicate_succ, Array.replicate_zero, List.push_toArray, List.append_toArray, List.nil_append, List.cons_append]
  gi_wp2_with (first | (refine ⟨trivial, ?_⟩; first | (refine (callsIn_wide (n := 2)).2 ((HP.out _).mono ?_); rintro e w' ⟨rfl, rfl⟩) | (refine (callsIn_wide (n := 2)).2 ((HC.out _).mono ?_); rintro e w' ⟨rfl, rfl⟩)))
  obtain ⟨k1, k2, k3, k4⟩ := boxes3 w (.slice none 0 0) (.bool false) (.int .i64 0)
  have z3 : (((w.alloc (.cells #[.slice none 0 0] 23)).alloc (.cells #[.bool false] 4)).alloc (.cells #[.int .i64 0] 24)).heap.size = w.heap.size + 3 := by simp
  generalize hW3 : (((w.alloc (.cells #[.slice none 0 0] 23)).alloc (.cells #[.bool false] 4)).alloc (.cells #[.int .i64 0] 24)) = W3 at k1 k2 k3 k4 z3 ⊢
  clear hW3
  have z4 : (W3.alloc (.cells #[.slice none 0 0] 23)).heap.size = w.heap.size + 4 := by simp [z3]
  have k5 : ((W3.alloc (.cells #[.slice none 0 0] 23)).alloc (.cells #[.string ⟨#[]⟩] 9)).heap[w.heap.size + 3]? = some (.cells #[.slice none 0 0] 23 (0, 0)) := by
    refine (Below.heap_alloc _ _ _ (by rw [z4]; omega)).trans ?_
    rw [← z3]
    exact heap_alloc_new _ _
  have k6 : ((W3.alloc (.cells #[.slice none 0 0] 23)).alloc (.cells #[.string ⟨#[]⟩] 9)).heap[w.heap.size + 4]? = some (.cells #[.string ⟨#[]⟩] 9 (0, 0)) := by
    rw [← z4]
    exact heap_alloc_new _ _
  have z5 : ((W3.alloc (.cells #[.slice none 0 0] 23)).alloc (.cells #[.string ⟨#[]⟩] 9)).heap.size = w.heap.size + 5 := by simp [z3]
  have b5 : Below W3.heap.size W3 ((W3.alloc (.cells #[.slice none 0 0] 23)).alloc (.cells #[.string ⟨#[]⟩] 9)) := ((Below.refl _ W3).alloc (Nat.le_refl _) _).alloc (by rw [z4, z3]; omega) _
  generalize hW5 : ((W3.alloc (.cells #[.slice none 0 0] 23)).alloc (.cells #[.string ⟨#[]⟩] 9)) = W5 at k5 k6 z5 b5 ⊢
  clear hW5
  refine ⟨trivial, (callsIn_wide (n := 2)).2 ((pieces_mk S W5).mono ?_)⟩
  rintro e W0 ⟨rfl, hW0⟩
  have b0 : Below W5.heap.size W5 W0 := hW0 ▸ (Below.refl _ W5).alloc (Nat.le_refl _) _
  have z0 : W0.heap.size = w.heap.size + 6 := by rw [hW0]; simp [z5]
  have k7 : W0.heap[w.heap.size + 5]? = some (.cells #[.string S] 9 (0, 0)) := by
    rw [hW0, ← z5]
    exact heap_alloc_new _ _
  have q0 := (b0.block _ (by omega)).trans ((b5.block _ (by omega)).trans k1)
  have q1 := (b0.block _ (by omega)).trans ((b5.block _ (by omega)).trans k2)
  have q2 := (b0.block _ (by omega)).trans ((b5.block _ (by omega)).trans k3)
  have q3 := (b0.block _ (by omega)).trans k5
  have q4 := (b0.block _ (by omega)).trans k6
  have hB : Below w.heap.size w W0 := k4.trans ((b5.mono (by omega)).trans (b0.mono (by omega)))
  rw [z5]
  clear b0 b5 k1 k2 k3 k4 k5 k6 z3 z4 z5 hW0
  have HB := Lib.hid hB; clear hB
  obtain ⟨M, hM⟩ : ∃ M, M = w.heap.size := ⟨_, rfl⟩
  rw [← hM] at q0 q1 q2 q3 q4 k7 z0 ⊢
  have h0 : Sp5 W0 M [] W0 := ⟨Below.refl _ _, q0, q1, q2, ⟨_, q3, OwnC.nil SK _ _⟩, q4, rfl⟩
  have H0 := Lib.hid h0; clear h0 q0 q1 q2 q3 q4
  have HM := Lib.hid hM; clear hM
  have hss := HST.out (3 - 1) (by omega) (M + 5) W0 (cell_of_row _ _ 0 _ _ _ k7)
  clear HST k7
  have HSS := Lib.hid hss; clear hss
  gi_wp2
  refine wpIn_rangeFunc_ownG (F := Fence.wide) (n := 3) rfl (by omega) (gf := 24) (lb := #[.pointer (some ⟨M + 5, 0, none⟩)]) rfl trivial (enters_of Try.func24 (by kernel_rfl) rfl)
    HSS.out (fun _ _ => trivial) (fun _ _ _ _ _ _ _ _ => trivial) (Below.refl _ _) (fun _ => rfl)
    (Sp5 W0 M) (fun cd => Sp5x W0 M cd) (sp5_own W0 M (by omega) _ (by omega)) (fun cd => sp5x_own W0 M (by omega) _ (by omega) cd) H0.out
    (fun x => { tmps := #[.string S, undef, .pointer (some ⟨M, 0, none⟩), .pointer (some ⟨M + 1, 0, none⟩), .pointer (some ⟨M + 1 + 1, 0, none⟩), .pointer (some ⟨M + 1 + 1 + 1, 0, none⟩), .pointer (some ⟨M + 1 + 1 + 1 + 1, 0, none⟩), .string ⟨x.toArray⟩, .string S, .bool true, .bool false, .bool false, .string S, .bool false, .bool false, .string S, .int .i64 (n : Int), .bool (decide ((256 : Int) < (n : Int))), .string S, .func (.func 24) #[] #[.pointer (some ⟨M + 5, 0, none⟩)], .string ⟨x.toArray⟩, undef, undef, undef, undef, undef, undef, undef, undef, undef, undef, undef, undef, undef, undef, undef, undef, undef, undef, undef, undef, undef, undef, undef, undef, undef], defers := [] }) ?assign ?body ?done ?stop
  case assign =>
    intro l x V K hK
    dsimp only [pcV]
    gi_wp2
    exact hK
  case body =>
    rintro l pre x W h hlen
    obtain ⟨v, h1, h2⟩ := h.part
    have hWs := h.below.size
    have s3 : W.cell? ⟨M + 1 + 1 + 1, 0, none⟩ = some v := cell_of_row W _ 0 _ _ _ h1
    have c0 : W.cell? ⟨M, 0, none⟩ = some (.slice none 0 0) := cell_of_row W _ 0 _ _ _ h.r0
    have c1 : W.cell? ⟨M + 1, 0, none⟩ = some (.bool false) := cell_of_row W _ 0 _ _ _ h.r1
    have c2 : W.cell? ⟨M + 1 + 1, 0, none⟩ = some (.int .i64 0) := cell_of_row W _ 0 _ _ _ h.r2
    have c4 : W.cell? ⟨M + 1 + 1 + 1 + 1, 0, none⟩ = some (.string ⟨(lastP pre).toArray⟩) := cell_of_row W _ 0 _ _ _ h.last
    have f0 : W.frozen? ⟨M, 0, none⟩ = false := frozen_of_row W _ 0 _ _ h.r0
    have f1 : W.frozen? ⟨M + 1, 0, none⟩ = false := frozen_of_row W _ 0 _ _ h.r1
    have f2 : W.frozen? ⟨M + 1 + 1, 0, none⟩ = false := frozen_of_row W _ 0 _ _ h.r2
    have f4 : W.frozen? ⟨M + 1 + 1 + 1 + 1, 0, none⟩ = false := frozen_of_row W _ 0 _ _ h.last
    have hxs : (⟨x.toArray⟩ : ByteArray).size = x.length := by simp [ByteArray.size]
    have e0 : (⟨x.toArray⟩ : ByteArray).toList = x := text_tl x
    have hkp : kp x = (!(x == []) && !(x == [46])) := rfl
    by_cases hlong : 32 < x.length
    · have hfin := sp5_long (B := M + 6) h hlong
      have HF := Lib.hid hfin; clear hfin
      have hlong' : (32 : Int) < (x.length : Int) := by omega
      clear h h1 h2 hkp e0
      generalize (⟨x.toArray⟩ : ByteArray) = X at *
      generalize (⟨(lastP pre).toArray⟩ : ByteArray) = X2 at *
      gi_wp2
      rw [z0]
      exact HF.out
    · have hlong' : ¬ (32 : Int) < (x.length : Int) := by omega
      cases hk : kp x with
      | false =>
        have hfin := sp5_skip (B := M + 6) h hk (by omega)
        have HF := Lib.hid hfin; clear hfin
        rw [hk] at hkp
        clear h h1 h2 hk
        by_cases hx0 : x = []
        · subst hx0
          clear hkp
          generalize (⟨([] : List UInt8).toArray⟩ : ByteArray) = X at *
          generalize (⟨(lastP pre).toArray⟩ : ByteArray) = X2 at *
          gi_wp2
          exact HF.out
        · have hx1 : x = [46] := by simpa [hx0] using hkp
          subst hx1
          clear hkp hx0
          generalize (⟨([46] : List UInt8).toArray⟩ : ByteArray) = X at *
          generalize (⟨(lastP pre).toArray⟩ : ByteArray) = X2 at *
          gi_wp2
          exact HF.out
      | true =>
        obtain ⟨v', W', hrun, ho, hg⟩ := run_appC skOk W (M + 6) v (kept pre) h2 x 23 #[.string ⟨x.toArray⟩] rfl (by have := kept_len pre; omega) (by omega)
        have hrun2 : (Builtin.append_ #[23, 23] 23 #[v, .slice (some ⟨W.heap.size, 0, none⟩) 1 1]).run Try.prog (W.alloc (.cells #[.string ⟨x.toArray⟩] 9)) = .ok v' W' := hrun
        have hfin := sp5_take (B := M + 6) h h1 h2 (by omega) hk (by omega) ho hg
        have HF := Lib.hid hfin; clear hfin
        have hblk : ∀ k, k < M + 6 → W'.heap[k]? = W.heap[k]? := fun k hk => hg.1.block k (by omega) (fun e => by have := (h2.lt k e.symm).1; omega)
        have s3' : W'.cell? ⟨M + 1 + 1 + 1, 0, none⟩ = some v := cell_of_row W' _ 0 _ _ _ ((hblk _ (by omega)).trans h1)
        have f3' : W'.frozen? ⟨M + 1 + 1 + 1, 0, none⟩ = false := frozen_of_row W' _ 0 _ _ ((hblk _ (by omega)).trans h1)
        have c4' : W'.cell? ⟨M + 1 + 1 + 1 + 1, 0, none⟩ = some (.string ⟨(lastP pre).toArray⟩) := cell_of_row W' _ 0 _ _ _ ((hblk _ (by omega)).trans h.last)
        have f4' : W'.frozen? ⟨M + 1 + 1 + 1 + 1, 0, none⟩ = false := frozen_of_row W' _ 0 _ _ ((hblk _ (by omega)).trans h.last)
        obtain ⟨A1, n1, q1⟩ := h2.shape
        obtain ⟨A2, n2, q2⟩ := ho.shape
        rw [hk] at hkp
        obtain ⟨hk0, hk1⟩ : ¬ x = [] ∧ ¬ x = [46] := by
          constructor
          · rintro rfl; cases hkp
          · rintro rfl; cases hkp
        have e1 : (⟨x.toArray⟩ : ByteArray).toList.isEmpty = false := by rw [e0]; cases x with | nil => exact absurd rfl hk0 | cons => rfl
        have e2 : ((⟨x.toArray⟩ : ByteArray).toList == [46]) = false := by rw [e0]; exact beq_false_of_ne hk1
        have e3 : ¬ (⟨x.toArray⟩ : ByteArray).toList = [] := by rw [e0]; exact hk0
        have e4 : ¬ (⟨x.toArray⟩ : ByteArray).toList = [46] := by rw [e0]; exact hk1
        clear e0
        clear h h1 h2 hk hkp hblk ho hg hk0 hk1 hrun
        generalize (⟨x.toArray⟩ : ByteArray) = X at *
        generalize (⟨(lastP pre).toArray⟩ : ByteArray) = X2 at *
        generalize (kept pre).length = L1 at *
        generalize (kept pre ++ [x]).length = L2 at *
        subst q1
        subst q2
        have HRUN := Lib.hid hrun2; clear hrun2
        gi_wp2_with (gi_at_builtin; refine round_apprun rfl _ _ 23 23 rfl _ _ rfl rfl _ W' HRUN.out ?_)
        exact HF.out
  case done =>
    rintro D ys V hD rfl h hK
    obtain ⟨v, h1, h2⟩ := h.part
    have hVs := h.below.size
    have s3 : V.cell? ⟨M + 1 + 1 + 1, 0, none⟩ = some v := cell_of_row V _ 0 _ _ _ h1
    have c0 : V.cell? ⟨M, 0, none⟩ = some (.slice none 0 0) := cell_of_row V _ 0 _ _ _ h.r0
    have c1 : V.cell? ⟨M + 1, 0, none⟩ = some (.bool false) := cell_of_row V _ 0 _ _ _ h.r1
    have c2 : V.cell? ⟨M + 1 + 1, 0, none⟩ = some (.int .i64 0) := cell_of_row V _ 0 _ _ _ h.r2
    have c4 : V.cell? ⟨M + 1 + 1 + 1 + 1, 0, none⟩ = some (.string ⟨(lastP ys).toArray⟩) := cell_of_row V _ 0 _ _ _ h.last
    have f0 : V.frozen? ⟨M, 0, none⟩ = false := frozen_of_row V _ 0 _ _ h.r0
    have f1 : V.frozen? ⟨M + 1, 0, none⟩ = false := frozen_of_row V _ 0 _ _ h.r1
    have f2 : V.frozen? ⟨M + 1 + 1, 0, none⟩ = false := frozen_of_row V _ 0 _ _ h.r2
    have hfin : ∀ b, b = isDir (lastP ys) → ∀ W' : World, W'.heap = (((V.setCell ⟨M, 0, none⟩ v).setCell ⟨M + 1, 0, none⟩ (.bool b)).setCell ⟨M + 1 + 1, 0, none⟩ (.int .i64 0)).heap → W'.os = V.os → W'.tape = V.tape → W'.output = V.output →
        W'.heap[D]? = some (.deferred (some [])) ∧ ∀ tmps : Array Value, tmps.getD 2 undef = .pointer (some ⟨M, 0, none⟩) → tmps.getD 3 undef = .pointer (some ⟨M + 1, 0, none⟩) → tmps.getD 4 undef = .pointer (some ⟨M + 1 + 1, 0, none⟩) →
        ∃ x, (results Try.f9 tmps).run Try.prog (W'.putObj D (.deferred none)) = .ok x (W'.putObj D (.deferred none)) ∧ post (.returned x) (W'.putObj D (.deferred none)) := by
      rintro b rfl W' hU u1 u2 u3
      have e0 : (V.setCell ⟨M, 0, none⟩ v).heap[M]? = some (.cells #[v] 23 (0, 0)) := heap_setCell_same V _ 0 _ _ _ h.r0
      have e1 : ((V.setCell ⟨M, 0, none⟩ v).setCell ⟨M + 1, 0, none⟩ (.bool (isDir (lastP ys)))).heap[M + 1]? = some (.cells #[.bool (isDir (lastP ys))] 4 (0, 0)) := heap_setCell_same _ _ 0 _ _ _ ((set_other _ _ _ _ (by omega)).trans h.r1)
      have e2 : W'.heap[M + 1 + 1]? = some (.cells #[.int .i64 0] 24 (0, 0)) := by
        rw [hU]; exact heap_setCell_same _ _ 0 _ _ _ ((set_other _ _ _ _ (by omega)).trans ((set_other _ _ _ _ (by omega)).trans h.r2))
      have e1' : W'.heap[M + 1]? = some (.cells #[.bool (isDir (lastP ys))] 4 (0, 0)) := by rw [hU]; exact (set_other _ _ _ _ (by omega)).trans e1
      have e0' : W'.heap[M]? = some (.cells #[v] 23 (0, 0)) := by rw [hU]; exact (set_other _ _ _ _ (by omega)).trans ((set_other _ _ _ _ (by omega)).trans e0)
      have eo : ∀ k, k ≠ M → k ≠ M + 1 → k ≠ M + 1 + 1 → W'.heap[k]? = V.heap[k]? := fun k n0 n1 n2 => by
        rw [hU]; exact (set_other _ _ _ _ n2).trans ((set_other _ _ _ _ n1).trans (set_other _ _ _ _ n0))
      have hsz : W'.heap.size = V.heap.size := by rw [hU]; simp [World.setCell]
      have hDD : W'.heap[D]? = some (.deferred (some [])) := (eo D (by omega) (by omega) (by omega)).trans hK
      refine ⟨hDD, fun tmps t2 t3 t4 => ?_⟩
      have hMw := HM.out
      have hbl : Below w.heap.size w W' := by
        have hVb : Below w.heap.size w V := HB.out.trans (hMw ▸ h.below)
        exact ⟨u1.trans hVb.os, u2.trans hVb.tape, u3.trans hVb.output, by rw [hsz]; exact hVb.size, fun k hk => (eo k (by omega) (by omega) (by omega)).trans (hVb.block k hk)⟩
      have ho : OwnC SK W' w.heap.size v (kept ys) := (h2.kept fun g hg => by
        have hlt := h2.lt g hg
        exact eo g (by omega) (by omega) (by omega)).mono (by omega)
      have hr : post = Split3 w (kept ys, isDir (lastP ys), 0) := by rw [HPO.out, h.fine]; rfl
      have hg' := grownBy_putObj' W' D (.deferred none)
      have hcl : ∀ r, some D = some r → ∃ o : Obj, W'.heap[r]? = some o ∧ o.isCells = false := fun r e => by cases e; exact ⟨_, hDD, rfl⟩
      rw [hr]
      exact split_end (fn := Try.f9) rfl t2 t3 t4 (keep_cells hg' hcl e0') (keep_cells hg' hcl e1') (keep_cells hg' hcl e2) (ownC_walks hg' hcl ho) (hbl.grown hg' hbl.size (fun k e => by cases e; omega))
    have htl : (⟨(lastP ys).toArray⟩ : ByteArray).toList = lastP ys := text_tl _
    obtain ⟨A1, n1, q1⟩ := h2.shape
    have HFIN := Lib.hid hfin; clear hfin
    clear h h1 h2 hK
    generalize hx : lastP ys = x at *
    generalize (⟨x.toArray⟩ : ByteArray) = X at *
    generalize (kept ys).length = L1 at *
    subst q1
    clear hx
    rcases Decidable.em (x = []) with x0 | x0
    · subst x0
      have hf := HFIN.out true rfl
      have H1 := Lib.hid (fun W' a b c d => (hf W' a b c d).1)
      have H2 := Lib.hid (fun W' a b c d => (hf W' a b c d).2)
      clear hf HFIN
      gi_wp2
      refine wpIn_calm ?_
      go_region
      all_goals
        dsimp only [noP]
        gi_wp2
        refine ⟨by simp, .inl ⟨_, _, rfl, run_takeDeferred ?_, ?_⟩⟩
        · refine H1.out _ ?_ ?_ ?_ ?_ <;> rfl
        · refine H2.out _ ?_ ?_ ?_ ?_ _ ?_ ?_ ?_ <;> rfl
    have t0 : X.toList.isEmpty = false := by rw [htl]; cases x with | nil => exact absurd rfl x0 | cons => rfl
    have t0' : ¬ X.toList = [] := by rw [htl]; exact x0
    rcases Decidable.em (x = [46]) with x1 | x1
    · subst x1
      have hf := HFIN.out true rfl
      have H1 := Lib.hid (fun W' a b c d => (hf W' a b c d).1)
      have H2 := Lib.hid (fun W' a b c d => (hf W' a b c d).2)
      clear hf HFIN x0
      gi_wp2
      refine wpIn_calm ?_
      go_region
      all_goals
        dsimp only [noP]
        gi_wp2
        refine ⟨by simp, .inl ⟨_, _, rfl, run_takeDeferred ?_, ?_⟩⟩
        · refine H1.out _ ?_ ?_ ?_ ?_ <;> rfl
        · refine H2.out _ ?_ ?_ ?_ ?_ _ ?_ ?_ ?_ <;> rfl
    have t1 : (X.toList == [46]) = false := by rw [htl]; exact beq_false_of_ne x1
    have t1' : ¬ X.toList = [46] := by rw [htl]; exact x1
    rcases Decidable.em (x = [46, 46]) with x2 | x2
    · subst x2
      have hf := HFIN.out true rfl
      have H1 := Lib.hid (fun W' a b c d => (hf W' a b c d).1)
      have H2 := Lib.hid (fun W' a b c d => (hf W' a b c d).2)
      clear hf HFIN x0 x1
      gi_wp2
      refine wpIn_calm ?_
      go_region
      all_goals
        dsimp only [noP]
        gi_wp2
        refine ⟨by simp, .inl ⟨_, _, rfl, run_takeDeferred ?_, ?_⟩⟩
        · refine H1.out _ ?_ ?_ ?_ ?_ <;> rfl
        · refine H2.out _ ?_ ?_ ?_ ?_ _ ?_ ?_ ?_ <;> rfl
    have t2 : (X.toList == [46, 46]) = false := by rw [htl]; exact beq_false_of_ne x2
    have t2' : ¬ X.toList = [46, 46] := by rw [htl]; exact x2
    have hd : isDir x = false := by
      unfold isDir
      rw [beq_false_of_ne x0, beq_false_of_ne x1, beq_false_of_ne x2]
      rfl
    have hf := HFIN.out false hd.symm
    have H1 := Lib.hid (fun W' a b c d => (hf W' a b c d).1)
    have H2 := Lib.hid (fun W' a b c d => (hf W' a b c d).2)
    clear hf HFIN x0 x1 x2 hd htl
    gi_wp2
    refine wpIn_calm ?_
    go_region
    all_goals
      dsimp only [noP]
      gi_wp2
      refine ⟨by simp, .inl ⟨_, _, rfl, run_takeDeferred ?_, ?_⟩⟩
      · refine H1.out _ ?_ ?_ ?_ ?_ <;> rfl
      · refine H2.out _ ?_ ?_ ?_ ?_ _ ?_ ?_ ?_ <;> rfl
  case stop =>
    rintro D cc pre V hD hp h hK
    obtain rfl := h.ret
    have hMw := HM.out
    have hlong : tooLong ps = true := by
      obtain ⟨r, hr⟩ := hp
      have := h.long
      unfold tooLong at this ⊢
      rw [← hr, List.any_append, this]
      rfl
    have hVb : Below w.heap.size w V := HB.out.trans (hMw ▸ h.below)
    have hVs := h.below.size
    have hg' := grownBy_putObj' V D (.deferred none)
    have hcl : ∀ r, some D = some r → ∃ o : Obj, V.heap[r]? = some o ∧ o.isCells = false := fun r e => by cases e; exact ⟨_, hK, rfl⟩
    have hr : post = Split3 w ([], false, 2) := by rw [HPO.out, hlong]; rfl
    have hend : ∀ tmps : Array Value, tmps.getD 2 undef = .pointer (some ⟨M, 0, none⟩) → tmps.getD 3 undef = .pointer (some ⟨M + 1, 0, none⟩) → tmps.getD 4 undef = .pointer (some ⟨M + 1 + 1, 0, none⟩) →
        ∃ x, (results Try.f9 tmps).run Try.prog (V.putObj D (.deferred none)) = .ok x (V.putObj D (.deferred none)) ∧ post (.returned x) (V.putObj D (.deferred none)) := fun tmps t2 t3 t4 => by
      rw [hr]
      exact split_end (fn := Try.f9) rfl t2 t3 t4 (keep_cells hg' hcl h.r0) (keep_cells hg' hcl h.r1) (keep_cells hg' hcl h.r2) (OwnC.nil SK _ _) (hVb.grown hg' hVb.size (fun k e => by cases e; omega))
    have HEND := Lib.hid hend; clear hend
    clear h hp
    gi_wp2
    refine ⟨by simp, .inl ⟨_, _, rfl, run_takeDeferred hK, ?_⟩⟩
    exact HEND.out _ rfl rfl rfl
theorem split_any (p : List UInt8) (hp : p.length ≤ maxLen) (w : World) : Calls Try.prog 9 #[.string ⟨p.toArray⟩] w (Split3 w (splitP p)) := by
  unfold splitP
  cases hb : bad1 p with
  | true => exact split_bad1 p w hb
  | false =>
    rcases Nat.lt_or_ge 256 p.length with h | h
    · rw [if_neg (by simp), if_pos h]
      exact split_long p hp w hb h
    · rw [if_neg (by simp), if_neg (by omega)]
      exact split_loop p w hb h
end Go.Proofs.Ytamhbjpoganhnaa.Ph
