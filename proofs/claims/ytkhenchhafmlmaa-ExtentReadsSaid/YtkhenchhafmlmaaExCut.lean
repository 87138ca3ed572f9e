/- Contracts of Cut and Mark. -/
import Derived.Test.YtkhenchhafmlmaaExParts
import Derived.Test.YtkhenchhafmlmaaExCuts
import Derived.Test.YtkhenchhafmlmaaExRight
import Derived.Test.YtkhenchhafmlmaaExConcat
namespace Go.Proofs.Ytkhenchhafmlmaa.Ex
set_option maxRecDepth 20000
open Go Go.RowKit Go.Shelf
open Go.Proofs.Ytkhenchhafmlmaa.Mem Go.Proofs.Ytkhenchhafmlmaa.Crc Go.Proofs.Ytkhenchhafmlmaa.Rec Go.Proofs.Ytkhenchhafmlmaa.Reg
attribute [local go_sem] Oper.semAt_some
attribute [local go_sem ↓] ldX_eq stX_eq

theorem round_apprun {n l : Nat} {w : World} {ops : Array Oper} {rest : List Oper} {o : Oper} {a : Act} {Q : Exit → Act → World → Prop} (hgd : o.guard = none) (d x : Operand) (dT sT : TypeId)
    (ho : o.op = .call { callee := .builtin .append, args := #[d, x], argTypes := #[dT, sT] }) (vd vx : Value) (hd : a.eval d = vd) (hx : a.eval x = vx) (v : Value) (w' : World) (hrun : (Builtin.append_ #[dT, sT] o.type #[vd, vx]).run Try.prog w = .ok v w')
    (h : wpListIn (Fence.wide.inRound l) n Try.prog ops Q rest (a.put o.dst v) w') : wpListIn (Fence.wide.inRound l) n Try.prog ops Q (o :: rest) a w := by
  refine wpListIn_plain hgd fun K hK => op_round (fun c e => by rw [ho] at e; cases e) ?_
  unfold Oper.wp execOp
  simp only [ho, resolve, invoke, builtin, Sem.run_bind, Sem.run_pure, Result.andThen_ok, List.map_toArray, List.map_cons, List.map_nil, hd, hx, hrun]
  exact hK _ _ h

/-! ### Spans -/
def spC : List (Int × Int) → List Value
  | [] => []
  | x :: l => .int .i64 x.1 :: .int .i64 x.2 :: spC l
theorem spC_append : ∀ l m, spC (l ++ m) = spC l ++ spC m
  | [], _ => rfl
  | x :: l, m => by simp [spC, spC_append l m]
theorem spC_len : ∀ l, (spC l).length = l.length * 2
  | [] => rfl
  | x :: l => by simp [spC, spC_len l]; omega
theorem spC_get : ∀ (l : List (Int × Int)) (j : Nat) (h : j < l.length), (spC l)[j * 2]? = some (.int .i64 (l[j]).1) ∧ (spC l)[j * 2 + 1]? = some (.int .i64 (l[j]).2)
  | y :: l, 0, h => ⟨rfl, rfl⟩
  | y :: l, j + 1, h => by
    have := spC_get l j (by simpa using h)
    rw [show (j + 1) * 2 = j * 2 + 2 by omega, show j * 2 + 2 + 1 = j * 2 + 1 + 2 by omega]
    simpa [spC] using this
theorem info_span : (Try.prog.info? 44).map (fun i => (i.zero, i.size, i.bytes)) = some (some (.agg #[.int .i64 0, .int .i64 0]), 2, 16) := by kernel_rfl
/-- A row of spans that the call made itself. -/
def OwnS (w : World) (base : Nat) (v : Value) (l : List (Int × Int)) : Prop := w.ownsRow base 44 2 v l.length (spC l)
theorem OwnS.nil (w : World) (base : Nat) : OwnS w base (.slice none 0 0) [] := ⟨rfl, .inl ⟨rfl, rfl⟩⟩
theorem OwnS.shape {w : World} {base : Nat} {v : Value} {l : List (Int × Int)} (h : OwnS w base v l) : ∃ A c, v = .slice A l.length c := by
  rcases h.2 with ⟨rfl, h0⟩ | ⟨g, cap, _, rfl, _⟩
  · exact ⟨none, 0, by rw [h0]⟩
  · exact ⟨_, _, rfl⟩
theorem OwnS.lt {w : World} {base : Nat} {v : Value} {l : List (Int × Int)} (h : OwnS w base v l) : ∀ k, v.ownBlock = some k → base ≤ k ∧ k < w.heap.size := World.ownsRow.lt h
theorem OwnS.mono {w : World} {base base' : Nat} {v : Value} {l : List (Int × Int)} (h : OwnS w base v l) (hb : base' ≤ base) : OwnS w base' v l := by
  refine ⟨h.1, h.2.imp id ?_⟩
  rintro ⟨g, cap, cur, e, h1, h2⟩
  exact ⟨g, cap, cur, e, Nat.le_trans hb h1, h2⟩
theorem OwnS.kept {w w' : World} {base : Nat} {v : Value} {l : List (Int × Int)} (h : OwnS w base v l) (hk : ∀ g, v.ownBlock = some g → w'.heap[g]? = w.heap[g]?) : OwnS w' base v l := by
  refine ⟨h.1, h.2.imp id ?_⟩
  rintro ⟨g, cap, cur, e, h1, h2, h3⟩
  exact ⟨g, cap, cur, e, h1, (hk g (by rw [e]; rfl)).trans h2, h3⟩
theorem OwnS.below {w w' : World} {base : Nat} {v : Value} {l : List (Int × Int)} (h : OwnS w base v l) (hb : Below w.heap.size w w') : OwnS w' base v l := h.kept fun g hg => hb.block g (h.lt g hg).2
theorem run_appS (W : World) (base : Nat) (v : Value) (l : List (Int × Int)) (hown : OwnS W base v l) (x : Int × Int) (ty : TypeId) (hlen : l.length ≤ 1048576) (hbase : base ≤ W.heap.size) :
    ∃ v' W', (Builtin.append_ #[34, 34] ty #[v, .slice (some ⟨W.heap.size, 0, none⟩) 1 1]).run Try.prog (W.alloc (.cells #[.int .i64 x.1, .int .i64 x.2] 44)) = .ok v' W' ∧ OwnS W' base v' (l ++ [x]) ∧ Grows W W' v v' := by
  obtain ⟨i0, hi0, hz0, hz1, hz2⟩ := info_parts info_span
  obtain ⟨v', W', hrun, h2, h3, _, h5⟩ := run_append_own_at (P := Try.prog) (w := W.alloc (.cells #[.int .i64 x.1, .int .i64 x.2] 44)) base 34 ty 44 i0 _ 2 16 Try.underlying34 hi0 hz0 hz1 hz2 rfl (by decide)
    v l.length (spC l) (World.ownsRow.alloc hown _) ⟨W.heap.size, 0, none⟩ 1 1 [.int .i64 x.1, .int .i64 x.2] rfl (fun j u hu => by
      have hadd : (⟨W.heap.size, 0, none⟩ : Addr).add j = ⟨W.heap.size, j, none⟩ := by unfold Addr.add; split <;> simp_all
      rw [hadd, cell_of_row _ _ j _ _ _ (heap_alloc_new W _)]
      simpa using hu) (by intro u hu; simp at hu; rcases hu with rfl | rfl <;> rfl) (by unfold maxLen; omega) (by omega) (by simp; omega)
  refine ⟨v', W', hrun, ?_, ?_, fun k hk => ?_⟩
  · unfold OwnS
    rw [spC_append, List.length_append, show spC [x] = [.int .i64 x.1, .int .i64 x.2] from rfl]
    exact h2
  · exact grown_trans (grown_of_below ((Below.refl _ W).alloc (Nat.le_refl _) _) _) h3
  · rcases h5 with e | e
    · rw [e] at hk; exact .inl hk
    · rw [e] at hk
      injection hk with hk
      simp at hk
      exact .inr (by omega)

/-- What Cut answers. -/
def CutOut (base : Nat) (l : List X) (s : List (Int × Int)) (er : Int) (w : World) : Ending → World → Prop := fun E w' => ∃ A1 c1 A2 c2, E = .returned (.tuple #[.slice A1 l.length c1, .slice A2 s.length c2, .int .i64 er]) ∧
  OwnX w' base (.slice A1 l.length c1) l ∧ OwnS w' base (.slice A2 s.length c2) s ∧ Below base w w'
def MarkOut (base : Nat) (l : List X) (er : Int) (w : World) : Ending → World → Prop := fun E w' => ∃ A1 c1, E = .returned (.tuple #[.slice A1 l.length c1, .int .i64 er]) ∧ OwnX w' base (.slice A1 l.length c1) l ∧ Below base w w'

/-- Behind the parts pre of a Cut. -/
structure CutI (w : World) (b9 b10 n1 : Nat) (pre : List (X × Bool)) (V : World) : Prop where
  bel : Below w.heap.size w V
  lo : n1 ≤ V.heap.size + 2
  left : ∃ v, V.heap[b9]? = some (.cells #[v] 22 (0, 0)) ∧ OwnX V n1 v (pack (leftR pre))
  gone : ∃ v, V.heap[b10]? = some (.cells #[v] 34 (0, 0)) ∧ OwnS V n1 v (gone pre)
theorem CutI.turns {w A B : World} {b9 b10 n1 q : Nat} {pre : List (X × Bool)} (h : CutI w b9 b10 n1 pre A) (hT : Turns (fun k => k = q) A B) (h9 : b9 ≠ q) (h10 : b10 ≠ q) (hq : q < n1) (hwq : w.heap.size ≤ q) : CutI w b9 b10 n1 pre B := by
  obtain ⟨v, k1, k2⟩ := h.left
  obtain ⟨u, g1, g2⟩ := h.gone
  exact ⟨h.bel.trans (hT.below (fun k e => by omega) h.bel.size), by have := h.lo; have := hT.size; omega,
    ⟨v, (hT.block _ (Array.getElem?_eq_some_iff.1 k1).1 h9).trans k1, k2.kept fun g hg => hT.block g (k2.lt g hg).2 (by have := (k2.lt g hg).1; omega)⟩,
    ⟨u, (hT.block _ (Array.getElem?_eq_some_iff.1 g1).1 h10).trans g1, g2.kept fun g hg => hT.block g (g2.lt g hg).2 (by have := (g2.lt g hg).1; omega)⟩⟩
theorem CutI.z {w A : World} {b9 b10 n1 : Nat} {pre : List (X × Bool)} (h : CutI w b9 b10 n1 pre A) : ZT b9 b10 A := by
  obtain ⟨v, k1, k2⟩ := h.left
  obtain ⟨u, g1, g2⟩ := h.gone
  have l1 := (Array.getElem?_eq_some_iff.1 k1).1
  have l2 := (Array.getElem?_eq_some_iff.1 g1).1
  refine ⟨⟨l1, l2⟩, fun q hq => ?_⟩
  rcases hq with e | e | ⟨x, ty, e, e'⟩
  · omega
  · omega
  · rcases e with e | e
    · rw [k1] at e
      injection e with e
      injection e with e
      injection e with e
      injection e with e
      subst e
      exact (k2.lt q e').2
    · rw [g1] at e
      injection e with e
      injection e with e
      injection e with e
      injection e with e
      subst e
      exact (g2.lt q e').2

theorem own_types {W : World} {b b' : Nat} {v u : Value} {l : List X} {s : List (Int × Int)} (h : OwnX W b v l) (h' : OwnS W b' u s) {k : Nat} (hk : v.ownBlock = some k) (hk' : u.ownBlock = some k) : False := by
  rcases h.2 with ⟨rfl, _⟩ | ⟨g, cap, cur, rfl, _, hh, _⟩
  · cases hk
  · rcases h'.2 with ⟨rfl, _⟩ | ⟨g', cap', cur', rfl, _, hh', _⟩
    · cases hk'
    · injection hk with hk
      injection hk' with hk'
      dsimp only at hk hk'
      rw [hk] at hh
      rw [hk', hh] at hh'
      injection hh' with hh'
      injection hh' with _ e
      exact absurd e (by decide)
theorem own_cellsX {W : World} {b : Nat} {v : Value} {l : List X} (h : OwnX W b v l) {k : Nat} (hk : v.ownBlock = some k) : ∃ cs ty z, W.heap[k]? = some (.cells cs ty z) := by
  rcases h.2 with ⟨rfl, _⟩ | ⟨g, cap, cur, rfl, _, hh, _⟩
  · cases hk
  · injection hk with hk
    dsimp only at hk
    subst hk
    exact ⟨cur, _, _, hh⟩
theorem own_cellsS {W : World} {b : Nat} {v : Value} {l : List (Int × Int)} (h : OwnS W b v l) {k : Nat} (hk : v.ownBlock = some k) : ∃ cs ty z, W.heap[k]? = some (.cells cs ty z) := by
  rcases h.2 with ⟨rfl, _⟩ | ⟨g, cap, cur, rfl, _, hh, _⟩
  · cases hk
  · injection hk with hk
    dsimp only at hk
    subst hk
    exact ⟨cur, _, _, hh⟩
/-- What a round has to show. -/
theorem cut_round {w W W3 : World} {M M' n1 B : Nat} {pre pre' : List (X × Bool)} {v9 v10 v9' v10' : Value} (hI : Below w.heap.size w W) (hlo : n1 ≤ W.heap.size + 2) (hM : w.heap.size ≤ M) (hM' : w.heap.size ≤ M') (hn1 : w.heap.size ≤ n1)
    (k9 : W.heap[M]? = some (.cells #[v9] 22 (0, 0))) (o9 : OwnX W n1 v9 (pack (leftR pre))) (k10 : W.heap[M']? = some (.cells #[v10] 34 (0, 0))) (o10 : OwnS W n1 v10 (gone pre))
    (hT : Turns (fun q => q = M ∨ q = M' ∨ v9.ownBlock = some q ∨ v10.ownBlock = some q) W W3)
    (k9' : W3.heap[M]? = some (.cells #[v9'] 22 (0, 0))) (o9' : OwnX W3 n1 v9' (pack (leftR pre'))) (k10' : W3.heap[M']? = some (.cells #[v10'] 34 (0, 0))) (o10' : OwnS W3 n1 v10' (gone pre'))
    (g9 : ∀ k, v9'.ownBlock = some k → v9.ownBlock = some k ∨ W.heap.size ≤ k) (g10 : ∀ k, v10'.ownBlock = some k → v10.ownBlock = some k ∨ W.heap.size ≤ k) :
    KeepsFrom B W W3 ∧ KpT M M' W W3 ∧ CutI w M M' n1 pre' W3 := by
  have hno : ∀ k o, W.heap[k]? = some o → o.isCells = false → ¬ (k = M ∨ k = M' ∨ v9.ownBlock = some k ∨ v10.ownBlock = some k) := fun k o ho hoc e => by
    have : ∃ cs ty z, W.heap[k]? = some (.cells cs ty z) := by
      rcases e with e | e | e | e
      · rw [e]; exact ⟨_, _, _, k9⟩
      · rw [e]; exact ⟨_, _, _, k10⟩
      · exact own_cellsX o9 e
      · exact own_cellsS o10 e
    obtain ⟨cs, ty, z, hc⟩ := this
    rw [ho] at hc
    injection hc with hc
    rw [hc] at hoc
    cases hoc
  refine ⟨⟨hT.size, fun k o _ ho hoc => (hT.block k (Array.getElem?_eq_some_iff.1 ho).1 (hno k o ho hoc)).trans ho⟩, fun _ => ⟨hT.size, fun i cs ty z hi hn => hT.block i (Array.getElem?_eq_some_iff.1 hi).1 (fun e => hn ?_), fun q hq => ?_⟩, ⟨hI.trans (hT.below (fun k e => ?_) hI.size), by have := hT.size; omega, ⟨_, k9', o9'⟩, ⟨_, k10', o10'⟩⟩⟩
  · rcases e with e | e | e | e
    · exact .inl e
    · exact .inr (.inl e)
    · exact .inr (.inr ⟨_, _, .inl k9, e⟩)
    · exact .inr (.inr ⟨v10, 34, .inr k10, e⟩)
  · rcases hq with e | e | ⟨x, ty, e, e'⟩
    · exact .inl (.inl e)
    · exact .inl (.inr (.inl e))
    · rcases e with e | e
      · rw [k9'] at e
        injection e with e
        injection e with e
        injection e with e
        injection e with e
        subst e
        rcases g9 q e' with h | h
        · exact .inl (.inr (.inr ⟨_, _, .inl k9, h⟩))
        · exact .inr h
      · rw [k10'] at e
        injection e with e
        injection e with e
        injection e with e
        injection e with e
        subst e
        rcases g10 q e' with h | h
        · exact .inl (.inr (.inr ⟨v10, 34, .inr k10, h⟩))
        · exact .inr h
  · rcases e with e | e | e | e
    · omega
    · omega
    · have := (o9.lt k e).1; omega
    · have := (o10.lt k e).1; omega
theorem sm_small {x : X} (h : 0 ≤ x.a ∧ 1 ≤ x.n ∧ x.a + x.n ≤ 256 ∧ 1 ≤ x.s ∧ x.s ≤ 1024) : x.sm := ⟨by omega, by omega, by omega⟩

set_option maxRecDepth 100000 in
set_option maxHeartbeats 4000000 in
theorem cut_any (A : Option Addr) (n c B : Nat) (l : List X) (f t : Int) (w : World) (h : HoldsX w B A n l) (hB : B ≤ w.heap.size) (hr : ∀ x ∈ l, x.rep) (hc : n ≤ c) :
    Calls Try.prog 20 #[.slice A n c, .int .i64 f, .int .i64 t] w (CutOut w.heap.size (cutL l f t).1 (cutL l f t).2.1 (cutL l f t).2.2 w) := by
  have hright := fun W (hW : Below w.heap.size w W) => right_any A n c B l W (h.below (hW.mono hB)) (by have := hW.size; omega) hr hc
  have hbnd := fun W => bounds_any f t W
  unfold cutL CutOut
  cases hrl : right l with
  | false =>
    rw [hrl] at hright
    simp only [Bool.false_and, Bool.false_eq_true, if_false]
    have HR := Lib.hid hright; clear hright
    clear h hr hbnd hrl
    go_enter Try.func20, Try.ntmps20
    go_wp2_with fail
    with_reducible refine (HR.out w (Below.refl _ w)).mono ?_
    rintro E V ⟨rfl, hb⟩
    have HB := Lib.hid hb; clear hb
    go_wp2
    go_ret3
    exact ⟨none, 0, none, 0, rfl, OwnX.nil _ _, OwnS.nil _ _, HB.out⟩
  | true =>
    rw [hrl] at hright
    have HR := Lib.hid hright; clear hright
    cases hbd : bnds f t with
    | false =>
      rw [hbd] at hbnd
      simp only [Bool.and_false, Bool.false_eq_true, if_false]
      have HBD := Lib.hid hbnd; clear hbnd
      clear h hr hrl hbd
      go_enter Try.func20, Try.ntmps20
      go_wp2_with fail
      with_reducible refine (HR.out w (Below.refl _ w)).mono ?_
      rintro E V ⟨rfl, hb⟩
      have HB := Lib.hid hb; clear hb
      go_wp2_with fail
      with_reducible refine (HBD.out V).mono ?_
      rintro E V2 ⟨rfl, hv⟩
      have HB2 : Hid (Below w.heap.size w V2) := Lib.hid (hv ▸ HB.out)
      clear hv
      go_wp2
      go_ret3
      exact ⟨none, 0, none, 0, rfl, OwnX.nil _ _, OwnS.nil _ _, HB2.out⟩
    | true =>
      rw [hbd] at hbnd
      have HBD := Lib.hid hbnd; clear hbnd
      have hft : f ≤ t := (of_decide_eq_true hbd).2
      have hn60 : n ≤ 60 := by have := (right_lin hrl).2.2.2.2; have := h.1; omega
      have hlin := left_lin (right_lin hrl).1 f t hft
      have hsml := cuts_small hrl f t hft
      have hln := h.1
      have hmay := ((right_iff l).1 hrl).2.1
      simp only [Bool.true_and, if_true]
      obtain ⟨res, hres, hcase⟩ : ∃ res : List X × List (Int × Int) × Int, res = (if (pack (leftR (cuts l f t))).length ≤ 60 then (pack (leftR (cuts l f t)), gone (cuts l f t), 0) else ([], [], 9)) ∧ (((pack (leftR (cuts l f t))).length ≤ 60 ∧ res = (pack (leftR (cuts l f t)), gone (cuts l f t), 0)) ∨ (¬ (pack (leftR (cuts l f t))).length ≤ 60 ∧ res = ([], [], 9))) := by
        by_cases h60 : (pack (leftR (cuts l f t))).length ≤ 60
        · exact ⟨_, rfl, .inl ⟨h60, if_pos h60⟩⟩
        · exact ⟨_, rfl, .inr ⟨h60, if_neg h60⟩⟩
      rw [← hres]
      clear hres
      obtain ⟨RL, RS, RE⟩ := res
      dsimp only
      have HCASE := Lib.hid hcase; clear hcase
      have H := Lib.hid h; clear h hr
      have HRL := Lib.hid hrl; clear hrl
      have HLIN := Lib.hid hlin; clear hlin
      have HSML := Lib.hid hsml; clear hsml
      have HMAY := Lib.hid hmay; clear hmay
      have HFT := Lib.hid hft; clear hft hbd
      have HLN := Lib.hid hln; clear hln
      refine (callsIn_wide (n := 3)).1 ?_
      refine callsIn_of_wp_marks Try.func20 rfl trivial ?_ rfl
      simp only [Try.ntmps20, List.size_toArray, List.length_cons, List.length_nil, Nat.reduceAdd, Nat.reduceSub, Array.replicate_succ, Array.replicate_zero, List.push_toArray, List.append_toArray, List.nil_append, List.cons_append]
      gi_wp2_with fail
      refine ⟨trivial, (callsIn_wide (n := 2)).2 ((HR.out w (Below.refl _ w)).mono ?_)⟩
      rintro E V ⟨rfl, hb⟩
      have HB := Lib.hid hb; clear hb
      gi_wp2_with fail
      refine ⟨trivial, (callsIn_wide (n := 2)).2 ((HBD.out V).mono ?_)⟩
      rintro E V2 ⟨rfl, hv⟩
      have HB2 : Hid (Below w.heap.size w V2) := Lib.hid (hv ▸ HB.out)
      clear hv HB V
      gi_wp2_with fail
      obtain ⟨W1, hW1⟩ : ∃ W1, W1 = (V2.alloc (.cells #[.slice none 0 0] 22)).alloc (.cells #[.slice none 0 0] 34) := ⟨_, rfl⟩
      have z1 : (V2.alloc (.cells #[.slice none 0 0] 22)).heap.size = V2.heap.size + 1 := by simp
      have hb1 : Below V2.heap.size V2 W1 := by rw [hW1]; exact ((Below.refl _ V2).alloc (Nat.le_refl _) _).alloc (by omega) _
      have hk9 : W1.heap[V2.heap.size]? = some (.cells #[.slice none 0 0] 22 (0, 0)) := by
        rw [hW1, Below.heap_alloc _ _ _ (by omega)]; exact heap_alloc_new V2 _
      have hk10 : W1.heap[V2.heap.size + 1]? = some (.cells #[.slice none 0 0] 34 (0, 0)) := by
        rw [hW1, ← z1]; exact heap_alloc_new _ _
      have hz1 : W1.heap.size = V2.heap.size + 2 := by rw [hW1]; simp
      rw [← hW1]
      clear hW1 z1
      refine ⟨trivial, (callsIn_wide (n := 2)).2 ((parts_mk A n c f t W1).mono ?_)⟩
      rintro E W2 ⟨rfl, hb2, hq1, hq2, hq3, hz2⟩
      rw [hz1] at hq1 hq2 hq3 hz2 ⊢
      have hk9' := (hb2.block _ (by omega)).trans hk9
      have hk10' := (hb2.block _ (by omega)).trans hk10
      have hbw : Below w.heap.size w W2 := HB2.out.trans ((hb1.trans (hb2.mono hb1.size)).mono HB2.out.size)
      have hwM := HB2.out.size
      clear hk9 hk10 hb1 hb2 hz1
      generalize V2.heap.size = M at hk9' hk10' hq1 hq2 hq3 hz2 hwM ⊢
      have hh := H.out.below (hbw.mono hB)
      have hhands := parts_hands (3 - 1) (by omega) (M + 2) B n c M (M + 1) A l f t W2 hq1 hq2 hq3 hh HMAY.out hn60 (by omega) (by omega) (by omega) (by omega) (fun q hq => by
        rcases hq with e | e | ⟨x, ty, e, e'⟩
        · exact .inl e
        · exact .inr e
        · rcases e with e | e
          · rw [hk9'] at e
            injection e with e
            injection e with e
            injection e with e
            injection e with e
            subst e
            cases e'
          · rw [hk10'] at e
            injection e with e
            injection e with e
            injection e with e
            injection e with e
            subst e
            cases e')
      have hI0 : CutI w M (M + 1) (W2.heap.size + 2) [] W2 := ⟨hbw, by omega, ⟨_, hk9', OwnX.nil _ _⟩, ⟨_, hk10', OwnS.nil _ _⟩⟩
      have HHA := Lib.hid hhands; clear hhands
      have HI0 := Lib.hid hI0; clear hI0
      have HBW := Lib.hid hbw; clear hbw hh hk9' hk10' hq1 hq2 hq3
      gi_wp2
      refine wp_hands (F := Fence.wide) (n := 3) rfl (by omega) (gf := 64) (la := #[]) (lb := #[.pointer (some ⟨M + 2, 0, none⟩), .pointer (some ⟨M + 2 + 1, 0, none⟩), .pointer (some ⟨M + 2 + 2, 0, none⟩)]) rfl trivial (enters_of Try.func64 (by kernel_rfl) rfl) HHA.out
        (fun h k => h.trans k) (fun V o => KpT.of_below ((Below.refl _ V).alloc (Nat.le_refl _) _)) (fun V o o' ho hoc => KpT.put ho hoc (by omega) (by omega)) (Below.refl _ _) (fun _ => rfl)
        (CutI w M (M + 1) (W2.heap.size + 2)) (fun xs A B h hT => h.turns hT (by omega) (by omega) (by omega) (by omega)) (fun s A h => h.z) HI0.out
        (fun x b => { tmps := #[.slice A n c, .int .i64 f, .int .i64 t, undef, undef, undef, .slice none 0 0, .slice none 0 0, .int .i64 0, .pointer (some ⟨M, 0, none⟩), .pointer (some ⟨M + 1, 0, none⟩), .pointer (some ⟨b, 0, none⟩), .bool x.2, .slice A n c, .bool true, .bool false, .bool false, .int .i64 f, .int .i64 t, .bool true, .bool false, .bool false, .slice A n c, .int .i64 f, .int .i64 t, .func (.func 64) #[] #[.pointer (some ⟨M + 2, 0, none⟩), .pointer (some ⟨M + 2 + 1, 0, none⟩), .pointer (some ⟨M + 2 + 2, 0, none⟩)], .agg x.1.c, .bool x.2, undef, undef, undef, undef, undef, undef, undef, undef, undef, undef, undef, undef, undef, undef, undef, undef, undef], defers := [] })
        (fun x => .cells x.1.c 24) ?assign ?body ?done
      case assign =>
        intro l1 x V K hK
        dsimp only [partV]
        have hst := run_stX_new V x.1
        generalize x.1.c = C at hst hK ⊢
        have HK := Lib.hid hK; clear hK
        gi_wp2
        exact HK.out
      case body =>
        rintro l1 pre x V0 V W hI0' hbV ⟨rest, hrest⟩ hz hT hI hVK
        have HVK := Lib.hid hVK; clear hVK
        have hpl : pre.length ≤ 180 := by
          have h1 := cuts_len l f t
          rw [hrest, List.length_append] at h1
          have := HLN.out; omega
        have hxin : x ∈ cuts l f t := by rw [hrest]; simp
        have hxs := HSML.out x hxin
        have hpsm : ∀ y ∈ pack (leftR pre), y.sm := fun y hy => by
          have hsub : (leftR pre).Sublist (leftR (cuts l f t)) := by
            rw [hrest, leftR_append]; exact List.sublist_append_left _ _
          refine sm_small (lin_small (lin_sub hsub HLIN.out) (fun z hz => ?_) y hy)
          unfold leftR at hz
          obtain ⟨p, hp, rfl⟩ := List.mem_map.1 hz
          have := HSML.out p (by rw [hrest]; exact List.mem_append.2 (.inl (List.mem_filter.1 hp).1))
          omega
        have hpk : (pack (leftR pre)).length ≤ 180 := by
          have h1 := pack_len (leftR pre)
          have h2 : (leftR pre).length ≤ pre.length := by unfold leftR; rw [List.length_map]; exact List.length_filter_le _ _
          omega
        have hgl : (gone pre).length ≤ 180 := by
          have h2 : (gone pre).length ≤ pre.length := by unfold gone; rw [List.length_map]; exact List.length_filter_le _ _
          omega
        have hvx : VarX W V.heap.size x.1 := (hT.block _ (by simp) (by have := hbV.size; omega)).trans (VarX.new V x.1)
        obtain ⟨v9, k9, o9⟩ := hI.left
        obtain ⟨v10, k10, o10⟩ := hI.gone
        have hbW := hI.bel
        have hlo := hI.lo
        have hVW : V0.heap.size ≤ W.heap.size := by have := hbV.size; have := hT.size; simp at this; omega
        have hwn := hbW.size
        have hw2 := HBW.out.size
        have l9 : M < W.heap.size := (Array.getElem?_eq_some_iff.1 k9).1
        have l10 : M + 1 < W.heap.size := (Array.getElem?_eq_some_iff.1 k10).1
        have b9 : ∀ k, v9.ownBlock = some k → W2.heap.size + 2 ≤ k ∧ k < W.heap.size := fun k hk => o9.lt k hk
        have b10 : ∀ k, v10.ownBlock = some k → W2.heap.size + 2 ≤ k ∧ k < W.heap.size := fun k hk => o10.lt k hk
        clear hI hI0' hT hbV hrest hxin
        obtain ⟨x, nm⟩ := x
        dsimp only at hxs hvx ⊢
        cases nm with
        | true =>
          obtain ⟨v', W4, hrun, ho', hgr⟩ := run_appS W (W2.heap.size + 2) v10 (gone pre) o10 (x.s, x.n) 34 (by omega) (by omega)
          obtain ⟨A4, c4, hv4⟩ := ho'.shape
          obtain ⟨N4, hN4⟩ : ∃ N4, N4 = (gone pre ++ [(x.s, x.n)]).length := ⟨_, rfl⟩
          rw [← hN4] at hv4
          clear hN4
          obtain ⟨A10, c10, hv10⟩ := o10.shape
          obtain ⟨N10, hN10⟩ : ∃ N10, N10 = (gone pre).length := ⟨_, rfl⟩
          rw [← hN10] at hv10
          clear hN10
          have y1 := cell_of_row W _ 0 _ _ _ k10
          have y2 := hvx.cells.2.1
          have y3 := hvx.cells.2.2.1
          have k10' : W4.heap[M + 1]? = some (.cells #[v10] 34 (0, 0)) := (hgr.1.block _ l10 (fun e => by have := (b10 _ e.symm).1; omega)).trans k10
          have y4 : W4.cell? ⟨M + 1, 0, none⟩ = some v10 := cell_of_row W4 _ 0 _ _ _ k10'
          have y5 := frozen_of_row W4 (M + 1) 0 _ _ k10'
          obtain ⟨W3, hW3⟩ : ∃ W3, W3 = W4.setCell ⟨M + 1, 0, none⟩ v' := ⟨_, rfl⟩
          have hT4 : Turns (fun q => q = M ∨ q = M + 1 ∨ v9.ownBlock = some q ∨ v10.ownBlock = some q) W W3 := by
            rw [hW3]
            exact ((Turns.refl _ W).grown hgr.1 (fun k hk _ => .inr (.inr (.inr hk)))).setCell (p := ⟨M + 1, 0, none⟩) (fun _ => .inr (.inl rfl)) _
          have hsame : ∀ k, k < W.heap.size → k ≠ M + 1 → v10.ownBlock ≠ some k → W3.heap[k]? = W.heap[k]? := fun k hk h1 h2 => by
            rw [hW3, Below.heap_setCell _ _ _ _ (by exact h1)]
            exact hgr.1.block k hk (fun e => h2 e.symm)
          have hfin : KeepsFrom W2.heap.size W W3 ∧ KpT M (M + 1) V W3 ∧ CutI w M (M + 1) (W2.heap.size + 2) (pre ++ [(x, true)]) W3 := by
            refine (fun h => ⟨h.1, HVK.out.trans h.2.1, h.2.2⟩) (cut_round hbW hlo (by omega) (by omega) (by omega) k9 o9 k10 o10 hT4 ((hsame M l9 (by omega) (fun e => by have := (b10 _ e).1; omega)).trans k9) (v9' := v9) ?_ (v10' := v') (by rw [hW3]; exact heap_setCell_same W4 (M + 1) 0 _ _ _ k10') ?_ (fun k hk => .inl hk) hgr.2)
            · rw [leftR_append, show leftR [(x, true)] = [] from rfl, List.append_nil]
              exact o9.kept fun g hg => hsame g (b9 g hg).2 (by have := (b9 g hg).1; omega) (fun e => own_types o9 o10 hg e)
            · rw [gone_append, show gone [(x, true)] = [(x.s, x.n)] from rfl, hW3]
              exact ho'.kept fun g hg => Below.heap_setCell _ _ _ _ (by show g ≠ M + 1; have := (ho'.lt g hg).1; omega)
          have HFIN := Lib.hid hfin; clear hfin
          clear hT4 hsame ho' hgr hvx hxs hpsm k9 o9 k10 o10 b9 b10 hbW k10' HHA
          subst hv4
          subst hv10
          have HW3 := Lib.hid hW3; clear hW3
          dsimp only at hrun
          generalize x.s = xs at y2 hrun
          generalize x.n = xn at y3 hrun
          gi_wp2_with (gi_at_builtin; refine round_apprun rfl _ _ 34 34 rfl _ _ rfl rfl _ W4 hrun ?_)
          gi_wp2
          have := HFIN.out
          rw [HW3.out] at this
          exact this
        | false =>
          obtain ⟨A9, c9, rfl⟩ := o9.shape
          have hj := joined_any W (W2.heap.size + 2) _ c9 A9 (pack (leftR pre)) x o9 (by omega) (by omega) hpsm (sm_small hxs)
          have y1 := cell_of_row W _ 0 _ _ _ k9
          have y2 := hvx.load
          have hJ := Lib.hid hj; clear hj
          have K9 := Lib.hid k9; clear k9
          have O9 := Lib.hid o9; clear o9
          have K10 := Lib.hid k10; clear k10
          have O10 := Lib.hid o10; clear o10
          have B9 := Lib.hid b9; clear b9
          have B10 := Lib.hid b10; clear b10
          have HBW2 := Lib.hid hbW; clear hbW
          clear hvx hpsm hxs HHA
          obtain ⟨N9, hN9⟩ : ∃ N9, N9 = (pack (leftR pre)).length := ⟨_, rfl⟩
          rw [← hN9] at y1 hJ
          have HN9 := Lib.hid hN9; clear hN9
          generalize x.c = C at y2 hJ ⊢
          gi_wp2_with fail
          refine ⟨trivial, CallsIn.inRound l1 ((callsIn_wide (n := 0)).2 (hJ.out.mono ?_))⟩
          rintro E W4 ⟨A4, c4, rfl, ho', hgr⟩
          rw [HN9.out] at hgr
          have k9' : W4.heap[M]? = some (.cells #[.slice A9 (pack (leftR pre)).length c9] 22 (0, 0)) := (hgr.1.block _ l9 (fun e => by have := (B9.out _ e.symm).1; omega)).trans K9.out
          have y4 : W4.cell? ⟨M, 0, none⟩ = some (.slice A9 (pack (leftR pre)).length c9) := cell_of_row W4 _ 0 _ _ _ k9'
          have y5 := frozen_of_row W4 M 0 _ _ k9'
          obtain ⟨v', hv'⟩ : ∃ v', v' = Value.slice A4 (join (pack (leftR pre)) x).length c4 := ⟨_, rfl⟩
          rw [← hv'] at ho' hgr ⊢
          obtain ⟨W3, hW3⟩ : ∃ W3, W3 = W4.setCell ⟨M, 0, none⟩ v' := ⟨_, rfl⟩
          obtain ⟨v9, hv9⟩ : ∃ v9, v9 = Value.slice A9 (pack (leftR pre)).length c9 := ⟨_, rfl⟩
          have B9' := B9.out
          have K9' := K9.out
          have O9' := O9.out
          rw [← hv9] at hgr k9' y4 B9' K9' O9'
          have hT4 : Turns (fun q => q = M ∨ q = M + 1 ∨ v9.ownBlock = some q ∨ v10.ownBlock = some q) W W3 := by
            rw [hW3]
            exact ((Turns.refl _ W).grown hgr.1 (fun k hk _ => .inr (.inr (.inl hk)))).setCell (p := ⟨M, 0, none⟩) (fun _ => .inl rfl) _
          have hsame : ∀ k, k < W.heap.size → k ≠ M → v9.ownBlock ≠ some k → W3.heap[k]? = W.heap[k]? := fun k hk h1 h2 => by
            rw [hW3, Below.heap_setCell _ _ _ _ (by exact h1)]
            exact hgr.1.block k hk (fun e => h2 e.symm)
          have hfin : KeepsFrom W2.heap.size W W3 ∧ KpT M (M + 1) V W3 ∧ CutI w M (M + 1) (W2.heap.size + 2) (pre ++ [(x, false)]) W3 := by
            refine (fun h => ⟨h.1, HVK.out.trans h.2.1, h.2.2⟩) (cut_round HBW2.out hlo (by omega) (by omega) (by omega) K9' O9' K10.out O10.out hT4 (v9' := v') (by rw [hW3]; exact heap_setCell_same W4 M 0 _ _ _ k9') ?_ (v10' := v10) ((hsame (M + 1) l10 (by omega) (fun e => by have := (B9' _ e).1; omega)).trans K10.out) ?_ hgr.2 (fun k hk => .inl hk))
            · rw [leftR_append, show leftR [(x, false)] = [x] from rfl, pack_snoc, hW3]
              exact ho'.kept fun g hg => Below.heap_setCell _ _ _ _ (by show g ≠ M; have := (ho'.lt g hg).1; omega)
            · rw [gone_append, show gone [(x, false)] = [] from rfl, List.append_nil]
              exact O10.out.kept fun g hg => hsame g (B10.out g hg).2 (by have := (B10.out g hg).1; omega) (fun e => own_types O9' O10.out e hg)
          have HFIN := Lib.hid hfin; clear hfin
          have HW3 := Lib.hid hW3; clear hW3
          clear hT4 hsame ho' hgr k9' B9' K9' O9' y1 y2
          obtain ⟨N4, hN4⟩ : ∃ N4, N4 = (join (pack (leftR pre)) x).length := ⟨_, rfl⟩
          rw [← hN4] at hv'
          clear hN4
          subst hv'
          rw [← HN9.out] at hv9
          subst hv9
          gi_wp2
          have := HFIN.out
          rw [HW3.out] at this
          exact this
      case done =>
        rintro xs W rfl hI hdD
        obtain ⟨v9, k9, o9⟩ := hI.left
        obtain ⟨v10, k10, o10⟩ := hI.gone
        have hbe := hI.bel
        obtain ⟨A9, c9, rfl⟩ := o9.shape
        obtain ⟨A10, c10, rfl⟩ := o10.shape
        have y1 := cell_of_row W _ 0 _ _ _ k9
        have y2 := cell_of_row W _ 0 _ _ _ k10
        have y1' : W.drew.cell? ⟨M, 0, none⟩ = _ := y1
        have y2' : W.drew.cell? ⟨M + 1, 0, none⟩ = _ := y2
        have hw2 := HBW.out.size
        have HZ2 := Lib.hid hz2; clear hz2
        have HI := Lib.hid hI; clear hI
        have O9 := Lib.hid o9; clear o9
        have O10 := Lib.hid o10; clear o10
        have HBE := Lib.hid hbe; clear hbe k9 k10 HHA
        obtain ⟨N9, hN9⟩ : ∃ N9, N9 = (pack (leftR (cuts l f t))).length := ⟨_, rfl⟩
        obtain ⟨N10, hN10⟩ : ∃ N10, N10 = (gone (cuts l f t)).length := ⟨_, rfl⟩
        rw [← hN9] at y1 y1'
        rw [← hN10] at y2 y2'
        have hT : Turns (fun q => q = W2.heap.size) W (W.putObj W2.heap.size (.deferred none)) := turns_put _ _ _
        have hTd : Turns (fun q => q = W2.heap.size) W (W.drew.putObj W2.heap.size (.deferred none)) := (Turns.refl (fun q => q = W2.heap.size) W).drew.trans (turns_put _ _ _) (fun _ _ e => e)
        have HT := Lib.hid hT; clear hT
        have HTD := Lib.hid hTd; clear hTd
        have HN9 := Lib.hid hN9; clear hN9
        have HN10 := Lib.hid hN10; clear hN10
        have hdD' : W.drew.heap[W2.heap.size]? = some (.deferred (some [])) := hdD
        have HD := Lib.hid hdD; clear hdD
        have HD' := Lib.hid hdD'; clear hdD'
        rcases HCASE.out with ⟨h60, hre⟩ | ⟨h60, hre⟩
        · simp only [Prod.mk.injEq] at hre
          obtain ⟨hL, hS, hE⟩ := hre
          have h60' : ¬ (60 < (N9 : Int)) := by rw [HN9.out]; omega
          have HL := Lib.hid hL; clear hL
          have HS := Lib.hid hS; clear hS
          have HE := Lib.hid hE; clear hE
          clear h60
          gi_wp2_with fail
          gi_region
          all_goals
            gi_wp2
            refine ⟨by simp, .inl ⟨_, _, rfl, run_takeDeferred HD'.out, ?_⟩⟩
            refine ⟨_, results_tmp3 rfl _ _ _, ?_⟩
            have hTd := HTD.out
            generalize W.drew.putObj W2.heap.size (.deferred none) = W9 at hTd ⊢
            rw [HL.out, HS.out, HE.out]
            refine ⟨A9, c9, A10, c10, by rw [← HN9.out, ← HN10.out]; rfl, (O9.out.kept fun g hg => hTd.block g (O9.out.lt g hg).2 (by have := (O9.out.lt g hg).1; omega)).mono (by omega), (O10.out.kept fun g hg => hTd.block g (O10.out.lt g hg).2 (by have := (O10.out.lt g hg).1; omega)).mono (by omega), HBE.out.trans (hTd.below (fun k e => by omega) HBE.out.size)⟩
        · simp only [Prod.mk.injEq] at hre
          obtain ⟨hL, hS, hE⟩ := hre
          have h60' : 60 < (N9 : Int) := by rw [HN9.out]; omega
          have HL := Lib.hid hL; clear hL
          have HS := Lib.hid hS; clear hS
          have HE := Lib.hid hE; clear hE
          clear h60
          gi_wp2
          refine ⟨by simp, .inl ⟨_, _, rfl, run_takeDeferred HD.out, ?_⟩⟩
          refine ⟨_, results_tmp3 rfl _ _ _, ?_⟩
          have hTd := HT.out
          generalize W.putObj W2.heap.size (.deferred none) = W9 at hTd ⊢
          rw [HL.out, HS.out, HE.out]
          exact ⟨none, 0, none, 0, rfl, OwnX.nil _ _, OwnS.nil _ _, HBE.out.trans (hTd.below (fun k e => by omega) HBE.out.size)⟩
end Go.Proofs.Ytkhenchhafmlmaa.Ex
