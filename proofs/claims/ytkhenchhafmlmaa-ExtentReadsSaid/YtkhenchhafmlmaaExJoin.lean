/- One more extent behind the others, put together with the last where it goes on: the program's call. -/
import Derived.Test.YtkhenchhafmlmaaExMem
import Derived.Test.YtkhenchhafmlmaaRegC
import Derived.Maps.AppendAt
import Derived.Deep.RegionHeldLaw
import Derived.LoopTactic
namespace Go.Proofs.Ytkhenchhafmlmaa.Ex
set_option maxRecDepth 20000
open Go.RowKit
open Go.Proofs.Ytkhenchhafmlmaa.Mem Go.Proofs.Ytkhenchhafmlmaa.Crc Go.Proofs.Ytkhenchhafmlmaa.Rec Go.Proofs.Ytkhenchhafmlmaa.Reg
attribute [local go_sem ↓] ldX_eq stX_eq

/-- What turns the row of v alone, or makes it anew. -/
def Grows (w w' : World) (v v' : Value) : Prop := w.grownBy w' v.ownBlock ∧ ∀ k, v'.ownBlock = some k → v.ownBlock = some k ∨ w.heap.size ≤ k
theorem grown_of_below {w w' : World} (h : Below w.heap.size w w') (row : Option Nat) : w.grownBy w' row := ⟨h.os, h.tape, h.output, h.size, fun i hi _ => h.block i hi⟩
theorem grown_trans {w w' w'' : World} {row : Option Nat} (h : w.grownBy w' row) (h' : w'.grownBy w'' row) : w.grownBy w'' row :=
  ⟨h'.os.trans h.os, h'.tape.trans h.tape, h'.output.trans h.output, Nat.le_trans h.size h'.size, fun i hi hn => (h'.block i (Nat.lt_of_lt_of_le hi h.size) hn).trans (h.block i hi hn)⟩
theorem Grows.refl (w : World) (v : Value) : Grows w w v v := ⟨World.grownBy.refl _ _, fun _ h => .inl h⟩
theorem Grows.trans {w w' w'' : World} {v v' v'' : Value} (h : Grows w w' v v') (h' : Grows w' w'' v' v'') : Grows w w'' v v'' := by
  refine ⟨⟨h'.1.os.trans h.1.os, h'.1.tape.trans h.1.tape, h'.1.output.trans h.1.output, Nat.le_trans h.1.size h'.1.size, fun i hi hn => ?_⟩, fun k hk => ?_⟩
  · refine (h'.1.block i (Nat.lt_of_lt_of_le hi h.1.size) (fun e => ?_)).trans (h.1.block i hi hn)
    rcases h.2 i e.symm with e1 | e1
    · exact hn e1.symm
    · omega
  · rcases h'.2 k hk with e | e
    · exact h.2 k e
    · exact .inr (Nat.le_trans h.1.size e)
theorem Grows.below {w w' : World} {v v' : Value} {base : Nat} (h : Grows w w' v v') (hb : base ≤ w.heap.size) (hv : ∀ k, v.ownBlock = some k → base ≤ k) : Below base w w' := (Below.refl base w).grown h.1 hb hv

theorem run_appX (W : World) (base : Nat) (v : Value) (l : List X) (hown : OwnX W base v l) (x : X) (ty : TypeId) (hlen : l.length ≤ 1048576) (hbase : base ≤ W.heap.size) :
    ∃ v' W', (Builtin.append_ #[22, 22] ty #[v, .slice (some ⟨W.heap.size, 0, none⟩) 1 1]).run Try.prog (W.alloc (.cells #[.int .i64 x.a, .int .i64 x.s, .int .i64 x.n, .bool x.u] 24)) = .ok v' W' ∧ OwnX W' base v' (l ++ [x]) ∧ Grows W W' v v' := by
  obtain ⟨i0, hi0, hz0, hz1, hz2⟩ := info_parts info_x
  obtain ⟨v', W', hrun, h2, h3, _, h5⟩ := run_append_own_at (P := Try.prog) (w := W.alloc (.cells #[.int .i64 x.a, .int .i64 x.s, .int .i64 x.n, .bool x.u] 24)) base 22 ty 24 i0 _ 4 32 Try.underlying22 hi0 hz0 hz1 hz2 rfl (by decide)
    v l.length (cellsX l) (World.ownsRow.alloc hown _) ⟨W.heap.size, 0, none⟩ 1 1 x.cl rfl (fun j u hu => by
      have hadd : (⟨W.heap.size, 0, none⟩ : Addr).add j = ⟨W.heap.size, j, none⟩ := by unfold Addr.add; split <;> simp_all
      rw [hadd, cell_of_row _ _ j _ _ _ (heap_alloc_new W _)]
      rw [← hu]; simp [X.cl]) (by intro u hu; simp [X.cl] at hu; rcases hu with rfl | rfl | rfl | rfl <;> rfl) (by unfold maxLen; omega) (by omega) (by simp; omega)
  refine ⟨v', W', hrun, ?_, ?_, fun k hk => ?_⟩
  · unfold OwnX
    rw [cellsX_append, List.length_append, show cellsX [x] = x.cl by simp [cellsX]]
    exact h2
  · exact grown_trans (grown_of_below ((Below.refl _ W).alloc (Nat.le_refl _) _) _) h3
  · rcases h5 with e | e
    · rw [e] at hk; exact .inl hk
    · rw [e] at hk
      injection hk with hk
      simp at hk
      exact .inr (by omega)
theorem wpList_apprun {w : World} {ops : Array Oper} {rest : List Oper} {o : Oper} {a : Act} {Q : Exit → Act → World → Prop} (hgd : o.guard = none) (d x : Operand) (dT sT : TypeId)
    (ho : o.op = .call { callee := .builtin .append, args := #[d, x], argTypes := #[dT, sT] }) (vd vx : Value) (hd : a.eval d = vd) (hx : a.eval x = vx) (v : Value) (w' : World) (hrun : (Builtin.append_ #[dT, sT] o.type #[vd, vx]).run Try.prog w = .ok v w')
    (h : wpList Try.prog ops Q rest (a.put o.dst v) w') : wpList Try.prog ops Q (o :: rest) a w := by
  refine wpList_plain hgd fun K hK => ?_
  unfold Oper.wp execOp
  simp only [ho, resolve, invoke, builtin, Sem.run_bind, Sem.run_pure, Result.andThen_ok, List.map_toArray, List.map_cons, List.map_nil, hd, hx, hrun]
  exact hK _ _ h
theorem cellsX_set (p : List X) (x : X) (v : Int) : cellsX (p ++ [⟨x.a, x.s, v, x.u⟩]) = (cellsX (p ++ [x])).set (p.length * 4 + 2) (.int .i64 v) := by
  rw [cellsX_append, cellsX_append, List.set_append_right _ _ (by rw [cellsX_len]; omega), cellsX_len]
  rw [show p.length * 4 + 2 - p.length * 4 = 2 by omega]
  simp [cellsX, X.cl]
/-- The last one's length, laid anew. -/
theorem OwnX.setLen {W : World} {base g n cap : Nat} {p : List X} {x : X} (h : OwnX W base (.slice (some ⟨g, 0, none⟩) n cap) (p ++ [x])) (v : Int) :
    OwnX (W.setCell ⟨g, p.length * 4 + 2, none⟩ (.int .i64 v)) base (.slice (some ⟨g, 0, none⟩) n cap) (p ++ [⟨x.a, x.s, v, x.u⟩]) ∧ W.grownBy (W.setCell ⟨g, p.length * 4 + 2, none⟩ (.int .i64 v)) (some g) := by
  obtain ⟨rfl, _, _⟩ := h.fits
  obtain ⟨h1, h2⟩ := World.ownsRow.stored (g := g) (cap := cap) (w := W) (base := base) (e := 24) (size := 4) h (p.length * 4 + 2) (.int .i64 v)
  refine ⟨?_, h2⟩
  unfold OwnX
  rw [cellsX_set]
  have e : (p ++ [(⟨x.a, x.s, v, x.u⟩ : X)]).length = (p ++ [x]).length := by simp
  rw [e]
  exact h1
theorem OwnX.form {W : World} {base n c : Nat} {A : Option Addr} {l : List X} (h : OwnX W base (.slice A n c) l) (hn : 0 < n) : ∃ g, A = some ⟨g, 0, none⟩ ∧ base ≤ g ∧ g < W.heap.size ∧ ∀ j, W.frozen? ⟨g, j, none⟩ = false := by
  rcases h.2 with ⟨e, h0⟩ | ⟨g, cap, cur, e, h1, h2, h3, h4, _⟩
  · injection e; omega
  · injection e with e1 e2 e3
    exact ⟨g, e1, h1, (Array.getElem?_eq_some_iff.1 h2).1, fun j => frozen_of_row _ _ _ _ _ h2⟩

/-- What joined answers. -/
def Joined (base : Nat) (v : Value) (l : List X) (w : World) : Ending → World → Prop := fun E w' => ∃ A c, E = .returned (.slice A l.length c) ∧ OwnX w' base (.slice A l.length c) l ∧ Grows w w' v (.slice A l.length c)

set_option maxRecDepth 100000 in
set_option maxHeartbeats 2000000 in
theorem joined_any (w : World) (base n c : Nat) (A : Option Addr) (l : List X) (e : X) (hown : OwnX w base (.slice A n c) l) (hbase : base ≤ w.heap.size) (hlen : n ≤ 1048576) (hl : ∀ x ∈ l, x.sm) (he : e.sm) :
    Calls Try.prog 38 #[.slice A n c, .agg e.c] w (Joined base (.slice A n c) (join l e) w) := by
  obtain ⟨hnl, hnc, _⟩ := hown.fits
  obtain ⟨W, hW⟩ : ∃ W, W = w.alloc (.cells e.c 24) := ⟨_, rfl⟩
  have hbw : Below w.heap.size w W := by rw [hW]; exact (Below.refl _ _).alloc (Nat.le_refl _) _
  have hv : VarX W w.heap.size e := hW ▸ VarX.new w e
  have hz : W.heap.size = w.heap.size + 1 := by rw [hW]; simp
  have ld : ∀ V, Below W.heap.size W V → (ldX (.pointer (some ⟨w.heap.size, 0, none⟩))).run Try.prog V = .ok (.agg e.c) V := fun V hV => (hv.keep hV (by omega)).load
  have ldn : ∀ V, Below W.heap.size W V → V.cell? ⟨w.heap.size, 2, none⟩ = some (.int .i64 e.n) := fun V hV => (hv.keep hV (by omega)).cells.2.2.1
  have hown1 : OwnX W base (.slice A n c) l := hown.below hbw
  -- an append of e, in any world behind
  have happ : ∀ V, Below W.heap.size W V → ∃ v' W', (Builtin.append_ #[22, 22] 22 #[.slice A n c, .slice (some ⟨V.heap.size, 0, none⟩) 1 1]).run Try.prog (V.alloc (.cells e.c 24)) = .ok v' W' ∧ OwnX W' base v' (l ++ [e]) ∧ Grows w W' (.slice A n c) v' := fun V hV => by
    have hVw : Below w.heap.size w V := hbw.trans (hV.mono hbw.size)
    obtain ⟨v', W', h1, h2, h3⟩ := run_appX V base (.slice A n c) l (hown1.below hV) e 22 (by omega) (by have := hVw.size; omega)
    exact ⟨v', W', h1, h2, Grows.trans ⟨grown_of_below hVw _, fun k hk => .inl hk⟩ h3⟩
  have HAPP := Lib.hid happ; clear happ
  have HLD := Lib.hid ld; clear ld
  have HLDN := Lib.hid ldn; clear ldn
  have HBW := Lib.hid hbw; clear hbw
  have HZ := Lib.hid hz; clear hz
  have HV := Lib.hid hv; clear hv
  have l0 := HLD.out W (Below.refl _ W)
  rcases list_snoc l with hnil | ⟨p, x, hpx⟩
  · subst hnil
    have hn0 : n = 0 := hnl
    subst hn0
    unfold Joined
    rw [show join [] e = [e] from rfl]
    obtain ⟨v', W', hrun, ho', hgr⟩ := HAPP.out W.drew (Below.refl _ W).drew
    obtain ⟨A', c', rfl⟩ := ho'.shape
    have HO := Lib.hid ho'; clear ho'
    have HGR := Lib.hid hgr; clear hgr
    have l0' := HLD.out W.drew (Below.refl _ W).drew
    have HO1 := Lib.hid hown1; clear hown hown1
    obtain ⟨C, hC⟩ : ∃ C, C = e.c := ⟨_, rfl⟩
    have hbs : ∀ (V : World) (o : Oper) (a : Act), True := fun _ _ _ => trivial
    clear hbs
    have hmk : e.c = #[.int .i64 e.a, .int .i64 e.s, .int .i64 e.n, .bool e.u] := rfl
    rw [hmk] at l0 l0' hrun hW ⊢
    clear hmk hC
    generalize e.a = ea at l0 l0' hrun hW ⊢
    generalize e.s = es at l0 l0' hrun hW ⊢
    generalize e.n = en at l0 l0' hrun hW ⊢
    generalize e.u = eu at l0 l0' hrun hW ⊢
    have HWE := Lib.hid hW; clear hW hnl hnc hlen hl he
    go_enter Try.func38, Try.ntmps38
    go_wp2_with fail
    rw [← HWE.out]
    refine wp_region_E (fun V => Below W.heap.size W V) 10 rfl ?_
    have hS := (show Below W.heap.size W W.drew from (Below.refl _ W).drew)
    refine wpE_take 0 ⟨some 9, _, _, _, _, _⟩ (v := ?_) [1, 2, 3, 4, 5, 6, 7, 8, 9, 10] rfl (by kernel_rfl) (by kernel_rfl) (by kernel_rfl) (by kernel_rfl) (fun _ _ _ h => h) hS (Or.inl ⟨by kernel_rfl, ?_⟩) ?_
    rotate_left
    · (intro V hSw; have hq := HLD.out V hSw; go_simp; try with_reducible rfl)
    try simp only [Act.put]
    refine wpE_take 1 ⟨some 10, _, _, _, _, _⟩ (v := ?_) [2, 3, 4, 5, 6, 7, 8, 9, 10] rfl (by kernel_rfl) (by kernel_rfl) (by kernel_rfl) (by kernel_rfl) (fun _ _ _ h => h) hS (Or.inl ⟨by kernel_rfl, ?_⟩) ?_
    rotate_left
    · (intro V hSw; have hq := HLD.out V hSw; go_simp; try with_reducible rfl)
    try simp only [Act.put]
    refine wpE_take 2 ⟨some 11, _, _, _, _, _⟩ (v := ?_) [3, 4, 5, 6, 7, 8, 9, 10] rfl (by kernel_rfl) (by kernel_rfl) (by kernel_rfl) (by kernel_rfl) (fun _ _ _ h => h) hS (Or.inl ⟨by kernel_rfl, ?_⟩) ?_
    rotate_left
    · (intro V hSw; have hq := HLD.out V hSw; go_simp; try with_reducible rfl)
    try simp only [Act.put]
    refine wpE_take 3 ⟨some 12, _, _, _, _, _⟩ (v := undef) [5, 6, 8, 9, 10] rfl (by kernel_rfl) (by kernel_rfl) (by kernel_rfl) (by kernel_rfl) (fun _ _ _ h => h) hS (Or.inr ⟨by kernel_rfl, rfl⟩) ?_
    try simp only [Act.put]
    refine wpE_take 4 ⟨some 13, _, _, _, _, _⟩ (v := undef) [5, 6, 8, 9, 10] rfl (by kernel_rfl) (by kernel_rfl) (by kernel_rfl) (by kernel_rfl) (fun _ _ _ h => h) hS (Or.inr ⟨by kernel_rfl, rfl⟩) ?_
    try simp only [Act.put]
    refine wpE_take 5 ⟨some 14, _, _, _, _, _⟩ (v := undef) [6, 8, 9, 10] rfl (by kernel_rfl) (by kernel_rfl) (by kernel_rfl) (by kernel_rfl) (fun _ _ _ h => h) hS (Or.inr ⟨by kernel_rfl, rfl⟩) ?_
    try simp only [Act.put]
    refine wpE_take 6 ⟨some 15, _, _, _, _, _⟩ (v := undef) [8, 9, 10] rfl (by kernel_rfl) (by kernel_rfl) (by kernel_rfl) (by kernel_rfl) (fun _ _ _ h => h) hS (Or.inr ⟨by kernel_rfl, rfl⟩) ?_
    try simp only [Act.put]
    refine wpE_take 7 ⟨some 16, _, _, _, _, _⟩ (v := undef) [8, 9, 10] rfl (by kernel_rfl) (by kernel_rfl) (by kernel_rfl) (by kernel_rfl) (fun _ _ _ h => h) hS (Or.inr ⟨by kernel_rfl, rfl⟩) ?_
    try simp only [Act.put]
    refine wpE_take 8 ⟨some 17, _, _, _, _, _⟩ (v := undef) [9, 10] rfl (by kernel_rfl) (by kernel_rfl) (by kernel_rfl) (by kernel_rfl) (fun _ _ _ h => h) hS (Or.inr ⟨by kernel_rfl, rfl⟩) ?_
    try simp only [Act.put]
    refine wpE_take 9 ⟨some 18, _, _, _, _, _⟩ (v := undef) [10] rfl (by kernel_rfl) (by kernel_rfl) (by kernel_rfl) (by kernel_rfl) (fun _ _ _ h => h) hS (Or.inr ⟨by kernel_rfl, rfl⟩) ?_
    try simp only [Act.put]
    refine wpE_last (by kernel_rfl) rfl (fun K' hK' => ?_)
    go_simp
    refine hK'.out _ _ ?_
    clear hK' K'
    refine wpE_done (by kernel_rfl) ?_ _
    go_wp2_with (at_builtin; refine wpList_apprun rfl _ _ _ _ (by rfl) _ _ (by rfl) (by rfl) _ _ hrun ?_)
    go_wp2
    go_ret
    exact ⟨A', c', rfl, HO.out, HGR.out⟩
  · subst hpx
    obtain ⟨m, hm⟩ : ∃ m, m = p.length := ⟨_, rfl⟩
    have hnm : n = m + 1 := by rw [hnl, hm]; simp
    obtain ⟨g, rfl, hbg, hgw, hfz⟩ := hown.form (by omega)
    have hown2 : ∀ V, Below W.heap.size W V → OwnX V base (.slice (some ⟨g, 0, none⟩) n c) (p ++ [x]) := fun V hV => hown1.below hV
    have hlast : (p ++ [x])[m]'(by simp [hm]) = x := by subst hm; simp
    have hrd : ∀ V, Below W.heap.size W V → (ldX (.pointer (some ⟨g, m * 4, none⟩))).run Try.prog V = .ok (.agg x.c) V ∧ V.cell? ⟨g, m * 4 + 2, none⟩ = some (.int .i64 x.n) := fun V hV => by
      have hh := (hown2 V hV).reads
      have h1 := run_ldX_at hh m (by simp [hm]) (m * 4) (by omega)
      have h2 := (hh.cell m (by simp [hm])).2.2.1
      rw [hlast] at h1 h2
      exact ⟨h1, by rw [← h2]; congr 2; omega⟩
    have hS2 : ∀ V, Below W.heap.size W V → (ldX (.pointer (some ⟨g, m * 4, none⟩))).run Try.prog V = .ok (.agg x.c) V ∧ (ldX (.pointer (some ⟨w.heap.size, 0, none⟩))).run Try.prog V = .ok (.agg e.c) V := fun V hV => ⟨(hrd V hV).1, HLD.out V hV⟩
    clear hlast
    have hxs := hl x (by simp)
    have hgo : ∀ V, Calls Try.prog 62 #[.agg x.c, .agg e.c] V fun E w' => E = .returned (.bool (goes x e)) ∧ Below V.heap.size V w' := fun V => goes_any x e hxs V
    have hn0 : ¬ (m : Int) < 0 := by omega
    have hn1 : (n : Int) - 1 = (m : Int) := by omega
    have hwm : IntKind.i64.wrap (m : Int) = (m : Int) := by rw [IntKind.wrap_i64]; omega
    have hm0 : (0 : Int) ≤ (m : Int) := by omega
    have hmn : (m : Int) < (n : Int) := by omega
    have hfr : ∀ V, Below W.heap.size W V → ∀ j, V.frozen? ⟨g, j, none⟩ = false := fun V hV j => by
      obtain ⟨g', e', _, _, hf⟩ := (hown2 V hV).form (by omega)
      injection e' with e'
      injection e' with e'
      subst e'
      exact hf j
    have hjn : join (p ++ [x]) e = if goes x e then p ++ [⟨x.a, x.s, x.n + e.n, x.u⟩] else p ++ [x] ++ [e] := join_snoc p x e
    rw [hjn]
    have hsum : x.n + e.n ≤ 9223372036854775807 ∧ -9223372036854775808 ≤ x.n + e.n := by have := hxs.n; have := he.n; omega
    have HGO := Lib.hid hgo; clear hgo
    have HRD := Lib.hid hrd; clear hrd
    have HS2 := Lib.hid hS2; clear hS2
    have HOWN := Lib.hid hown2; clear hown2 hown hown1
    have HFR := Lib.hid hfr; clear hfr hfz
    have HM := Lib.hid hm; clear hm
    have HNM := Lib.hid hnm; clear hnm
    have HWE := Lib.hid hW; clear hW
    clear hxs hjn hl he hnl hnc hlen
    cases hg : goes x e with
    | false =>
      rw [if_neg (by simp)]
      have hgo : ∀ V, Calls Try.prog 62 #[.agg x.c, .agg e.c] V fun E w' => E = .returned (.bool false) ∧ Below V.heap.size V w' := fun V => by rw [← hg]; exact HGO.out V
      have HGO' := Lib.hid hgo; clear hgo hg hsum
      unfold Joined
      have hmk : e.c = #[.int .i64 e.a, .int .i64 e.s, .int .i64 e.n, .bool e.u] := rfl
      rw [hmk] at HS2 HWE HGO' HAPP HLD ⊢
      clear hmk l0
      generalize e.a = ea at HS2 HWE HGO' HAPP HLD ⊢
      generalize e.s = es at HS2 HWE HGO' HAPP HLD ⊢
      generalize e.n = en at HS2 HWE HGO' HAPP HLD ⊢
      generalize e.u = eu at HS2 HWE HGO' HAPP HLD ⊢
      generalize x.c = XC at HS2 HGO'
      go_enter Try.func38, Try.ntmps38
      go_wp2_with fail
      rw [← HWE.out]
      refine wp_region_E (fun V => Below W.heap.size W V) 10 rfl ?_
      have hS := (show Below W.heap.size W W.drew from (Below.refl _ W).drew)
      refine wpE_take 0 ⟨some 9, _, _, _, _, _⟩ (v := ?_) [1, 2, 3, 4, 5, 6, 7, 8, 9, 10] rfl (by kernel_rfl) (by kernel_rfl) (by kernel_rfl) (by kernel_rfl) (fun _ _ _ h => h) hS (Or.inl ⟨by kernel_rfl, ?_⟩) ?_
      rotate_left
      · (intro V hSw; obtain ⟨hq1, hq2⟩ := HS2.out V hSw; go_simp; try with_reducible rfl)
      try simp only [Act.put]
      refine wpE_take 1 ⟨some 10, _, _, _, _, _⟩ (v := ?_) [2, 3, 4, 5, 6, 7, 8, 9, 10] rfl (by kernel_rfl) (by kernel_rfl) (by kernel_rfl) (by kernel_rfl) (fun _ _ _ h => h) hS (Or.inl ⟨by kernel_rfl, ?_⟩) ?_
      rotate_left
      · (intro V hSw; obtain ⟨hq1, hq2⟩ := HS2.out V hSw; go_simp; try with_reducible rfl)
      try simp only [Act.put]
      refine wpE_take 2 ⟨some 11, _, _, _, _, _⟩ (v := ?_) [3, 4, 5, 6, 7, 8, 9, 10] rfl (by kernel_rfl) (by kernel_rfl) (by kernel_rfl) (by kernel_rfl) (fun _ _ _ h => h) hS (Or.inl ⟨by kernel_rfl, ?_⟩) ?_
      rotate_left
      · (intro V hSw; obtain ⟨hq1, hq2⟩ := HS2.out V hSw; go_simp; try with_reducible rfl)
      try simp only [Act.put]
      refine wpE_take 3 ⟨some 12, _, _, _, _, _⟩ (v := ?_) [5, 6, 8, 9, 10] rfl (by kernel_rfl) (by kernel_rfl) (by kernel_rfl) (by kernel_rfl) (fun _ _ _ h => h) hS (Or.inl ⟨by kernel_rfl, ?_⟩) ?_
      rotate_left
      · (intro V hSw; obtain ⟨hq1, hq2⟩ := HS2.out V hSw; go_simp; try with_reducible rfl)
      try simp only [Act.put]
      refine wpE_take 4 ⟨some 13, _, _, _, _, _⟩ (v := ?_) [5, 6, 8, 9, 10] rfl (by kernel_rfl) (by kernel_rfl) (by kernel_rfl) (by kernel_rfl) (fun _ _ _ h => h) hS (Or.inl ⟨by kernel_rfl, ?_⟩) ?_
      rotate_left
      · (intro V hSw; obtain ⟨hq1, hq2⟩ := HS2.out V hSw; go_simp; try with_reducible rfl)
      try simp only [Act.put]
      refine wpE_take 5 ⟨some 14, _, _, _, _, _⟩ (v := ?_) [6, 8, 9, 10] rfl (by kernel_rfl) (by kernel_rfl) (by kernel_rfl) (by kernel_rfl) (fun _ _ _ h => h) hS (Or.inl ⟨by kernel_rfl, ?_⟩) ?_
      rotate_left
      · (intro V hSw; obtain ⟨hq1, hq2⟩ := HS2.out V hSw; go_simp; try with_reducible rfl)
      try simp only [Act.put]
      refine wpE_take 6 ⟨some 15, _, _, _, _, _⟩ (v := ?_) [8, 9, 10] rfl (by kernel_rfl) (by kernel_rfl) (by kernel_rfl) (by kernel_rfl) (fun _ _ _ h => h) hS (Or.inl ⟨by kernel_rfl, ?_⟩) ?_
      rotate_left
      · (intro V hSw; obtain ⟨hq1, hq2⟩ := HS2.out V hSw; go_simp; try with_reducible rfl)
      try simp only [Act.put]
      refine wpE_take 7 ⟨some 16, _, _, _, _, _⟩ (v := ?_) [8, 9, 10] rfl (by kernel_rfl) (by kernel_rfl) (by kernel_rfl) (by kernel_rfl) (fun _ _ _ h => h) hS (Or.inl ⟨by kernel_rfl, ?_⟩) ?_
      rotate_left
      · (intro V hSw; obtain ⟨hq1, hq2⟩ := HS2.out V hSw; go_simp; try with_reducible rfl)
      try simp only [Act.put]
      refine wpE_one 8 (o := ⟨some 17, _, _, _, _, _⟩) (by kernel_rfl) rfl (fun K' hK' => ?_)
      rw [if_pos (by kernel_rfl)]
      refine call_wp 62 _ _ _ _ rfl Try.func62 (by kernel_rfl) rfl _ ?hv _ (HGO'.out _) ?_
      case hv => simp only [List.map_toArray, List.map_cons, List.map_nil]; go_simp
      rintro E V1 ⟨rfl, hb1⟩
      have HW1 := Lib.hid (hS.trans (hb1.mono hS.size))
      clear hb1
      refine ⟨_, rfl, ?_⟩
      refine hK'.out _ _ HW1.out (fun hS => ?_)
      clear hK' K'
      try simp only [Act.put]
      refine wpE_take 9 ⟨some 18, _, _, _, _, _⟩ (v := ?_) [10] rfl (by kernel_rfl) (by kernel_rfl) (by kernel_rfl) (by kernel_rfl) (fun _ _ _ h => h) hS (Or.inl ⟨by kernel_rfl, ?_⟩) ?_
      rotate_left
      · (intro V hSw; obtain ⟨hq1, hq2⟩ := HS2.out V hSw; go_simp; try with_reducible rfl)
      try simp only [Act.put]
      refine wpE_last (by kernel_rfl) rfl (fun K' hK' => ?_)
      go_simp
      refine hK'.out _ _ ?_
      clear hK' K'
      refine wpE_done (by kernel_rfl) ?_ _
      clear hwm hn1 hm0 hmn hn0
      have l0 := HLD.out V1 HW1.out
      obtain ⟨v', W', hrun, ho', hgr⟩ := HAPP.out V1 HW1.out
      obtain ⟨A', c', rfl⟩ := ho'.shape
      have HO := Lib.hid ho'; clear ho'
      have HGR := Lib.hid hgr; clear hgr
      go_wp2_with (at_builtin; refine wpList_apprun rfl _ _ _ _ (by rfl) _ _ (by rfl) (by rfl) _ _ hrun ?_)
      clear hrun l0
      go_wp2
      go_ret
      refine ⟨A', c', ?_, HO.out, HGR.out⟩
      rw [show (p ++ [x] ++ [e]).length = p.length + 2 by simp]
      rfl
    | true =>
      rw [if_pos rfl]
      have hgo : ∀ V, Calls Try.prog 62 #[.agg x.c, .agg e.c] V fun E w' => E = .returned (.bool true) ∧ Below V.heap.size V w' := fun V => by rw [← hg]; exact HGO.out V
      have HGO' := Lib.hid hgo; clear hgo hg HAPP
      obtain ⟨nx, hnx⟩ : ∃ nx, nx = x.n + e.n := ⟨_, rfl⟩
      rw [← hnx]
      have HNX := Lib.hid hnx; clear hnx
      unfold Joined
      have hcel : ∀ V, Below W.heap.size W V → V.cell? ⟨g, m * 4 + 2, none⟩ = some (.int .i64 x.n) ∧ V.cell? ⟨w.heap.size, 2, none⟩ = some (.int .i64 e.n) := fun V hV => ⟨(HRD.out V hV).2, HLDN.out V hV⟩
      have hsum2 : x.n + e.n ≤ 9223372036854775807 ∧ -9223372036854775808 ≤ x.n + e.n := hsum
      have HCEL := Lib.hid hcel; clear hcel
      clear hsum
      have HWE' : Hid (W = w.alloc (.cells e.c 24)) := HWE
      generalize hxn : x.n = xn at HCEL HNX hsum2
      generalize hen : e.n = en at HCEL HNX hsum2
      obtain ⟨hsA, hsB⟩ := hsum2
      generalize x.c = XC at HS2 HGO'
      generalize hEC : e.c = EC at HS2 HGO' HWE ⊢
      have HXN := Lib.hid hxn; clear hxn
      have HEN := Lib.hid hen; clear hen
      clear hEC HWE' l0 HLD HLDN HV
      go_enter Try.func38, Try.ntmps38
      go_wp2_with fail
      rw [← HWE.out]
      refine wp_region_E (fun V => Below W.heap.size W V) 10 rfl ?_
      have hS := (show Below W.heap.size W W.drew from (Below.refl _ W).drew)
      refine wpE_take 0 ⟨some 9, _, _, _, _, _⟩ (v := ?_) [1, 2, 3, 4, 5, 6, 7, 8, 9, 10] rfl (by kernel_rfl) (by kernel_rfl) (by kernel_rfl) (by kernel_rfl) (fun _ _ _ h => h) hS (Or.inl ⟨by kernel_rfl, ?_⟩) ?_
      rotate_left
      · (intro V hSw; obtain ⟨hq1, hq2⟩ := HS2.out V hSw; go_simp; try with_reducible rfl)
      try simp only [Act.put]
      refine wpE_take 1 ⟨some 10, _, _, _, _, _⟩ (v := ?_) [2, 3, 4, 5, 6, 7, 8, 9, 10] rfl (by kernel_rfl) (by kernel_rfl) (by kernel_rfl) (by kernel_rfl) (fun _ _ _ h => h) hS (Or.inl ⟨by kernel_rfl, ?_⟩) ?_
      rotate_left
      · (intro V hSw; obtain ⟨hq1, hq2⟩ := HS2.out V hSw; go_simp; try with_reducible rfl)
      try simp only [Act.put]
      refine wpE_take 2 ⟨some 11, _, _, _, _, _⟩ (v := ?_) [3, 4, 5, 6, 7, 8, 9, 10] rfl (by kernel_rfl) (by kernel_rfl) (by kernel_rfl) (by kernel_rfl) (fun _ _ _ h => h) hS (Or.inl ⟨by kernel_rfl, ?_⟩) ?_
      rotate_left
      · (intro V hSw; obtain ⟨hq1, hq2⟩ := HS2.out V hSw; go_simp; try with_reducible rfl)
      try simp only [Act.put]
      refine wpE_take 3 ⟨some 12, _, _, _, _, _⟩ (v := ?_) [5, 6, 8, 9, 10] rfl (by kernel_rfl) (by kernel_rfl) (by kernel_rfl) (by kernel_rfl) (fun _ _ _ h => h) hS (Or.inl ⟨by kernel_rfl, ?_⟩) ?_
      rotate_left
      · (intro V hSw; obtain ⟨hq1, hq2⟩ := HS2.out V hSw; go_simp; try with_reducible rfl)
      try simp only [Act.put]
      refine wpE_take 4 ⟨some 13, _, _, _, _, _⟩ (v := ?_) [5, 6, 8, 9, 10] rfl (by kernel_rfl) (by kernel_rfl) (by kernel_rfl) (by kernel_rfl) (fun _ _ _ h => h) hS (Or.inl ⟨by kernel_rfl, ?_⟩) ?_
      rotate_left
      · (intro V hSw; obtain ⟨hq1, hq2⟩ := HS2.out V hSw; go_simp; try with_reducible rfl)
      try simp only [Act.put]
      refine wpE_take 5 ⟨some 14, _, _, _, _, _⟩ (v := ?_) [6, 8, 9, 10] rfl (by kernel_rfl) (by kernel_rfl) (by kernel_rfl) (by kernel_rfl) (fun _ _ _ h => h) hS (Or.inl ⟨by kernel_rfl, ?_⟩) ?_
      rotate_left
      · (intro V hSw; obtain ⟨hq1, hq2⟩ := HS2.out V hSw; go_simp; try with_reducible rfl)
      try simp only [Act.put]
      refine wpE_take 6 ⟨some 15, _, _, _, _, _⟩ (v := ?_) [8, 9, 10] rfl (by kernel_rfl) (by kernel_rfl) (by kernel_rfl) (by kernel_rfl) (fun _ _ _ h => h) hS (Or.inl ⟨by kernel_rfl, ?_⟩) ?_
      rotate_left
      · (intro V hSw; obtain ⟨hq1, hq2⟩ := HS2.out V hSw; go_simp; try with_reducible rfl)
      try simp only [Act.put]
      refine wpE_take 7 ⟨some 16, _, _, _, _, _⟩ (v := ?_) [8, 9, 10] rfl (by kernel_rfl) (by kernel_rfl) (by kernel_rfl) (by kernel_rfl) (fun _ _ _ h => h) hS (Or.inl ⟨by kernel_rfl, ?_⟩) ?_
      rotate_left
      · (intro V hSw; obtain ⟨hq1, hq2⟩ := HS2.out V hSw; go_simp; try with_reducible rfl)
      try simp only [Act.put]
      refine wpE_one 8 (o := ⟨some 17, _, _, _, _, _⟩) (by kernel_rfl) rfl (fun K' hK' => ?_)
      rw [if_pos (by kernel_rfl)]
      refine call_wp 62 _ _ _ _ rfl Try.func62 (by kernel_rfl) rfl _ ?hv _ (HGO'.out _) ?_
      case hv => simp only [List.map_toArray, List.map_cons, List.map_nil]; go_simp
      rintro E V1 ⟨rfl, hb1⟩
      have HW1 := Lib.hid (hS.trans (hb1.mono hS.size))
      clear hb1
      refine ⟨_, rfl, ?_⟩
      refine hK'.out _ _ HW1.out (fun hS => ?_)
      clear hK' K'
      try simp only [Act.put]
      refine wpE_take 9 ⟨some 18, _, _, _, _, _⟩ (v := ?_) [10] rfl (by kernel_rfl) (by kernel_rfl) (by kernel_rfl) (by kernel_rfl) (fun _ _ _ h => h) hS (Or.inl ⟨by kernel_rfl, ?_⟩) ?_
      rotate_left
      · (intro V hSw; obtain ⟨hq1, hq2⟩ := HS2.out V hSw; go_simp; try with_reducible rfl)
      try simp only [Act.put]
      refine wpE_last (by kernel_rfl) rfl (fun K' hK' => ?_)
      go_simp
      refine hK'.out _ _ ?_
      clear hK' K'
      refine wpE_done (by kernel_rfl) ?_ _
      go_wp2_with fail
      have hfr := HFR.out V1.drew HW1.out.drew (m * 4 + 2)
      have hfr' : V1.frozen? ⟨g, m * 4 + 2, none⟩ = false := hfr
      have hce := (HCEL.out V1 HW1.out).1
      have hws : IntKind.i64.wrap (xn + en) = xn + en := by rw [IntKind.wrap_i64]; omega
      refine wp_region_E (fun V => Below W.heap.size W V) 10 rfl ?_
      have hS := (show Below W.heap.size W V1.drew from HW1.out.drew)
      refine wpE_take 0 ⟨some 24, _, _, _, _, _⟩ (v := ?_) [2, 3, 4, 7, 8, 9, 10] rfl (by kernel_rfl) (by kernel_rfl) (by kernel_rfl) (by kernel_rfl) (fun _ _ _ h => h) hS (Or.inl ⟨by kernel_rfl, ?_⟩) ?_
      rotate_left
      · (intro V hSw; obtain ⟨hq1, hq2⟩ := HCEL.out V hSw; go_simp; try with_reducible rfl)
      try simp only [Act.put]
      refine wpE_take 1 ⟨some 25, _, _, _, _, _⟩ (v := ?_) [2, 3, 4, 7, 8, 9, 10] rfl (by kernel_rfl) (by kernel_rfl) (by kernel_rfl) (by kernel_rfl) (fun _ _ _ h => h) hS (Or.inl ⟨by kernel_rfl, ?_⟩) ?_
      rotate_left
      · (intro V hSw; obtain ⟨hq1, hq2⟩ := HCEL.out V hSw; go_simp; try with_reducible rfl)
      try simp only [Act.put]
      refine wpE_take 2 ⟨some 26, _, _, _, _, _⟩ (v := ?_) [3, 4, 7, 8, 9, 10] rfl (by kernel_rfl) (by kernel_rfl) (by kernel_rfl) (by kernel_rfl) (fun _ _ _ h => h) hS (Or.inl ⟨by kernel_rfl, ?_⟩) ?_
      rotate_left
      · (intro V hSw; obtain ⟨hq1, hq2⟩ := HCEL.out V hSw; go_simp; try with_reducible rfl)
      try simp only [Act.put]
      refine wpE_take 3 ⟨some 27, _, _, _, _, _⟩ (v := ?_) [4, 7, 8, 9, 10] rfl (by kernel_rfl) (by kernel_rfl) (by kernel_rfl) (by kernel_rfl) (fun _ _ _ h => h) hS (Or.inl ⟨by kernel_rfl, ?_⟩) ?_
      rotate_left
      · (intro V hSw; obtain ⟨hq1, hq2⟩ := HCEL.out V hSw; go_simp; try with_reducible rfl)
      try simp only [Act.put]
      refine wpE_take 4 ⟨some 28, _, _, _, _, _⟩ (v := ?_) [7, 8, 9, 10] rfl (by kernel_rfl) (by kernel_rfl) (by kernel_rfl) (by kernel_rfl) (fun _ _ _ h => h) hS (Or.inl ⟨by kernel_rfl, ?_⟩) ?_
      rotate_left
      · (intro V hSw; obtain ⟨hq1, hq2⟩ := HCEL.out V hSw; go_simp; try with_reducible rfl)
      try simp only [Act.put]
      refine wpE_take 5 ⟨some 29, _, _, _, _, _⟩ (v := ?_) [6, 7, 8, 9, 10] rfl (by kernel_rfl) (by kernel_rfl) (by kernel_rfl) (by kernel_rfl) (fun _ _ _ h => h) hS (Or.inl ⟨by kernel_rfl, ?_⟩) ?_
      rotate_left
      · (intro V hSw; obtain ⟨hq1, hq2⟩ := HCEL.out V hSw; go_simp; try with_reducible rfl)
      try simp only [Act.put]
      refine wpE_take 6 ⟨some 30, _, _, _, _, _⟩ (v := ?_) [7, 8, 9, 10] rfl (by kernel_rfl) (by kernel_rfl) (by kernel_rfl) (by kernel_rfl) (fun _ _ _ h => h) hS (Or.inl ⟨by kernel_rfl, ?_⟩) ?_
      rotate_left
      · (intro V hSw; obtain ⟨hq1, hq2⟩ := HCEL.out V hSw; go_simp; try with_reducible rfl)
      try simp only [Act.put]
      refine wpE_take 7 ⟨some 31, _, _, _, _, _⟩ (v := ?_) [8, 9, 10] rfl (by kernel_rfl) (by kernel_rfl) (by kernel_rfl) (by kernel_rfl) (fun _ _ _ h => h) hS (Or.inl ⟨by kernel_rfl, ?_⟩) ?_
      rotate_left
      · (intro V hSw; obtain ⟨hq1, hq2⟩ := HCEL.out V hSw; go_simp; try with_reducible rfl)
      try simp only [Act.put]
      refine wpE_take 8 ⟨some 32, _, _, _, _, _⟩ (v := ?_) [9, 10] rfl (by kernel_rfl) (by kernel_rfl) (by kernel_rfl) (by kernel_rfl) (fun _ _ _ h => h) hS (Or.inl ⟨by kernel_rfl, ?_⟩) ?_
      rotate_left
      · (intro V hSw; obtain ⟨hq1, hq2⟩ := HCEL.out V hSw; go_simp; try with_reducible rfl)
      try simp only [Act.put]
      refine wpE_take 9 ⟨some 33, _, _, _, _, _⟩ (v := ?_) [10] rfl (by kernel_rfl) (by kernel_rfl) (by kernel_rfl) (by kernel_rfl) (fun _ _ _ h => h) hS (Or.inl ⟨by kernel_rfl, ?_⟩) ?_
      rotate_left
      · (intro V hSw; obtain ⟨hq1, hq2⟩ := HCEL.out V hSw; go_simp; try with_reducible rfl)
      try simp only [Act.put]
      refine wpE_last (by kernel_rfl) rfl (fun K' hK' => ?_)
      go_simp
      refine hK'.out _ _ ?_
      clear hK' K'
      refine wpE_done (by kernel_rfl) ?_ _
      rw [← HNX.out]
      go_wp2
      go_ret
      have ho := HOWN.out V1.drew HW1.out.drew
      have hs := OwnX.setLen ho nx
      rw [← HM.out] at hs
      refine ⟨some ⟨g, 0, none⟩, c, ?_, ?_, ?_⟩
      · rw [show (p ++ [(⟨x.a, x.s, nx, x.u⟩ : X)]).length = n by rw [HNM.out, HM.out]; simp]; rfl
      · rw [show (p ++ [(⟨x.a, x.s, nx, x.u⟩ : X)]).length = n by rw [HNM.out, HM.out]; simp]; exact hs.1
      · rw [show (p ++ [(⟨x.a, x.s, nx, x.u⟩ : X)]).length = n by rw [HNM.out, HM.out]; simp]
        have hb : Below w.heap.size w V1.drew := HBW.out.trans ((show Below W.heap.size W V1.drew from HW1.out.drew).mono HBW.out.size)
        exact ⟨grown_trans (grown_of_below hb _) hs.2, fun k hk => .inl hk⟩
end Go.Proofs.Ytkhenchhafmlmaa.Ex
