/- Rows of the call's own through stores and appends elsewhere. -/
import Derived.Test.YtelnoibfamcnmaaGreatRcHeld
import Derived.Test.YtelnoibfamcnmaaGreatReg
import Derived.Deep.RegionHeldLaw
namespace Go.Proofs.YtelnoibfamcnmaaGreat.Rec
set_option maxRecDepth 20000
open Go.RowKit
open Go.Proofs.YtelnoibfamcnmaaGreat.Mem Go.Proofs.YtelnoibfamcnmaaGreat.Crc Go.Proofs.YtelnoibfamcnmaaGreat.Reg

/-! Rows of the call's own through stores and appends elsewhere -/
theorem ownsRow_store {w : World} {base : Nat} {e : TypeId} {size n : Nat} {v : Value} {xs : List Value} (h : w.ownsRow base e size v n xs) {p j : Nat} {u : Value} {cur : Array Value} {T : TypeId}
    (hp : w.heap[p]? = some (.cells cur T (0, 0))) (hne : e ≠ T) : (w.setCell ⟨p, j, none⟩ u).ownsRow base e size v n xs := by
  obtain ⟨h1, h2⟩ := h
  refine ⟨h1, ?_⟩
  rcases h2 with h2 | ⟨g, cap, cu, ev, hg, hh, r⟩
  · exact .inl h2
  · refine .inr ⟨g, cap, cu, ev, hg, ?_, r⟩
    rw [Below.heap_setCell _ _ _ _ ?_]
    · exact hh
    · show g ≠ p
      intro e1
      subst e1
      rw [hh] at hp
      injection hp with hp
      injection hp with _ hp
      exact hne hp
theorem ownsRow_grown {w w' : World} {base base' : Nat} {e e' : TypeId} {size n size' n' : Nat} {v v' : Value} {xs xs' : List Value} (h : w.ownsRow base e size v n xs) (h' : w.ownsRow base' e' size' v' n' xs') (hne : e ≠ e') (hg : w.grownBy w' v'.ownBlock) :
    w'.ownsRow base e size v n xs := by
  refine World.ownsRow.kept h hg ?_
  cases hb : v.ownBlock with
  | none => exact .inl rfl
  | some q =>
    right
    intro e1
    obtain ⟨cur, h1⟩ := row_type h hb
    obtain ⟨cur', h2⟩ := row_type h' e1.symm
    rw [h1] at h2
    injection h2 with h2
    injection h2 with _ h2
    exact hne h2
theorem block_grown {w w' : World} {base' : Nat} {e' : TypeId} {size' n' : Nat} {v' : Value} {xs' : List Value} {p : Nat} {cur : Array Value} {T : TypeId} (hp : w.heap[p]? = some (.cells cur T (0, 0))) (h' : w.ownsRow base' e' size' v' n' xs') (hne : T ≠ e') (hg : w.grownBy w' v'.ownBlock) :
    w'.heap[p]? = some (.cells cur T (0, 0)) := by
  rw [hg.block p (Array.getElem?_eq_some_iff.1 hp).1 ?_]
  · exact hp
  · intro e1
    obtain ⟨cur', h2⟩ := row_type h' e1.symm
    rw [hp] at h2
    injection h2 with h2
    injection h2 with _ h2
    exact hne h2
theorem OwnsW.store {w : World} {base : Nat} {A : Option Addr} {n c : Nat} {ws : List Wt} {vs : List Value} (h : OwnsW w base A n c ws vs) {p j : Nat} {u : Value} {cur : Array Value} {T : TypeId}
    (hp : w.heap[p]? = some (.cells cur T (0, 0))) (h1 : 56 ≠ T) (h2 : 5 ≠ T) : OwnsW (w.setCell ⟨p, j, none⟩ u) base A n c ws vs :=
  ⟨h.cnt, h.len, ownsRow_store h.row hp h1, fun k x v hx hv => ownsRow_store (h.data k x v hx hv) hp h2, h.apart⟩

set_option maxRecDepth 20000 in
/-- 'append([]int{}, rs...)'. -/
theorem run_addints (w : World) (ty : TypeId) (base : Nat) (v : Value) (hown : w.ownsRow base 3 1 v 0 []) (B : Nat) (A : Option Addr) (m c : Nat) (rs : List Int) (hr : HoldsI w B A m rs)
    (hlen : m * 8 ≤ 140737488355328) (hbase : base ≤ w.heap.size) :
    ∃ A' c' w', (Builtin.append_ #[61, 61] ty #[v, .slice A m c]).run Tryz.prog w = .ok (.slice A' m c') w' ∧ w'.ownsRow base 3 1 (.slice A' m c') m (rs.map (Value.int .i64)) ∧ w.grownBy w' v.ownBlock := by
  obtain ⟨i0, hi, hz0, hz1, hz2⟩ := info_parts info_int
  obtain ⟨hl, hc⟩ := hr
  rcases A with _ | ad
  · have hm : m = 0 := by
      rcases Nat.eq_zero_or_pos m with h0 | h0
      · exact h0
      · obtain ⟨b, off, e, _⟩ := hc h0; cases e
    subst hm
    obtain rfl : rs = [] := List.eq_nil_of_length_eq_zero hl
    rcases hown.2 with ⟨rfl, _⟩ | ⟨g, cap, cur, rfl, _, _, hnc, _⟩
    · exact ⟨none, 0, w, by simp [Builtin.append_, run_underlying Tryz.underlying61, sizeOf, typeInfo, hi, Builtin.lenOf, Builtin.firstCells], hown, ⟨rfl, rfl, rfl, Nat.le_refl _, fun _ _ _ => rfl⟩⟩
    · exact ⟨some ⟨g, 0, none⟩, cap, w, by simp [Builtin.append_, run_underlying Tryz.underlying61, sizeOf, typeInfo, hi, Builtin.lenOf, Builtin.firstCells, storeCells], hown, ⟨rfl, rfl, rfl, Nat.le_refl _, fun _ _ _ => rfl⟩⟩
  · have hcells : ∀ j u, (rs.map (Value.int .i64))[j]? = some u → w.cell? (ad.add j) = some u := by
      intro j u hu
      have hj : j < rs.length := by
        rcases Nat.lt_or_ge j rs.length with h | h
        · exact h
        · rw [List.getElem?_eq_none (by simpa using h)] at hu; cases hu
      obtain ⟨b, off, e, _, hcell⟩ := hc (by omega)
      injection e with e
      subst e
      have hadd : (⟨b, off, none⟩ : Addr).add j = ⟨b, off + j, none⟩ := by unfold Addr.add; split <;> simp_all
      rw [hadd, hcell j _ (List.getElem?_eq_getElem hj)]
      rw [List.getElem?_map, List.getElem?_eq_getElem hj] at hu
      exact hu
    obtain ⟨v', w', hrun, h2, h3, _⟩ := run_append_own_at (P := Tryz.prog) w base 61 ty 3 i0 (.int .i64 0) 1 8 Tryz.underlying61 hi hz0 hz1 hz2 rfl (by decide) v 0 [] hown ad m c (rs.map (Value.int .i64)) (by simp; omega) hcells
      (by intro u hu; obtain ⟨c, _, rfl⟩ := List.mem_map.1 hu; rfl) (by unfold maxLen; omega) (by omega) hbase
    rw [Nat.zero_add, List.nil_append] at h2
    rcases h2.2 with ⟨rfl, h0⟩ | ⟨g, cap, cur, rfl, _⟩
    · subst h0; exact ⟨none, 0, w', hrun, h2, h3⟩
    · exact ⟨some ⟨g, 0, none⟩, cap, w', hrun, h2, h3⟩
/-- The same as one step of a region that draws its order. -/
theorem step_addints {w : World} {ops : Array Oper} {o : Oper} {a : Act} {K : Act → World → Prop} {Q : Exit → Act → World → Prop} {E : Prop} (hgd : o.guard = none) (s x : Operand)
    (ho : o.op = .call { callee := .builtin .append, args := #[s, x], argTypes := #[61, 61] })
    (base : Nat) (v : Value) (hs : a.eval s = v) (hown : w.ownsRow base 3 1 v 0 []) (B : Nat) (A : Option Addr) (m c : Nat) (rs : List Int) (hx : a.eval x = .slice A m c) (hr : HoldsI w B A m rs)
    (hlen : m * 8 ≤ 140737488355328) (hbase : base ≤ w.heap.size)
    (h : ∀ A' c' w', w'.ownsRow base 3 1 (.slice A' m c') m (rs.map (Value.int .i64)) → w.grownBy w' v.ownBlock → K (a.put o.dst (.slice A' m c')) w') : if Region.wanted o (yielded ops a.tmps) = true then Oper.wp Tryz.prog o a w K Q else E := by
  have hw : Region.wanted o (yielded ops a.tmps) = true := by simp [Region.wanted, hgd]
  rw [if_pos hw]
  obtain ⟨A', c', w', hrun, h2, h3⟩ := run_addints w o.type base v hown B A m c rs hr hlen hbase
  unfold Oper.wp execOp
  simp only [ho, resolve, invoke, builtin, Sem.run_bind, Sem.run_pure, Result.andThen_ok, List.map_toArray, List.map_cons, List.map_nil, hs, hx, hrun]
  exact h A' c' w' h2 h3
end Go.Proofs.YtelnoibfamcnmaaGreat.Rec
