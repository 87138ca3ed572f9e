/- Calls as steps of a region, and records in memory of the call's own. -/
import Derived.Test.YtbmbolgmeehloaaRcOwns
import Derived.Deep.RegionHeld3
import Derived.IntWalk
import Derived.Great.BuildSlice
import Derived.Deep.RegionLaw
import Derived.BigCall
namespace Go.Proofs.Ytbmbolgmeehloaa.Rec
set_option maxRecDepth 20000
open Go.RowKit
open Go.Proofs.Ytbmbolgmeehloaa.Mem Go.Proofs.Ytbmbolgmeehloaa.Crc

/-- A call of a Go function as one step of a region that draws its order. -/
theorem step_call_go {w : World} {ops : Array Oper} {o : Oper} {a : Act} {K : Act → World → Prop} {Q : Exit → Act → World → Prop} {E : Prop} (hgd : o.guard = none) (f : FuncId) (fn : Func) (cd : Code) (xs : Array Operand) (ts : Array TypeId)
    (ho : o.op = .call { callee := .value (.func f), args := xs, argTypes := ts }) (hf : Try.prog.funcs[f]? = some fn) (hname : (fn.name == "runtime.NumGoroutine") = false) (hb : fn.body = some cd)
    (vals : Array Value) (hv : xs.map a.eval = vals) (R : Ending → World → Prop) (hc : Calls Try.prog f vals w R)
    (h : ∀ e w', R e w' → ∃ v, e = .returned v ∧ K (a.put o.dst v) w') :
    if Region.wanted o (yielded ops a.tmps) = true then Oper.wp Try.prog o a w K Q else E := by
  have hw : Region.wanted o (yielded ops a.tmps) = true := by simp [Region.wanted, hgd]
  rw [if_pos hw]
  obtain ⟨dst, op, ty, pos, after, guard⟩ := o
  dsimp only at ho
  subst ho
  unfold Oper.wp
  rw [execOp_call_go, hv]
  have hr : (callFunc f (#[] ++ vals ++ #[])).run Try.prog w = .ok (.enter f vals) w := by
    have h1 : fn.name ≠ "runtime.NumGoroutine" := by simpa using hname
    simp [callFunc, hf, h1, hb]
  rw [hr]
  refine hc.mono fun e w' hR => ?_
  obtain ⟨v, rfl, hK⟩ := h e w' hR
  exact hK

theorem step_call3 {w : World} {ops : Array Oper} {o : Oper} {a : Act} {K : Act → World → Prop} {Q : Exit → Act → World → Prop} {E : Prop} (hgd : o.guard = none) (f : FuncId) (fn : Func) (cd : Code) (x0 x1 x2 : Operand) (ts : Array TypeId)
    (ho : o.op = .call { callee := .value (.func f), args := #[x0, x1, x2], argTypes := ts }) (hf : Try.prog.funcs[f]? = some fn) (hname : (fn.name == "runtime.NumGoroutine") = false) (hb : fn.body = some cd)
    (v0 v1 v2 : Value) (h0 : a.eval x0 = v0) (h1 : a.eval x1 = v1) (h2 : a.eval x2 = v2) (R : Ending → World → Prop) (hc : Calls Try.prog f #[v0, v1, v2] w R)
    (h : ∀ e w', R e w' → ∃ v, e = .returned v ∧ K (a.put o.dst v) w') :
    if Region.wanted o (yielded ops a.tmps) = true then Oper.wp Try.prog o a w K Q else E :=
  step_call_go hgd f fn cd _ ts ho hf hname hb _ (by simp only [List.map_toArray, List.map_cons, List.map_nil, h0, h1, h2]) R hc h
theorem step_call2 {w : World} {ops : Array Oper} {o : Oper} {a : Act} {K : Act → World → Prop} {Q : Exit → Act → World → Prop} {E : Prop} (hgd : o.guard = none) (f : FuncId) (fn : Func) (cd : Code) (x0 x1 : Operand) (ts : Array TypeId)
    (ho : o.op = .call { callee := .value (.func f), args := #[x0, x1], argTypes := ts }) (hf : Try.prog.funcs[f]? = some fn) (hname : (fn.name == "runtime.NumGoroutine") = false) (hb : fn.body = some cd)
    (v0 v1 : Value) (h0 : a.eval x0 = v0) (h1 : a.eval x1 = v1) (R : Ending → World → Prop) (hc : Calls Try.prog f #[v0, v1] w R)
    (h : ∀ e w', R e w' → ∃ v, e = .returned v ∧ K (a.put o.dst v) w') :
    if Region.wanted o (yielded ops a.tmps) = true then Oper.wp Try.prog o a w K Q else E :=
  step_call_go hgd f fn cd _ ts ho hf hname hb _ (by simp only [List.map_toArray, List.map_cons, List.map_nil, h0, h1]) R hc h

/-- A record that a call made since w. -/
structure OwnsT (w : World) (base : Nat) (t : Tx) (Aw : Option Addr) (cw : Nat) (Ar : Option Addr) (cr : Nat) (vs : List Value) : Prop where
  ws : OwnsW w base Aw t.ws.length cw t.ws vs
  rs : w.ownsRow base 3 1 (.slice Ar t.rs.length cr) t.rs.length (t.rs.map (Value.int .i64))
theorem ownsRow_mono {w : World} {base b' : Nat} {e : TypeId} {size n : Nat} {v : Value} {xs : List Value} (h : w.ownsRow base e size v n xs) (hb : b' ≤ base) : w.ownsRow b' e size v n xs := by
  obtain ⟨h1, h2⟩ := h
  refine ⟨h1, ?_⟩
  rcases h2 with h2 | ⟨g, cap, cur, e, hg, r⟩
  · exact .inl h2
  · exact .inr ⟨g, cap, cur, e, by omega, r⟩
theorem OwnsW.mono {w : World} {base b' : Nat} {A : Option Addr} {n c : Nat} {ws : List Wt} {vs : List Value} (h : OwnsW w base A n c ws vs) (hb : b' ≤ base) : OwnsW w b' A n c ws vs :=
  ⟨h.cnt, h.len, ownsRow_mono h.row hb, fun k x v hx hv => ownsRow_mono (h.data k x v hx hv) hb, h.apart⟩

theorem OwnsT.kept {w w' : World} {base : Nat} {t : Tx} {Aw Ar : Option Addr} {cw cr : Nat} {vs : List Value} (h : OwnsT w base t Aw cw Ar cr vs) (hk : Kept base w w') : OwnsT w' base t Aw cw Ar cr vs :=
  ⟨h.ws.kept hk, ownsRow_kept h.rs hk⟩
end Go.Proofs.Ytbmbolgmeehloaa.Rec
