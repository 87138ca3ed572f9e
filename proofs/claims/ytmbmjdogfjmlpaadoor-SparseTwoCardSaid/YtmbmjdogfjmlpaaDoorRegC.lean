/- Regions that draw their order: a call of a Go function that answers one value in every world that meets the region's condition, and leaves each such world as it is, may be taken first, as a load may. Proved for every region. -/
import Derived.Test.YtmbmjdogfjmlpaaDoorReg
namespace Go.Proofs.YtmbmjdogfjmlpaaDoor.Reg
set_option maxRecDepth 20000
open Go Go.RowKit

section
variable {P : Program} {ops : Array Oper} {Q : Exit → Act → World → Prop} {md : Region.Mode} {S : World → Prop} {st : Nat}

/-- In every world that meets S the operation enters a function that answers v and leaves the world as it is. -/
def YieldsC (P : Program) (ops : Array Oper) (S : World → Prop) (o : Oper) (v : Value) (a : Act) : Prop :=
  Region.wanted o (yielded ops a.tmps) = true ∧ ∀ w, S w → ∃ f args, (execOp a.eval o).run P w = .ok (.enter f args) w ∧ Calls P f args w fun e w' => e = .returned v ∧ w = w'

theorem YieldsC.go {i : Nat} {o : Oper} {v : Value} {a : Act} (hi : ops[i]? = some o) (hy : YieldsC P ops S o v a) {K : Act → World → Prop} {w : World} (hS : S w) (h : K (a.put o.dst v) w) : wpOp P ops Q i K a w := by
  obtain ⟨hw, hc⟩ := hy
  obtain ⟨f, args, hr, hc⟩ := hc w hS
  unfold wpOp
  simp only [hi, hw, if_true]
  left
  unfold Oper.wp
  rw [hr, Oper.upon_enter]
  refine hc.mono ?_
  rintro e w' ⟨rfl, rfl⟩
  exact h
theorem YieldsC.same {o : Oper} {v : Value} {a a' : Act} (hy : YieldsC P ops S o v a) (he : execOp a'.eval o = execOp a.eval o) (hw : Region.wanted o (yielded ops a'.tmps) = Region.wanted o (yielded ops a.tmps)) : YieldsC P ops S o v a' := by
  unfold YieldsC at *
  rw [he, hw]
  exact hy

/-- What is true of an act, and stays true when an operation's place is written, is true behind the operation. -/
theorem wpOp_keep {j : Nat} {oj : Oper} (hj : ops[j]? = some oj) {I : Act → Prop} {K : Act → World → Prop} {a : Act} {w : World} (hp : ∀ a', I a' → ∀ u, I (a'.put oj.dst u)) (hd : ∀ d, I { a with defers := d :: a.defers })
    (hI : I a) (h : wpOp P ops Q j K a w) : wpOp P ops Q j (fun a' w' => I a' ∧ K a' w') a w := by
  unfold wpOp at h ⊢
  simp only [hj] at h ⊢
  by_cases hw : Region.wanted oj (yielded ops a.tmps) = true
  · rw [if_pos hw] at h ⊢
    refine h.imp (fun h => ?_) id
    unfold Oper.wp at h ⊢
    generalize (execOp a.eval oj).run P w = r at h ⊢
    match r with
    | .ok (.value u) _ => exact ⟨hp a hI u, h⟩
    | .ok .skip _ => exact ⟨hp a hI _, h⟩
    | .ok (.defer d) _ => exact ⟨hp _ (hd d) _, h⟩
    | .ok (.enter f args) _ =>
      rw [Oper.upon_enter] at h ⊢
      refine h.mono fun e w'' he => ?_
      match e with
      | .returned u => exact ⟨hp a hI u, he⟩
      | .panicked _ => exact he
      | .outgrown => exact he
    | .ok (.row row args) _ =>
      rw [Oper.upon_row] at h ⊢
      exact Rows.mono h fun u w'' he => ⟨hp a hI u, he⟩
    | .halt x _ => cases x <;> exact h
  · rw [if_neg hw] at h ⊢
    exact ⟨hp a hI _, h⟩

theorem wpOp_putC {j : Nat} {oi oj : Oper} {v : Value} (hj : ops[j]? = some oj) (hap : oi.apart ops oj = true) (hsi : ∀ cs b, oi.op ≠ .select cs b) (hsj : ∀ cs b, oj.op ≠ .select cs b)
    (hQ : ∀ c a w, Q (.panic c) (a.put oi.dst v) w → Q (.panic c) a w) {K : Act → World → Prop} {a : Act} {w : World} (hy : YieldsC P ops S oi v a) (h : wpOp P ops Q j K (a.put oi.dst v) w) :
    wpOp P ops Q j (fun a' w' => YieldsC P ops S oi v a' ∧ K (a'.put oi.dst v) w') a w := by
  have h1 := wpOp_putIf (S := fun _ => False) hj hap hsi hsj hQ (Or.inl ⟨hy.1, fun w hw => hw.elim⟩) h
  have h3 := (Oper.apart_spec hap).2.2
  have h2 := wpOp_keep (I := YieldsC P ops S oi v) hj (fun a' hI u => hI.same (execOp_put oi hsi a' oj.dst u h3) (wanted_put oi a' oj.dst u h3)) (fun d => hy.same rfl rfl) hy h1
  exact wpOp_mono (fun a' w' h => ⟨h.1, h.2.2⟩) h2

theorem wpAnyE_firstC {i : Nat} {oi : Oper} {v : Value} {ks : List Nat} (hst : st ∈ ks) (hi : ops[i]? = some oi) (hsel : ∀ (j : Nat) (o : Oper) cs b, ops[j]? = some o → o.op ≠ .select cs b)
    (hQ : ∀ c a w, Q (.panic c) (a.put oi.dst v) w → Q (.panic c) a w) :
    ∀ (fuel : Nat) (listed : Array Bool) (a : Act) (w : World),
      (∀ j oj, ops[j]? = some oj → j ≠ i → listed.getD j true = false → (∀ e ∈ oj.after, Region.binds md e = true → e.on ≠ i) → oi.apart ops oj = true) →
      i ∈ Region.ready md ops listed → Waits md ops listed i ks → YieldsC P ops S oi v a → S w →
      wpAnyE P md ops Q S st fuel (listed.setIfInBounds i true) (a.put oi.dst v) w → wpAnyE P md ops Q S st (fuel + 1) listed a w := by
  intro fuel
  induction fuel with
  | zero =>
    intro listed a w _ hr _ hy hS H
    refine ⟨fun h => (by rw [h] at hr; cases hr), fun j hj => ?_⟩
    by_cases hji : j = i
    · subst hji; exact hy.go hi hS ⟨.inr hS, H⟩
    · have := ready_mono hj hji
      rw [H.1] at this
      cases this
  | succ fuel ih =>
    intro listed a w hfree hr hwt hy hS H
    refine ⟨fun h => (by rw [h] at hr; cases hr), fun j hj => ?_⟩
    by_cases hji : j = i
    · subst hji; exact hy.go hi hS ⟨.inr hS, H⟩
    · have h1 := H.2 j (ready_mono hj hji)
      obtain ⟨hjun, oj, hoj, hall⟩ := mem_ready.1 hj
      have h0 := (mem_ready.1 hr).1
      have hjk := hwt.not_ready h0 hj
      have hnot : ∀ e ∈ oj.after, Region.binds md e = true → e.on ≠ i := fun e he hb heq => by
        have h1 := hall e he hb
        rw [heq] at h1
        exact getD_false h0 h1
      have h2 := wpOp_putC hoj (hfree j oj hoj hji hjun hnot) (fun cs b => hsel i oi cs b hi) (fun cs b => hsel j oj cs b hoj) hQ hy h1
      have hfree' : ∀ k ok, ops[k]? = some ok → k ≠ i → (listed.setIfInBounds j true).getD k true = false →
          (∀ e ∈ ok.after, Region.binds md e = true → e.on ≠ i) → oi.apart ops ok = true := fun k ok hk hki hun hno => by
        refine hfree k ok hk hki ?_ hno
        by_cases hjk : j = k
        · subst hjk; exact hjun
        · rw [getD_set_ne true hjk] at hun; exact hun
      refine wpOp_mono (fun a' w' h3 => ?_) h2
      have hS' : S w' := h3.2.1.resolve_left (fun e => hjk (e ▸ hst))
      refine ⟨.inr hS', ih (listed.setIfInBounds j true) a' w' hfree' (ready_mono hr (Ne.symm hji)) (hwt.set hjk) h3.1 hS' ?_⟩
      rw [Array.setIfInBounds_comm _ _ hji]
      exact h3.2.2

/-- Take the call number i first. -/
theorem wpE_takeC (i : Nat) (oi : Oper) {v : Value} (ks : List Nat) {fuel : Nat} {listed : Array Bool} {a : Act} {w : World} (hi : ops[i]? = some oi)
    (hs : Region.noSelect ops = true) (hf : Region.free md ops listed i = true) (hr : (Region.ready md ops listed).contains i = true) (hk : (ks.contains st && waitB md ops listed i ks) = true)
    (hQ : ∀ c a w, Q (.panic c) (a.put oi.dst v) w → Q (.panic c) a w) (hS : S w) (hy : YieldsC P ops S oi v a)
    (h : wpAnyE P md ops Q S st fuel (listed.setIfInBounds i true) (a.put oi.dst v) w) : wpAnyE P md ops Q S st (fuel + 1) listed a w := by
  simp only [Bool.and_eq_true, List.contains_iff_mem] at hk
  exact wpAnyE_firstC hk.1 hi (Region.noSelect_spec hs) hQ fuel listed a w (Region.free_spec hi hf) (by simpa using hr) (waits_of hk.2) hy hS h

/-- Number i or number j comes up next. -/
theorem wpE_pair (i j : Nat) {o o' : Oper} {fuel : Nat} {listed : Array Bool} {a : Act} {w : World} (hr : Region.ready md ops listed = [i, j]) (ho : ops[i]? = some o) (ho' : ops[j]? = some o')
    (h : ∀ K' : Act → World → Prop, Shut (∀ a w, S w → (S w → wpAnyE P md ops Q S st fuel (listed.setIfInBounds i true) a w) → K' a w) → if Region.wanted o (yielded ops a.tmps) = true then Oper.wp P o a w K' Q else K' (a.put o.dst undef) w)
    (h' : ∀ K' : Act → World → Prop, Shut (∀ a w, S w → (S w → wpAnyE P md ops Q S st fuel (listed.setIfInBounds j true) a w) → K' a w) → if Region.wanted o' (yielded ops a.tmps) = true then Oper.wp P o' a w K' Q else K' (a.put o'.dst undef) w) :
    wpAnyE P md ops Q S st (fuel + 1) listed a w :=
  ⟨fun e => (by rw [hr] at e; cases e), fun t ht => by
    rw [hr] at ht
    rcases List.mem_cons.1 ht with e | e
    · subst e
      exact wpOp_step ho (fun K' hK => h K' (fun a w hS hW => hK a w ⟨.inr hS, hW hS⟩))
    · obtain rfl : t = j := by simpa using e
      exact wpOp_step ho' (fun K' hK => h' K' (fun a w hS hW => hK a w ⟨.inr hS, hW hS⟩))⟩
end

theorem yieldsC_of {ops : Array Oper} {S : World → Prop} {o : Oper} {a : Act} {v : Value} (hw : Region.wanted o (yielded ops a.tmps) = true) (f : FuncId) (fn : Func) (cd : Code) (xs : Array Operand) (ts : Array TypeId)
    (ho : o.op = .call { callee := .value (.func f), args := xs, argTypes := ts }) (hf : Tryd.prog.funcs[f]? = some fn) (hname : (fn.name == "runtime.NumGoroutine") = false) (hb : fn.body = some cd)
    (vals : Array Value) (hv : xs.map a.eval = vals) (hc : ∀ w, S w → Calls Tryd.prog f vals w fun e w' => e = .returned v ∧ w = w') : YieldsC Tryd.prog ops S o v a := by
  refine ⟨hw, fun w hS => ⟨f, vals, ?_, hc w hS⟩⟩
  obtain ⟨dst, op, ty, pos, after, guard⟩ := o
  dsimp only at ho
  subst ho
  rw [execOp_call_go, hv]
  have h1 : fn.name ≠ "runtime.NumGoroutine" := by simpa using hname
  simp [callFunc, hf, h1, hb]
/-- A builtin's run, known, as one step. -/
theorem step_builtin {w : World} {ops : Array Oper} {o : Oper} {a : Act} {K : Act → World → Prop} {Q : Exit → Act → World → Prop} {E : Prop} (hw : Region.wanted o (yielded ops a.tmps) = true) (s x : Operand) (ts : Array TypeId)
    (ho : o.op = .call { callee := .builtin .append, args := #[s, x], argTypes := ts }) (v u v' : Value) (w' : World) (hs : a.eval s = v) (hx : a.eval x = u) (hrun : (Builtin.append_ ts o.type #[v, u]).run Tryd.prog w = .ok v' w')
    (h : K (a.put o.dst v') w') : if Region.wanted o (yielded ops a.tmps) = true then Oper.wp Tryd.prog o a w K Q else E := by
  rw [if_pos hw]
  unfold Oper.wp execOp
  simp only [ho, resolve, invoke, builtin, Sem.run_bind, Sem.run_pure, Result.andThen_ok, List.map_toArray, List.map_cons, List.map_nil, hs, hx, hrun]
  exact h
end Go.Proofs.YtmbmjdogfjmlpaaDoor.Reg
