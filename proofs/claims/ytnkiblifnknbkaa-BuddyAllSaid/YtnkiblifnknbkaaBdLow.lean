/- Contracts of buddy's small calls: a pool, a span within it, the least order; a call of a function value as one step of a region. -/
import Derived.Test.YtnkiblifnknbkaaReg
import Derived.Test.YtnkiblifnknbkaaBdMath
import Derived.Test.YtnkiblifnknbkaaBtFirst
import Derived.Test.YtnkiblifnknbkaaBtTold
import Derived.LoopTactic
namespace Go.Proofs.Ytnkiblifnknbkaa.Buddy
set_option maxRecDepth 20000
open Go Go.RowKit
open Go.Proofs.Ytnkiblifnknbkaa.Mem Go.Proofs.Ytnkiblifnknbkaa.Bt Go.Proofs.Ytnkiblifnknbkaa.Rec Go.Proofs.Ytnkiblifnknbkaa.Bits Go.Proofs.Ytnkiblifnknbkaa.Bd

/-- A call of a function value as one step. -/
theorem exec_val {a : Act} {dst : Option Tmp} {x : Operand} {xs : Array Operand} {ts : Array TypeId} {ty : TypeId} {pos : String} {after : Array Edge} {guard : Option (Nat × Bool)} {f : FuncId} {caps : Array Value} (hx : a.eval x = .func (.func f) #[] caps) :
    execOp a.eval { dst, op := .call { callee := .value x, args := xs, argTypes := ts }, type := ty, pos, after, guard } = callFunc f (#[] ++ xs.map a.eval ++ caps) := by
  simp [execOp, resolve, Deferred.ofValue, invoke, hx]
theorem call_val {w : World} {o : Oper} {a : Act} {K : Act → World → Prop} {Q : Exit → Act → World → Prop} (f : FuncId) (fn : Func) (cd : Code) (x : Operand) (xs : Array Operand) (ts : Array TypeId) (caps : Array Value)
    (ho : o.op = .call { callee := .value x, args := xs, argTypes := ts }) (hx : a.eval x = .func (.func f) #[] caps) (hf : Try.prog.funcs[f]? = some fn) (hname : (fn.name == "runtime.NumGoroutine") = false) (hb : fn.body = some cd)
    (vals : Array Value) (hv : xs.map a.eval ++ caps = vals) (R : Ending → World → Prop) (hc : Calls Try.prog f vals w R)
    (h : ∀ e w', R e w' → ∃ v, e = .returned v ∧ K (a.put o.dst v) w') : Oper.wp Try.prog o a w K Q := by
  obtain ⟨dst, op, ty, pos, after, guard⟩ := o
  dsimp only at ho
  subst ho
  unfold Oper.wp
  rw [exec_val hx, Array.empty_append, hv]
  have hr : (callFunc f vals).run Try.prog w = .ok (.enter f vals) w := by
    have h1 : fn.name ≠ "runtime.NumGoroutine" := by simpa using hname
    simp [callFunc, hf, h1, hb]
  rw [hr]
  refine hc.mono fun e w' hR => ?_
  obtain ⟨v, rfl, hK⟩ := h e w' hR
  exact hK

def shlN (x y : Value) : Sem Value := binOp .shl 3 x y
theorem shlN_eq (x y : Value) : binOp .shl 3 x y = shlN x y := rfl
theorem run_shlN (m s : Nat) (hm : m ≤ 1125899906842624) (hs : s ≤ 7) (W : World) : (shlN (.int .i64 (m : Int)) (.int .i64 (s : Int))).run Try.prog W = .ok (.int .i64 ((m * 2 ^ s : Nat) : Int)) W := by
  have h : (shlN (.int .i64 (m : Int)) (.int .i64 (s : Int))).run Try.prog W = (Op.shift .shl .i64 (m : Int) .i64 (s : Int)).run Try.prog W := rfl
  have h2 : 2 ^ s ≤ 2 ^ 7 := Nat.pow_le_pow_right (by omega) hs
  have h3 : m * 2 ^ s ≤ 1125899906842624 * 128 := Nat.mul_le_mul hm h2
  rw [h, shift_shl .i64 .i64 _ _ (by omega) (by show (s : Int) ≤ 64; omega)]
  have e : (m : Int) * 2 ^ ((s : Int).toNat) = ((m * 2 ^ s : Nat) : Int) := by simp
  rw [e, IntWalk.i64_in _ (by omega)]
  rfl
theorem run_shl1 (s : Nat) (hs : s ≤ 7) (W : World) : (shlN (.int .i64 1) (.int .i64 (s : Int))).run Try.prog W = .ok (.int .i64 ((2 ^ s : Nat) : Int)) W := by
  have := run_shlN 1 s (by omega) hs W
  rwa [Nat.one_mul] at this
theorem run_shl2 (s : Nat) (hs : s ≤ 7) (W : World) : (shlN (.int .i64 2) (.int .i64 (s : Int))).run Try.prog W = .ok (.int .i64 ((2 ^ (s + 1) : Nat) : Int)) W := by
  have := run_shlN 2 s (by omega) hs W
  rwa [Nat.mul_comm, ← Nat.pow_succ] at this
attribute [local go_sem ↓] shlN_eq

def poolB (n : Nat) (x : Int) : Bool := decide (0 ≤ x ∧ x ≤ 8 * (n : Int))
theorem pool_any (A : Option Addr) (n c : Nat) (x : Int) (w : World) (hn : n ≤ 140737488355328) :
    Calls Try.prog 21 #[.slice A n c, .int .i64 x] w fun e w' => e = .returned (.bool (poolB n x)) ∧ w = w' := by
  have e1 : IntKind.i64.wrap (8 * (n : Int)) = 8 * (n : Int) := IntWalk.i64_in _ (by omega)
  unfold poolB
  by_cases h0 : 0 ≤ x
  · by_cases h1 : x ≤ 8 * (n : Int)
    · rw [decide_eq_true ⟨h0, h1⟩]
      go_enter Try.func21, Try.ntmps21
      go_wp2
      go_ret
      exact ⟨rfl, rfl⟩
    · rw [decide_eq_false (by omega)]
      go_enter Try.func21, Try.ntmps21
      go_wp2
      go_ret
      exact ⟨rfl, rfl⟩
  · rw [decide_eq_false (by omega)]
    go_enter Try.func21, Try.ntmps21
    go_wp2
    go_ret
    exact ⟨rfl, rfl⟩
theorem rpool_any (A : Option Addr) (n c : Nat) (x : Int) (w : World) (hn : n ≤ 140737488355328) :
    Calls Try.prog 25 #[.slice A n c, .int .i64 x] w fun e w' => e = .returned (.bool (poolB n x)) ∧ w = w' := by
  have e1 : IntKind.i64.wrap (8 * (n : Int)) = 8 * (n : Int) := IntWalk.i64_in _ (by omega)
  unfold poolB
  by_cases h0 : 0 ≤ x
  · by_cases h1 : x ≤ 8 * (n : Int)
    · rw [decide_eq_true ⟨h0, h1⟩]
      go_enter Try.func25, Try.ntmps25
      go_wp2
      go_ret
      exact ⟨rfl, rfl⟩
    · rw [decide_eq_false (by omega)]
      go_enter Try.func25, Try.ntmps25
      go_wp2
      go_ret
      exact ⟨rfl, rfl⟩
  · rw [decide_eq_false (by omega)]
    go_enter Try.func25, Try.ntmps25
    go_wp2
    go_ret
    exact ⟨rfl, rfl⟩

/-- The blocks of a span are below n. -/
def withinB (s l x : Int) : Bool := decide (0 ≤ s ∧ 1 ≤ l ∧ l ≤ x - s)
def spanV (s l : Int) : Array Value := #[.int .i64 s, .int .i64 l]
theorem within_any (s l x : Int) (w : World) (h1 : s ≤ 9223372036854775807) (h2 : 0 ≤ x) (h3 : x ≤ 9223372036854775807) :
    Calls Try.prog 28 #[.agg (spanV s l), .int .i64 x] w fun e w' => e = .returned (.bool (withinB s l x)) ∧ Below w.heap.size w w' := by
  have hb : Below w.heap.size w (w.alloc (.cells (spanV s l) 27)) := (Below.refl _ w).alloc (Nat.le_refl _) _
  have hx : (w.alloc (.cells (spanV s l) 27)).heap[w.heap.size]? = some (.cells (spanV s l) 27 (0, 0)) := heap_alloc_new w _
  have q0 : (w.alloc (.cells (spanV s l) 27)).cell? ⟨w.heap.size, 0, none⟩ = some (.int .i64 s) := cell_of_row _ _ 0 _ _ _ hx
  have q1 : (w.alloc (.cells (spanV s l) 27)).cell? ⟨w.heap.size, 1, none⟩ = some (.int .i64 l) := cell_of_row _ _ 1 _ _ _ hx
  have HB := Lib.hid hb; clear hb hx
  unfold withinB
  by_cases c0 : 0 ≤ s
  · have e1 : IntKind.i64.wrap (x - s) = x - s := IntWalk.i64_in _ (by omega)
    by_cases c1 : 1 ≤ l
    · by_cases c2 : l ≤ x - s
      · rw [decide_eq_true ⟨c0, c1, c2⟩]
        go_enter Try.func28, Try.ntmps28
        go_wp2
        go_ret
        exact ⟨rfl, HB.out⟩
      · rw [decide_eq_false (by omega)]
        go_enter Try.func28, Try.ntmps28
        go_wp2
        go_ret
        exact ⟨rfl, HB.out⟩
    · rw [decide_eq_false (by omega)]
      go_enter Try.func28, Try.ntmps28
      go_wp2
      go_ret
      exact ⟨rfl, HB.out⟩
  · rw [decide_eq_false (by omega)]
    go_enter Try.func28, Try.ntmps28
    go_wp2
    go_ret
    exact ⟨rfl, HB.out⟩

set_option maxHeartbeats 1000000 in
theorem least_any (want : Nat) (hw : want ≤ 64) (w : World) :
    Calls Try.prog 22 #[.int .i64 (want : Int)] w fun e w' => e = .returned (.int .i64 (leastO want : Int)) ∧ w = w' := by
  have hf := leastO_fits want hw
  have h6 := leastO_le want
  have hl := leastO_least want
  obtain ⟨K, hK⟩ : ∃ K, K = leastO want := ⟨_, rfl⟩
  rw [← hK] at hf h6 hl ⊢
  clear hK
  have HL := Lib.hid hl; clear hl
  go_enter Try.func22, Try.ntmps22
  go_wp2
  go_loopw [3] (fun i wr => ∃ k : Nat, k ≤ K ∧ i = .int .i64 (k : Int) ∧ wr = w) (fun i _ => K - (intOf i).toNat)
  case atStart => exact ⟨0, Nat.zero_le _, by first | trivial | rfl, by first | trivial | rfl⟩
  case round =>
    obtain ⟨k, hk, rfl, rfl⟩ := hrel
    have q := run_shl1 k (by omega)
    by_cases hlt : k < K
    · have hgo := HL.out k hlt
      obtain ⟨z, hz⟩ : ∃ z, z = 2 ^ k := ⟨_, rfl⟩
      rw [← hz] at q hgo
      clear hz
      go_wp2
      go_roundw
      case rel => exact ⟨k + 1, by omega, by go_num, by trivial⟩
      case measure => simp [intOf]; omega
    · obtain rfl : k = K := by omega
      obtain ⟨z, hz⟩ : ∃ z, z = 2 ^ k := ⟨_, rfl⟩
      rw [← hz] at q hf
      clear hz
      go_wp2
      go_ret
      exact ⟨rfl, rfl⟩
end Go.Proofs.Ytnkiblifnknbkaa.Buddy
