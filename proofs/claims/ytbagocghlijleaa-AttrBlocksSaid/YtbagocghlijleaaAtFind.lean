/- Where an attribute of a name stands in a right list: the library's comparing and binary search. -/
import Derived.Test.YtbagocghlijleaaAtIns
import Derived.Lib.Bytealg
namespace Go.Proofs.Ytbagocghlijleaa.At
set_option maxRecDepth 20000
open Go.RowKit
open Go.Proofs.Ytbagocghlijleaa.Mem Go.Proofs.Ytbagocghlijleaa.Crc Go.Proofs.Ytbagocghlijleaa.Rec Go.Proofs.Ytbagocghlijleaa.Reg
open Go.Proofs.Ytbagocghlijleaa.Lf (less less_irrefl less_trans less_total less_asym less_nil less_cons)

theorem cmpB_neg : ∀ a b : List UInt8, Lib.compareBytes a b < 0 ↔ less a b = true
  | [], [] => by decide
  | [], b :: y => by
    unfold Lib.compareBytes
    exact ⟨fun _ => rfl, fun _ => by decide⟩
  | a :: x, [] => by
    unfold Lib.compareBytes
    rw [less_nil]
    constructor
    · intro h; omega
    · intro h; cases h
  | a :: x, b :: y => by
    unfold Lib.compareBytes
    rw [less_cons, Bool.or_eq_true, Bool.and_eq_true, decide_eq_true_iff, beq_iff_eq, ← cmpB_neg x y]
    by_cases h1 : a < b
    · rw [if_pos h1]; exact ⟨fun _ => .inl h1, fun _ => by decide⟩
    · rw [if_neg h1]
      by_cases h2 : b < a
      · rw [if_pos h2]
        constructor
        · intro h; omega
        · rintro (h | ⟨rfl, _⟩)
          · exact absurd h h1
          · exact absurd h2 h1
      · rw [if_neg h2]
        have e : a = b := UInt8.le_antisymm (UInt8.not_lt.1 h2) (UInt8.not_lt.1 h1)
        exact ⟨fun h => .inr ⟨e, h⟩, fun h => h.elim (fun h => absurd h h1) And.right⟩
theorem cmpB_zero : ∀ a b : List UInt8, Lib.compareBytes a b = 0 ↔ a = b
  | [], [] => by decide
  | [], b :: y => by
    unfold Lib.compareBytes
    constructor
    · intro h; omega
    · intro h; cases h
  | a :: x, [] => by
    unfold Lib.compareBytes
    constructor
    · intro h; omega
    · intro h; cases h
  | a :: x, b :: y => by
    unfold Lib.compareBytes
    rw [List.cons.injEq, ← cmpB_zero x y]
    by_cases h1 : a < b
    · rw [if_pos h1]
      constructor
      · intro h; omega
      · rintro ⟨rfl, _⟩; exact absurd h1 (UInt8.lt_irrefl _)
    · rw [if_neg h1]
      by_cases h2 : b < a
      · rw [if_pos h2]
        constructor
        · intro h; omega
        · rintro ⟨rfl, _⟩; exact absurd h2 (UInt8.lt_irrefl _)
      · rw [if_neg h2]
        have e : a = b := UInt8.le_antisymm (UInt8.not_lt.1 h2) (UInt8.not_lt.1 h1)
        exact ⟨fun h => ⟨e, h⟩, And.right⟩
theorem compareS_any (a b : ByteArray) (w : World) :
    Calls Try.prog 49 #[.string a, .string b] w fun e w' => e = .returned (.int .i64 (Lib.compareBytes a.data.toList b.data.toList)) ∧ w = w' := by
  go_enter Try.func49, Try.ntmps49
  go_wp2
  rw [run_callFunc_extern Try.func54 (by kernel_rfl) (by kernel_rfl) (by kernel_rfl) (e := Extern.BytealgCompare.compare) (by kernel_rfl), Lib.run_compareString]
  simp only [Result.andThen]
  rw [Oper.upon_value]
  go_wp2
  go_ret
  exact ⟨rfl, rfl⟩
theorem compare_any (a b : ByteArray) (w : World) :
    Calls Try.prog 40 #[.string a, .string b] w fun e w' => e = .returned (.int .i64 (Lib.compareBytes a.data.toList b.data.toList)) ∧ w = w' := by
  go_enter Try.func40, Try.ntmps40
  go_wp2_with (with_reducible refine (compareS_any _ _ _).mono ?_; rintro e w' ⟨rfl, rfl⟩)
  go_ret
  exact ⟨rfl, rfl⟩
attribute [local go_sem ↓] ldX_eq stX_eq
theorem order_b (y : Pr) (S : ByteArray) (w : World) : Calls Try.prog 39 #[.agg y.c, .string S] w fun e w' => e = .returned (.int .i64 (Lib.compareBytes y.t S.data.toList)) ∧ Below w.heap.size w w' := by
  obtain ⟨w0, hw0⟩ : ∃ w0, w0 = w.alloc (.cells y.c 24) := ⟨_, rfl⟩
  have hv : VarX w0 w.heap.size y := by rw [hw0]; exact VarX.new w y
  have hb : Below w.heap.size w w0 := by rw [hw0]; exact (Below.refl _ w).alloc (Nat.le_refl _) _
  obtain ⟨q0, q1⟩ := hv.cells
  have hc := compare_any ⟨y.t.toArray⟩ S w0
  rw [show (⟨y.t.toArray⟩ : ByteArray).data.toList = y.t from rfl] at hc
  obtain ⟨C, hC⟩ : ∃ C, C = y.c := ⟨_, rfl⟩
  rw [← hC] at hw0 ⊢
  have HC := Lib.hid hc; clear hc
  have HB := Lib.hid hb; clear hb hC hv
  have HW0 := Lib.hid hw0
  rw [hw0] at q0 q1
  clear hw0
  go_enter Try.func39, Try.ntmps39
  go_wp2_with fail
  rw [← HW0.out]
  with_reducible refine HC.out.mono ?_
  rintro e w' ⟨rfl, rfl⟩
  go_wp2
  go_ret
  exact ⟨rfl, HB.out⟩
theorem exec_val {a : Act} {dst : Option Tmp} {x : Operand} {xs : Array Operand} {ts : Array TypeId} {ty : TypeId} {pos : String} {after : Array Edge} {guard : Option (Nat × Bool)} {f : FuncId} {caps : Array Value} (hx : a.eval x = .func (.func f) #[] caps) :
    execOp a.eval { dst, op := .call { callee := .value x, args := xs, argTypes := ts }, type := ty, pos, after, guard } = callFunc f (#[] ++ xs.map a.eval ++ caps) := by
  simp [execOp, resolve, Deferred.ofValue, invoke, hx]
theorem call_val {w : World} {o : Oper} {a : Act} {K : Act → World → Prop} {Q : Exit → Act → World → Prop} (f : FuncId) (fn : Func) (cd : Code) (x : Operand) (xs : Array Operand) (ts : Array TypeId) (caps : Array Value)
    (ho : o.op = .call { callee := .value x, args := xs, argTypes := ts }) (hx : a.eval x = .func (.func f) #[] caps) (hf : Try.prog.funcs[f]? = some fn) (hname : (fn.name == "runtime.NumGoroutine") = false) (hb : fn.body = some cd)
    (vals : Array Value) (hv : xs.map a.eval ++ caps = vals) (R : Ending → World → Prop) (hc : Calls Try.prog f vals w R)
    (h : ∀ e w', R e w' → ∃ v, e = .returned v ∧ K (a.put o.dst v) w') : Oper.wp Try.prog o a w K Q := by
  obtain ⟨dst, op, ty, pos, after, guard⟩ := o
  dsimp only at ho
  subst ho
  unfold Oper.wp
  rw [exec_val hx, Array.empty_append, hv]
  have hr : (callFunc f vals).run Try.prog w = .ok (.enter f vals) w := by
    have h1 : fn.name ≠ "runtime.NumGoroutine" := by simpa using hname
    simp [callFunc, hf, h1, hb]
  rw [hr]
  refine hc.mono fun e w' hR => ?_
  obtain ⟨v, rfl, hK⟩ := h e w' hR
  exact hK
def shrU (x y : Value) : Sem Value := binOp .shr 40 x y
theorem shrU_eq (x y : Value) : binOp .shr 40 x y = shrU x y := rfl
theorem run_shrU (u : Nat) (W : World) : (shrU (.int .u64 (u : Int)) (.int .u64 1)).run Try.prog W = .ok (.int .u64 ((u / 2 : Nat) : Int)) W := by
  have h : (shrU (.int .u64 (u : Int)) (.int .u64 1)).run Try.prog W = (Op.shift .shr .u64 (u : Int) .u64 1).run Try.prog W := rfl
  rw [h]
  have e : (u : Int).fdiv (2 ^ (min 1 64)) = ((u / 2 : Nat) : Int) := by
    rw [show (2 : Int) ^ (min 1 64) = 2 by decide, Int.fdiv_eq_ediv_of_nonneg _ (by omega)]
    omega
  unfold Op.shift
  rw [if_neg (by decide)]
  show (pure (.int .u64 ((u : Int).fdiv (2 ^ (min 1 64)))) : Sem Value).run Try.prog W = _
  rw [e]
  rfl
attribute [local go_sem ↓] shrU_eq

set_option maxRecDepth 100000 in
set_option maxHeartbeats 8000000 in
theorem search_any (A : Option Addr) (n c B : Nat) (es : List Pr) (S : ByteArray) (w : World) (h : HoldsX w B A n es) (hB : B ≤ w.heap.size) (hn : n ≤ 4398046511104) (hp : es.Pairwise (fun a b => less a.t b.t = true)) :
    Calls Try.prog 38 #[.slice A n c, .string S, .func (.func 39) #[] #[]] w fun e w' =>
      e = .returned (.tuple #[.int .i64 (posA es S.data.toList : Int), .bool (hasA es S.data.toList)]) ∧ Below w.heap.size w w' := by
  have hln := h.1
  obtain ⟨t, ht⟩ : ∃ t, t = S.data.toList := ⟨_, rfl⟩
  rw [← ht]
  have HT := Lib.hid ht; clear ht
  have H := Lib.hid h; clear h
  have HPW := Lib.hid hp; clear hp
  have HLN := Lib.hid hln; clear hln
  obtain ⟨post, hpost⟩ : ∃ post : Ending → World → Prop, post = fun e w' => e = .returned (.tuple #[.int .i64 (posA es t : Int), .bool (hasA es t)]) ∧ Below w.heap.size w w' := ⟨_, rfl⟩
  rw [← hpost]
  have HP := Lib.hid hpost; clear hpost
  go_enter Try.func38, Try.ntmps38
  go_wp2
  go_loopw [9, 10] (fun i j wr => ∃ a b : Nat, a ≤ b ∧ b ≤ n ∧ i = .int .i64 (a : Int) ∧ j = .int .i64 (b : Int) ∧ (∀ q, (hq : q < es.length) → q < a → less (es[q]).t t = true) ∧ (∀ q, (hq : q < es.length) → b ≤ q → less (es[q]).t t = false) ∧ Below w.heap.size w wr) (fun i j _ => (intOf j).toNat - (intOf i).toNat)
  case atStart => exact ⟨0, n, Nat.zero_le _, Nat.le_refl _, rfl, rfl, fun q _ h => absurd h (Nat.not_lt_zero _), fun q hq h => absurd hq (by have := HLN.out; omega), Below.refl _ _⟩
  case round =>
    obtain ⟨a, b, hab, hbn, rfl, rfl, hlo, hhi, hb⟩ := hrel
    have HBW := Lib.hid hb; clear hb
    have HLO := Lib.hid hlo; clear hlo
    have HHI := Lib.hid hhi; clear hhi
    rcases Nat.lt_or_ge a b with hlt | hge
    · obtain ⟨be, off, rfl, hbB⟩ := H.out.addr (by omega)
      have hab2 : (a : Int) < (b : Int) := by omega
      have hw1 : IntKind.i64.wrap ((a : Int) + (b : Int)) = ((a + b : Nat) : Int) := by rw [IntKind.wrap_i64]; omega
      have hw2 : IntKind.u64.wrap ((a + b : Nat) : Int) = ((a + b : Nat) : Int) := by rw [IntKind.wrap_u64]; omega
      have hsh : ∀ W, (shrU (.int .u64 ((a : Int) + (b : Int))) (.int .u64 1)).run Try.prog W = .ok (.int .u64 (((a + b) / 2 : Nat) : Int)) W := fun W => by rw [← run_shrU (a + b) W, Int.natCast_add]
      obtain ⟨hh, hhd⟩ : ∃ hh, hh = (a + b) / 2 := ⟨_, rfl⟩
      rw [← hhd] at hsh
      have hw3 : IntKind.i64.wrap (hh : Int) = (hh : Int) := by rw [IntKind.wrap_i64]; omega
      have hha : a ≤ hh := by omega
      have hhb : hh < b := by omega
      clear hhd
      have hhl : hh < es.length := by have := HLN.out; omega
      have hh2 : (hh : Int) < (n : Int) := by omega
      obtain ⟨y, hy⟩ : ∃ y, y = es[hh] := ⟨_, rfl⟩
      have hld : ∀ V, Below wr.heap.size wr V → (ldX (.pointer (some ⟨be, off + hh * 2, none⟩))).run Try.prog V = .ok (.agg y.c) V := fun V hV => by
        have hbv : Below w.heap.size w V := HBW.out.trans (hV.mono HBW.out.size)
        rw [hy]
        exact run_ldX_at (H.out.below (hbv.mono hB)) hh hhl _ rfl
      have hord := order_b y S wr
      rw [← HT.out] at hord
      obtain ⟨Y, hY⟩ : ∃ Y, Y = y.c := ⟨_, rfl⟩
      rw [← hY] at hord hld
      have HLD := Lib.hid hld; clear hld
      have HORD := Lib.hid hord; clear hord
      have HYE := Lib.hid hY; clear hY
      obtain ⟨cm, hcm⟩ : ∃ cm, cm = Lib.compareBytes y.t t := ⟨_, rfl⟩
      rw [← hcm] at HORD
      have hcmb : cm < 0 ↔ less y.t t = true := by rw [hcm]; exact cmpB_neg y.t t
      have HCM := Lib.hid hcmb; clear hcmb hcm
      have HY := Lib.hid hy; clear hy
      have q0 := HLD.out wr (Below.refl _ _)
      go_wp2_with fail
      with_reducible refine HORD.out.mono ?_
      rintro E V2 ⟨rfl, hb2'⟩
      have HB2 : Hid (Below w.heap.size w V2) := Lib.hid (HBW.out.trans (hb2'.mono HBW.out.size))
      clear hb2' hsh hw1 hw2 hw3
      by_cases hneg : cm < 0
      · have hyx := HCM.out.1 hneg
        go_wp2
        go_roundw
        case rel =>
          refine ⟨hh + 1, b, by omega, hbn, by go_num, rfl, fun q hq hqh => ?_, HHI.out, HB2.out⟩
          rcases Nat.eq_or_lt_of_le (show q ≤ hh by omega) with rfl | hlt2
          · rw [← HY.out]; exact hyx
          · refine less_trans _ _ _ ?_ (HY.out ▸ hyx)
            exact List.pairwise_iff_getElem.1 HPW.out q hh hq hhl hlt2
        case measure => simp [intOf]; omega
      · have hyx : less y.t t = false := by
          cases ho : less y.t t with
          | false => rfl
          | true => exact absurd (HCM.out.2 ho) hneg
        go_wp2
        go_roundw
        case rel =>
          refine ⟨a, hh, by omega, by omega, rfl, rfl, HLO.out, fun q hq hqh => ?_, HB2.out⟩
          rcases Nat.eq_or_lt_of_le hqh with rfl | hlt2
          · rw [← HY.out]; exact hyx
          · cases ho : less (es[q]).t t with
            | false => rfl
            | true =>
              exfalso
              have h1 := List.pairwise_iff_getElem.1 HPW.out hh q hhl hq hlt2
              have h2 := less_trans _ _ _ h1 ho
              rw [← HY.out, hyx] at h2
              cases h2
        case measure => simp [intOf]; omega
    · obtain rfl : a = b := by omega
      have hpos : posA es t = a := posA_is es t a (by have := HLN.out; omega) (fun q hq hqa => HLO.out q hq hqa) (fun hq => HHI.out a hq (Nat.le_refl _))
      have hnb : ¬ (a : Int) < (a : Int) := by omega
      have HPOS := Lib.hid hpos; clear hpos
      rcases Nat.lt_or_ge a n with hlt | hge2
      · obtain ⟨be, off, rfl, hbB⟩ := H.out.addr (by omega)
        have hal : a < es.length := by have := HLN.out; omega
        have han : (a : Int) < (n : Int) := by omega
        obtain ⟨y, hy⟩ : ∃ y, y = es[a] := ⟨_, rfl⟩
        have hld : ∀ V, Below wr.heap.size wr V → (ldX (.pointer (some ⟨be, off + a * 2, none⟩))).run Try.prog V = .ok (.agg y.c) V := fun V hV => by
          have hbv : Below w.heap.size w V := HBW.out.trans (hV.mono HBW.out.size)
          rw [hy]
          exact run_ldX_at (H.out.below (hbv.mono hB)) a hal _ rfl
        have hord := order_b y S wr
        rw [← HT.out] at hord
        obtain ⟨Y, hY⟩ : ∃ Y, Y = y.c := ⟨_, rfl⟩
        rw [← hY] at hord hld
        have HLD := Lib.hid hld; clear hld
        have HORD := Lib.hid hord; clear hord
        obtain ⟨cm, hcm⟩ : ∃ cm, cm = Lib.compareBytes y.t t := ⟨_, rfl⟩
        rw [← hcm] at HORD
        have hfin : hasA es t = decide (cm = 0) := by
          unfold hasA
          rw [HPOS.out]
          refine decide_eq_decide.2 ?_
          rw [List.getD_eq_getElem?_getD, List.getElem?_eq_getElem hal, Option.getD_some, ← hy, hcm, cmpB_zero]
          exact ⟨fun h => h.2, fun h => ⟨hal, h⟩⟩
        have HF := Lib.hid hfin; clear hfin hcm hy hY
        have q0 := HLD.out wr (Below.refl _ _)
        go_wp2_with fail
        with_reducible refine HORD.out.mono ?_
        rintro E V2 ⟨rfl, hb2'⟩
        have HB2 : Hid (Below w.heap.size w V2) := Lib.hid (HBW.out.trans (hb2'.mono HBW.out.size))
        go_wp2
        rw [HP.out]
        refine ⟨?_, HB2.out⟩
        rw [HF.out, HPOS.out]
        rfl
      · have hal : ¬ a < es.length := by have := HLN.out; omega
        have hfin : hasA es t = false := by
          unfold hasA
          rw [HPOS.out]
          exact decide_eq_false (fun h => hal h.1)
        have HF := Lib.hid hfin; clear hfin
        have han : ¬ (a : Int) < (n : Int) := by omega
        have hann : ¬ a < n := by omega
        have HB2 : Hid (Below w.heap.size w wr) := HBW
        go_wp2
        rw [HP.out]
        refine ⟨?_, HB2.out⟩
        rw [HF.out, HPOS.out]
theorem find_any (A : Option Addr) (n c B : Nat) (es : List Pr) (S : ByteArray) (w : World) (h : HoldsX w B A n es) (hB : B ≤ w.heap.size) (hn : n ≤ 4398046511104) (hp : es.Pairwise (fun a b => less a.t b.t = true)) :
    Calls Try.prog 23 #[.slice A n c, .string S] w fun e w' =>
      e = .returned (.tuple #[.int .i64 (posA es S.data.toList : Int), .bool (hasA es S.data.toList)]) ∧ Below w.heap.size w w' := by
  have hs := search_any A n c B es S w h hB hn hp
  have HS := Lib.hid hs; clear hs h
  obtain ⟨post, hpost⟩ : ∃ post : Ending → World → Prop, post = fun e w' => e = .returned (.tuple #[.int .i64 (posA es S.data.toList : Int), .bool (hasA es S.data.toList)]) ∧ Below w.heap.size w w' := ⟨_, rfl⟩
  rw [← hpost]
  have HP := Lib.hid hpost; clear hpost
  go_enter Try.func23, Try.ntmps23
  go_wp2_with (with_reducible refine HS.out.mono ?_; rintro e w' ⟨rfl, hb⟩)
  rw [HP.out]
  exact ⟨rfl, hb⟩
end Go.Proofs.Ytbagocghlijleaa.At
