/- The program's Decode. -/
import Derived.Test.YtbagocghlijleaaGreatLfEnc
import Derived.Test.YtbagocghlijleaaGreatRegF
import Derived.Laws.EntriesVeiled
namespace Go.Proofs.YtbagocghlijleaaGreat.Lf
set_option maxRecDepth 20000
open Go.RowKit
open Go.Proofs.YtbagocghlijleaaGreat.Mem Go.Proofs.YtbagocghlijleaaGreat.Crc Go.Proofs.YtbagocghlijleaaGreat.Rec Go.Proofs.YtbagocghlijleaaGreat.Reg
attribute [local go_sem ↓] ldX_eq stX_eq

theorem run_slice_rest (W : World) (a off N c l : Nat) (i : Int) (hi : i = (l : Int)) (hl : l ≤ N) (hc : N < c) :
    (Instr.slice 34 (.slice (some ⟨a, off, none⟩) N c) (some (.int .i64 i)) none none).run Tryz.prog W = .ok (.slice (some ⟨a, off + l, none⟩) (N - l) (c - l)) W := by
  subst hi
  have h := run_slice_l (P := Tryz.prog) W 34 (some ⟨a, off, none⟩) N c (by rw [Tryz.underlying34]; rfl) .i64 (l : Int) (by omega) (by omega)
  rw [h]
  have hs : (sizeOf (Tryz.prog.elem 34)).run Tryz.prog W = .ok 1 W := by rfl
  rw [hs]
  simp only [Result.andThen, sliced, Int.toNat_natCast]
  rw [if_neg (by omega)]
  simp [Addr.add_mid]
theorem run_slice_first (W : World) (a off N c m : Nat) (j : Int) (hj : j = (m : Int)) (hl : m ≤ c) (h0 : 0 < c) :
    (Instr.slice 34 (.slice (some ⟨a, off, none⟩) N c) none (some (.int .i64 j)) none).run Tryz.prog W = .ok (.slice (some ⟨a, off, none⟩) m c) W := by
  subst hj
  have h := run_slice_h (P := Tryz.prog) W 34 (some ⟨a, off, none⟩) N c (by rw [Tryz.underlying34]; rfl) .i64 (m : Int) (by omega) (by omega)
  rw [h]
  have hs : (sizeOf (Tryz.prog.elem 34)).run Tryz.prog W = .ok 1 W := by rfl
  rw [hs]
  simp only [Result.andThen, sliced, Int.toNat_natCast]
  rw [if_neg (by omega)]
  simp [Addr.add_mid]

/-- What is left. -/
structure Rst (w : World) (g b0 off c B : Nat) (bs : List UInt8) : Prop where
  box : w.heap[g]? = some (.cells #[.slice (some ⟨b0, off, none⟩) bs.length c] 34 (0, 0))
  holds : Holds w B (some ⟨b0, off, none⟩) bs.length bs
  room : bs.length < c
  len : bs.length ≤ 252
  base : B ≤ g
def Rest (w : World) (g B : Nat) (bs : List UInt8) : Prop := ∃ b0 off c, Rst w g b0 off c B bs
theorem Rst.below {w w' : World} {g b0 off c B : Nat} {bs : List UInt8} (h : Rst w g b0 off c B bs) (hb : Below w.heap.size w w') : Rst w' g b0 off c B bs := by
  have hlt : g < w.heap.size := (Array.getElem?_eq_some_iff.1 h.box).1
  exact ⟨(hb.block g hlt).trans h.box, h.holds.below (hb.mono (Nat.le_trans h.base (by omega))), h.room, h.len, h.base⟩
theorem Rest.below {w w' : World} {g B : Nat} {bs : List UInt8} (h : Rest w g B bs) (hb : Below w.heap.size w w') : Rest w' g B bs := by
  obtain ⟨b0, off, c, h⟩ := h
  exact ⟨b0, off, c, h.below hb⟩
theorem Rest.lt {w : World} {g B : Nat} {bs : List UInt8} (h : Rest w g B bs) : g < w.heap.size := by
  obtain ⟨b0, off, c, h⟩ := h
  exact (Array.getElem?_eq_some_iff.1 h.box).1
theorem Rest.base {w : World} {g B : Nat} {bs : List UInt8} (h : Rest w g B bs) : B ≤ g := by
  obtain ⟨b0, off, c, h⟩ := h
  exact h.base

set_option maxRecDepth 100000 in
set_option maxHeartbeats 1000000 in
theorem take_any (g B n : Nat) (bs : List UInt8) (w : World) (h : Rest w g B bs) :
    Calls Tryz.prog 112 #[.int .i64 (n : Int), .pointer (some ⟨g, 0, none⟩)] w fun e w' => ∃ A c, e = .returned (.slice A (bs.take n).length c) ∧ Holds w' B A (bs.take n).length (bs.take n) ∧ Rest w' g B (bs.drop n) ∧ Tn g g w w' := by
  obtain ⟨b0, off, c, h⟩ := h
  obtain ⟨N, hN⟩ : ∃ N, N = bs.length := ⟨_, rfl⟩
  obtain ⟨m, hm⟩ : ∃ m, m = min n N := ⟨_, rfl⟩
  have hmN : m ≤ N := by omega
  have hNc : N < c := by rw [hN]; exact h.room
  have hN2 : N ≤ 252 := by rw [hN]; exact h.len
  have htl : (bs.take n).length = m := by rw [List.length_take]; omega
  have hbox := h.box
  rw [← hN] at hbox
  have hmin : ∀ (ts : Array TypeId) (t : TypeId) (W : World), (Builtin.min_ ts t #[.int .i64 (n : Int), .int .i64 (N : Int)]).run Tryz.prog W = .ok (.int .i64 (m : Int)) W := fun ts t W => by
    rw [run_min_int2]
    congr 2
    split <;> omega
  have s1 : ∀ W, (Instr.slice 34 (.slice (some ⟨b0, off, none⟩) N c) none (some (.int .i64 (m : Int))) none).run Tryz.prog W = .ok (.slice (some ⟨b0, off, none⟩) m c) W := fun W => run_slice_first W b0 off N c m m rfl (by omega) (by omega)
  have s2 : ∀ W, (Instr.slice 34 (.slice (some ⟨b0, off, none⟩) N c) (some (.int .i64 (m : Int))) none none).run Tryz.prog W = .ok (.slice (some ⟨b0, off + m, none⟩) (N - m) (c - m)) W := fun W => run_slice_rest W b0 off N c m m rfl hmN hNc
  have q0 : w.cell? ⟨g, 0, none⟩ = some (.slice (some ⟨b0, off, none⟩) N c) := cell_of_row w g 0 _ _ _ hbox
  have q1 : w.frozen? ⟨g, 0, none⟩ = false := frozen_of_row w g 0 _ _ hbox
  have hbx : (w.setCell ⟨g, 0, none⟩ (.slice (some ⟨b0, off + m, none⟩) (N - m) (c - m))).heap[g]? = some (.cells #[.slice (some ⟨b0, off + m, none⟩) (N - m) (c - m)] 34 (0, 0)) := heap_setCell_same w g 0 _ _ _ hbox
  have htn := Tn.setCell g g w (.slice (some ⟨b0, off + m, none⟩) (N - m) (c - m))
  have hlt : g < w.heap.size := (Array.getElem?_eq_some_iff.1 hbox).1
  have hbB := htn.below (B := B) (Nat.le_trans h.base (by omega)) h.base h.base
  have hh := h.holds.below hbB
  have hrest : Rest (w.setCell ⟨g, 0, none⟩ (.slice (some ⟨b0, off + m, none⟩) (N - m) (c - m))) g B (bs.drop n) := by
    have hl : (bs.drop n).length = N - m := by rw [List.length_drop]; omega
    refine ⟨b0, off + m, c - m, ⟨by rw [hl]; exact hbx, ?_, by rw [hl]; omega, by rw [hl]; omega, h.base⟩⟩
    have h1 := Holds.drop (k := m) (m := N - m) hh (by omega)
    have e : (bs.drop m).take (N - m) = bs.drop n := by
      rw [List.take_of_length_le (by rw [List.length_drop]; omega)]
      rcases Nat.le_total n N with h2 | h2
      · rw [show m = n by omega]
      · rw [List.drop_eq_nil_of_le (by omega), List.drop_eq_nil_of_le (by omega)]
    rw [e] at h1
    rwa [hl]
  have htake : Holds (w.setCell ⟨g, 0, none⟩ (.slice (some ⟨b0, off + m, none⟩) (N - m) (c - m))) B (some ⟨b0, off, none⟩) (bs.take n).length (bs.take n) := by
    have h1 := Holds.take (k := m) hh (by omega)
    have e : bs.take m = bs.take n := by
      rcases Nat.le_total n N with h2 | h2
      · rw [show m = n by omega]
      · rw [List.take_of_length_le (by omega), List.take_of_length_le (by omega)]
    rw [e] at h1
    rwa [htl]
  have HREST := Lib.hid hrest; clear hrest
  have HTAKE := Lib.hid htake; clear htake
  have HTL := Lib.hid htl; clear htl
  have HTN := Lib.hid htn; clear htn
  clear hm hN hbox hbx hbB hh h
  go_enter Tryz.func112, Tryz.ntmps112
  go_wp2
  go_ret
  exact ⟨some ⟨b0, off, none⟩, c, by rw [HTL.out]; rfl, HTAKE.out, HREST.out, HTN.out⟩

/-- The variable that holds 'take'. -/
def takeV (g : Nat) : Value := .func (.func 112) #[] #[.pointer (some ⟨g, 0, none⟩)]
set_option maxRecDepth 100000 in
set_option maxHeartbeats 1000000 in
theorem get_any (g gt B n : Nat) (bs : List UInt8) (w : World) (h : Rest w g B bs) (ht : w.heap[gt]? = some (.cells #[takeV g] 156 (0, 0))) (hn : n ≤ 4) :
    Calls Tryz.prog 113 #[.int .i64 (n : Int), .pointer (some ⟨gt, 0, none⟩)] w fun e w' => e = .returned (.int .i64 (nmb (bs.take n) : Int)) ∧ Rest w' g B (bs.drop n) ∧ Tn g g w w' := by
  have hcall := take_any g B n bs w h
  have q0 : w.cell? ⟨gt, 0, none⟩ = some (takeV g) := cell_of_row w gt 0 _ _ _ ht
  unfold takeV at q0
  have HC := Lib.hid hcall; clear hcall h ht
  go_enter Tryz.func113, Tryz.ntmps113
  go_wp2_with fail
  with_reducible refine HC.out.mono ?_
  rintro E w1 ⟨A, c, rfl, hh, hr, ht⟩
  have HR := Lib.hid hr; clear hr
  have HT := Lib.hid ht; clear ht
  have hle : (bs.take n).length ≤ 4 := by rw [List.length_take]; omega
  have hnum := number_any A (bs.take n).length c B (bs.take n) w1 hh (by omega)
  have hlt := numAt_lt (bs.take n) (bs.take n).length
  have hpow : 2 ^ (8 * (bs.take n).length) ≤ 2 ^ 32 := Nat.pow_le_pow_right (by omega) (by omega)
  have hlt2 : nmb (bs.take n) < 4294967296 := Nat.lt_of_lt_of_le hlt hpow
  have hq : numAt (bs.take n) (bs.take n).length = nmb (bs.take n) := rfl
  rw [hq] at hnum
  obtain ⟨L, hL⟩ : ∃ L, L = (bs.take n).length := ⟨_, rfl⟩
  rw [← hL] at hnum ⊢
  have hw : IntKind.i64.wrap (nmb (bs.take n) : Int) = (nmb (bs.take n) : Int) := by rw [IntKind.wrap_i64]; omega
  have HN := Lib.hid hnum; clear hnum hlt hpow hq
  obtain ⟨v, hv⟩ : ∃ v, v = nmb (bs.take n) := ⟨_, rfl⟩
  rw [← hv] at HN hlt2 hw
  have HV := Lib.hid hv; clear hv
  clear hlt2 hL hle hh
  go_wp2_with (with_reducible refine HN.out.mono ?_; rintro E w2 ⟨rfl, rfl⟩)
  go_ret
  exact ⟨by rw [← HV.out]; rfl, HR.out, HT.out⟩
end Go.Proofs.YtbagocghlijleaaGreat.Lf

namespace Go.Proofs.YtbagocghlijleaaGreat.Lf
set_option maxRecDepth 20000
open Go.RowKit
open Go.Proofs.YtbagocghlijleaaGreat.Mem Go.Proofs.YtbagocghlijleaaGreat.Crc Go.Proofs.YtbagocghlijleaaGreat.Rec Go.Proofs.YtbagocghlijleaaGreat.Reg
attribute [local go_sem ↓] ldX_eq stX_eq

theorem exec_val {a : Act} {dst : Option Tmp} {x : Operand} {xs : Array Operand} {ts : Array TypeId} {ty : TypeId} {pos : String} {after : Array Edge} {guard : Option (Nat × Bool)} {f : FuncId} {caps : Array Value} (hx : a.eval x = .func (.func f) #[] caps) :
    execOp a.eval { dst, op := .call { callee := .value x, args := xs, argTypes := ts }, type := ty, pos, after, guard } = callFunc f (#[] ++ xs.map a.eval ++ caps) := by
  simp [execOp, resolve, Deferred.ofValue, invoke, hx]
theorem call_val {w : World} {o : Oper} {a : Act} {K : Act → World → Prop} {Q : Exit → Act → World → Prop} (f : FuncId) (fn : Func) (cd : Code) (x : Operand) (xs : Array Operand) (ts : Array TypeId) (caps : Array Value)
    (ho : o.op = .call { callee := .value x, args := xs, argTypes := ts }) (hx : a.eval x = .func (.func f) #[] caps) (hf : Tryz.prog.funcs[f]? = some fn) (hname : (fn.name == "runtime.NumGoroutine") = false) (hb : fn.body = some cd)
    (vals : Array Value) (hv : xs.map a.eval ++ caps = vals) (R : Ending → World → Prop) (hc : Calls Tryz.prog f vals w R)
    (h : ∀ e w', R e w' → ∃ v, e = .returned v ∧ K (a.put o.dst v) w') : Oper.wp Tryz.prog o a w K Q := by
  obtain ⟨dst, op, ty, pos, after, guard⟩ := o
  dsimp only at ho
  subst ho
  unfold Oper.wp
  rw [exec_val hx, Array.empty_append, hv]
  have hr : (callFunc f vals).run Tryz.prog w = .ok (.enter f vals) w := by
    have h1 : fn.name ≠ "runtime.NumGoroutine" := by simpa using hname
    simp [callFunc, hf, h1, hb]
  rw [hr]
  refine hc.mono fun e w' hR => ?_
  obtain ⟨v, rfl, hK⟩ := h e w' hR
  exact hK
theorem stP_len (b : List UInt8) : ∀ k, (stP b k).2.length = k
  | 0 => rfl
  | k + 1 => by unfold stP; rw [List.length_append, stP_len b k]; rfl
theorem ent_rep (r : List UInt8) : (entP r).rep := by
  have h1 := numAt_lt (r.take 4) (r.take 4).length
  have hp : 2 ^ (8 * (r.take 4).length) ≤ 2 ^ 32 := Nat.pow_le_pow_right (by omega) (by rw [List.length_take]; omega)
  have h2 := numAt_lt ((r.drop 4).take 1) ((r.drop 4).take 1).length
  have hp2 : 2 ^ (8 * ((r.drop 4).take 1).length) ≤ 2 ^ 8 := Nat.pow_le_pow_right (by omega) (by rw [List.length_take]; omega)
  refine ⟨⟨?_, ?_⟩, ?_⟩
  · show _ ≤ ((nmb (r.take 4) : Nat) : Int); unfold nmb; omega
  · show ((nmb (r.take 4) : Nat) : Int) ≤ _; unfold nmb; omega
  · show (((r.drop 4).drop 1).take (nmb ((r.drop 4).take 1))).length ≤ _
    rw [List.length_take]
    unfold nmb maxLen
    omega
theorem stP_rep (b : List UInt8) : ∀ k, ∀ x ∈ (stP b k).2, x.rep
  | 0, x, h => by cases h
  | k + 1, x, h => by
    unfold stP at h
    rcases List.mem_append.1 h with h | h
    · exact stP_rep b k x h
    · rw [List.mem_singleton.1 h]; exact ent_rep _
theorem OwnX.tn {w w' : World} {base g : Nat} {v : Value} {l : List Nm} (h : OwnX w base v l) (ht : Tn g g w w') (hg : g < base) : OwnX w' base v l :=
  h.kept fun k hk => ht.block k (h.lt k hk).2 (by have := (h.lt k hk).1; omega) (by have := (h.lt k hk).1; omega)
theorem Rest.grown {w w' : World} {g B : Nat} {bs : List UInt8} {row : Option Nat} (h : Rest w g B bs) (hg : w.grownBy w' row) (hr : ∀ k, row = some k → g < k) : Rest w' g B bs := by
  obtain ⟨b0, off, c, h⟩ := h
  have hlt : g < w.heap.size := (Array.getElem?_eq_some_iff.1 h.box).1
  have hkeep : ∀ i, i ≤ g → w'.heap[i]? = w.heap[i]? := fun i hi => hg.block i (by omega) (fun e => by have := hr i e.symm; omega)
  have hb : Below B w w' := ⟨hg.os, hg.tape, hg.output, hg.size, fun i hi => hkeep i (by have := h.base; omega)⟩
  exact ⟨b0, off, c, ⟨(hkeep g (Nat.le_refl _)).trans h.box, h.holds.below hb, h.room, h.len, h.base⟩⟩

theorem get1 (g gt B : Nat) (bs : List UInt8) (w : World) (h : Rest w g B bs) (ht : w.heap[gt]? = some (.cells #[takeV g] 156 (0, 0))) :
    Calls Tryz.prog 113 #[.int .i64 1, .pointer (some ⟨gt, 0, none⟩)] w fun e w' => e = .returned (.int .i64 (nmb (bs.take 1) : Int)) ∧ Rest w' g B (bs.drop 1) ∧ Tn g g w w' := get_any g gt B 1 bs w h ht (by omega)
theorem get2 (g gt B : Nat) (bs : List UInt8) (w : World) (h : Rest w g B bs) (ht : w.heap[gt]? = some (.cells #[takeV g] 156 (0, 0))) :
    Calls Tryz.prog 113 #[.int .i64 2, .pointer (some ⟨gt, 0, none⟩)] w fun e w' => e = .returned (.int .i64 (nmb (bs.take 2) : Int)) ∧ Rest w' g B (bs.drop 2) ∧ Tn g g w w' := get_any g gt B 2 bs w h ht (by omega)
theorem get4 (g gt B : Nat) (bs : List UInt8) (w : World) (h : Rest w g B bs) (ht : w.heap[gt]? = some (.cells #[takeV g] 156 (0, 0))) :
    Calls Tryz.prog 113 #[.int .i64 4, .pointer (some ⟨gt, 0, none⟩)] w fun e w' => e = .returned (.int .i64 (nmb (bs.take 4) : Int)) ∧ Rest w' g B (bs.drop 4) ∧ Tn g g w w' := get_any g gt B 4 bs w h ht (by omega)

set_option maxRecDepth 100000 in
set_option maxHeartbeats 4000000 in
theorem told_any (A : Option Addr) (c B : Nat) (b : List UInt8) (w : World) (h : Holds w B A 256 b) (hB : B ≤ w.heap.size) (hc : 256 ≤ c) :
    Calls Tryz.prog 87 #[.slice A 256 c] w fun e w' => ∃ A' c', e = .returned (.slice A' (toldP b).length c') ∧ OwnX w' w.heap.size (.slice A' (toldP b).length c') (toldP b) ∧ Below w.heap.size w w' := by
  obtain ⟨b0, off, rfl⟩ := Holds.addr h (by omega)
  have hbl := h.1
  have hs0 : ∀ W, (Instr.slice 34 (.slice (some ⟨b0, off, none⟩) 256 c) none (some (.int .i64 252)) none).run Tryz.prog W = .ok (.slice (some ⟨b0, off, none⟩) 252 c) W := fun W => run_slice_first W b0 off 256 c 252 252 rfl (by omega) (by omega)
  obtain ⟨g, hg⟩ : ∃ g, g = w.heap.size := ⟨_, rfl⟩
  obtain ⟨gt, hgt⟩ : ∃ gt, gt = w.heap.size + 1 := ⟨_, rfl⟩
  obtain ⟨W0, hW0⟩ : ∃ W0, W0 = (w.alloc (.cells #[.slice (some ⟨b0, off, none⟩) 252 c] 34)).alloc (.cells #[takeV w.heap.size] 156) := ⟨_, rfl⟩
  have hz1 : (w.alloc (.cells #[.slice (some ⟨b0, off, none⟩) 252 c] 34)).heap.size = w.heap.size + 1 := by simp
  have hz : W0.heap.size = w.heap.size + 2 := by rw [hW0]; simp
  have hb0 : Below w.heap.size w W0 := by rw [hW0]; exact ((Below.refl _ w).alloc (Nat.le_refl _) _).alloc (by simp) _
  have hbox : W0.heap[w.heap.size]? = some (.cells #[.slice (some ⟨b0, off, none⟩) 252 c] 34 (0, 0)) := by
    rw [hW0]; exact (Below.heap_alloc _ _ _ (by rw [hz1]; omega)).trans (heap_alloc_new w _)
  have hgt0 : W0.heap[gt]? = some (.cells #[takeV g] 156 (0, 0)) := by
    rw [hW0, hgt, hg, ← hz1]; exact heap_alloc_new _ _
  have hrest0 : Rest W0 g B (b.take 252) := by
    have hl : (b.take 252).length = 252 := by rw [List.length_take]; omega
    refine ⟨b0, off, c, ⟨by rw [hl, hg]; exact hbox, ?_, by rw [hl]; omega, by rw [hl]; omega, by omega⟩⟩
    rw [hl]
    exact Holds.take (h.below (hb0.mono hB)) (by omega)
  have hne : gt ≠ g := by omega
  have hgb : g < w.heap.size + 2 := by omega
  have hgtb : gt < w.heap.size + 2 := by omega
  have hbg : w.heap.size ≤ g := by omega
  clear hbox hz1
  unfold takeV at hW0
  have HW0 := Lib.hid hW0; clear hW0
  have HGG := Lib.hid hg; clear hg
  have HGTG := Lib.hid hgt; clear hgt
  have HNE := Lib.hid hne; clear hne
  have HB0 := Lib.hid hb0; clear hb0
  have HGT0 := Lib.hid hgt0; clear hgt0
  have HREST0 := Lib.hid hrest0; clear hrest0 h
  have hW0s : w.heap.size ≤ W0.heap.size := HB0.out.size
  have hget := get2 g gt B _ W0 HREST0.out HGT0.out
  have HGET := Lib.hid hget; clear hget
  go_enter Tryz.func87, Tryz.ntmps87
  go_wp2_with fail
  rw [← HW0.out, ← HGTG.out]
  clear hs0
  with_reducible refine HGET.out.mono ?_
  rintro E V1 ⟨rfl, hr1, ht1⟩
  have hgt1 : V1.heap[gt]? = some (.cells #[takeV g] 156 (0, 0)) := (ht1.block gt (by omega) HNE.out HNE.out).trans HGT0.out
  have HGT1 := Lib.hid hgt1; clear hgt1
  have hV1 : w.heap.size + 2 ≤ V1.heap.size := by have := ht1.size; omega
  have HB1 : Hid (Below w.heap.size w V1) := Lib.hid (HB0.out.trans (ht1.below hW0s hbg hbg))
  have hget := get2 g gt B _ V1 hr1 HGT1.out
  have HGET1 := Lib.hid hget; clear hget HGET hr1 ht1
  obtain ⟨mny, hmny⟩ : ∃ mny, mny = nmb ((b.take 252).take 2) := ⟨_, rfl⟩
  rw [← hmny]
  have HMNY := Lib.hid hmny; clear hmny
  go_wp2_with fail
  with_reducible refine HGET1.out.mono ?_
  rintro E V2 ⟨rfl, hr2, ht2⟩
  have hgt2 : V2.heap[gt]? = some (.cells #[takeV g] 156 (0, 0)) := (ht2.block gt (by omega) HNE.out HNE.out).trans HGT1.out
  have HGT2 := Lib.hid hgt2; clear hgt2
  have hV2 : w.heap.size + 2 ≤ V2.heap.size := by have := ht2.size; omega
  have HB2 : Hid (Below w.heap.size w V2) := Lib.hid (HB1.out.trans (ht2.below (by omega) hbg hbg))
  have HR2 := Lib.hid hr2; clear hr2 ht2 HGET1 HGT1
  obtain ⟨M, hM⟩ : ∃ M, M = min mny 41 := ⟨_, rfl⟩
  have hmin : ∀ (ts : Array TypeId) (t : TypeId) (W : World), (Builtin.min_ ts t #[.int .i64 (mny : Int), .int .i64 41]).run Tryz.prog W = .ok (.int .i64 (M : Int)) W := fun ts t W => by
    rw [run_min_int2]
    congr 2
    split <;> omega
  have htold : toldP b = (stP b M).2 := by unfold toldP; rw [hM, HMNY.out]; rfl
  have HTOLD := Lib.hid htold; clear htold
  have hM41 : M ≤ 41 := by omega
  clear hM HMNY
  generalize nmb (((b.take 252).drop 2).take 2) = sz
  go_wp2
  go_loopw [7, 20] (fun lv i wr => ∃ (k : Nat) (Al : Option Addr) (cl : Nat), k ≤ M ∧ i = .int .i64 (k : Int) ∧ lv = .slice Al k cl ∧ OwnX wr (w.heap.size + 2) (.slice Al k cl) (stP b k).2 ∧ Rest wr g B (stP b k).1 ∧ wr.heap[gt]? = some (.cells #[takeV g] 156 (0, 0)) ∧ w.heap.size + 2 ≤ wr.heap.size ∧ Below w.heap.size w wr) (fun _ i _ => M - (intOf i).toNat)
  case atStart => exact ⟨0, none, 0, Nat.zero_le _, rfl, rfl, OwnX.nil _ _, HR2.out, HGT2.out, hV2, HB2.out⟩
  case round =>
    obtain ⟨k, Al, cl, hk, rfl, rfl, hown, hrest, hgtr, hwr, hbr⟩ := hrel
    rcases Nat.lt_or_ge k M with hlt | hge
    rotate_left
    · obtain rfl : k = M := by omega
      have hkn : ¬ (k : Int) < (k : Int) := by omega
      have HO := Lib.hid (hown.mono (show w.heap.size ≤ w.heap.size + 2 by omega)); clear hown
      have HBR := Lib.hid hbr; clear hbr hrest hgtr
      have hsl := stP_len b k
      have HSL := Lib.hid hsl; clear hsl
      go_wp2
      go_ret
      refine ⟨Al, cl, ?_, ?_, HBR.out⟩
      · rw [HTOLD.out, HSL.out]; rfl
      · rw [HTOLD.out, HSL.out]; exact HO.out
    · have hkn : (k : Int) < (M : Int) := by omega
      have hget := get4 g gt B _ wr hrest hgtr
      obtain ⟨R, hR⟩ : ∃ R, R = (stP b k).1 := ⟨_, rfl⟩
      rw [← hR] at hget
      have HRR := Lib.hid hR; clear hR
      have HGT := Lib.hid hgtr; clear hgtr
      have HOWN := Lib.hid hown; clear hown
      have HBR := Lib.hid hbr; clear hbr
      have HGET := Lib.hid hget; clear hget hrest
      go_wp2_with fail
      with_reducible refine HGET.out.mono ?_
      rintro E V1 ⟨rfl, hr1, ht1⟩
      have hgl : gt < wr.heap.size := (Array.getElem?_eq_some_iff.1 HGT.out).1
      have hgt1 : V1.heap[gt]? = some (.cells #[takeV g] 156 (0, 0)) := (ht1.block gt hgl HNE.out HNE.out).trans HGT.out
      have HGT1 := Lib.hid hgt1; clear hgt1
      have HGTL1 : Hid (gt < V1.heap.size) := Lib.hid (by have := ht1.size; omega)
      have hget1 := get1 g gt B _ V1.drew (hr1.below (Below.refl _ V1).drew) HGT1.out
      have HT1 := Lib.hid ht1; clear ht1 hr1
      obtain ⟨ei, hei⟩ : ∃ ei, ei = nmb (R.take 4) := ⟨_, rfl⟩
      obtain ⟨nl, hnl⟩ : ∃ nl, nl = nmb ((R.drop 4).take 1) := ⟨_, rfl⟩
      rw [← hei]
      rw [← hnl] at hget1
      have HGET1 := Lib.hid hget1; clear hget1 HGET
      have HEI := Lib.hid hei; clear hei
      have HNL := Lib.hid hnl; clear hnl
      go_wp2_with fail
      refine wp_region_E (fun V => V.cell? ⟨gt, 0, none⟩ = some (takeV g)) 99 rfl ?_
      have hS := (show V1.drew.cell? ⟨gt, 0, none⟩ = some (takeV g) from cell_of_row V1 gt 0 _ _ _ HGT1.out)
      refine wpE_takeF 0 ⟨some 24, _, _, _, _, _⟩ (v := ?_) (by decide) rfl (by kernel_rfl) (by kernel_rfl) (by kernel_rfl) (fun _ _ _ h => h) hS (Or.inl ⟨by kernel_rfl, ?_⟩) ?_
      rotate_left
      · (intro V hSw; have hq := hSw; go_simp; try with_reducible rfl)
      try simp only [Act.put]
      refine wpE_takeF 1 ⟨some 25, _, _, _, _, _⟩ (v := ?_) (by decide) rfl (by kernel_rfl) (by kernel_rfl) (by kernel_rfl) (fun _ _ _ h => h) hS (Or.inl ⟨by kernel_rfl, ?_⟩) ?_
      rotate_left
      · (intro V hSw; have hq := hSw; go_simp; try with_reducible rfl)
      try simp only [Act.put]
      refine wpE_one 2 (o := ⟨some 26, _, _, _, _, _⟩) (by kernel_rfl) rfl (fun K' hK' => ?_)
      rw [if_pos (by kernel_rfl)]
      refine call_val 113 _ _ _ _ _ _ rfl rfl Tryz.func113 (by kernel_rfl) rfl _ ?hv _ HGET1.out ?_
      case hv => simp only [List.map_toArray, List.map_cons, List.map_nil]; go_simp
      rintro E V2 ⟨rfl, hr2, ht2⟩
      have hgt2 : V2.heap[gt]? = some (.cells #[takeV g] 156 (0, 0)) := (ht2.block gt (by have := HGTL1.out; exact this) HNE.out HNE.out).trans HGT1.out
      have HT2 := Lib.hid ht2; clear ht2
      have htake := take_any g B nl _ V2 hr2
      have HTAKE := Lib.hid htake; clear htake
      have HGT2 := Lib.hid hgt2; clear hgt2
      refine ⟨_, rfl, hK'.out _ _ (cell_of_row V2 gt 0 _ _ _ HGT2.out) (fun hS => ?_)⟩
      clear hK' K'
      try simp only [Act.put]
      refine wpE_one 3 (o := ⟨some 27, _, _, _, _, _⟩) (by kernel_rfl) rfl (fun K' hK' => ?_)
      rw [if_pos (by kernel_rfl)]
      refine call_val 112 _ _ _ _ _ #[.pointer (some ⟨g, 0, none⟩)] rfl rfl Tryz.func112 (by kernel_rfl) rfl _ ?hv _ HTAKE.out ?_
      case hv => simp only [List.map_toArray, List.map_cons, List.map_nil]; go_simp
      rintro E V3 ⟨A3, c3, rfl, hh3, hr3, ht3⟩
      obtain ⟨TL, hTL⟩ : ∃ TL, TL = (((R.drop 4).drop 1).take nl).length := ⟨_, rfl⟩
      rw [← hTL] at hh3 ⊢
      clear hTL
      have hgl2 : gt < V2.heap.size := (Array.getElem?_eq_some_iff.1 HGT2.out).1
      have hgt3 : V3.heap[gt]? = some (.cells #[takeV g] 156 (0, 0)) := (ht3.block gt hgl2 HNE.out HNE.out).trans HGT2.out
      have HGT3 := Lib.hid hgt3; clear hgt3
      have HT3 := Lib.hid ht3; clear ht3
      have HH3 := Lib.hid hh3; clear hh3
      have HR3 := Lib.hid hr3; clear hr3
      refine ⟨_, rfl, hK'.out _ _ (cell_of_row V3 gt 0 _ _ _ HGT3.out) (fun hS => ?_)⟩
      clear hK' K'
      try simp only [Act.put]
      refine wpE_takeF 4 ⟨some 9, _, _, _, _, _⟩ (v := ?_) (by decide) rfl (by kernel_rfl) (by kernel_rfl) (by kernel_rfl) (fun _ _ _ h => h) hS (Or.inl ⟨by kernel_rfl, ?_⟩) ?_
      rotate_left
      · (intro V hSw; go_simp; try with_reducible rfl)
      try simp only [Act.put]
      refine wpE_done (by kernel_rfl) ?_ _
      try simp only [List.setIfInBounds_toArray, List.set_cons_succ, List.set_cons_zero]
      have hown3 : OwnX V3 (w.heap.size + 2) (.slice Al k cl) (stP b k).2 := (((HOWN.out.tn HT1.out hgb).below (Below.refl _ V1).drew).tn HT2.out hgb).tn HT3.out hgb
      have hV1s : w.heap.size + 2 ≤ V1.heap.size := by have := HT1.out.size; omega
      have hV2s : w.heap.size + 2 ≤ V2.heap.size := by have := HT2.out.size; exact Nat.le_trans hV1s this
      have hV3s : w.heap.size + 2 ≤ V3.heap.size := by have := HT3.out.size; omega
      have hb3 : Below w.heap.size w V3 := ((HBR.out.trans (HT1.out.below (by omega) hbg hbg)).drew.trans (HT2.out.below (by have : V1.drew.heap.size = V1.heap.size := rfl; omega) hbg hbg)).trans (HT3.out.below (by omega) hbg hbg)
      have hconv := run_text V3 B A3 TL c3 _ HH3.out
      obtain ⟨part, hpart⟩ : ∃ part, part = ((R.drop 4).drop 1).take nl := ⟨_, rfl⟩
      rw [← hpart] at hconv
      have hent : entP R = ⟨part, (ei : Int)⟩ := by unfold entP; rw [hpart, HEI.out, HNL.out]
      have hnext : (stP b (k + 1)).2 = (stP b k).2 ++ [⟨part, (ei : Int)⟩] := by rw [← hent, HRR.out]; rfl
      have hrestN : (stP b (k + 1)).1 = ((R.drop 4).drop 1).drop nl := by rw [HRR.out, HNL.out, HRR.out]; rfl
      obtain ⟨v', V4, hrun, hown4, hgr⟩ := run_appX V3 (w.heap.size + 2) _ _ hown3 ⟨part, (ei : Int)⟩ 38 (by rw [stP_len]; omega) hV3s
      rw [← hnext] at hown4
      obtain ⟨A4, c4, rfl⟩ := hown4.shape
      rw [stP_len] at hrun hown4 hgr
      have hlt4 : ∀ q, (Value.slice Al k cl).ownBlock = some q → w.heap.size + 2 ≤ q := fun q hq => (hown3.lt q hq).1
      have hr4 : Rest V4 g B (stP b (k + 1)).1 := by
        rw [hrestN]
        exact HR3.out.grown hgr.1 (fun q hq => by have := hlt4 q hq; omega)
      have hgt4 : V4.heap[gt]? = some (.cells #[takeV g] 156 (0, 0)) := by
        have h1 : gt < V3.heap.size := (Array.getElem?_eq_some_iff.1 HGT3.out).1
        exact (hgr.1.block gt h1 (fun e => by have := hlt4 gt e.symm; omega)).trans HGT3.out
      have hb4 : Below w.heap.size w V4 := hb3.trans (hgr.below (by omega) (fun q hq => by have := hlt4 q hq; omega))
      have hV4s : w.heap.size + 2 ≤ V4.heap.size := Nat.le_trans hV3s hgr.1.size
      obtain ⟨S, hS⟩ : ∃ S : ByteArray, S = ⟨part.toArray⟩ := ⟨_, rfl⟩
      rw [← hS] at hconv
      dsimp only at hrun
      rw [← hS] at hrun
      have HO4 := Lib.hid hown4; clear hown4
      have HR4 := Lib.hid hr4; clear hr4
      have HGT4 := Lib.hid hgt4; clear hgt4
      have HB4 := Lib.hid hb4; clear hb4
      clear hS hpart hent hnext hrestN hown3 hb3 hgr hlt4 HH3 HR3
      go_wp2_with (at_builtin; refine wpList_apprun rfl _ _ _ _ (by rfl) _ _ (by rfl) (by rfl) _ _ hrun ?_)
      go_wp2
      go_roundw
      case rel => exact ⟨k + 1, A4, c4, by omega, by go_num, rfl, HO4.out, HR4.out, HGT4.out, hV4s, HB4.out⟩
      case measure => simp [intOf]; omega
end Go.Proofs.YtbagocghlijleaaGreat.Lf

namespace Go.Proofs.YtbagocghlijleaaGreat.Lf
set_option maxRecDepth 20000
open Go.RowKit
open Go.Proofs.YtbagocghlijleaaGreat.Mem Go.Proofs.YtbagocghlijleaaGreat.Crc Go.Proofs.YtbagocghlijleaaGreat.Rec Go.Proofs.YtbagocghlijleaaGreat.Reg
attribute [local go_sem ↓] ldX_eq stX_eq

def eqB (a b : List UInt8) : Bool := decide (a = b)
theorem equal_any (A A' : Option Addr) (n n' c c' B B' : Nat) (bs bs' : List UInt8) (w : World) (h : Holds w B A n bs) (h' : Holds w B' A' n' bs') :
    Calls Tryz.prog 88 #[.slice A n c, .slice A' n' c'] w fun e w' => e = .returned (.bool (eqB bs bs')) ∧ w = w' := by
  have t1 := run_text w B A n c bs h
  have t2 := run_text w B' A' n' c' bs' h'
  clear h h'
  unfold eqB
  by_cases heq : bs = bs'
  · subst heq
    go_enter Tryz.func88, Tryz.ntmps88
    go_wp2
    go_ret
    exact ⟨by simp, rfl⟩
  · have hne : (⟨bs.toArray⟩ : ByteArray) ≠ ⟨bs'.toArray⟩ := by
      intro e
      injection e with e
      exact heq (by simpa using congrArg Array.toList e)
    have hd : decide (bs = bs') = false := by simpa using heq
    go_enter Tryz.func88, Tryz.ntmps88
    go_wp2
    go_ret
    exact ⟨by simp [heq], rfl⟩
/-- Names and an error, as answered. -/
def Names2 (w : World) (y : List Nm × Int) (e : Ending) (w' : World) : Prop :=
  ∃ A c, e = .returned (.tuple #[.slice A y.1.length c, .int .i64 y.2]) ∧ OwnX w' w.heap.size (.slice A y.1.length c) y.1 ∧ Below w.heap.size w w'
theorem toldP_rep (b : List UInt8) : ∀ x ∈ toldP b, x.rep := stP_rep b _
theorem toldP_len (b : List UInt8) : (toldP b).length ≤ 41 := by unfold toldP; rw [stP_len]; omega
theorem enc_two (l : List Nm) : (enc l).2 = 0 ∨ (enc l).2 = 1 ∨ (enc l).2 = 9 := by
  unfold enc
  split
  · split
    · exact .inl rfl
    · exact .inr (.inr rfl)
  · exact .inr (.inl rfl)

set_option maxRecDepth 100000 in
set_option maxHeartbeats 1000000 in
theorem decode_any (A : Option Addr) (n c B : Nat) (b : List UInt8) (w : World) (h : Holds w B A n b) (hB : B ≤ w.heap.size) (hc : n ≤ c) (hn : n ≤ 140737488355328) :
    Calls Tryz.prog 60 #[.slice A n c] w (Names2 w (decP b)) := by
  obtain ⟨y, hy⟩ : ∃ y, y = decP b := ⟨_, rfl⟩
  rw [← hy]
  have hbl := h.1
  by_cases h256 : n = 256
  · subst h256
    have hdec : y = decL b (toldP b) := by rw [hy]; unfold decP; rw [if_pos hbl]
    clear hy
    have htold := told_any A c B b w h hB hc
    have hlen := toldP_len b
    have hrep := toldP_rep b
    obtain ⟨l, hl⟩ : ∃ l, l = toldP b := ⟨_, rfl⟩
    rw [← hl] at hdec htold hlen hrep
    clear hl
    have HTOLD := Lib.hid htold; clear htold
    have HDEC := Lib.hid hdec; clear hdec
    have H := Lib.hid h; clear h
    have HREP := Lib.hid hrep; clear hrep
    go_enter Tryz.func60, Tryz.ntmps60
    go_wp2_with fail
    with_reducible refine HTOLD.out.mono ?_
    rintro E w1 ⟨A1, c1, rfl, ho1, hb1⟩
    have henc := encode_any A1 l.length c1 w1.heap.size l w1 ho1.reads (Nat.le_refl _) HREP.out (by omega)
    obtain ⟨n1, hn1⟩ : ∃ n1, n1 = l.length := ⟨_, rfl⟩
    rw [← hn1] at henc ho1 hlen ⊢
    have HN1 := Lib.hid hn1; clear hn1
    have HENC := Lib.hid henc; clear henc HTOLD
    have HO1 := Lib.hid ho1; clear ho1
    have HB1 := Lib.hid hb1; clear hb1
    go_wp2_with fail
    with_reducible refine HENC.out.mono ?_
    rintro E w2 ⟨A2, c2, rfl, ho2, hb2⟩
    have hb2' : Below w.heap.size w w2 := HB1.out.trans (hb2.mono HB1.out.size)
    have ho1' := HO1.out.below hb2
    have HB2 := Lib.hid hb2'; clear hb2'
    have HO1' := Lib.hid ho1'; clear ho1'
    have heq := equal_any A A2 256 (enc l).1.length c c2 B w2.heap.size b (enc l).1 w2 (H.out.below (HB2.out.mono hB)) (Owned.reads ho2)
    clear hb2 ho2 HENC
    rcases Decidable.em (enc l = (b, 0)) with hyes | hno
    · have hq : eqB b (enc l).1 = true := by rw [hyes]; exact decide_eq_true rfl
      rw [hq] at heq
      have hz : (enc l).2 = 0 := by rw [hyes]
      have HY : Hid (y = (l, 0)) := Lib.hid (by rw [HDEC.out, decL_zero hyes])
      clear hyes hq
      rw [hz]
      clear hz
      generalize (enc l).1.length = n2 at heq ⊢
      have HEQ := Lib.hid heq; clear heq
      go_wp2_with (with_reducible refine HEQ.out.mono ?_; rintro E w3 ⟨rfl, rfl⟩)
      go_ret2
      refine ⟨A1, c1, ?_, ?_, HB2.out⟩
      · rw [HY.out, ← HN1.out]; rfl
      · rw [HY.out, ← HN1.out]; exact HO1'.out
    · have HY : Hid (y = ([], 13)) := Lib.hid (by rw [HDEC.out, decL_not hno])
      rcases enc_two l with hz | hz | hz
      · have hq : eqB b (enc l).1 = false := decide_eq_false (fun e => hno (by rw [Prod.ext_iff]; exact ⟨e.symm, hz⟩))
        rw [hq] at heq
        rw [hz]
        clear hz hq hno
        generalize (enc l).1.length = n2 at heq ⊢
        have HEQ := Lib.hid heq; clear heq
        go_wp2_with (with_reducible refine HEQ.out.mono ?_; rintro E w3 ⟨rfl, rfl⟩)
        go_ret2
        exact ⟨none, 0, by rw [HY.out]; rfl, by rw [HY.out]; exact OwnX.nil _ _, HB2.out⟩
      · rw [hz]
        clear hz hno heq
        generalize (enc l).1.length = n2
        go_wp2
        go_ret2
        exact ⟨none, 0, by rw [HY.out]; rfl, by rw [HY.out]; exact OwnX.nil _ _, HB2.out⟩
      · rw [hz]
        clear hz hno heq
        generalize (enc l).1.length = n2
        go_wp2
        go_ret2
        exact ⟨none, 0, by rw [HY.out]; rfl, by rw [HY.out]; exact OwnX.nil _ _, HB2.out⟩
  · have HY : Hid (y = ([], 13)) := Lib.hid (by rw [hy]; unfold decP; rw [if_neg (by omega)])
    have hne : ((n : Int) == 256) = false := beq_false_of_ne (by omega)
    have hne2 : ((n : Int) != 256) = true := bne_iff_ne.2 (by omega)
    clear hy h
    go_enter Tryz.func60, Tryz.ntmps60
    go_wp2
    go_ret2
    exact ⟨none, 0, by rw [HY.out]; rfl, by rw [HY.out]; exact OwnX.nil _ _, Below.refl _ _⟩
end Go.Proofs.YtbagocghlijleaaGreat.Lf
