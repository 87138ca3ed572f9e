/- Orders: how many chunks of each order are free. -/
import Derived.Test.YtnkiblifnknbkaaBdFirst
namespace Go.Proofs.Ytnkiblifnknbkaa.Buddy
set_option maxRecDepth 20000
open Go Go.RowKit Go.Shelf
open Go.Proofs.Ytnkiblifnknbkaa.Mem Go.Proofs.Ytnkiblifnknbkaa.Bt Go.Proofs.Ytnkiblifnknbkaa.Rec Go.Proofs.Ytnkiblifnknbkaa.Bits Go.Proofs.Ytnkiblifnknbkaa.Bd Go.Proofs.Ytnkiblifnknbkaa.Reg
attribute [local go_sem] Oper.semAt_some

theorem info_int : (Try.prog.info? 3).map (fun i => (i.zero, i.size, i.bytes)) = some (some (.int .i64 0), 1, 8) := by kernel_rfl
theorem run_make7 (W : World) : (Instr.makeSlice 34 (.int .i64 7) (.int .i64 7)).run Try.prog W = .ok (.slice (some ⟨W.heap.size, 0, none⟩) 7 7) (W.alloc (.cells (Array.replicate 7 (.int .i64 0)) 3)) := by
  have h := run_make_row' 34 3 (.int .i64 0) 8 Try.underlying34 info_int rfl .i64 .i64 7 (by omega) (by omega) W
  exact h.trans (by congr 3; kernel_rfl)
/-- How many there are of each order, as cells. -/
def cnts (l : List (Nat × Nat)) : Array Value := #[.int .i64 (many l 0 : Int), .int .i64 (many l 1 : Int), .int .i64 (many l 2 : Int), .int .i64 (many l 3 : Int), .int .i64 (many l 4 : Int), .int .i64 (many l 5 : Int), .int .i64 (many l 6 : Int)]
theorem many_snoc (l : List (Nat × Nat)) (x : Nat × Nat) (j : Nat) : many (l ++ [x]) j = many l j + if x.2 = j then 1 else 0 := by
  rw [many_append]
  congr 1
  simp [many, List.countP_cons]
theorem many_le (l : List (Nat × Nat)) (j : Nat) : many l j ≤ l.length := List.countP_le_length
theorem cnts_get (l : List (Nat × Nat)) (j : Nat) (h : j ≤ 6) : (cnts l)[j]? = some (.int .i64 (many l j : Int)) := by
  rcases (show j = 0 ∨ j = 1 ∨ j = 2 ∨ j = 3 ∨ j = 4 ∨ j = 5 ∨ j = 6 by omega) with rfl | rfl | rfl | rfl | rfl | rfl | rfl <;> rfl
theorem cnts_set (l : List (Nat × Nat)) (x : Nat × Nat) (h : x.2 ≤ 6) : (cnts l).setIfInBounds x.2 (.int .i64 ((many l x.2 + 1 : Nat) : Int)) = cnts (l ++ [x]) := by
  obtain ⟨s, j⟩ := x
  dsimp only at h ⊢
  unfold cnts
  simp only [many_snoc]
  rcases (show j = 0 ∨ j = 1 ∨ j = 2 ∨ j = 3 ∨ j = 4 ∨ j = 5 ∨ j = 6 by omega) with rfl | rfl | rfl | rfl | rfl | rfl | rfl <;> simp
theorem wt_len : ∀ l : List (Nat × Nat), l.length ≤ wt l
  | [] => Nat.le_refl _
  | x :: l => by
    have := wt_len l
    have := Nat.two_pow_pos x.2
    simp only [wt, List.length_cons]; omega
theorem chunks_len (f : Nat → Bool) (n : Nat) : (chunksL f n).length ≤ n := by
  have h := wt_len (chunksL f n)
  rw [chunks_wt] at h
  omega

def OrI {nn : Nat} (W0 : World) (B M : Nat) (T : Nat → Prop) (pre : List (Ck nn)) (V : World) : Prop :=
  KpT B T W0 V ∧ V.heap[M]? = some (.cells (cnts (raw pre)) 3 (0, 0))
theorem orI_own {nn : Nat} (W0 : World) (B M : Nat) (T : Nat → Prop) (hB : B ≤ W0.heap.size) : OwnFrom W0.heap.size (OrI (nn := nn) W0 B M T) := fun _ _ _ _ ⟨h1, h2⟩ hg hr =>
  ⟨h1.own hg hB hr, cells_kept h2 hg (fun r e => (hr r e).2)⟩

/-- Numbers in memory that the call made. -/
def MadeInts (w : World) (cs : Array Value) (e : Ending) (w' : World) : Prop :=
  ∃ M, w.heap.size ≤ M ∧ e = .returned (.tuple #[.slice (some ⟨M, 0, none⟩) 7 7, .int .i64 0]) ∧ w'.heap[M]? = some (.cells cs 3 (0, 0)) ∧ Below w.heap.size w w'

set_option maxRecDepth 100000 in
set_option maxHeartbeats 4000000 in
theorem orders_ok (A : Option Addr) (len c B : Nat) (bs : List UInt8) (nn : Nat) (w : World) (h : Holds w B A len bs) (hB : B ≤ w.heap.size) (hl : len ≤ 140737488355328) (hnn : nn ≤ 8 * len) :
    Calls Try.prog 15 #[.slice A len c, .int .i64 (nn : Int)] w (MadeInts w (cnts (chunksL (bt bs) nn))) := by
  have hpool := fun W => pool_any A len c (nn : Int) W hl
  have hpb : poolB len (nn : Int) = true := decide_eq_true (by omega)
  rw [hpb] at hpool
  have HP := Lib.hid hpool; clear hpool hpb
  have hmk := run_make7
  refine (callsIn_wide (n := 5)).1 ?_
  refine callsIn_of_wp_marks Try.func15 rfl trivial ?_ rfl
  simp only [Try.ntmps15, List.size_toArray, List.length_cons, List.length_nil, Nat.reduceAdd, Nat.reduceSub, Array.replicate_succ, Array.replicate_zero, List.push_toArray, List.append_toArray, List.nil_append, List.cons_append]
  gi_wp2_with fail
  refine ⟨trivial, (callsIn_wide (n := 4)).2 ((HP.out _).mono ?_)⟩
  rintro e W0 ⟨rfl, rfl⟩
  clear HP
  obtain ⟨zs, hzs⟩ : ∃ zs : Array Value, zs = Array.replicate 7 (.int .i64 0) := ⟨_, rfl⟩
  rw [← hzs] at hmk
  have HZS := Lib.hid hzs; clear hzs
  gi_wp2_with fail
  clear hmk
  obtain ⟨V1, hV1⟩ : ∃ V1, V1 = w.alloc (.cells zs 3) := ⟨_, rfl⟩
  obtain ⟨V2, hV2⟩ : ∃ V2, V2 = V1.alloc (.cells #[.slice (some ⟨w.heap.size, 0, none⟩) 7 7] 34) := ⟨_, rfl⟩
  rw [← hV1, ← hV2]
  have z1 : V1.heap.size = w.heap.size + 1 := by rw [hV1]; simp
  have z2 : V2.heap.size = w.heap.size + 2 := by rw [hV2]; simp [z1]
  have b1 : V2.heap[w.heap.size + 1]? = some (.cells #[.slice (some ⟨w.heap.size, 0, none⟩) 7 7] 34 (0, 0)) := by rw [hV2, ← z1]; exact heap_alloc_new _ _
  have b0 : V2.heap[w.heap.size]? = some (.cells (cnts []) 3 (0, 0)) := by
    rw [hV2]
    refine (Below.heap_alloc _ _ _ (by omega)).trans ?_
    rw [hV1, HZS.out]
    exact heap_alloc_new _ _
  have hbl : Below w.heap.size w V2 := by rw [hV2, hV1]; exact ((Below.refl _ w).alloc (Nat.le_refl _) _).alloc (by simp) _
  clear hV1 hV2 z1 HZS
  refine ⟨trivial, (callsIn_wide (n := 4)).2 ((chunks_mk A len c nn V2).mono ?_)⟩
  rintro e W0 ⟨rfl, hbl0, hq0, hq1, hz0⟩
  replace b0 := (hbl0.block _ (by omega)).trans b0
  replace b1 := (hbl0.block _ (by omega)).trans b1
  have hB0 : Below w.heap.size w W0 := hbl.trans (hbl0.mono (by omega))
  rw [z2] at hq0 hq1 hz0 ⊢
  clear hbl hbl0
  obtain ⟨M, hMe⟩ : ∃ M, M = w.heap.size := ⟨_, rfl⟩
  rw [← hMe] at b0 b1 hq0 hq1 hz0
  have hMle : w.heap.size ≤ M := Nat.le_of_eq hMe.symm
  have hh0 : Holds W0 B A len bs := h.below (hB0.mono hB)
  have HI0 : Hid (OrI (nn := nn) W0 w.heap.size M (fun b => b = M) [] W0) := Lib.hid ⟨KpT.refl _ _ _, b0⟩
  have HB0 := Lib.hid hB0; clear hB0
  have HH0 := Lib.hid hh0; clear hh0 h
  have BX1 := Lib.hid b1; clear b1 b0 z2
  have HQ0 := Lib.hid hq0; clear hq0
  have HQ1 := Lib.hid hq1; clear hq1
  gi_wp2
  rw [← hMe]
  have HM := Lib.hid hMe; clear hMe
  refine wpIn_rangeFunc_ownG (F := Fence.wide) (n := 5) rfl (by omega) (gf := 39) (lb := #[.pointer (some ⟨M + 2, 0, none⟩), .pointer (some ⟨M + 2 + 1, 0, none⟩)]) rfl trivial (enters_of Try.func39 (by kernel_rfl) rfl)
    (chunks_stops (M + 2) (M + 2 + 1) w.heap.size A len c nn bs (fun b => b = M) (5 - 1) (by omega) (by omega) hl (by omega) W0 (fun b hb => by omega) HQ0.out HQ1.out (HH0.out.more hB) (by omega))
    KpT.trans ?hKb (Below.refl _ _) (fun _ => rfl)
    (OrI W0 w.heap.size M (fun b => b = M)) (fun _ _ _ => False) (orI_own _ _ _ _ (by omega)) (fun _ _ _ _ _ hs _ _ => hs) HI0.out
    (fun x => { tmps := #[.slice A len c, .int .i64 (nn : Int), undef, undef, .slice none 0 0, .int .i64 0, .pointer (some ⟨M + 1, 0, none⟩), undef, .int .i64 (x.1.2 : Int), .slice A len c, .int .i64 (nn : Int), .bool true, .bool false, .slice (some ⟨M, 0, none⟩) 7 7, .slice A len c, .int .i64 (nn : Int), .func (.func 39) #[] #[.pointer (some ⟨M + 2, 0, none⟩), .pointer (some ⟨M + 2 + 1, 0, none⟩)], .int .i64 (x.1.1 : Int), .int .i64 (x.1.2 : Int), undef, undef, undef, undef, undef, undef, undef], defers := [] }) ?assign ?body ?done ?stop
  case hKb =>
    intro V q o o' hq ho hoc hw
    exact ⟨belowK_b (w := W0) (by omega) V q o o' (by omega) ho hoc hw, fun b o2 hb hc _ => (World.putObj_heap_other (fun e => by subst e; rw [hb] at ho; cases ho; rw [hc] at hoc; cases hoc)).trans hb⟩
  case assign =>
    intro l x V K hK
    dsimp only [encK, encC] at hK ⊢
    gi_wp2
    exact hK
  case body =>
    rintro l pre x V ⟨hkp, hr⟩ hlen
    obtain ⟨⟨s, j⟩, hx1, hx2⟩ := x
    dsimp only at hx1 hx2 ⊢
    have hmy := many_le (raw pre) j
    rw [raw_len] at hmy
    have hcl := chunks_len (bt bs) nn
    have hx0 : V.cell? ⟨M, j, none⟩ = some (.int .i64 (many (raw pre) j : Int)) := (cell_of_row V M j _ _ _ hr).trans (cnts_get _ _ hx2)
    have hf0 : V.frozen? ⟨M, j, none⟩ = false := frozen_of_row V M j _ _ hr
    have x1 : V.cell? ⟨M + 1, 0, none⟩ = some (.slice (some ⟨M, 0, none⟩) 7 7) := cell_of_row V _ 0 _ _ _ (hkp.cells _ _ BX1.out rfl (by omega))
    have hset := cnts_set (raw pre) (s, j) hx2
    have hraw : raw (pre ++ [mkCk (s, j) hx1 hx2]) = raw pre ++ [(s, j)] := raw_snoc pre (mkCk (s, j) hx1 hx2)
    have hfin : ∀ v, v = Value.int .i64 ((many (raw pre) j + 1 : Nat) : Int) → KeepsFrom W0.heap.size V (V.setCell ⟨M, j, none⟩ v) ∧ KpT w.heap.size (fun b => b = M) V (V.setCell ⟨M, j, none⟩ v) ∧ OrI W0 w.heap.size M (fun b => b = M) (pre ++ [mkCk (s, j) hx1 hx2]) (V.setCell ⟨M, j, none⟩ v) := fun v hv => by
      have k1 : KpT w.heap.size (fun b => b = M) V (V.setCell ⟨M, j, none⟩ v) := KpT.set V _ _ (by show w.heap.size ≤ M; omega) rfl
      refine ⟨KeepsFrom.of_grownBy (grown_set (T := M) (World.grownBy.refl V _) _ rfl _) (fun i hi => by cases hi; omega), k1, hkp.trans k1, ?_⟩
      rw [hraw, ← hset, hv]
      exact heap_setCell_same V M j _ _ _ hr
    obtain ⟨y, hy⟩ : ∃ y, y = many (raw pre) j := ⟨_, rfl⟩
    rw [← hy] at hx0 hmy hfin
    have e1 : IntKind.i64.wrap ((y : Int) + 1) = ((y + 1 : Nat) : Int) := by rw [IntWalk.i64_in _ (by omega)]; push_cast; rfl
    have hj0 : (0 : Int) ≤ (j : Int) := by omega
    have hj7 : (j : Int) < 7 := by omega
    have HF := Lib.hid hfin; clear hfin hset hraw hy hr hkp hlen hmy hcl
    gi_wp2
    first | exact HF.out _ rfl | (have hh := HF.out _ rfl; rw [hz0] at hh; exact hh)
  case done =>
    rintro D ys V hD' hys ⟨hkp, hr⟩ hK
    rw [hys] at hr
    have x1 : V.cell? ⟨M + 1, 0, none⟩ = some (.slice (some ⟨M, 0, none⟩) 7 7) := cell_of_row V _ 0 _ _ _ (hkp.cells _ _ BX1.out rfl (by omega))
    have hVs := hkp.below.size
    gi_wp2
    refine ⟨by simp, .inl ⟨_, _, rfl, run_takeDeferred hK, ?_⟩⟩
    refine ⟨_, results_tmp2 rfl _ _ _, ?_⟩
    exact ⟨M, hMle, rfl, (World.putObj_heap_other (by omega)).trans hr, (HB0.out.trans hkp.below).grown (grownBy_putObj' _ D _) (by have := HB0.out.size; omega) (fun j hj => by cases hj; omega)⟩
  case stop =>
    rintro D cc pre V _ _ h _
    exact h.elim
end Go.Proofs.Ytnkiblifnknbkaa.Buddy
