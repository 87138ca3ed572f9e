/- The bytes of a part: what the iterator is made of, and what it hands to a loop's body. -/
import Derived.RangeFuncNested
import Derived.RangeFuncBound
import Derived.RangeFuncCalls
import Derived.RangeFuncLeaves
import Derived.RangeFuncWrites
import Derived.Shelf.Abstract
import Derived.Shelf.RegionOpen
import Derived.WalkKit
import Derived.OwnWalkIn
import Derived.TacticsInMore
import Derived.LoopNIn
import Derived.LoopIn
import Derived.Lib.Hide
import Derived.Test.YtnkiblifnknbkaaBtLow
namespace Go.Proofs.Ytnkiblifnknbkaa.Bits
set_option maxRecDepth 20000
open Go Go.RowKit Go.Shelf
open Go.Proofs.Ytnkiblifnknbkaa.Mem Go.Proofs.Ytnkiblifnknbkaa.Bt
attribute [local go_sem] Oper.semAt_some
attribute [local go_sem ↓] quoN_eq remN_eq shrB_eq shlB_eq andB_eq orB_eq clrB_eq subB_eq

def loE (fr : Int) : Int := if fr < 0 then 0 else fr
def hiE (n : Nat) (to : Int) : Int := if 8 * (n : Int) < to then 8 * (n : Int) else to
theorem loE_nat (fr : Int) : loE fr = (fr.toNat : Int) := by unfold loE; split <;> omega

set_option maxHeartbeats 2000000 in
theorem part_mk (A : Option Addr) (n c : Nat) (hn : n ≤ 140737488355328) (fr to : Int) (w : World) :
    Calls Try.prog 34 #[.slice A n c, .int .i64 fr, .int .i64 to] w fun e w' => e = .returned (.func (.func 42) #[] #[.pointer (some ⟨w.heap.size, 0, none⟩), .pointer (some ⟨w.heap.size + 1, 0, none⟩)]) ∧ Below w.heap.size w w' ∧
      w'.heap[w.heap.size]? = some (.cells #[.int .i64 (loE fr)] 3 (0, 0)) ∧ w'.heap[w.heap.size + 1]? = some (.cells #[.int .i64 (hiE n to)] 3 (0, 0)) ∧ w'.heap.size = w.heap.size + 2 := by
  obtain ⟨N, hN⟩ : ∃ N : Int, N = 8 * (n : Int) := ⟨_, rfl⟩
  have r1 : ∀ (ts : Array TypeId) (t : TypeId) (W : World), (Builtin.max_ ts t #[.int .i64 fr, .int .i64 0]).run Try.prog W = .ok (.int .i64 (loE fr)) W := fun ts t W => by
    rw [run_max_int2]
    unfold loE
    rfl
  have r2 : ∀ (ts : Array TypeId) (t : TypeId) (W : World), (Builtin.min_ ts t #[.int .i64 to, .int .i64 (8 * (n : Int))]).run Try.prog W = .ok (.int .i64 (hiE n to)) W := fun ts t W => by
    rw [run_min_int2]; rfl
  generalize loE fr = a at r1 ⊢
  generalize hiE n to = b at r2 ⊢
  go_enter Try.func34, Try.ntmps34
  go_wp2_with fail
  obtain ⟨W2, hW2⟩ : ∃ W2, W2 = (w.alloc (.cells #[.int .i64 fr] 3)).alloc (.cells #[.int .i64 to] 3) := ⟨_, rfl⟩
  rw [← hW2]
  have z1 : (w.alloc (.cells #[.int .i64 fr] 3)).heap.size = w.heap.size + 1 := by simp
  have hb0 : W2.heap[w.heap.size]? = some (.cells #[.int .i64 fr] 3 (0, 0)) := by
    rw [hW2]
    exact (Below.heap_alloc _ _ _ (by rw [z1]; omega)).trans (heap_alloc_new w _)
  have hb1 : W2.heap[w.heap.size + 1]? = some (.cells #[.int .i64 to] 3 (0, 0)) := by
    rw [hW2, ← z1]
    exact heap_alloc_new _ _
  have hz : W2.heap.size = w.heap.size + 2 := by rw [hW2]; simp
  have hbl : Below w.heap.size w W2 := by rw [hW2]; exact ((Below.refl _ w).alloc (Nat.le_refl _) _).alloc (by simp) _
  clear hW2 z1
  obtain ⟨B0, hB0⟩ : ∃ B0, B0 = w.heap.size := ⟨_, rfl⟩
  obtain ⟨B1, hB1⟩ : ∃ B1, B1 = w.heap.size + 1 := ⟨_, rfl⟩
  rw [← hB0] at hb0 hbl
  rw [← hB1] at hb1
  rw [← hB1, ← hB0]
  have hne : B0 ≠ B1 := by omega
  have hne' : B1 ≠ B0 := by omega
  have x0 : W2.drew.cell? ⟨B0, 0, none⟩ = some (.int .i64 fr) := cell_of_row W2.drew _ 0 _ _ _ hb0
  have x1 : W2.drew.cell? ⟨B1, 0, none⟩ = some (.int .i64 to) := cell_of_row W2.drew _ 0 _ _ _ hb1
  have f0 : W2.drew.frozen? ⟨B0, 0, none⟩ = false := frozen_of_row W2.drew _ 0 _ _ hb0
  have f1 : W2.drew.frozen? ⟨B1, 0, none⟩ = false := frozen_of_row W2.drew _ 0 _ _ hb1
  have x0' : W2.cell? ⟨B0, 0, none⟩ = some (.int .i64 fr) := x0
  have x1' : W2.cell? ⟨B1, 0, none⟩ = some (.int .i64 to) := x1
  have f0' : W2.frozen? ⟨B0, 0, none⟩ = false := f0
  have f1' : W2.frozen? ⟨B1, 0, none⟩ = false := f1
  have HB0 := Lib.hid hb0; clear hb0
  have HB1 := Lib.hid hb1; clear hb1
  have HBL := Lib.hid hbl; clear hbl
  have HZ := Lib.hid hz; clear hz
  have HE0 := Lib.hid hB0; clear hB0
  have HE1 := Lib.hid hB1; clear hB1
  have HN := Lib.hid hN; clear hN
  go_region
  all_goals
    go_wp2
    go_ret
    have e0 := HE0.out
    have e1 := HE1.out
    rw [← e1, ← e0]
    have g0 := heap_setCell_same W2 B0 0 _ _ (.int .i64 a) HB0.out
    have g1 : (W2.setCell ⟨B0, 0, none⟩ (.int .i64 a)).heap[B1]? = _ := (Below.heap_setCell _ _ _ _ (by show B1 ≠ B0; exact hne')).trans HB1.out
    refine ⟨rfl, ?_, ?_, ?_, ?_⟩
    · exact ((HBL.out.setCell (p := ⟨B0, 0, none⟩) (Nat.le_refl _) _).setCell (p := ⟨B1, 0, none⟩) (by show B0 ≤ B1; omega) _).drew
    · exact (Below.heap_setCell _ _ _ _ (by show B0 ≠ B1; exact hne)).trans g0
    · exact heap_setCell_same _ B1 0 _ _ (.int .i64 b) g1
    · have := HZ.out
      simp only [World.size_drew, World.size_setCell]
      omega

/-- What a round is handed: a byte's place, and its ones. -/
def partV (a b : Nat) (k : Nat) (x : Fin k) : Array Value := #[.int .i64 ((a / 8 + x.1 : Nat) : Int), .int .u8 (mask (st a x.1) b : Int)]
theorem fin_take {k j : Nat} (hj : j < k) : (List.finRange k).take (j + 1) = (List.finRange k).take j ++ [⟨j, hj⟩] := by
  rw [List.take_succ_eq_append_getElem (by simpa using hj)]
  simp
/-- What a round leaves as it was: the two boxes of the iterator. -/
def KpBox (Bs Bn : Nat) (W W' : World) : Prop := W'.heap[Bs]? = W.heap[Bs]? ∧ W'.heap[Bn]? = W.heap[Bn]?

set_option maxRecDepth 100000 in
set_option maxHeartbeats 2000000 in
theorem part1_in (n : Nat) (hn : 1 ≤ n) (l Bs Bn a b k : Nat) (bI : Int) (hb : b = bI.toNat) (hk : k = rounds a b) (hb2 : bI < 4611686018427387904) (J Jx : List (Fin k) → World → Prop)
    (hY : ∀ pre x W, J pre W → pre.length < k → YieldAt Fence.wide (n - 1) Try.prog l (partV a b k x) W fun e W' =>
      (e = .returned (.bool true) ∧ J (pre ++ [x]) W' ∧ KpBox Bs Bn W W') ∨ (e = .returned (.bool false) ∧ Jx (pre ++ [x]) W'))
    (hJd : ∀ pre V, J pre V → J pre V.drew) (W : World) (hBs : W.cell? ⟨Bs, 0, none⟩ = some (.int .i64 (a : Int))) (hBn : W.cell? ⟨Bn, 0, none⟩ = some (.int .i64 bI)) (h0 : J [] W) :
    CallsIn Fence.wide n Try.prog 42 #[.func (.yield l) #[] #[], .pointer (some ⟨Bs, 0, none⟩), .pointer (some ⟨Bn, 0, none⟩)] W fun e W' => (∃ v, e = .returned v) ∧
      ((∃ ys, ys = List.finRange k ∧ J ys W') ∨ (∃ pre, pre <+: List.finRange k ∧ Jx pre W')) := by
  refine callsIn_of_wp Try.func42 rfl trivial ?_ rfl
  simp only [Try.ntmps42, List.size_toArray, List.length_cons, List.length_nil, Nat.reduceAdd, Nat.reduceSub, Array.replicate_succ, Array.replicate_zero, List.push_toArray, List.append_toArray, List.nil_append, List.cons_append]
  gi_wp2
  gi_loopw [4] (fun i wr => ∃ j q : Nat, q = st a j ∧ j ≤ k ∧ i = .int .i64 (q : Int) ∧ J ((List.finRange k).take j) wr ∧ KpBox Bs Bn W wr) (fun i _ => b + 8 - (intOf i).toNat)
  case atStart => exact ⟨0, a, (st_zero a).symm, Nat.zero_le _, rfl, h0, rfl, rfl⟩
  case round =>
    obtain ⟨j, q, hq, hj, rfl, hJs, hk1, hk2⟩ := hrel
    have e2 : wr.cell? ⟨Bn, 0, none⟩ = some (.int .i64 bI) := (World.cell?_of_block hk2).trans hBn
    have hri := rounds_iff a b j
    rw [← hk, ← hq] at hri
    by_cases hlt : j < k
    · have hqb := hri.1 hlt
      have hi2 : (q : Int) < bI := by omega
      have q1 := run_quo8 q (by omega)
      have q2 := run_rem8 q (by omega)
      have hsb := st_byte a j
      have hss := st_succ a j
      rw [← hq] at hsb hss
      rw [hsb] at q1
      have hones := ones_any q b hqb (by omega) wr
      have hbI : (b : Int) = bI := by omega
      rw [hbI] at hones
      obtain ⟨fn, tmps, assign, body, hy, hR⟩ := hY _ ⟨j, hlt⟩ wr.drew (hJd _ _ hJs) (by simp; omega)
      dsimp only [partV] at hy hR
      rw [← hq] at hy
      obtain ⟨P, hP⟩ : ∃ P, P = a / 8 + j := ⟨_, rfl⟩
      rw [← hP] at q1 hy
      obtain ⟨r, hr⟩ : ∃ r, r = q % 8 := ⟨_, rfl⟩
      rw [← hr] at q2 hss
      have hr8 : r < 8 := by omega
      have HRI := Lib.hid hri; clear hri
      have HQ := Lib.hid hq; clear hq
      have HB := Lib.hid hb; clear hb
      have HBI := Lib.hid hbI; clear hbI
      have HSS := Lib.hid hss; clear hss hsb hr hP
      have HON := Lib.hid hones; clear hones
      gi_wp2
      refine ⟨trivial, (callsIn_wide (n := n - 1)).2 (HON.out.mono ?_)⟩
      rintro e w2 ⟨rfl, rfl⟩
      clear HON
      gi_wp2
      refine hR.mono ?_
      rintro e W3 (⟨rfl, hJ3, hk3⟩ | ⟨rfl, hJx3⟩)
      · gi_wp2
        go_roundw
        case rel => exact ⟨j + 1, q + (8 - r), HSS.out.symm, by omega, by go_num, by rw [fin_take hlt]; exact hJ3, hk3.1.trans hk1, hk3.2.trans hk2⟩
        case measure => simp [intOf]; omega
      · gi_wp2
        refine bodyPost_ret (results_none rfl _ _ _) rfl ?_
        exact ⟨⟨_, rfl⟩, .inr ⟨_, by rw [← fin_take hlt]; exact List.take_prefix _ _, hJx3⟩⟩
    · obtain rfl : j = k := by omega
      have hfull : (List.finRange j).take j = List.finRange j := List.take_of_length_le (by simp)
      rw [hfull] at hJs
      have hi2 : ¬ (q : Int) < bI := by omega
      have HRI := Lib.hid hri; clear hri
      have HQ := Lib.hid hq; clear hq
      have HB := Lib.hid hb; clear hb
      gi_wp2
      go_end0
      exact ⟨⟨_, rfl⟩, .inl hJs⟩

theorem part_stops (n : Nat) (hn : 1 ≤ n) (Bs Bn a b k : Nat) (bI : Int) (hb : b = bI.toNat) (hk : k = rounds a b) (hb2 : bI < 4611686018427387904) (w : World) (hBs : w.cell? ⟨Bs, 0, none⟩ = some (.int .i64 (a : Int))) (hBn : w.cell? ⟨Bn, 0, none⟩ = some (.int .i64 bI)) :
    SeqStopsK Fence.wide n Try.prog 42 #[.pointer (some ⟨Bs, 0, none⟩), .pointer (some ⟨Bn, 0, none⟩)] (partV a b k) (KpBox Bs Bn) (fun ys => ys = List.finRange k) (fun pre => pre <+: List.finRange k) k w := fun l J Jx W hW hJ _ hY h0 =>
  part1_in n hn l Bs Bn a b k bI hb hk hb2 J Jx hY (fun pre V hV => hJ pre V V.drew none hV ⟨rfl, rfl, rfl, Nat.le_refl _, fun _ _ _ => rfl⟩ (fun r e => by cases e)) W
    ((hW.cell (p := ⟨Bs, 0, none⟩) (block_lt_of_cell hBs)).trans hBs) ((hW.cell (p := ⟨Bn, 0, none⟩) (block_lt_of_cell hBn)).trans hBn) h0
end Go.Proofs.Ytnkiblifnknbkaa.Bits
