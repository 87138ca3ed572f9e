/- slices.Chunk over bytes, 256 of them at a time: what its iterator hands to a loop's body. -/
import Derived.RangeFuncNested
import Derived.RangeFuncBound
import Derived.RangeFuncCalls
import Derived.RangeFuncLeaves
import Derived.RangeFuncWrites
import Derived.Shelf.Abstract
import Derived.Shelf.RegionOpen
import Derived.WalkKit
import Derived.OwnWalkIn
import Derived.TacticsInMore
import Derived.LoopNIn
import Derived.LoopIn
import Derived.Lib.Hide
import Derived.Test.YtelnoibfamcnmaaGreatDkLow
namespace Go.Proofs.YtelnoibfamcnmaaGreat.Log
set_option maxRecDepth 20000
open Go Go.RowKit Go.Shelf
attribute [local go_sem] Oper.semAt_some

theorem run_from256 (W : World) (b off N c q : Nat) (hj : q < N) (hc : N ≤ c) :
    (Instr.slice 25 (.slice (some ⟨b, off, none⟩) N c) (some (.int .i64 (q : Int))) none none).run Tryz.prog W = .ok (.slice (some ⟨b, off + q, none⟩) (N - q) (c - q)) W := by
  have h := run_slice_l (P := Tryz.prog) W 25 (some ⟨b, off, none⟩) N c (by rw [Tryz.underlying25]; rfl) .i64 (q : Int) (by omega) (by omega)
  rw [h]
  have hs : (sizeOf (Tryz.prog.elem 25)).run Tryz.prog W = .ok 1 W := by rfl
  rw [hs]
  simp [Result.andThen, sliced, show ¬ c = q by omega, Addr.add_mid]
theorem run_chunk (W : World) (b off N c q : Nat) (hj : q + 256 ≤ N) (hc : N ≤ c) :
    (Instr.slice 25 (.slice (some ⟨b, off, none⟩) N c) (some (.int .i64 (q : Int))) (some (.int .i64 ((q : Int) + 256))) (some (.int .i64 ((q : Int) + 256)))).run Tryz.prog W = .ok (.slice (some ⟨b, off + q, none⟩) 256 256) W := by
  have h := run_slice_lhm (P := Tryz.prog) W 25 (some ⟨b, off, none⟩) N c (by rw [Tryz.underlying25]; rfl) .i64 .i64 .i64 (q : Int) ((q : Int) + 256) ((q : Int) + 256) (by omega) (by omega) (by omega) (by omega)
  rw [h]
  have hs : (sizeOf (Tryz.prog.elem 25)).run Tryz.prog W = .ok 1 W := by rfl
  rw [hs]
  have e : ((q : Int) + 256).toNat = q + 256 := by omega
  simp [Result.andThen, sliced, Addr.add_mid, e]

set_option maxHeartbeats 1000000 in
theorem chunk_mk (F : Fence) (n : Nat) (h : F.fn 84) (hro : F.round = none) (a : Option Addr) (len cap : Nat) (w : World) :
    CallsIn F n Tryz.prog 84 #[.slice a len cap, .int .i64 256] w fun e w' => e = .returned (.func (.func 100) #[] #[.pointer (some ⟨w.heap.size, 0, none⟩), .pointer (some ⟨w.heap.size + 1, 0, none⟩)]) ∧
      w' = (w.alloc (.cells #[.slice a len cap] 25)).alloc (.cells #[.int .i64 256] 3) := by
  refine callsIn_of_wp Tryz.func84 rfl h ?_ hro
  simp only [Tryz.ntmps84, List.size_toArray, List.length_cons, List.length_nil, Nat.reduceAdd, Nat.reduceSub, Array.replicate_succ, Array.replicate_zero, List.push_toArray, List.append_toArray, List.nil_append, List.cons_append]
  gi_wp2
  go_ret
  exact ⟨rfl, rfl⟩

def chunkV (b off : Nat) (k : Nat) (x : Fin k) : Array Value := #[.slice (some ⟨b, off + 256 * x.1, none⟩) 256 256]
theorem fin_take {k j : Nat} (hj : j < k) : (List.finRange k).take (j + 1) = (List.finRange k).take j ++ [⟨j, hj⟩] := by
  rw [List.take_succ_eq_append_getElem (by simpa using hj)]
  simp

/-- What a round leaves as it was: the two boxes of the iterator. -/
def KpBox (Bs Bn : Nat) (W W' : World) : Prop := W'.heap[Bs]? = W.heap[Bs]? ∧ W'.heap[Bn]? = W.heap[Bn]?

set_option maxRecDepth 100000 in
set_option maxHeartbeats 2000000 in
theorem chunk1_in (F : Fence) (n : Nat) (h116 : F.fn 100) (hro : F.round = none) (hn : 1 ≤ n) (l Bs Bn b off k N c : Nat) (hN : N = 256 * k) (hc : N ≤ c) (hk : k ≤ 1024) (J Jx : List (Fin k) → World → Prop)
    (hY : ∀ pre x W, J pre W → pre.length < k → YieldAt F (n - 1) Tryz.prog l (chunkV b off k x) W fun e W' =>
      (e = .returned (.bool true) ∧ J (pre ++ [x]) W' ∧ KpBox Bs Bn W W') ∨ (e = .returned (.bool false) ∧ Jx (pre ++ [x]) W'))
    (hJd : ∀ pre V, J pre V → J pre V.drew) (W : World) (hBs : W.cell? ⟨Bs, 0, none⟩ = some (.slice (some ⟨b, off, none⟩) N c)) (hBn : W.cell? ⟨Bn, 0, none⟩ = some (.int .i64 256)) (h0 : J [] W) :
    CallsIn F n Tryz.prog 100 #[.func (.yield l) #[] #[], .pointer (some ⟨Bs, 0, none⟩), .pointer (some ⟨Bn, 0, none⟩)] W fun e W' => (∃ v, e = .returned v) ∧
      ((∃ ys, ys = List.finRange k ∧ J ys W') ∨ (∃ pre, pre <+: List.finRange k ∧ Jx pre W')) := by
  refine callsIn_of_wp Tryz.func100 rfl h116 ?_ hro
  simp only [Tryz.ntmps100, List.size_toArray, List.length_cons, List.length_nil, Nat.reduceAdd, Nat.reduceSub, Array.replicate_succ, Array.replicate_zero, List.push_toArray, List.append_toArray, List.nil_append, List.cons_append]
  gi_wp2
  gi_loopw [4] (fun i wr => ∃ j q : Nat, q = 256 * j ∧ j ≤ k ∧ i = .int .i64 (q : Int) ∧ J ((List.finRange k).take j) wr ∧ KpBox Bs Bn W wr) (fun i _ => N - (intOf i).toNat)
  case atStart => exact ⟨0, 0, rfl, Nat.zero_le _, rfl, h0, rfl, rfl⟩
  case round =>
    obtain ⟨j, q, hq, hj, rfl, hJs, hk1, hk2⟩ := hrel
    have e1 : wr.cell? ⟨Bs, 0, none⟩ = some (.slice (some ⟨b, off, none⟩) N c) := (World.cell?_of_block hk1).trans hBs
    have e2 : wr.cell? ⟨Bn, 0, none⟩ = some (.int .i64 256) := (World.cell?_of_block hk2).trans hBn
    have hi1 : (0 : Int) ≤ (q : Int) := by omega
    by_cases hlt : j < k
    · obtain ⟨fn, tmps, assign, body, hy, hR⟩ := hY _ ⟨j, hlt⟩ wr.drew (hJd _ _ hJs) (by simp; omega)
      dsimp only [chunkV] at hy hR
      rw [← hq] at hy
      have hi2 : (q : Int) < (N : Int) := by omega
      have s1 := fun W => run_from256 W b off N c q (by omega) hc
      have s2 := fun W => run_chunk W b off N c q (by omega) hc
      have hle : q + 256 ≤ N := by omega
      have hNm : N ≤ 262144 := by omega
      obtain ⟨M, hM⟩ : ∃ M, M = N - q := ⟨_, rfl⟩
      rw [← hM] at s1
      have hM1 : ¬ (M : Int) < 256 := by omega
      have e1d : wr.drew.cell? ⟨Bs, 0, none⟩ = some (.slice (some ⟨b, off, none⟩) N c) := e1
      have e2d : wr.drew.cell? ⟨Bn, 0, none⟩ = some (.int .i64 256) := e2
      have HN := Lib.hid hN; clear hN
      have HQ := Lib.hid hq; clear hq
      have HM := Lib.hid hM; clear hM
      gi_wp2
      gi_region
      all_goals
        rw [if_neg (show ¬ (M : Int) < 256 by omega)]
        gi_wp2
        refine hR.mono ?_
        rintro e W3 (⟨rfl, hJ3, hk3⟩ | ⟨rfl, hJx3⟩)
        · have e3 : W3.cell? ⟨Bn, 0, none⟩ = some (.int .i64 256) := (World.cell?_of_block (w := wr.drew) hk3.2).trans e2
          gi_wp2
          go_roundw
          case rel => exact ⟨j + 1, q + 256, by have := HQ.out; omega, by omega, by go_num, by rw [fin_take hlt]; exact hJ3, hk3.1.trans hk1, hk3.2.trans hk2⟩
          case measure => simp [intOf]; omega
        · gi_wp2
          refine bodyPost_ret (results_none rfl _ _ _) rfl ?_
          exact ⟨⟨_, rfl⟩, .inr ⟨_, by rw [← fin_take hlt]; exact List.take_prefix _ _, hJx3⟩⟩
    · obtain rfl : j = k := by omega
      have hfull : (List.finRange j).take j = List.finRange j := List.take_of_length_le (by simp)
      rw [hfull] at hJs
      have hi2 : ¬ (q : Int) < (N : Int) := by omega
      gi_wp2
      go_end0
      exact ⟨⟨_, rfl⟩, .inl hJs⟩

theorem chunk_stops (F : Fence) (n : Nat) (h116 : F.fn 100) (hro : F.round = none) (hn : 1 ≤ n) (Bs Bn b off k N c : Nat) (hN : N = 256 * k) (hc : N ≤ c) (hk : k ≤ 1024) (w : World) (hBs : w.cell? ⟨Bs, 0, none⟩ = some (.slice (some ⟨b, off, none⟩) N c)) (hBn : w.cell? ⟨Bn, 0, none⟩ = some (.int .i64 256)) :
    SeqStopsK F n Tryz.prog 100 #[.pointer (some ⟨Bs, 0, none⟩), .pointer (some ⟨Bn, 0, none⟩)] (chunkV b off k) (KpBox Bs Bn) (fun ys => ys = List.finRange k) (fun pre => pre <+: List.finRange k) k w := fun l J Jx W hW hJ _ hY h0 =>
  chunk1_in F n h116 hro hn l Bs Bn b off k N c hN hc hk J Jx hY (fun pre V hV => hJ pre V V.drew none hV ⟨rfl, rfl, rfl, Nat.le_refl _, fun _ _ _ => rfl⟩ (fun r e => by cases e)) W
    ((hW.cell (p := ⟨Bs, 0, none⟩) (block_lt_of_cell hBs)).trans hBs) ((hW.cell (p := ⟨Bn, 0, none⟩) (block_lt_of_cell hBn)).trans hBn) h0
end Go.Proofs.YtelnoibfamcnmaaGreat.Log
