/- The pieces between strokes, as the program's iterator hands them on. -/
import Derived.Test.YtamhbjpoganhnaaPhCut
import Derived.RangeFuncNested
import Derived.RangeFuncBound
import Derived.RangeFuncCalls
import Derived.RangeFuncLeaves
import Derived.RangeFuncWrites
import Derived.Shelf.Abstract
import Derived.Shelf.RegionOpen
import Derived.OwnWalkIn
import Derived.TacticsInMore
import Derived.LoopNIn
import Derived.LoopIn
namespace Go.Proofs.Ytamhbjpoganhnaa.Ph
set_option maxRecDepth 20000
open Go Go.RowKit Go.Shelf
open Go.Proofs.Ytamhbjpoganhnaa.Lf Go.Proofs.Ytamhbjpoganhnaa.Mem Go.Proofs.Ytamhbjpoganhnaa.Reg
attribute [local go_sem] Oper.semAt_some

theorem pieces_mk (p : ByteArray) (w : World) :
    Calls Try.prog 18 #[.string p] w fun e w' => e = .returned (.func (.func 24) #[] #[.pointer (some ⟨w.heap.size, 0, none⟩)]) ∧ w' = w.alloc (.cells #[.string p] 9) := by
  go_enter Try.func18, Try.ntmps18
  go_wp2
  go_ret
  exact ⟨rfl, rfl⟩
/-- What a round is handed. -/
def pcV (x : List UInt8) : Array Value := #[.string ⟨x.toArray⟩]
def mea (v m : Value) : Nat := (match v with | .string s => s.size | _ => 0) + (match m with | .bool true => 1 | _ => 0)

set_option maxRecDepth 100000 in
set_option maxHeartbeats 2000000 in
theorem pieces1_in (n : Nat) (hn : 1 ≤ n) (l Bs : Nat) (c : UInt8) (t : List UInt8) (ht : t.length < 1048576) (J Jx : List (List UInt8) → World → Prop)
    (hY : ∀ pre x W, J pre W → pre.length < (pcs t).length → YieldAt Fence.wide (n - 1) Try.prog l (pcV x) W fun e W' =>
      (e = .returned (.bool true) ∧ J (pre ++ [x]) W' ∧ True) ∨ (e = .returned (.bool false) ∧ Jx (pre ++ [x]) W'))
    (hJd : ∀ pre V V', J pre V → Below V.heap.size V V' → J pre V') (W : World) (hBs : W.cell? ⟨Bs, 0, none⟩ = some (.string ⟨(c :: t).toArray⟩)) (h0 : J [] W) :
    CallsIn Fence.wide n Try.prog 24 #[.func (.yield l) #[] #[], .pointer (some ⟨Bs, 0, none⟩)] W fun e W' => (∃ v, e = .returned v) ∧
      ((∃ ys, ys = pcs t ∧ J ys W') ∨ (∃ pre, pre <+: pcs t ∧ Jx pre W')) := by
  refine callsIn_of_wp Try.func24 rfl trivial ?_ rfl
  simp only [Try.ntmps24, List.size_toArray, List.length_cons, List.length_nil, Nat.reduceAdd, Nat.reduceSub, Array.replicate_succ, Array.replicate_zero, List.push_toArray, List.append_toArray, List.nil_append, List.cons_append]
  have hsz : (⟨(c :: t).toArray⟩ : ByteArray).size = t.length + 1 := by simp [ByteArray.size]
  have e1 : (⟨(c :: t).toArray⟩ : ByteArray).extract 1 (t.length + 1) = ⟨t.toArray⟩ := by
    have := ext_back ⟨(c :: t).toArray⟩ 1
    rw [hsz] at this
    rw [this]
    rfl
  have hcut := fun W => cut_any t (by unfold maxLen; omega) W
  unfold cutV at hcut
  have HCUT := Lib.hid hcut; clear hcut
  generalize (⟨(c :: t).toArray⟩ : ByteArray) = S at *
  have h1 : (1 : Int) ≤ (t.length : Int) + 1 := by omega
  gi_wp2
  refine ⟨trivial, (callsIn_wide (n := n - 1)).2 ((HCUT.out W).mono ?_)⟩
  rintro e w2 ⟨rfl, hb2⟩
  have hJ2 := hJd _ _ _ h0 hb2
  have HJ2 := Lib.hid hJ2; clear hJ2 hb2 h0 hBs
  have HY := Lib.hid hY; clear hY
  have HJD := Lib.hid hJd; clear hJd
  clear HCUT
  gi_wp2
  gi_loopw [3, 4, 5] (fun pc rs mo wr => ∃ (pre : List (List UInt8)) (x : List UInt8), pre ++ pcs x = pcs t ∧ x.length ≤ t.length ∧ pc = .string ⟨(hd x).toArray⟩ ∧ rs = .string ⟨(tlc x).toArray⟩ ∧ mo = .bool (hasS x) ∧ J pre wr) (fun _ rs mo _ => mea rs mo)
  case atStart => exact ⟨[], t, rfl, Nat.le_refl _, rfl, rfl, rfl, HJ2.out⟩
  case round =>
    obtain ⟨pre, x, hp, hxt, rfl, rfl, rfl, hJ⟩ := hrel
    clear HJ2 hsz e1 h1
    have hlt : pre.length < (pcs t).length := by
      rw [← hp, List.length_append]
      have := pcs_ne x
      have := List.length_pos_iff.2 this
      omega
    obtain ⟨fn, tmps, assign, body, hy, hR⟩ := HY.out pre (hd x) wr hJ hlt
    have HP := Lib.hid hp; clear hp hlt hJ
    dsimp only [pcV] at hy hR
    cases hc : hasS x with
    | true =>
      have hq : pcs t = (pre ++ [hd x]) ++ pcs (tl x) := by rw [← HP.out, pcs_on (t := x) hc]; simp
      have hql := tl_lt x hc
      have hcut := fun W => cut_any (tl x) (by unfold maxLen; omega) W
      unfold cutV at hcut
      have HCUT := Lib.hid hcut; clear hcut
      have HQ := Lib.hid hq; clear hq
      have ht2 : tlc x = tl x := by unfold tlc; rw [hc]; rfl
      rw [ht2]
      clear ht2
      gi_wp2
      refine hR.mono ?_
      rintro e W3 (⟨rfl, hJ3, _⟩ | ⟨rfl, hJx3⟩)
      · gi_wp2
        refine ⟨trivial, (callsIn_wide (n := n - 1)).2 ((HCUT.out W3).mono ?_)⟩
        rintro e w4 ⟨rfl, hb4⟩
        have hJ4 := HJD.out _ _ _ hJ3 hb4
        have HJ4 := Lib.hid hJ4; clear hJ4 hb4 hJ3
        clear HCUT
        gi_wp2
        go_roundw
        case rel => exact ⟨pre ++ [hd x], tl x, HQ.out.symm, by omega, rfl, rfl, rfl, HJ4.out⟩
        case measure =>
          have k1 : mea (.string ⟨(tlc x).toArray⟩) (.bool (hasS x)) = (tl x).length + 1 := by
            rw [hc, show tlc x = tl x by unfold tlc; rw [hc]; rfl]
            show (⟨(tl x).toArray⟩ : ByteArray).size + 1 = _
            simp [ByteArray.size]
          have k2 : mea (.string ⟨(tlc (tl x)).toArray⟩) (.bool (hasS (tl x))) < (tl x).length + 1 := by
            cases hc2 : hasS (tl x) with
            | true =>
              rw [show tlc (tl x) = tl (tl x) by unfold tlc; rw [hc2]; rfl]
              have := tl_lt (tl x) hc2
              show (⟨(tl (tl x)).toArray⟩ : ByteArray).size + 1 < _
              simp [ByteArray.size]
              omega
            | false =>
              rw [show tlc (tl x) = [] by unfold tlc; rw [hc2]; rfl]
              show 0 + 0 < _
              omega
          first | (rw [k1]; exact k2) | (have k3 := k1; rw [hc, show tlc x = tl x by unfold tlc; rw [hc]; rfl] at k3; rw [k3]; exact k2)
      · gi_wp2
        go_end0
        exact ⟨⟨_, rfl⟩, .inr ⟨_, by rw [HQ.out]; exact List.prefix_append _ _, hJx3⟩⟩
    | false =>
      have hq : pcs t = pre ++ [hd x] := by rw [← HP.out, pcs_last (t := x) hc]
      have HQ := Lib.hid hq; clear hq
      gi_wp2
      refine hR.mono ?_
      rintro e W3 (⟨rfl, hJ3, _⟩ | ⟨rfl, hJx3⟩)
      · have HJ3 := Lib.hid hJ3; clear hJ3
        gi_wp2
        go_end0
        exact ⟨⟨_, rfl⟩, .inl ⟨_, HQ.out.symm, HJ3.out⟩⟩
      · have HJ3 := Lib.hid hJx3; clear hJx3
        gi_wp2
        go_end0
        exact ⟨⟨_, rfl⟩, .inr ⟨_, by rw [HQ.out]; exact List.prefix_rfl, HJ3.out⟩⟩

theorem pieces_stops (n : Nat) (hn : 1 ≤ n) (Bs : Nat) (c : UInt8) (t : List UInt8) (ht : t.length < 1048576) (w : World) (hBs : w.cell? ⟨Bs, 0, none⟩ = some (.string ⟨(c :: t).toArray⟩)) :
    SeqStopsK Fence.wide n Try.prog 24 #[.pointer (some ⟨Bs, 0, none⟩)] pcV (fun _ _ => True) (fun ys => ys = pcs t) (fun pre => pre <+: pcs t) (pcs t).length w := fun l J Jx W hW hJ _ hY h0 =>
  pieces1_in n hn l Bs c t ht J Jx hY (fun pre V V' hV hb => hJ pre V V' none hV ⟨hb.os, hb.tape, hb.output, hb.size, fun k hk _ => hb.block k hk⟩ (fun r e => by cases e)) W
    ((hW.cell (p := ⟨Bs, 0, none⟩) (block_lt_of_cell hBs)).trans hBs) h0
end Go.Proofs.Ytamhbjpoganhnaa.Ph
