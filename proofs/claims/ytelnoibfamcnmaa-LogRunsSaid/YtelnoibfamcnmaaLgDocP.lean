/- The document's log: Append. -/
import Derived.Test.YtelnoibfamcnmaaLgHomed
import Derived.Test.YtelnoibfamcnmaaRfMay
import Derived.Test.YtelnoibfamcnmaaLgRef
import Derived.Test.YtelnoibfamcnmaaLgList
import Derived.Test.YtelnoibfamcnmaaRfEnc
namespace Go.Proofs.Ytelnoibfamcnmaa.Log
set_option maxRecDepth 20000
open Go.RowKit
open Go.Proofs.Ytelnoibfamcnmaa.Mem Go.Proofs.Ytelnoibfamcnmaa.Crc Go.Proofs.Ytelnoibfamcnmaa.Disk
open Go.Proofs.Ytelnoibfamcnmaa.Rec (Tx Wt TxAt HoldsW HoldsI IsInt mayB_iff OwnsT mayr_any)

theorem takes_nums (n s r : Nat) (t : Tx) : takesB n s r t = t.nums.all (outB n s r) := by
  unfold takesB Tx.nums
  rw [List.all_append, List.all_map]; rfl
theorem all_drop {α : Type} (f : α → Bool) (l : List α) (k : Nat) (x : α) (hx : l[k]? = some x) : (l.drop k).all f = (f x && (l.drop (k + 1)).all f) := by
  have hl := (List.getElem?_eq_some_iff.1 hx).1
  rw [List.drop_eq_getElem_cons hl, List.all_cons, (List.getElem?_eq_some_iff.1 hx).2]

set_option maxRecDepth 100000 in
set_option maxHeartbeats 2000000 in
theorem fairr_any (t : Tx) (Aw Ar : Option Addr) (nw cw nr cr B : Nat) (w : World) (h : TxAt w B t Aw nw cw Ar nr cr) (hB : B ≤ w.heap.size) (n s l : Nat) (S : Int) (hS : S = (s : Int)) (h8 : 8 ≤ l) (hl : l ≤ 1024) (hs : s ≤ 1024) :
    Calls Try.prog 104 #[.agg #[.int .u64 (t.seq : Int), .slice Aw nw cw, .slice Ar nr cr], .int .i64 (n : Int), .int .i64 S, .int .i64 (l : Int)] w fun e w' => e = .returned (.bool (t.mayB && takesB n s (l - 1) t)) ∧ Below w.heap.size w w' := by
  subst hS
  obtain ⟨ans, hans⟩ : ∃ ans, ans = (t.mayB && takesB n s (l - 1) t) := ⟨_, rfl⟩
  rw [← hans]
  have HANS := Lib.hid hans; clear hans
  have hb1 : Below w.heap.size w (w.alloc (.cells #[.int .u64 (t.seq : Int), .slice Aw nw cw, .slice Ar nr cr] 67)) := (Below.refl _ w).alloc (Nat.le_refl _) _
  have hx1 : (w.alloc (.cells #[.int .u64 (t.seq : Int), .slice Aw nw cw, .slice Ar nr cr] 67)).heap[w.heap.size]? = some (.cells #[.int .u64 (t.seq : Int), .slice Aw nw cw, .slice Ar nr cr] 67 (0, 0)) := heap_alloc_new w _
  have hmay := mayr_any t Aw Ar nw cw nr cr B _ (h.below (hb1.mono hB)) (Nat.le_trans hB hb1.size)
  have HMAY := Lib.hid hmay; clear hmay
  have HB1 := Lib.hid hb1; clear hb1
  have HX1 := Lib.hid hx1; clear hx1
  have q0 := cell_of_row _ w.heap.size 0 _ _ _ HX1.out
  have q1 := cell_of_row _ w.heap.size 1 _ _ _ HX1.out
  have q2 := cell_of_row _ w.heap.size 2 _ _ _ HX1.out
  have H := Lib.hid h; clear h
  go_enter Try.func104, Try.ntmps104
  go_wp2_with fail
  generalize w.alloc (.cells #[.int .u64 (t.seq : Int), .slice Aw nw cw, .slice Ar nr cr] 67) = W at HB1 HX1 HMAY q0 q1 q2 ⊢
  with_reducible refine HMAY.out.mono ?_
  rintro e w2 ⟨rfl, hb2⟩
  have hbw2 : Below w.heap.size w w2 := HB1.out.trans (hb2.mono HB1.out.size)
  have hx2 := (hb2.block _ (Array.getElem?_eq_some_iff.1 HX1.out).1).trans HX1.out
  clear q0 q1 q2 HMAY
  cases hm : t.mayB
  · have HB2 := Lib.hid hbw2; clear hbw2 hb2 hx2
    have hf : ans = false := by rw [HANS.out, hm]; rfl
    subst hf
    clear hm
    go_wp2
    go_ret
    exact ⟨rfl, HB2.out⟩
  · have hM := (mayB_iff t).1 hm
    have hhi := hM.hi
    rw [H.out.ws.1, H.out.rs.1] at hhi
    have hcells : ∀ V, Below w2.heap.size w2 V → V.cell? ⟨w.heap.size, 1, none⟩ = some (.slice Aw nw cw) ∧ V.cell? ⟨w.heap.size, 2, none⟩ = some (.slice Ar nr cr) ∧ Below B w V := fun V hV => by
      have hx := (hV.block _ (Array.getElem?_eq_some_iff.1 hx2).1).trans hx2
      exact ⟨cell_of_row V _ 1 _ _ _ hx, cell_of_row V _ 2 _ _ _ hx, (hbw2.trans (hV.mono hbw2.size)).mono hB⟩
    have hnums : t.nums.length = nw + nr := by unfold Tx.nums; rw [List.length_append, List.length_map, H.out.ws.1, H.out.rs.1]
    have HNUM := Lib.hid hM.nums
    have HNL := Lib.hid hnums; clear hnums
    have HCELLS := Lib.hid hcells; clear hcells hb2 hx2 HX1 HB1 hM
    have HBW2 := Lib.hid hbw2; clear hbw2
    have hans : ans = t.nums.all (outB n s (l - 1)) := by rw [HANS.out, hm, Bool.true_and, takes_nums]
    have HANS2 := Lib.hid hans; clear hans HANS hm
    have hwsl : IntKind.i64.wrap ((s : Int) + (l : Int)) = (s : Int) + (l : Int) := IntWalk.i64_in _ (by omega)
    go_wp2
    go_loopw [9, 10] (fun iv _ wr => ∃ i : Nat, i ≤ nw + nr ∧ iv = .int .i64 (i : Int) ∧ ans = (t.nums.drop i).all (outB n s (l - 1)) ∧ Below w2.heap.size w2 wr) (fun iv _ _ => nw + nr - (intOf iv).toNat)
    case atStart => exact ⟨0, Nat.zero_le _, rfl, by rw [List.drop_zero]; exact HANS2.out, Below.refl _ _⟩
    case round =>
      obtain ⟨i, hi, rfl, hall, hbr⟩ := hrel
      have HALL := Lib.hid hall; clear hall
      obtain ⟨c1, c2, hbB⟩ := HCELLS.out _ hbr
      have HBR := Lib.hid hbr; clear hbr
      have hsum : IntKind.i64.wrap ((nw : Int) + (nr : Int)) = (nw : Int) + (nr : Int) := IntWalk.i64_in _ (by omega)
      rcases Nat.lt_or_ge i (nw + nr) with hlt | hge
      · have hli : (i : Int) < (nw : Int) + (nr : Int) := by omega
        obtain ⟨x, hx⟩ : ∃ x, t.nums[i]? = some x := ⟨_, List.getElem?_eq_getElem (by rw [HNL.out]; exact hlt)⟩
        have hxr := HNUM.out x (List.mem_of_getElem? hx)
        have hdrop := all_drop (outB n s (l - 1)) t.nums i x hx
        have HDROP := Lib.hid hdrop; clear hdrop
        have hi0 : (0 : Int) ≤ (i : Int) := by omega
        have hout : outB n s (l - 1) x = (decide (x < (n : Int)) && !(decide ((s : Int) ≤ x) && decide (x < (s : Int) + (l : Int)))) := by
          unfold outB
          have e1 : decide (0 ≤ x) = true := by simp; omega
          have e2 : decide (x ≤ (s : Int) + ((l - 1 : Nat) : Int)) = decide (x < (s : Int) + (l : Int)) := by congr 1; simp; omega
          rw [e1, e2, Bool.true_and]
        have HOUT := Lib.hid hout; clear hout
        rcases Nat.lt_or_ge i nw with hiw | hiw
        · have hiwi : (i : Int) < (nw : Int) := by omega
          obtain ⟨y, hy⟩ : ∃ y, t.ws[i]? = some y := ⟨_, List.getElem?_eq_getElem (by rw [H.out.ws.1]; exact hiw)⟩
          have hyx : y.1 = x := by
            unfold Tx.nums at hx
            rw [List.getElem?_append_left (by rw [List.length_map, H.out.ws.1]; exact hiw), List.getElem?_map, hy] at hx
            simpa using hx
          obtain ⟨bb, off, rfl, hbl, hc⟩ := (H.out.below hbB).ws.2 (by omega)
          have z := (hc i y hy).1
          rw [hyx] at z
          clear hc hyx hy hx hbB hbl
          by_cases k1 : (n : Int) ≤ x
          · have dn : decide (x < (n : Int)) = false := by simp; omega
            have ds := True.intro
            have hfin : ans = false := by rw [HALL.out, HDROP.out, HOUT.out, dn]; rfl
            have HFIN := Lib.hid hfin; clear hfin dn ds
            have hbe := HBW2.out.trans (HBR.out.mono HBW2.out.size)
            have HBE := Lib.hid hbe; clear hbe
            go_wp2
            go_ret
            exact ⟨by rw [HFIN.out]; rfl, HBE.out⟩
          · have k1n : x < (n : Int) := by omega
            have dn : decide (x < (n : Int)) = true := by simpa using k1n
            clear k1n
            by_cases k2 : (s : Int) ≤ x
            · by_cases k3 : x < (s : Int) + (l : Int)
              · have ds : (decide ((s : Int) ≤ x) && decide (x < (s : Int) + (l : Int))) = true := by simp [k2, k3]
                have hfin : ans = false := by rw [HALL.out, HDROP.out, HOUT.out, dn, ds]; rfl
                have HFIN := Lib.hid hfin; clear hfin dn ds
                have hbe := HBW2.out.trans (HBR.out.mono HBW2.out.size)
                have HBE := Lib.hid hbe; clear hbe
                go_wp2
                go_ret
                exact ⟨by rw [HFIN.out]; rfl, HBE.out⟩
              · have ds : (decide ((s : Int) ≤ x) && decide (x < (s : Int) + (l : Int))) = false := by simp only [Bool.and_eq_false_iff, decide_eq_false_iff_not]; exact .inr k3
                have hnext : ans = (t.nums.drop (i + 1)).all (outB n s (l - 1)) := by rw [HALL.out, HDROP.out, HOUT.out, dn, ds]; rfl
                have HNEXT := Lib.hid hnext; clear hnext dn ds
                go_wp2
                go_roundw
                case rel => exact ⟨i + 1, by omega, by go_num, HNEXT.out, HBR.out⟩
                case measure => simp [intOf]; omega
            · have ds : (decide ((s : Int) ≤ x) && decide (x < (s : Int) + (l : Int))) = false := by simp only [Bool.and_eq_false_iff, decide_eq_false_iff_not]; exact .inl k2
              have hnext : ans = (t.nums.drop (i + 1)).all (outB n s (l - 1)) := by rw [HALL.out, HDROP.out, HOUT.out, dn, ds]; rfl
              have HNEXT := Lib.hid hnext; clear hnext dn ds
              go_wp2
              go_roundw
              case rel => exact ⟨i + 1, by omega, by go_num, HNEXT.out, HBR.out⟩
              case measure => simp [intOf]; omega
        · have hiwi : ¬ (i : Int) < (nw : Int) := by omega
          have hy : t.rs[i - nw]? = some x := by
            unfold Tx.nums at hx
            rwa [List.getElem?_append_right (by rw [List.length_map, H.out.ws.1]; exact hiw), List.length_map, H.out.ws.1] at hx
          obtain ⟨bb, off, rfl, hbl, hc⟩ := (H.out.below hbB).rs.2 (by omega)
          have z := hc (i - nw) x hy
          obtain ⟨k, rfl⟩ : ∃ k, i = nw + k := ⟨i - nw, by omega⟩
          rw [show nw + k - nw = k by omega] at z
          have hwk : IntKind.i64.wrap (((nw + k : Nat) : Int) - (nw : Int)) = (k : Int) := by rw [IntWalk.i64_in _ (by omega)]; omega
          have hwk2 : IntKind.i64.wrap ((nw : Int) + (k : Int) - (nw : Int)) = (k : Int) := by rw [IntWalk.i64_in _ (by omega)]; omega
          have hk0 : (0 : Int) ≤ (k : Int) := by omega
          have hkn : (k : Int) < (nr : Int) := by omega
          clear hc hy hx hbB hbl
          by_cases k1 : (n : Int) ≤ x
          · have dn : decide (x < (n : Int)) = false := by simp; omega
            have ds := True.intro
            have hfin : ans = false := by rw [HALL.out, HDROP.out, HOUT.out, dn]; rfl
            have HFIN := Lib.hid hfin; clear hfin dn ds
            have hbe := HBW2.out.trans (HBR.out.mono HBW2.out.size)
            have HBE := Lib.hid hbe; clear hbe
            go_wp2
            go_ret
            exact ⟨by rw [HFIN.out]; rfl, HBE.out⟩
          · have k1n : x < (n : Int) := by omega
            have dn : decide (x < (n : Int)) = true := by simpa using k1n
            clear k1n
            by_cases k2 : (s : Int) ≤ x
            · by_cases k3 : x < (s : Int) + (l : Int)
              · have ds : (decide ((s : Int) ≤ x) && decide (x < (s : Int) + (l : Int))) = true := by simp [k2, k3]
                have hfin : ans = false := by rw [HALL.out, HDROP.out, HOUT.out, dn, ds]; rfl
                have HFIN := Lib.hid hfin; clear hfin dn ds
                have hbe := HBW2.out.trans (HBR.out.mono HBW2.out.size)
                have HBE := Lib.hid hbe; clear hbe
                go_wp2
                go_ret
                exact ⟨by rw [HFIN.out]; rfl, HBE.out⟩
              · have ds : (decide ((s : Int) ≤ x) && decide (x < (s : Int) + (l : Int))) = false := by simp only [Bool.and_eq_false_iff, decide_eq_false_iff_not]; exact .inr k3
                have hnext : ans = (t.nums.drop (nw + k + 1)).all (outB n s (l - 1)) := by rw [HALL.out, HDROP.out, HOUT.out, dn, ds]; rfl
                have HNEXT := Lib.hid hnext; clear hnext dn ds
                go_wp2
                go_roundw
                case rel => exact ⟨nw + k + 1, by omega, by go_num, HNEXT.out, HBR.out⟩
                case measure => simp [intOf]; omega
            · have ds : (decide ((s : Int) ≤ x) && decide (x < (s : Int) + (l : Int))) = false := by simp only [Bool.and_eq_false_iff, decide_eq_false_iff_not]; exact .inl k2
              have hnext : ans = (t.nums.drop (nw + k + 1)).all (outB n s (l - 1)) := by rw [HALL.out, HDROP.out, HOUT.out, dn, ds]; rfl
              have HNEXT := Lib.hid hnext; clear hnext dn ds
              go_wp2
              go_roundw
              case rel => exact ⟨nw + k + 1, by omega, by go_num, HNEXT.out, HBR.out⟩
              case measure => simp [intOf]; omega
      · obtain rfl : i = nw + nr := by omega
        have hli : ¬ ((nw + nr : Nat) : Int) < (nw : Int) + (nr : Int) := by omega
        have hfin : ans = true := by rw [HALL.out, List.drop_of_length_le (by rw [HNL.out]; exact Nat.le_refl _)]; rfl
        have HFIN := Lib.hid hfin; clear hfin hbB
        have hbe := HBW2.out.trans (HBR.out.mono HBW2.out.size)
        have HBE := Lib.hid hbe; clear hbe
        go_wp2
        go_ret
        exact ⟨by rw [HFIN.out]; rfl, HBE.out⟩
end Go.Proofs.Ytelnoibfamcnmaa.Log

namespace Go.Proofs.Ytelnoibfamcnmaa.Log
set_option maxRecDepth 20000
open Go.RowKit
open Go.Proofs.Ytelnoibfamcnmaa.Mem Go.Proofs.Ytelnoibfamcnmaa.Crc Go.Proofs.Ytelnoibfamcnmaa.Disk Go.Proofs.Ytelnoibfamcnmaa.Reg
open Go.Proofs.Ytelnoibfamcnmaa.Rec (Tx Wt TxAt HoldsW HoldsI IsInt mayB_iff OwnsT mayr_any)

def docCells (r : Nat) (s l : Int) (seq pl : Nat) (v : Value) : Array Value := #[.pointer (some ⟨r, 0, none⟩), .int .i64 s, .int .i64 l, .int .u64 (seq : Int), .int .i64 (pl : Int), v]
def DocAt (w : World) (m r : Nat) (s l : Int) (seq pl : Nat) (v : Value) : Prop := w.heap[m]? = some (.cells (docCells r s l seq pl v) 72 (0, 0))
theorem DocAt.below {w V : World} {m r : Nat} {s l : Int} {seq pl : Nat} {v : Value} (h : DocAt w m r s l seq pl v) (hV : Below w.heap.size w V) : DocAt V m r s l seq pl v := (hV.block m (Array.getElem?_eq_some_iff.1 h).1).trans h
theorem DocAt.cells {w : World} {m r : Nat} {s l : Int} {seq pl : Nat} {v : Value} (h : DocAt w m r s l seq pl v) : w.cell? ⟨m, 0, none⟩ = some (.pointer (some ⟨r, 0, none⟩)) ∧ w.cell? ⟨m, 1, none⟩ = some (.int .i64 s) ∧ w.cell? ⟨m, 2, none⟩ = some (.int .i64 l) ∧ w.cell? ⟨m, 3, none⟩ = some (.int .u64 (seq : Int)) ∧ w.cell? ⟨m, 4, none⟩ = some (.int .i64 (pl : Int)) ∧ w.cell? ⟨m, 5, none⟩ = some v := by
  unfold DocAt docCells at h
  exact ⟨cell_of_row w m 0 _ _ _ h, cell_of_row w m 1 _ _ _ h, cell_of_row w m 2 _ _ _ h, cell_of_row w m 3 _ _ _ h, cell_of_row w m 4 _ _ _ h, cell_of_row w m 5 _ _ _ h⟩

def usedOf (ts : List Tx) : Nat := (ts.map fun t => t.ws.length + 2).sum
theorem usedOf_snoc (ts : List Tx) (t : Tx) : usedOf (ts ++ [t]) = usedOf ts + (t.ws.length + 2) := by simp [usedOf]
theorem usedOf_take : ∀ (ts : List Tx) (k : Nat), usedOf (ts.take k) ≤ usedOf ts
  | [], k => by simp [usedOf]
  | t :: ts, 0 => by simp [usedOf]
  | t :: ts, k + 1 => by
    have := usedOf_take ts k
    simp only [usedOf, List.take_succ_cons, List.map_cons, List.sum_cons] at this ⊢
    omega

set_option maxRecDepth 100000 in
set_option maxHeartbeats 1000000 in
theorem roomr_any (m r l seq pl nl c n s' r' : Nat) (s : Int) (A : Option Addr) (w : World) (G : Nat → Prop) (L : List LiveRec) (h : DocAt w m r s (l : Int) seq pl (.slice A nl c)) (hL : Live w G n s' r' (.slice A nl c) nl L) (h1 : 1 ≤ l) (hl : l ≤ 1024) (hu : usedOf (L.map (·.t)) ≤ 1024) (hnl : nl ≤ 1048576) :
    Calls Try.prog 82 #[.pointer (some ⟨m, 0, none⟩)] w fun e w' => e = .returned (.int .i64 ((l : Int) - 1 - (usedOf (L.map (·.t)) : Int))) ∧ Below w.heap.size w w' := by
  have hcnt := hL.cnt
  have HCNT := Lib.hid hcnt; clear hcnt
  have H := Lib.hid h
  obtain ⟨-, -, z2, -, -, z5⟩ := h.cells
  clear h
  have HL := Lib.hid hL; clear hL
  have hw1 : IntKind.i64.wrap ((l : Int) - 1) = (l : Int) - 1 := IntWalk.i64_in _ (by omega)
  go_enter Try.func82, Try.ntmps82
  go_wp2
  clear z2 z5 hw1
  go_loopw [3, 4] (fun nv iv wr => ∃ k : Nat, k ≤ nl ∧ iv = .int .i64 (k : Int) ∧ nv = .int .i64 ((l : Int) - 1 - (usedOf ((L.map (·.t)).take k) : Int)) ∧ Below w.heap.size w wr) (fun _ iv _ => nl - (intOf iv).toNat)
  case atStart => exact ⟨0, Nat.zero_le _, rfl, by simp [usedOf], Below.refl _ _⟩
  case round =>
    obtain ⟨k, hk, rfl, rfl, hb⟩ := hrel
    obtain ⟨-, -, -, -, -, z5⟩ := (H.out.below hb).cells
    by_cases hlt : k < nl
    · obtain ⟨gb, rfl, hcells⟩ := live_cells HL.out (by omega)
      obtain ⟨x, hx⟩ : ∃ x, L[k]? = some x := ⟨_, List.getElem?_eq_getElem (by have := HCNT.out; omega)⟩
      have z1 := hcells _ hb k x hx
      have hx58 := live_few HL.out hx
      have htk : (L.map (·.t)).take (k + 1) = (L.map (·.t)).take k ++ [x.t] := by
        have hl2 : k < (L.map (·.t)).length := by rw [List.length_map]; exact (List.getElem?_eq_some_iff.1 hx).1
        rw [List.take_succ_eq_append_getElem hl2, List.getElem_map, (List.getElem?_eq_some_iff.1 hx).2]
      have hus := usedOf_take (L.map (·.t)) k
      have hus2 := usedOf_snoc ((L.map (·.t)).take k) x.t
      rw [← htk] at hus2
      have hus3 := usedOf_take (L.map (·.t)) (k + 1)
      obtain ⟨U1, hU1⟩ : ∃ U1, U1 = usedOf ((L.map (·.t)).take (k + 1)) := ⟨_, rfl⟩
      rw [← hU1] at hus2 hus3
      have HU1 := Lib.hid hU1; clear hU1
      generalize usedOf ((L.map (·.t)).take k) = U at hus hus2 ⊢
      generalize x.t.ws.length = nx at hus2 z1 hx58
      have HB := Lib.hid hb; clear hb hcells hx htk
      have hk0 : (0 : Int) ≤ (k : Int) := by omega
      have hkn : (k : Int) < (nl : Int) := by omega
      have hwn : IntKind.i64.wrap ((nx : Int) + 2) = (nx : Int) + 2 := IntWalk.i64_in _ (by omega)
      have hwd : IntKind.i64.wrap ((l : Int) - 1 - (U : Int) - ((nx : Int) + 2)) = (l : Int) - 1 - (U1 : Int) := by rw [IntWalk.i64_in _ (by omega)]; omega
      clear hus hus2 hus3
      go_wp2
      go_roundw
      case rel => exact ⟨k + 1, by omega, by go_num, by rw [← HU1.out], HB.out⟩
      case measure => simp [intOf]; omega
    · obtain rfl : k = nl := by omega
      have HB := Lib.hid hb; clear hb
      rw [List.take_of_length_le (by rw [List.length_map, HCNT.out]; exact Nat.le_refl _)]
      go_wp2
      go_ret
      exact ⟨rfl, HB.out⟩

/-! ### Apply -/
def applyW (ts : List Tx) (i : Nat) (d : Dk.Dk) (x : Wt) : Dk.Dk := if revokedB ts i x.1 = true then d else d.write x.1.toNat x.2
def applyT (ts : List Tx) (i : Nat) (d : Dk.Dk) (t : Tx) : Dk.Dk := t.ws.foldl (applyW ts i) d
def applyN (ts : List Tx) (d : Dk.Dk) : Nat → Dk.Dk
  | 0 => d
  | k + 1 => match ts[k]? with
    | some t => applyT ts k (applyN ts d k) t
    | none => applyN ts d k
theorem applyW_size (ts : List Tx) (i : Nat) (d : Dk.Dk) (x : Wt) : (applyW ts i d x).stable.length = d.stable.length := by
  unfold applyW; split
  · rfl
  · exact write_size _ _ _
theorem applyF_size (ts : List Tx) (i : Nat) : ∀ (l : List Wt) (d : Dk.Dk), (l.foldl (applyW ts i) d).stable.length = d.stable.length
  | [], _ => rfl
  | x :: l, d => by rw [List.foldl_cons, applyF_size ts i l, applyW_size]
theorem applyN_size (ts : List Tx) (d : Dk.Dk) : ∀ k, (applyN ts d k).stable.length = d.stable.length
  | 0 => rfl
  | k + 1 => by
    unfold applyN
    split
    · unfold applyT; rw [applyF_size, applyN_size ts d k]
    · exact applyN_size ts d k

/-- While numbers rise the two ways to tell what was revoked agree. -/
def Rising (ts : List Tx) : Prop := ∀ (i j : Nat) t u, ts[i]? = some t → ts[j]? = some u → i < j → t.seq < u.seq
theorem greatest_ge (ps : List (Int × Nat)) (b : Int) (x : Int × Nat) (hx : x ∈ ps) (hb : x.1 = b) : x.2 ≤ greatest ps b := by
  unfold greatest
  have h1 : ∀ (ps : List (Int × Nat)) (o : Nat), o ≤ ps.foldl (fun o x => if x.1 = b then max o x.2 else o) o := by
    intro ps
    induction ps with
    | nil => intro o; exact Nat.le_refl _
    | cons y r ih =>
      intro o
      rw [List.foldl_cons]
      refine Nat.le_trans ?_ (ih _)
      split <;> omega
  have : ∀ (ps : List (Int × Nat)) (o : Nat), x ∈ ps → x.2 ≤ ps.foldl (fun o x => if x.1 = b then max o x.2 else o) o := by
    intro ps
    induction ps with
    | nil => intro o h; cases h
    | cons y r ih =>
      intro o h
      rw [List.foldl_cons]
      rcases List.mem_cons.1 h with e | e
      · subst e
        refine Nat.le_trans ?_ (h1 r _)
        rw [if_pos hb]; omega
      · exact ih _ e
  exact this ps 0 hx
theorem revoked_greatest (ts : List Tx) (h : Rising ts) (i : Nat) (t : Tx) (ht : ts[i]? = some t) (b : Int) : (revokedB ts i b = true) ↔ ¬ greatest (revsOf ts) b ≤ t.seq := by
  constructor
  · intro hr hg
    unfold revokedB at hr
    obtain ⟨u, hu, hub⟩ := List.any_eq_true.1 hr
    unfold revokesB at hub
    obtain ⟨z, hz, hzb⟩ := List.any_eq_true.1 hub
    obtain ⟨k, hk⟩ := List.getElem?_of_mem hu
    rw [List.getElem?_drop] at hk
    have h1 := h i (i + 1 + k) t u ht hk (by omega)
    have h2 := greatest_ge (revsOf ts) b (z, u.seq) (by
      unfold revsOf
      exact List.mem_flatMap.2 ⟨u, List.mem_of_getElem? hk, List.mem_map.2 ⟨z, hz, rfl⟩⟩) (by simpa using hzb)
    simp only at h2
    omega
  · intro hg
    cases hr : revokedB ts i b with
    | true => rfl
    | false =>
      exfalso
      apply hg
      refine greatest_le _ b t.seq (fun y hy hyb => ?_)
      unfold revsOf at hy
      obtain ⟨u, hu, hy2⟩ := List.mem_flatMap.1 hy
      obtain ⟨z, hz, rfl⟩ := List.mem_map.1 hy2
      obtain ⟨j, hj⟩ := List.getElem?_of_mem hu
      show u.seq ≤ t.seq
      rcases Nat.lt_or_ge i j with hlt | hge
      · exfalso
        have hmem : u ∈ ts.drop (i + 1) := by
          refine List.mem_of_getElem? (i := j - (i + 1)) ?_
          rw [List.getElem?_drop, show i + 1 + (j - (i + 1)) = j by omega]; exact hj
        unfold revokedB at hr
        have h3 := List.any_eq_false.1 hr u hmem
        unfold revokesB at h3
        apply h3
        rw [List.any_eq_true]
        exact ⟨z, hz, by simpa using hyb⟩
      · rcases Nat.lt_or_ge j i with hlt | hge2
        · exact Nat.le_of_lt (h j i u t hj ht hlt)
        · obtain rfl : i = j := by omega
          rw [ht] at hj
          injection hj with hj
          rw [hj]; exact Nat.le_refl _
theorem apply_home (ts : List Tx) (h : Rising ts) (d : Dk.Dk) : applyN ts d ts.length = homeL (revsOf ts) d ts := by
  have : ∀ k, k ≤ ts.length → applyN ts d k = homeL (revsOf ts) d (ts.take k) := by
    intro k
    induction k with
    | zero => intro _; simp [applyN, homeL]
    | succ k ih =>
      intro hk
      have hl : k < ts.length := by omega
      have hx : ts[k]? = some ts[k] := List.getElem?_eq_getElem hl
      rw [List.take_succ_eq_append_getElem hl]
      unfold applyN
      rw [hx]
      show applyT ts k (applyN ts d k) ts[k] = _
      rw [ih (by omega)]
      unfold homeL
      rw [List.foldl_append, List.foldl_cons, List.foldl_nil]
      generalize List.foldl (homeT (revsOf ts)) d (List.take k ts) = D
      unfold applyT homeT
      have he : applyW ts k = homeW (revsOf ts) ts[k].seq := by
        funext d x
        unfold applyW homeW
        have := revoked_greatest ts h k ts[k] hx x.1
        by_cases hg : greatest (revsOf ts) x.1 ≤ ts[k].seq
        · rw [if_neg (fun e => this.1 e hg), if_pos hg]
        · rw [if_pos (this.2 hg), if_neg hg]
      rw [he]
  rw [this ts.length (Nat.le_refl _), List.take_length]

def RHoming (W : World) (r : Nat) (F : Nat → Prop) (wr : World) (d : Dk.Dk) (c : Nat) : Prop :=
  ∃ F', RefDisk wr r d c F' ∧ (∀ k, F' k → F k ∨ W.heap.size ≤ k) ∧ Turns F W wr
theorem RHoming.start {W : World} {r c : Nat} {F : Nat → Prop} {d : Dk.Dk} (h : RefDisk W r d c F) : RHoming W r F W d c := ⟨F, h, fun _ => .inl, Turns.refl _ _⟩
theorem RHoming.later {W wr w' : World} {r c : Nat} {F : Nat → Prop} {d : Dk.Dk} (h : RHoming W r F wr d c) (hb : Below wr.heap.size wr w') : RHoming W r F w' d c := by
  obtain ⟨F', h1, h2, h3⟩ := h
  exact ⟨F', h1.later hb, h2, h3.trans (Turns.of_below (F := F) hb) (fun _ _ e => e)⟩
theorem RHoming.turns {W wr : World} {r c : Nat} {F : Nat → Prop} {d : Dk.Dk} (h : RHoming W r F wr d c) : Turns F W wr := by
  obtain ⟨F', h1, h2, h3⟩ := h
  exact h3
theorem RHoming.step {W wr w' : World} {r c c' : Nat} {F : Nat → Prop} {d d' : Dk.Dk} {e : Ending} {v : Value} (h : RHoming W r F wr d c) (h2 : ∀ F', RefDisk wr r d c F' → RNow wr r d' c' F' v e w') : e = .returned v ∧ RHoming W r F w' d' c' := by
  obtain ⟨F', h1, hf, h3⟩ := h
  obtain ⟨F2, he, k1, kf, k3⟩ := h2 F' h1
  refine ⟨he, F2, k1, fun k hk => ?_, h3.trans k3 (fun i hi e => ?_)⟩
  · rcases kf k hk with e | e
    · exact hf k e
    · have := h3.size; exact .inr (by omega)
  · rcases hf i e with e | e
    · exact e
    · omega
theorem RHoming.more {W wr : World} {r c c' : Nat} {F : Nat → Prop} {d : Dk.Dk} (h : RHoming W r F wr d c) (hc : c ≤ c') : RHoming W r F wr d c' := by
  obtain ⟨F', ⟨R, vb, vw, vg, h1, h2, h3⟩, h4⟩ := h
  exact ⟨F', ⟨R, vb, vw, vg, h1, { h2 with few := Nat.le_trans h2.few hc }, h3⟩, h4⟩
/-- A write on the way. -/
theorem RHoming.write {W wr : World} {r c : Nat} {F : Nat → Prop} {d : Dk.Dk} (h : RHoming W r F wr d c) (ii : Int) (hii : 0 ≤ ii) (A : Option Addr) (cb B : Nat) (data : List UInt8) (hi : ii.toNat < d.stable.length) (hd : Holds wr B A 256 data) (hB : B ≤ wr.heap.size) (hc : c ≤ 1048576) :
    Calls Try.prog 39 #[.pointer (some ⟨r, 0, none⟩), .int .i64 ii, .slice A 256 cb] wr fun e w' => e = .returned (.int .i64 0) ∧ RHoming W r F w' (d.write ii.toNat data) (c + 1) := by
  have h0 := h
  obtain ⟨F', h1, h2, h3⟩ := h
  have hw := rwrite_d ii.toNat A cb B data d r c F' wr h1 hc hi hd hB
  rw [show ((ii.toNat : Nat) : Int) = ii by omega] at hw
  refine Calls.mono hw (fun e w' hN => ?_)
  obtain ⟨F2, he, k1, kf, k3⟩ := hN
  refine ⟨he, F2, k1, fun k hk => ?_, h3.trans k3 (fun i hi e => ?_)⟩
  · rcases kf k hk with e | e
    · exact h2 k e
    · have := h3.size; exact .inr (by omega)
  · rcases h2 i e with e | e
    · exact e
    · omega

theorem applyF_take (ts : List Tx) (i : Nat) (d : Dk.Dk) (l : List Wt) (k : Nat) (x : Wt) (hx : l[k]? = some x) : (l.take (k + 1)).foldl (applyW ts i) d = applyW ts i ((l.take k).foldl (applyW ts i) d) x := by
  obtain ⟨hl, rfl⟩ := List.getElem?_eq_some_iff.1 hx
  rw [List.take_succ_eq_append_getElem hl, List.foldl_append]; rfl

set_option maxRecDepth 100000 in
set_option maxHeartbeats 2000000 in
theorem applyr_any (w : World) (A : Option Addr) (nl c0 n s r p c : Nat) (G F : Nat → Prop) (d : Dk.Dk) (L : List LiveRec) (h : Live w G n s r (.slice A nl c0) nl L) (hD : RefDisk w p d c F) (hn : d.stable.length = n) (hFG : ∀ q, F q → G q)
    (hFv : ∀ q, (Value.slice A nl c0).ownBlock = some q → ¬ F q) (hnl : nl ≤ 1048576) (hc : c + 58 * nl < 1048576) :
    Calls Try.prog 106 #[.pointer (some ⟨p, 0, none⟩), .slice A nl c0] w fun e w' => e = .returned (.tuple #[]) ∧ RHoming w p F w' (applyN (L.map (·.t)) d nl) (c + 58 * nl) := by
  have hcnt := h.cnt
  have HCNT := Lib.hid hcnt; clear hcnt
  have HLV := Lib.hid h; clear h
  have HN := Lib.hid hn; clear hn
  have hturn : ∀ V, Turns F w V → Live V (fun q => G q ∨ w.heap.size ≤ q) n s r (.slice A nl c0) nl L := fun V hV => HLV.out.turns (hV.mono (fun q _ e => ⟨hFG q e, fun e' => hFv q e' e⟩)) (fun i hi e => by
    rcases e with e | e
    · exact e
    · omega)
  have HTURN := Lib.hid hturn; clear hturn hFG hFv
  have HH0 := Lib.hid (RHoming.start hD); clear hD
  go_enter Try.func106, Try.ntmps106
  go_wp2
  go_loopw [4, 5, 6] (fun iv _ _ wr => ∃ k : Nat, k ≤ nl ∧ iv = .int .i64 (k : Int) ∧ RHoming w p F wr (applyN (L.map (·.t)) d k) (c + 58 * k)) (fun iv _ _ _ => nl - (intOf iv).toNat)
  case atStart => exact ⟨0, Nat.zero_le _, rfl, HH0.out⟩
  case round =>
    obtain ⟨k, hk, rfl, hH⟩ := hrel
    have HH := Lib.hid hH; clear hH
    by_cases hlt : k < nl
    · obtain ⟨gb, rfl, -⟩ := live_cells HLV.out (by omega)
      obtain ⟨x, hx⟩ : ∃ x, L[k]? = some x := ⟨_, List.getElem?_eq_getElem (by have := HCNT.out; omega)⟩
      have hx58 := live_few HLV.out hx
      have hxm := List.mem_of_getElem? hx
      have hfair := HLV.out.fair x hxm
      have HFAIR := Lib.hid hfair; clear hfair
      obtain ⟨D, hDD⟩ : ∃ D, D = applyN (L.map (·.t)) d k := ⟨_, rfl⟩
      have hDn : D.stable.length = n := by rw [hDD, applyN_size]; exact HN.out
      have hnx2 : applyN (L.map (·.t)) d (k + 1) = x.t.ws.foldl (applyW (L.map (·.t)) k) D := by
        have e : (L.map (·.t))[k]? = some x.t := by rw [List.getElem?_map, hx]; rfl
        rw [hDD]
        simp only [applyN, e]
        rfl
      rw [← hDD] at HH
      have HNX2 := Lib.hid hnx2; clear hnx2 hDD
      have HDN := Lib.hid hDn; clear hDn
      obtain ⟨nx, hnx⟩ : ∃ nx, nx = x.t.ws.length := ⟨_, rfl⟩
      rw [← hnx] at hx58
      have HNX := Lib.hid hnx; clear hnx
      have hc1 : ∀ V, Turns F w V → V.cell? ⟨gb, k * 3 + 1, none⟩ = some (.slice x.Aw nx x.cw) := fun V hV => by
        obtain ⟨gb2, e1, hcells⟩ := live_cells (HTURN.out V hV) (by omega)
        injection e1 with e1
        injection e1 with e1
        subst e1
        rw [HNX.out]
        exact hcells V (Below.refl _ _) k x hx
      have HC1 := Lib.hid hc1; clear hc1
      have HX := Lib.hid hx; clear hx hxm
      have hk0 : (0 : Int) ≤ (k : Int) := by omega
      have hkn : (k : Int) < (nl : Int) := by omega
      have hklt := hlt
      go_wp2
      go_loopw [5, 6] (fun jv _ wr => ∃ j : Nat, j ≤ nx ∧ jv = .int .i64 (j : Int) ∧ RHoming w p F wr ((x.t.ws.take j).foldl (applyW (L.map (·.t)) k) D) (c + 58 * k + j)) (fun jv _ _ => nx - (intOf jv).toNat)
      case atStart => exact ⟨0, Nat.zero_le _, rfl, HH.out⟩
      case round =>
        obtain ⟨j, hj, rfl, hH⟩ := hrel
        have z1 := HC1.out _ hH.turns
        by_cases hlj : j < nx
        · obtain ⟨y, hy⟩ : ∃ y, x.t.ws[j]? = some y := ⟨_, List.getElem?_eq_getElem (by rw [← HNX.out]; exact hlj)⟩
          obtain ⟨bb, off, A2, c2, hAw, hyc⟩ := live_write (HTURN.out _ hH.turns) HX.out hy
          rw [hAw] at z1
          obtain ⟨z2, z3, -⟩ := hyc _ (Below.refl _ _)
          have hout := outB_in HFAIR.out.2 (List.mem_of_getElem? hy)
          have hstep := applyF_take (L.map (·.t)) k D x.t.ws j y hy
          obtain ⟨y1, y2⟩ := y
          dsimp only at z2 hout hyc
          obtain ⟨DJ, hDJ⟩ : ∃ DJ, DJ = (x.t.ws.take j).foldl (applyW (L.map (·.t)) k) D := ⟨_, rfl⟩
          rw [← hDJ] at hstep hH
          have hDJn : DJ.stable.length = n := by rw [hDJ, applyF_size]; exact HDN.out
          have hin1 := hout.1
          have hin2 : y1.toNat < DJ.stable.length := by rw [hDJn]; omega
          have hwb : Below wr.heap.size wr (wr.alloc (.cells #[.int .i64 y1, .slice A2 256 c2] 83)) := (Below.refl _ wr).alloc (Nat.le_refl _) _
          have hbx : (wr.alloc (.cells #[.int .i64 y1, .slice A2 256 c2] 83)).heap[wr.heap.size]? = some (.cells #[.int .i64 y1, .slice A2 256 c2] 83 (0, 0)) := heap_alloc_new wr _
          have q0 := cell_of_row _ wr.heap.size 0 _ _ _ hbx
          have hHb := hH.later hwb
          have HHB := Lib.hid hHb; clear hHb
          have HST := Lib.hid hstep; clear hstep hDJ hDJn hout
          have HYC := Lib.hid hyc; clear hyc
          have HW0 := Lib.hid hH.turns
          clear hH hAw hy
          have hj0 : (0 : Int) ≤ (j : Int) := by omega
          have hjn : (j : Int) < (nx : Int) := by omega
          obtain ⟨wk, hwk⟩ : ∃ wk, wk = wr := ⟨_, rfl⟩
          subst hwk
          go_wp2_with fail
          generalize wk.alloc (.cells #[.int .i64 y1, .slice A2 256 c2] 83) = wb at hwb hbx q0 HHB ⊢
          have hpb : wk.heap.size < wb.heap.size := (Array.getElem?_eq_some_iff.1 hbx).1
          have hbxV : ∀ V, Below wb.heap.size wb V → V.cell? ⟨wk.heap.size, 0, none⟩ = some (.int .i64 y1) ∧ V.cell? ⟨wk.heap.size, 1, none⟩ = some (.slice A2 256 c2) ∧ Holds V wk.heap.size A2 256 y2 ∧ wk.heap.size ≤ V.heap.size := fun V hV => by
            have h := (hV.block _ hpb).trans hbx
            have hwV := hwb.trans (hV.mono hwb.size)
            exact ⟨cell_of_row V _ 0 _ _ _ h, cell_of_row V _ 1 _ _ _ h, (HYC.out V hwV).2.2, hwV.size⟩
          have HBXV := Lib.hid hbxV; clear hbxV hbx q0 z1 z2 z3 hwb
          have hlv := HTURN.out wb HHB.out.turns
          have HLVB := Lib.hid hlv; clear hlv
          generalize wk.heap.size = pb at HBXV hpb ⊢
          with_reducible refine (revokedr_any wb (some ⟨gb, 0, none⟩) nl c0 n s r _ L HLVB.out k y1 hklt hnl).mono ?_
          rintro e w9 ⟨rfl, hb9⟩
          obtain ⟨b0, b1, hdat, hsz⟩ := HBXV.out w9 hb9
          have HH9 := Lib.hid (HHB.out.later hb9)
          have hcall := HH9.out.write y1 hin1 A2 c2 pb y2 hin2 hdat hsz (by omega)
          have HC := Lib.hid hcall; clear hcall hdat hsz HBXV HLVB hb9 HHB
          cases hrv : revokedB (L.map (·.t)) k y1
          · have hs : applyW (L.map (·.t)) k DJ (y1, y2) = DJ.write y1.toNat y2 := by unfold applyW; rw [hrv]; rfl
            have HS := Lib.hid hs; clear hs hrv
            go_wp2_with fail
            with_reducible refine HC.out.mono ?_
            rintro e w10 ⟨rfl, hH10⟩
            have HH10 := Lib.hid hH10; clear hH10 HC b0 b1
            go_wp2
            go_roundw
            case rel => exact ⟨j + 1, by omega, by go_num, by rw [HST.out, HS.out]; exact HH10.out⟩
            case measure => simp [intOf]; omega
          · have hs : applyW (L.map (·.t)) k DJ (y1, y2) = DJ := by unfold applyW; rw [hrv]; rfl
            have HS := Lib.hid hs; clear hs hrv HC b0 b1
            go_wp2
            go_roundw
            case rel => exact ⟨j + 1, by omega, by go_num, by rw [HST.out, HS.out]; exact HH9.out.more (Nat.le_succ _)⟩
            case measure => simp [intOf]; omega
        · obtain rfl : j = nx := by omega
          have hend : RHoming w p F wr (applyN (L.map (·.t)) d (k + 1)) (c + 58 * (k + 1)) := by
            rw [HNX2.out]
            rw [List.take_of_length_le (l := x.t.ws) (by rw [HNX.out]; exact Nat.le_refl _)] at hH
            exact hH.more (by omega)
          have HE := Lib.hid hend; clear hend hH
          go_wp2
          go_roundw
          case rel => exact ⟨k + 1, by omega, by go_num, HE.out⟩
          case measure => simp [intOf]; omega
    · obtain rfl : k = nl := by omega
      go_wp2
      refine bodyPost_end (results_none rfl _ _ _) rfl ?_
      exact ⟨rfl, HH.out⟩
end Go.Proofs.Ytelnoibfamcnmaa.Log

namespace Go.Proofs.Ytelnoibfamcnmaa.Log
set_option maxRecDepth 20000
open Go.RowKit
open Go.Proofs.Ytelnoibfamcnmaa.Mem Go.Proofs.Ytelnoibfamcnmaa.Crc Go.Proofs.Ytelnoibfamcnmaa.Disk Go.Proofs.Ytelnoibfamcnmaa.Reg
open Go.Proofs.Ytelnoibfamcnmaa.Rec (Tx Wt TxAt HoldsW HoldsI IsInt mayB_iff OwnsT)

theorem RHoming.drew {W wr : World} {r c : Nat} {F : Nat → Prop} {d : Dk.Dk} (h : RHoming W r F wr d c) : RHoming W r F wr.drew d c := h.later (Below.refl _ wr).drew
theorem RHoming.comp {W wr w' : World} {r c' : Nat} {F F' : Nat → Prop} {d' : Dk.Dk} (hf : ∀ k, F' k → F k ∨ W.heap.size ≤ k) (hT : Turns F W wr) (h : RHoming wr r F' w' d' c') : RHoming W r F w' d' c' := by
  obtain ⟨F2, h1, h2, h3⟩ := h
  refine ⟨F2, h1, fun k hk => ?_, hT.trans h3 (fun i hi e => ?_)⟩
  · rcases h2 k hk with e | e
    · exact hf k e
    · have := hT.size; exact .inr (by omega)
  · rcases hf i e with e | e
    · exact e
    · omega
theorem RHoming.flush {W wr : World} {r c : Nat} {F : Nat → Prop} {d : Dk.Dk} (h : RHoming W r F wr d c) (hc : c ≤ 1048576) :
    Calls Try.prog 58 #[.pointer (some ⟨r, 0, none⟩)] wr fun e w' => e = .returned (.tuple #[]) ∧ RHoming W r F w' d.flush c := by
  obtain ⟨F', h1, h2, h3⟩ := h
  refine Calls.mono (rflush_d d r c F' wr h1 hc) (fun e w' hN => ?_)
  obtain ⟨F2, he, k1, kf, k3⟩ := hN
  exact ⟨he, RHoming.comp h2 h3 ⟨F2, k1, kf, k3⟩⟩
theorem RHoming.area {W wr : World} {A : Option Addr} {nl c0 n s r0 r c : Nat} {G F : Nat → Prop} {d : Dk.Dk} {L : List LiveRec} (hL : Live W G n s r0 (.slice A nl c0) nl L) (h : RHoming W r F wr d c) (hn : d.stable.length = n) (hFG : ∀ q, F q → G q)
    (hFv : ∀ q, (Value.slice A nl c0).ownBlock = some q → ¬ F q) (hnl : nl ≤ 1048576) (hc : c + 58 * nl < 1048576) :
    Calls Try.prog 106 #[.pointer (some ⟨r, 0, none⟩), .slice A nl c0] wr fun e w' => e = .returned (.tuple #[]) ∧ RHoming W r F w' (applyN (L.map (·.t)) d nl) (c + 58 * nl) := by
  obtain ⟨F', h1, h2, h3⟩ := h
  have hL2 : Live wr (fun q => G q ∨ F' q) n s r0 (.slice A nl c0) nl L := hL.turns (h3.mono (fun q _ e => ⟨hFG q e, fun e2 => hFv q e2 e⟩)) (fun i hi e => by
    rcases e with e | e
    · exact e
    · rcases h2 i e with e | e
      · exact hFG i e
      · omega)
  refine (applyr_any wr A nl c0 n s r0 r c _ F' d L hL2 h1 hn (fun q e => .inr e) (fun q e e2 => ?_) hnl hc).mono fun e w' hN => ⟨hN.1, RHoming.comp h2 h3 hN.2⟩
  rcases h2 q e2 with e3 | e3
  · exact hFv q e e3
  · have := hL.row.lt e; omega

/-- The document's log in memory: since the world W0 nothing but its own blocks has turned. -/
def DKnown (W0 wr : World) (m r s l n : Nat) (G0 X : Nat → Prop) (g : Lg) (nb cb : Nat) : Prop :=
  ∃ A c0 c F L, DocAt wr m r (s : Int) (l : Int) g.seq g.pl (.slice A L.length c0) ∧ RefDisk wr r g.d c F ∧ g.d.stable.length = n ∧ Live wr (fun q => F q ∨ q = m ∨ (Value.slice A L.length c0).ownBlock = some q ∨ X q) n s (l - 1) (.slice A L.length c0) L.length L ∧ (∀ q, X q → q < wr.heap.size) ∧ L.map (·.t) = g.ts ∧ c ≤ cb ∧ g.ts.length ≤ nb ∧
    ¬ F m ∧ (∀ q, (Value.slice A L.length c0).ownBlock = some q → ¬ F q ∧ q ≠ m) ∧ (∀ q, F q → G0 q ∨ W0.heap.size ≤ q) ∧ (∀ q, (Value.slice A L.length c0).ownBlock = some q → G0 q ∨ W0.heap.size ≤ q) ∧ Turns (fun q => G0 q ∨ q = m) W0 wr

/-- What holds of a log's plain state all along. -/
structure Lg.Fit (g : Lg) (s l n : Nat) : Prop where
  rise : Rising g.ts
  low : ∀ t ∈ g.ts, t.seq < g.seq
  used : g.used = usedOf g.ts
  room : g.used ≤ l - 1
  place : g.pl < l - 1
  area : 8 ≤ l ∧ l ≤ 1024 ∧ s + l ≤ n ∧ n ≤ 1024
  size : g.d.stable.length = n

theorem Lg.Fit.home {g : Lg} {s l n : Nat} (h : g.Fit s l n) : (g.home s).Fit s l n := by
  unfold Lg.home
  split
  · exact h
  · refine ⟨(fun i j t u hi => by simp at hi), (fun t ht => by cases ht), rfl, Nat.zero_le _, h.place, h.area, ?_⟩
    show (homeD s g.seq g.pl g.d g.ts).stable.length = n
    unfold homeD; rw [Dk.size_flush, write_size, Dk.size_flush, homeL_size, Dk.size_flush]; exact h.size
theorem Lg.Fit.app {g : Lg} {s l n : Nat} (h : g.Fit s l n) (t : Tx) : (g.app n s (l - 1) t).2.2.Fit s l n := by
  unfold Lg.app
  split
  · split
    · rename_i hr
      have hz := putL_size s (l - 1) g.d g.pl (chunksOf (g.txn t).enc (t.ws.length + 2)) (by have := h.area; omega) h.place
      refine ⟨fun i j a b ha hb hij => ?_, fun a ha => ?_, ?_, hr, hz.2, h.area, hz.1.trans h.size⟩
      · have ha' : (g.ts ++ [g.txn t])[i]? = some a := ha
        have hb' : (g.ts ++ [g.txn t])[j]? = some b := hb
        have hjl := (List.getElem?_eq_some_iff.1 hb').1
        rw [List.length_append, List.length_singleton] at hjl
        rw [List.getElem?_append_left (by omega)] at ha'
        rcases Nat.lt_or_ge j g.ts.length with hl | hl
        · rw [List.getElem?_append_left hl] at hb'
          exact h.rise i j a b ha' hb' hij
        · rw [List.getElem?_append_right hl, show j - g.ts.length = 0 by omega] at hb'
          simp at hb'
          subst hb'
          exact h.low a (List.mem_of_getElem? ha')
      · have ha' : a ∈ g.ts ++ [g.txn t] := ha
        show a.seq < g.seq + 1
        rcases List.mem_append.1 ha' with e | e
        · have := h.low a e; omega
        · simp at e; subst e; show g.seq < g.seq + 1; omega
      · show g.used + (t.ws.length + 2) = usedOf (g.ts ++ [g.txn t])
        rw [usedOf_snoc, h.used]; rfl
    · exact h
  · exact h
theorem Lg.Fit.disk {g : Lg} {s l n : Nat} (h : g.Fit s l n) (d : Dk.Dk) (hd : d.stable.length = g.d.stable.length) : ({ g with d := d } : Lg).Fit s l n := ⟨h.rise, h.low, h.used, h.room, h.place, h.area, hd.trans h.size⟩
theorem Lg.Fit.fresh (s l n : Nat) (h8 : 8 ≤ l) (hl : l ≤ 1024) (hs : s + l ≤ n) (hn : n ≤ 1024) : (Lg.fresh n s).Fit s l n :=
  ⟨(fun i j t u hi => by simp [Lg.fresh] at hi), (fun t ht => by simp [Lg.fresh] at ht), rfl, Nat.zero_le _, by show 0 < l - 1; omega, ⟨h8, hl, hs, hn⟩, freshD_size n s⟩

set_option maxRecDepth 100000 in
set_option maxHeartbeats 4000000 in
theorem homer_any (W0 w : World) (m r s l n nb cb : Nat) (G0 X : Nat → Prop) (g : Lg) (h : DKnown W0 w m r s l n G0 X g nb cb) (hf : g.Fit s l n) (hcb : cb + 58 * nb + 1 < 1048576) :
    Calls Try.prog 80 #[.pointer (some ⟨m, 0, none⟩)] w fun e w' => e = .returned (.tuple #[]) ∧ DKnown W0 w' m r s l n G0 X (g.home s) nb (cb + 58 * nb + 1) := by
  have hK := h
  obtain ⟨A, c0, c, F, L, a1, a2, a3, a4, aX, a5, a6, a7, a8, a9, a10, a11, a12⟩ := h
  have hcnt : L.length = g.ts.length := by rw [← a5, List.length_map]
  by_cases hnone : g.ts = []
  · have hg : g.home s = g := by unfold Lg.home; rw [if_pos hnone]
    have hl0 : L = [] := by
      have : L.length = 0 := by rw [hcnt, hnone]; rfl
      exact List.eq_nil_of_length_eq_zero this
    subst hl0
    rw [hg]
    have z5 := a1.cells.2.2.2.2.2
    have HE : Hid (DKnown W0 w m r s l n G0 X g nb (cb + 58 * nb + 1)) := Lib.hid ⟨A, c0, c, F, [], a1, a2, a3, a4, aX, a5, by omega, a7, a8, a9, a10, a11, a12⟩
    clear a1 a2 a3 a4 aX a5 a6 a7 a8 a9 a10 a11 a12 hK hf
    go_enter Try.func80, Try.ntmps80
    go_wp2
    refine bodyPost_ret (results_none rfl _ _ _) rfl ?_
    exact ⟨rfl, HE.out⟩
  · have hg : g.home s = { g with used := 0, d := homeD s g.seq g.pl g.d g.ts, ts := [] } := by unfold Lg.home; rw [if_neg hnone]
    rw [hg]
    have hpos : 0 < L.length := by rw [hcnt]; exact List.length_pos_iff.2 hnone
    obtain ⟨nl, hnl⟩ : ∃ nl, nl = L.length := ⟨_, rfl⟩
    rw [← hnl] at a1 a4 a9 a11 hpos
    have hnlb : nl ≤ nb := by rw [hnl, hcnt]; exact a7
    have hml : m < w.heap.size := (Array.getElem?_eq_some_iff.1 a1).1
    have hkeep : ∀ V d' c', RHoming w r F V d' c' → DocAt V m r (s : Int) (l : Int) g.seq g.pl (.slice A nl c0) := fun V d' c' hV => (hV.turns.block m hml a8).trans a1
    have hH0 : RHoming w r F w g.d c := RHoming.start a2
    have hHL : homeD s g.seq g.pl g.d g.ts = ((applyN (L.map (·.t)) g.d.flush nl).flush.write s (headH g.seq g.pl)).flush := by
      unfold homeD
      rw [a5, ← apply_home g.ts hf.rise, ← hcnt, ← hnl]
    have hsz : (applyN (L.map (·.t)) g.d.flush nl).flush.stable.length = n := by rw [Dk.size_flush, applyN_size, Dk.size_flush]; exact a3
    have hareaC : ∀ V, RHoming w r F V g.d.flush c → Calls Try.prog 106 #[.pointer (some ⟨r, 0, none⟩), .slice A nl c0] V fun e w' => e = .returned (.tuple #[]) ∧ RHoming w r F w' (applyN (L.map (·.t)) g.d.flush nl) (c + 58 * nl) := fun V hV =>
      RHoming.area a4 hV (by rw [Dk.size_flush]; exact a3) (fun q e => .inl e) (fun q e => (a9 q e).1) (by omega) (by omega)
    have HAREA := Lib.hid hareaC; clear hareaC
    have HKEEP := Lib.hid hkeep; clear hkeep
    have HHL := Lib.hid hHL; clear hHL
    have HSZ := Lib.hid hsz; clear hsz
    have HF := Lib.hid hf; clear hf
    have HA1 := Lib.hid a1
    have HREST := Lib.hid (⟨a3, aX, a6, a8, a10, a12⟩ : g.d.stable.length = n ∧ (∀ q, X q → q < w.heap.size) ∧ c ≤ cb ∧ ¬ F m ∧ (∀ q, F q → G0 q ∨ W0.heap.size ≤ q) ∧ Turns (fun q => G0 q ∨ q = m) W0 w)
    obtain ⟨z0, -, -, -, -, z5⟩ := a1.cells
    clear a1 a2 a3 a4 aX a5 a7 a8 a9 a10 a11 a12 hK hg hnone hcnt hnl
    have hc1 := hH0.flush (by omega)
    have HC1 := Lib.hid hc1; clear hc1 hH0
    have hn0 : ¬ (nl : Int) = 0 := by omega
    have hn1 : ((nl : Int) == 0) = false := by simpa using hn0
    obtain ⟨SEQ, hSEQ⟩ : ∃ x, x = g.seq := ⟨_, rfl⟩
    obtain ⟨PL, hPL⟩ : ∃ x, x = g.pl := ⟨_, rfl⟩
    rw [← hSEQ, ← hPL] at HKEEP HHL
    obtain ⟨D2, hD2⟩ : ∃ D2, D2 = applyN (L.map (·.t)) g.d.flush nl := ⟨_, rfl⟩
    rw [← hD2] at HAREA HHL HSZ
    have hplb : PL < 4294967296 := by have := HF.out.place; have := HF.out.area; omega
    have hcW : c + 58 * nl < 1048576 := by have := HREST.out.2.2.1; omega
    have hsn : s < n := by have := HF.out.area; omega
    have hwg : ∀ V A5 c5, RHoming w r F V D2.flush (c + 58 * nl) → Holds V V.heap.size A5 256 (headH SEQ PL) → Calls Try.prog 39 #[.pointer (some ⟨r, 0, none⟩), .int .i64 (s : Int), .slice A5 256 c5] V fun e w' => e = .returned (.int .i64 0) ∧ RHoming w r F w' (D2.flush.write s (headH SEQ PL)) (c + 58 * nl + 1) := fun V A5 c5 h5 hh => by
      have := h5.write (s : Int) (by omega) A5 c5 V.heap.size (headH SEQ PL) (by rw [HSZ.out]; omega) hh (Nat.le_refl _) (by omega)
      rwa [show (s : Int).toNat = s by omega] at this
    have HWG := Lib.hid hwg; clear hwg
    have HPLB := Lib.hid hplb; clear hplb hD2
    have HSEQ := Lib.hid hSEQ; clear hSEQ
    have HPL := Lib.hid hPL; clear hPL
    go_enter Try.func80, Try.ntmps80
    go_wp2_with fail
    with_reducible refine HC1.out.mono ?_
    rintro e w1 ⟨rfl, h1⟩
    have hcl := (HKEEP.out w1.drew _ _ h1.drew).cells
    have hS : w1.drew.cell? ⟨m, 0, none⟩ = some (.pointer (some ⟨r, 0, none⟩)) ∧ w1.drew.cell? ⟨m, 5, none⟩ = some (.slice A nl c0) := ⟨hcl.1, hcl.2.2.2.2.2⟩
    have HC2 := Lib.hid (HAREA.out w1.drew h1.drew)
    have HH1 := Lib.hid h1; clear h1 HC1 HAREA z0 z5 hcl
    go_wp2_with fail
    go_region_held (fun V : World => V.cell? ⟨m, 0, none⟩ = some (.pointer (some ⟨r, 0, none⟩)) ∧ V.cell? ⟨m, 5, none⟩ = some (.slice A nl c0)) (assumption)
      (first
        | (go_at_call 106
           have hcall := HC2.out
           with_reducible refine hcall.mono ?_
           rintro e V5 ⟨rfl, h2⟩
           clear hcall hS
           have hcl := (HKEEP.out V5 _ _ h2).cells
           have hS1 : V5.cell? ⟨m, 0, none⟩ = some (.pointer (some ⟨r, 0, none⟩)) ∧ V5.cell? ⟨m, 5, none⟩ = some (.slice A nl c0) := ⟨hcl.1, hcl.2.2.2.2.2⟩
           clear hcl
           have HH2 := Lib.hid h2
           clear h2))
    all_goals
      clear HC2 HH1
      have HF3 := Lib.hid (HH2.out.flush (by omega))
      obtain ⟨k0, -⟩ := hS1
      go_wp2_with fail
      with_reducible refine HF3.out.mono ?_
      rintro e w3 ⟨rfl, h3⟩
      have hcl := (HKEEP.out w3.drew _ _ h3.drew).cells
      have hS : w3.drew.cell? ⟨m, 0, none⟩ = some (.pointer (some ⟨r, 0, none⟩)) ∧ w3.drew.cell? ⟨m, 1, none⟩ = some (.int .i64 (s : Int)) ∧ w3.drew.cell? ⟨m, 3, none⟩ = some (.int .u64 (SEQ : Int)) ∧ w3.drew.cell? ⟨m, 4, none⟩ = some (.int .i64 (PL : Int)) := ⟨hcl.1, hcl.2.1, hcl.2.2.2.1, hcl.2.2.2.2.1⟩
      have HH3 := Lib.hid h3.drew
      have HHD := Lib.hid (headr_any SEQ PL w3.drew HPLB.out)
      clear h3 HF3 HH2 k0 hcl
      go_wp2_with fail
      go_region_held (fun V : World => V.cell? ⟨m, 0, none⟩ = some (.pointer (some ⟨r, 0, none⟩)) ∧ V.cell? ⟨m, 1, none⟩ = some (.int .i64 (s : Int)) ∧ V.cell? ⟨m, 3, none⟩ = some (.int .u64 (SEQ : Int)) ∧ V.cell? ⟨m, 4, none⟩ = some (.int .i64 (PL : Int))) (assumption)
        (first
          | (go_at_call 78
             have hcall := HHD.out
             with_reducible refine hcall.mono ?_
             rintro e V5 ⟨A5, c5, rfl, ho5, hb5⟩
             clear hcall
             have h5 := HH3.out.later hb5
             have hcl := (HKEEP.out V5 _ _ h5).cells
             have hS5 : V5.cell? ⟨m, 0, none⟩ = some (.pointer (some ⟨r, 0, none⟩)) ∧ V5.cell? ⟨m, 1, none⟩ = some (.int .i64 (s : Int)) ∧ V5.cell? ⟨m, 3, none⟩ = some (.int .u64 (SEQ : Int)) ∧ V5.cell? ⟨m, 4, none⟩ = some (.int .i64 (PL : Int)) := ⟨hcl.1, hcl.2.1, hcl.2.2.2.1, hcl.2.2.2.2.1⟩
             have hwr := HWG.out V5 A5 c5 h5 (Go.Proofs.Ytelnoibfamcnmaa.Rec.Owned.reads ho5)
             have HWR := Lib.hid hwr
             clear hwr h5 hcl ho5 hb5)
          | (go_at_call 39
             have hcall := HWR.out
             with_reducible refine hcall.mono ?_
             rintro e V7 ⟨rfl, h4⟩
             clear hcall
             have hcl := (HKEEP.out V7 _ _ h4).cells
             have hS7 : V7.cell? ⟨m, 0, none⟩ = some (.pointer (some ⟨r, 0, none⟩)) ∧ V7.cell? ⟨m, 1, none⟩ = some (.int .i64 (s : Int)) ∧ V7.cell? ⟨m, 3, none⟩ = some (.int .u64 (SEQ : Int)) ∧ V7.cell? ⟨m, 4, none⟩ = some (.int .i64 (PL : Int)) := ⟨hcl.1, hcl.2.1, hcl.2.2.2.1, hcl.2.2.2.2.1⟩
             clear hcl
             have HH4 := Lib.hid h4
             clear h4))
      all_goals
        clear HHD HH3
        have HF5 := Lib.hid (HH4.out.flush (by omega))
        obtain ⟨k0, -⟩ := hS7
        go_wp2_with fail
        with_reducible refine HF5.out.mono ?_
        rintro e w5 ⟨rfl, h5⟩
        clear HF5 HH4 k0
        have hl5 : w5.heap[m]? = some (.cells (docCells r (s : Int) (l : Int) SEQ PL (.slice A nl c0)) 72 (0, 0)) := HKEEP.out w5 _ _ h5
        have f5 := frozen_of_row w5 m 5 _ _ hl5
        have g5 := (HKEEP.out w5 _ _ h5).cells.2.2.2.2.2
        have HH5 := Lib.hid h5; clear h5
        have HL5 := Lib.hid hl5; clear hl5
        go_wp2
        refine bodyPost_end (results_none rfl _ _ _) rfl ?_
        obtain ⟨F5, h1, h2, h3⟩ := HH5.out
        have hnF : ¬ F5 m := fun e => by
          rcases h2 m e with e | e
          · exact HREST.out.2.2.2.1 e
          · omega
        have hT6 : Turns (fun q => q = m) w5 (w5.setCell ⟨m, 5, none⟩ (.slice none 0 0)) := (Turns.refl (fun q => q = m) w5).setCell (p := ⟨m, 5, none⟩) (fun _ => rfl) _
        have hl6 := heap_setCell_same w5 m 5 _ _ (.slice none 0 0) HL5.out
        obtain ⟨b1, b2, b3, b4, b5, b6⟩ := HREST.out
        have hTw : Turns (fun q => F q ∨ q = m) w (w5.setCell ⟨m, 5, none⟩ (.slice none 0 0)) := (h3.mono (F := fun q => F q ∨ q = m) (fun _ _ e => .inl e)).trans hT6 (fun _ _ e => .inr e)
        have hdoc : DocAt (w5.setCell ⟨m, 5, none⟩ (.slice none 0 0)) m r (s : Int) (l : Int) g.seq g.pl (.slice none 0 0) := by rw [← HSEQ.out, ← HPL.out]; exact hl6
        have hdk : RefDisk (w5.setCell ⟨m, 5, none⟩ (.slice none 0 0)) r (homeD s g.seq g.pl g.d g.ts) (c + 58 * nl + 1) F5 := by
          rw [← HSEQ.out, ← HPL.out, HHL.out]
          exact h1.turns hT6 (fun k hk e => hnF (e ▸ hk))
        refine ⟨rfl, none, 0, c + 58 * nl + 1, F5, [], hdoc, hdk, ?_, Live.none _ _ _ _ _, (fun q e => Nat.lt_of_lt_of_le (b2 q e) hTw.size), rfl, by omega, Nat.zero_le _, hnF, (fun q e => by cases e), fun q e => ?_, (fun q e => by cases e), b6.trans hTw (fun i hi e => ?_)⟩
        · show (homeD s g.seq g.pl g.d g.ts).stable.length = n
          rw [← HSEQ.out, ← HPL.out, HHL.out, Dk.size_flush, write_size, HSZ.out]
        · rcases h2 q e with e | e
          · exact b5 q e
          · exact .inr (Nat.le_trans b6.size e)
        · rcases e with e | e
          · rcases b5 i e with e' | e'
            · exact .inl e'
            · omega
          · exact .inr e
end Go.Proofs.Ytelnoibfamcnmaa.Log

namespace Go.Proofs.Ytelnoibfamcnmaa.Log
set_option maxRecDepth 20000
open Go.RowKit
open Go.Proofs.Ytelnoibfamcnmaa.Mem Go.Proofs.Ytelnoibfamcnmaa.Crc Go.Proofs.Ytelnoibfamcnmaa.Disk Go.Proofs.Ytelnoibfamcnmaa.Reg
open Go.Proofs.Ytelnoibfamcnmaa.Rec (Tx Wt TxAt HoldsW HoldsI IsInt mayB_iff OwnsT Wide copy_any encr_any)

theorem DKnown.later {W0 wr w' : World} {m r s l n nb cb : Nat} {G0 X : Nat → Prop} {g : Lg} (h : DKnown W0 wr m r s l n G0 X g nb cb) (hb : Below wr.heap.size wr w') : DKnown W0 w' m r s l n G0 X g nb cb := by
  obtain ⟨A, c0, c, F, L, a1, a2, a3, a4, aX, a5, a6, a7, a8, a9, a10, a11, a12⟩ := h
  exact ⟨A, c0, c, F, L, a1.below hb, a2.later hb, a3, a4.turns (Turns.of_below hb) (fun _ _ e => e), (fun q e => Nat.lt_of_lt_of_le (aX q e) hb.size), a5, a6, a7, a8, a9, a10, a11, a12.trans (Turns.of_below (F := fun q => G0 q ∨ q = m) hb) (fun _ _ e => e)⟩
theorem DKnown.more {W0 wr : World} {m r s l n nb cb nb' cb' : Nat} {G0 X : Nat → Prop} {g : Lg} (h : DKnown W0 wr m r s l n G0 X g nb cb) (h1 : nb ≤ nb') (h2 : cb ≤ cb') : DKnown W0 wr m r s l n G0 X g nb' cb' := by
  obtain ⟨A, c0, c, F, L, a1, a2, a3, a4, aX, a5, a6, a7, a8⟩ := h
  exact ⟨A, c0, c, F, L, a1, a2, a3, a4, aX, a5, by omega, by omega, a8⟩

set_option maxRecDepth 100000 in
set_option maxHeartbeats 4000000 in
theorem appendr_any (W0 w : World) (m r s l n nb cb : Nat) (G0 X : Nat → Prop) (g : Lg) (h : DKnown W0 w m r s l n G0 X g nb cb) (hf : g.Fit s l n) (t : Tx) (Aw Ar : Option Addr) (nw cw nr cr B : Nat) (ht : TxAt w B t Aw nw cw Ar nr cr) (hW : Wide t)
    (hB : B ≤ w.heap.size) (hsq : g.seq ≤ 1048576) (hcb : cb + 60 < 1048576) (hnb : nb + 1 ≤ 1048576) :
    Calls Try.prog 79 #[.pointer (some ⟨m, 0, none⟩), .slice Aw nw cw, .slice Ar nr cr] w fun e w' =>
      e = .returned (.tuple #[.int .u64 ((g.app n s (l - 1) t).1 : Int), .int .i64 ((g.app n s (l - 1) t).2.1 : Int)]) ∧ DKnown W0 w' m r s l n G0 X (g.app n s (l - 1) t).2.2 (nb + 1) (cb + 60) := by
  obtain ⟨AP, hAP⟩ : ∃ AP, AP = g.app n s (l - 1) t := ⟨_, rfl⟩
  rw [← hAP]
  have HAP := Lib.hid hAP; clear hAP
  have hK := h
  obtain ⟨A, c0, c, F, L, a1, a2, a3, a4, aX, a5, a6, a7, a8, a9, a10, a11, a12⟩ := h
  obtain ⟨nl, hnl⟩ : ∃ nl, nl = L.length := ⟨_, rfl⟩
  rw [← hnl] at a1 a4 a9 a11
  have hcnt : nl = g.ts.length := by rw [hnl, ← a5, List.length_map]
  have HCNT := Lib.hid hcnt
  have HNL := Lib.hid hnl; clear hnl hcnt
  obtain ⟨g1, g2, g3, g4⟩ := hf.area
  have ht1 : TxAt w B (g.txn t) Aw nw cw Ar nr cr := ⟨ht.ws, ht.rs, by show g.seq < 18446744073709551616; omega, ht.fits, ht.intW, ht.intR⟩
  have hW1 : Wide (g.txn t) := ⟨hW.data, hW.nw, hW.nr⟩
  have hcp := copy_any (g.txn t) Aw Ar nw cw nr cr B w ht1 hW1 hB
  have e1 : ((g.txn t).seq : Int) = (g.seq : Int) := rfl
  rw [e1] at hcp
  have HCP := Lib.hid hcp; clear hcp
  have z3 := a1.cells.2.2.2.1
  have HK := Lib.hid hK; clear hK
  have HA1 := Lib.hid a1; clear a1
  have HA2 := Lib.hid a2; clear a2
  have HA4 := Lib.hid a4; clear a4
  have HTX := Lib.hid ht1; clear ht1 ht
  have HF := Lib.hid hf; clear hf
  have HWT := Lib.hid hW1; clear hW1 hW
  obtain ⟨SEQ, hSEQ⟩ : ∃ x, x = g.seq := ⟨_, rfl⟩
  rw [← hSEQ] at HCP z3 hsq HA1
  have HSEQ := Lib.hid hSEQ; clear hSEQ
  have HREST := Lib.hid (⟨a3, aX, a5, a6, a7, a8, a9, a10, a11, a12⟩ : _ ∧ _ ∧ _ ∧ _ ∧ _ ∧ _ ∧ _ ∧ _ ∧ _ ∧ _)
  clear a3 aX a5 a6 a7 a8 a9 a10 a11 a12 e1
  go_enter Try.func79, Try.ntmps79
  go_wp2_with fail
  with_reducible refine HCP.out.mono ?_
  rintro e w1 ⟨Bw, dw, Br, dr, vs, rfl, ho1, hb1⟩
  have e2 : (g.txn t).seq = SEQ := HSEQ.out.symm
  rw [e2]
  have HE2 := Lib.hid e2; clear e2
  have HO1 := Lib.hid ho1; clear ho1 HCP z3
  have HB1 := Lib.hid hb1; clear hb1
  obtain ⟨w2, hw2⟩ : ∃ w2, w2 = w1.alloc (.cells #[.int .u64 (SEQ : Int), .slice Bw nw dw, .slice Br nr dr] 67) := ⟨_, rfl⟩
  have hb2 : Below w1.heap.size w1 w2 := hw2 ▸ (Below.refl _ w1).alloc (Nat.le_refl _) _
  have hx2 : w2.heap[w1.heap.size]? = some (.cells #[.int .u64 (SEQ : Int), .slice Bw nw dw, .slice Br nr dr] 67 (0, 0)) := hw2 ▸ heap_alloc_new w1 _
  have hw2b : Below w.heap.size w w2 := HB1.out.trans (hb2.mono HB1.out.size)
  have hnw : (g.txn t).ws.length = nw := HTX.out.ws.1
  have hnr : (g.txn t).rs.length = nr := HTX.out.rs.1
  have hml : m < w.heap.size := (Array.getElem?_eq_some_iff.1 HA1.out).1
  have hkeep : ∀ V, Below w2.heap.size w2 V → DocAt V m r (s : Int) (l : Int) SEQ g.pl (.slice A nl c0) ∧ (V.cell? ⟨w1.heap.size, 0, none⟩ = some (.int .u64 (SEQ : Int)) ∧ V.cell? ⟨w1.heap.size, 1, none⟩ = some (.slice Bw nw dw) ∧ V.cell? ⟨w1.heap.size, 2, none⟩ = some (.slice Br nr dr)) ∧ TxAt V V.heap.size (g.txn t) Bw nw dw Br nr dr := fun V hV => by
    have hwV := hw2b.trans (hV.mono hw2b.size)
    have hx := (hV.block _ (Array.getElem?_eq_some_iff.1 hx2).1).trans hx2
    refine ⟨HA1.out.below hwV, ⟨cell_of_row V _ 0 _ _ _ hx, cell_of_row V _ 1 _ _ _ hx, cell_of_row V _ 2 _ _ _ hx⟩, ?_⟩
    have hk := HO1.out.kept (w' := V) (fun q h1 h2 => by
      have := hb2.size
      exact (hV.block q (by omega)).trans (hb2.block q h2))
    have ht := owns_txat hk HTX.out.seq (by rw [hnw]; have := HTX.out.fits; omega) (by rw [hnr]; have := HTX.out.fits; omega) HTX.out.intW HTX.out.intR
    rw [hnw, hnr] at ht
    exact ht
  have HKEEP := Lib.hid hkeep; clear hkeep
  have hpbf : ∀ V, Below w2.heap.size w2 V → w.heap.size ≤ w1.heap.size ∧ w1.heap.size < V.heap.size := fun V hV => ⟨HB1.out.size, Nat.lt_of_lt_of_le (Array.getElem?_eq_some_iff.1 hx2).1 hV.size⟩
  have HPB := Lib.hid hpbf; clear hpbf
  have hb18 : ∀ V, Below w2.heap.size w2 V → w1.heap.size ≤ V.heap.size ∧ ∀ q, q < w1.heap.size → V.heap[q]? = w1.heap[q]? := fun V hV => ⟨Nat.le_trans hb2.size hV.size, fun q hq => (hV.block q (by have := hb2.size; omega)).trans (hb2.block q hq)⟩
  have HB18 := Lib.hid hb18; clear hb18
  have HW2B := Lib.hid hw2b; clear hw2b hb2 hx2
  obtain ⟨pb, hpb⟩ : ∃ pb, pb = w1.heap.size := ⟨_, rfl⟩
  have hsize : ∀ V, Below w2.heap.size w2 V → Calls Try.prog 31 #[.pointer (some ⟨r, 0, none⟩)] V fun e w' => e = .returned (.int .i64 (n : Int)) ∧ V = w' := fun V hV => by
    have := rsize_d g.d r c F V (HA2.out.later (HW2B.out.trans (hV.mono HW2B.out.size)))
    rwa [HREST.out.1] at this
  have hfair : ∀ V, Below w2.heap.size w2 V → Calls Try.prog 104 #[.agg #[.int .u64 (SEQ : Int), .slice Bw nw dw, .slice Br nr dr], .int .i64 (n : Int), .int .i64 (s : Int), .int .i64 (l : Int)] V fun e w' => e = .returned (.bool (g.fair n s (l - 1) t)) ∧ Below V.heap.size V w' := fun V hV => by
    have := fairr_any (g.txn t) Bw Br nw dw nr dr V.heap.size V (HKEEP.out V hV).2.2 (Nat.le_refl _) n s l (s : Int) rfl g1 g2 (by omega)
    rwa [HE2.out] at this
  have HSIZE := Lib.hid hsize; clear hsize
  have HFAIR := Lib.hid hfair; clear hfair
  rw [← hpb] at HKEEP HPB
  have hcl := (HKEEP.out w2.drew (Below.refl _ w2).drew)
  have hS : (w2.drew.cell? ⟨pb, 0, none⟩ = some (.int .u64 (SEQ : Int)) ∧ w2.drew.cell? ⟨pb, 1, none⟩ = some (.slice Bw nw dw) ∧ w2.drew.cell? ⟨pb, 2, none⟩ = some (.slice Br nr dr)) ∧ w2.drew.cell? ⟨m, 0, none⟩ = some (.pointer (some ⟨r, 0, none⟩)) ∧ w2.drew.cell? ⟨m, 1, none⟩ = some (.int .i64 (s : Int)) ∧ w2.drew.cell? ⟨m, 2, none⟩ = some (.int .i64 (l : Int)) := ⟨hcl.2.1, hcl.1.cells.1, hcl.1.cells.2.1, hcl.1.cells.2.2.1⟩
  clear hcl
  have HW2 := Lib.hid hw2; clear hw2
  have hd2 : Below w2.heap.size w2 w2.drew := (Below.refl _ w2).drew
  go_wp2_with fail
  rw [← HW2.out, ← hpb]
  clear hpb HW2
  go_region_held (fun V : World => (V.cell? ⟨pb, 0, none⟩ = some (.int .u64 (SEQ : Int)) ∧ V.cell? ⟨pb, 1, none⟩ = some (.slice Bw nw dw) ∧ V.cell? ⟨pb, 2, none⟩ = some (.slice Br nr dr)) ∧ V.cell? ⟨m, 0, none⟩ = some (.pointer (some ⟨r, 0, none⟩)) ∧ V.cell? ⟨m, 1, none⟩ = some (.int .i64 (s : Int)) ∧ V.cell? ⟨m, 2, none⟩ = some (.int .i64 (l : Int))) (assumption)
    (first
      | (go_at_call 31
         have hcall := HSIZE.out _ hd2
         with_reducible refine hcall.mono ?_
         rintro e V5 ⟨rfl, rfl⟩
         clear hcall)
      | (go_at_call 104
         have hcall := HFAIR.out _ hd2
         with_reducible refine hcall.mono ?_
         rintro e V6 ⟨rfl, hb6⟩
         clear hcall hS
         have hd6 := hd2.trans (hb6.mono hd2.size)
         have hcl := HKEEP.out V6 hd6
         have hS6 : (V6.cell? ⟨pb, 0, none⟩ = some (.int .u64 (SEQ : Int)) ∧ V6.cell? ⟨pb, 1, none⟩ = some (.slice Bw nw dw) ∧ V6.cell? ⟨pb, 2, none⟩ = some (.slice Br nr dr)) ∧ V6.cell? ⟨m, 0, none⟩ = some (.pointer (some ⟨r, 0, none⟩)) ∧ V6.cell? ⟨m, 1, none⟩ = some (.int .i64 (s : Int)) ∧ V6.cell? ⟨m, 2, none⟩ = some (.int .i64 (l : Int)) := ⟨hcl.2.1, hcl.1.cells.1, hcl.1.cells.2.1, hcl.1.cells.2.2.1⟩
         have HD6 := Lib.hid hd6
         clear hcl hb6 hd6))
  all_goals
    obtain ⟨⟨k0, k1, k2⟩, -⟩ := hS6
    clear HSIZE HFAIR
    cases hfr : g.fair n s (l - 1) t
    · have happ : g.app n s (l - 1) t = (0, 17, g) := by unfold Lg.app; rw [hfr]; rfl
      obtain rfl : AP = (0, 17, g) := by rw [HAP.out]; exact happ
      have hfin := (HK.out.later (HW2B.out.trans (HD6.out.mono HW2B.out.size))).more (Nat.le_succ nb) (show cb ≤ cb + 60 by omega)
      have HFIN := Lib.hid hfin; clear hfin hfr happ k0 k1 k2
      go_wp2
      go_ret2
      exact ⟨rfl, HFIN.out⟩
    · have hused : g.used = usedOf (L.map (·.t)) := by rw [HREST.out.2.2.1]; exact HF.out.used
      have hroom := HF.out.room
      have hlv6 : ∃ G6, Live V6 G6 n s (l - 1) (.slice A nl c0) nl L := ⟨_, HA4.out.turns (Turns.of_below (HW2B.out.trans (HD6.out.mono HW2B.out.size))) (fun _ _ e => e)⟩
      obtain ⟨G6, hlv6⟩ := hlv6
      have hrm := roomr_any m r l SEQ g.pl nl c0 n s (l - 1) (s : Int) A V6 G6 L (HKEEP.out V6 HD6.out).1 hlv6 (by omega) g2 (by rw [← hused]; omega) (by have := HREST.out.2.2.2.2.1; have := HCNT.out; omega)
      rw [← hused] at hrm
      clear hused
      have HRM := Lib.hid hrm; clear hrm hlv6
      have hnw58 := (fair_wide hfr).2.2.2.1
      have hnwt : t.ws.length = nw := hnw
      rw [hnwt] at hnw58
      go_wp2_with fail
      with_reducible refine HRM.out.mono ?_
      rintro e V7 ⟨rfl, hb7⟩
      have HD7 := Lib.hid (HD6.out.trans (hb7.mono HD6.out.size)); clear HD6 hb7 HRM
      have hwn : IntKind.i64.wrap ((nw : Int) + 2) = (nw : Int) + 2 := IntWalk.i64_in _ (by omega)
      by_cases hfit : g.used + (nw + 2) ≤ l - 1
      · have happ : g.app n s (l - 1) t = (g.seq, 0, g.add s (l - 1) t) := by unfold Lg.app; rw [hfr, if_pos rfl, if_pos (by rw [hnwt]; exact hfit)]
        obtain rfl : AP = (g.seq, 0, g.add s (l - 1) t) := by rw [HAP.out]; exact happ
        have hq : ¬ (l : Int) - 1 - (g.used : Int) < (nw : Int) + 2 := by omega
        clear k0 k1 k2
        have hq : ¬ (l : Int) - 1 - (g.used : Int) < (nw : Int) + 2 := by omega
        obtain ⟨hdc7, ⟨k0, k1, k2⟩, htx7⟩ := HKEEP.out V7 HD7.out
        have henc := encr_any (g.txn t) Bw Br nw dw nr dr V7.heap.size V7 htx7 (Nat.le_refl _)
        rw [HE2.out] at henc
        have hmay := (fair_wide hfr).2.1
        have hel := Go.Proofs.Ytelnoibfamcnmaa.Rec.enc_len (g.txn t) ((mayB_iff _).1 hmay)
        rw [hnw] at hel
        have HENC := Lib.hid henc; clear henc htx7 hdc7
        go_wp2_with fail
        with_reducible refine HENC.out.mono ?_
        rintro e w8 (⟨hno, -⟩ | ⟨-, A5, c5, rfl, ho5, hb8⟩)
        · rw [hmay] at hno; cases hno
        have hD8 := HD7.out.trans (hb8.mono HD7.out.size)
        obtain ⟨gb, cap, cur, hv5, hgb, hgl, -, hcap, hcapm, -, -⟩ := Go.Proofs.Ytelnoibfamcnmaa.Rec.Owned.cut ho5 (by rw [hel]; omega)
        injection hv5 with e1 _ e3
        subst e1 e3
        have hh5 := Go.Proofs.Ytelnoibfamcnmaa.Rec.Owned.reads ho5
        rw [hel] at hh5 hcap ⊢
        obtain ⟨EN, hEN⟩ : ∃ EN, EN = (g.txn t).enc := ⟨_, rfl⟩
        rw [← hEN] at hh5
        have hFw : ∀ q, F q → q < w.heap.size := fun q hq => HA2.out.lt q hq
        have hw7 : w.heap.size ≤ V7.heap.size := Nat.le_trans HW2B.out.size HD7.out.size
        have hparts : ∀ V, Turns (fun q => F q ∨ q = m) w8 V → ∀ i, i < nw + 2 → Holds V V.heap.size (some ⟨gb, 256 * i, none⟩) 256 ((EN.drop (256 * i)).take 256) := fun V hV i hi => by
          have hblk : V.heap[gb]? = w8.heap[gb]? := hV.block gb hgl (fun e => by
            rcases e with e | e
            · have := hFw gb e; omega
            · omega)
          have hV5 : Holds V V.heap.size (some ⟨gb, 0, none⟩) (256 * (nw + 2)) EN := ⟨hh5.1, fun h0 => by
            obtain ⟨b, off, e, hl, hc⟩ := hh5.2 h0
            injection e with e
            injection e with e1 e2
            subst e1 e2
            refine ⟨_, _, rfl, Nat.lt_of_lt_of_le hl hV.size, fun j hj => ?_⟩
            rw [← hc j hj]
            simp only [World.cell?, hblk]⟩
          have := Go.Proofs.Ytelnoibfamcnmaa.Rec.Holds.drop (k := 256 * i) (m := 256) hV5 (by omega)
          rwa [Nat.zero_add] at this
        have HPARTS := Lib.hid hparts; clear hparts hh5 ho5
        have hdoc8 := (HKEEP.out w8 hD8).1
        obtain ⟨CH, hCH⟩ : ∃ CH, CH = chunksOf EN (nw + 2) := ⟨_, rfl⟩
        have hCHl : CH.length = nw + 2 := by rw [hCH]; simp [chunksOf]
        have hCHi : ∀ i, i < nw + 2 → CH[i]? = some ((EN.drop (256 * i)).take 256) := fun i hi => by
          rw [hCH]; unfold chunksOf
          rw [List.getElem?_map, List.getElem?_eq_getElem (by rw [List.length_finRange]; exact hi)]
          simp [cutB]
        have HCHI := Lib.hid hCHi; clear hCHi
        have HCHL := Lib.hid hCHl; clear hCHl
        have HCH := Lib.hid hCH; clear hCH
        have HEN := Lib.hid hEN; clear hEN
        have HDOC8 := Lib.hid hdoc8; clear hdoc8
        have HB8 := Lib.hid hb8; clear hb8
        have HD8 := Lib.hid hD8; clear hD8
        have HRD8 : Hid (RefDisk w8 r g.d c F) := Lib.hid (HA2.out.later (HW2B.out.trans (HD8.out.mono HW2B.out.size)))
        have HPUT : Hid (∀ i, (putL s (l - 1) g.d g.pl (CH.take i)).1.stable.length = n ∧ (putL s (l - 1) g.d g.pl (CH.take i)).2 < l - 1) := Lib.hid (fun i => by
          have := putL_size s (l - 1) g.d g.pl (CH.take i) (by omega) HF.out.place
          rw [HREST.out.1] at this; exact this)
        have hgp : Hid (w.heap.size ≤ gb) := Lib.hid (by omega)
        clear k0 k1 k2 HENC
        go_wp2
        go_loopw [11] (fun iv wr => ∃ (i : Nat) (F' : Nat → Prop), i ≤ nw + 2 ∧ iv = .int .i64 (i : Int) ∧ DocAt wr m r (s : Int) (l : Int) SEQ (putL s (l - 1) g.d g.pl (CH.take i)).2 (.slice A nl c0) ∧ RefDisk wr r (putL s (l - 1) g.d g.pl (CH.take i)).1 (c + i) F' ∧ (∀ q, F' q → F q ∨ w8.heap.size ≤ q) ∧ Turns (fun q => F q ∨ q = m) w8 wr) (fun iv _ => nw + 2 - (intOf iv).toNat)
        case atStart => exact ⟨0, F, Nat.zero_le _, rfl, HDOC8.out, HRD8.out, (fun q e => .inl e), Turns.refl _ _⟩
        case round =>
          obtain ⟨i, F', hi, rfl, hdoc, hrd, hF', hT⟩ := hrel
          rcases Nat.lt_or_ge i (nw + 2) with hlt | hge
          · have hltI : (i : Int) < (nw : Int) + 2 := by omega
            obtain ⟨hpn, hpl⟩ := HPUT.out i
            obtain ⟨DI, hDI⟩ : ∃ DI, DI = (putL s (l - 1) g.d g.pl (CH.take i)).1 := ⟨_, rfl⟩
            obtain ⟨PLI, hPLI⟩ : ∃ PLI, PLI = (putL s (l - 1) g.d g.pl (CH.take i)).2 := ⟨_, rfl⟩
            have hnext : putL s (l - 1) g.d g.pl (CH.take (i + 1)) = (DI.write (s + 1 + PLI) ((EN.drop (256 * i)).take 256), (PLI + 1) % (l - 1)) := by
              have hx := HCHI.out i hlt
              obtain ⟨hl, hx⟩ := List.getElem?_eq_some_iff.1 hx
              rw [List.take_succ_eq_append_getElem hl, putL_snoc, hx, hDI, hPLI]; rfl
            rw [← hDI] at hrd hpn
            rw [← hPLI] at hdoc hpl
            have HNEXT := Lib.hid hnext; clear hnext hDI hPLI
            have hh := HPARTS.out wr.drew hT.drew i hlt
            have hwrt : Calls Try.prog 39 #[.pointer (some ⟨r, 0, none⟩), .int .i64 ((s : Int) + 1 + (PLI : Int)), .slice (some ⟨gb, i * 256, none⟩) 256 (c5 - i * 256)] wr.drew (RNow wr.drew r (DI.write (s + 1 + PLI) ((EN.drop (256 * i)).take 256)) (c + i + 1) F' (.int .i64 0)) := by
              have := rwrite_d (s + 1 + PLI) (some ⟨gb, i * 256, none⟩) (c5 - i * 256) wr.drew.heap.size ((EN.drop (256 * i)).take 256) DI r (c + i) F' wr.drew (hrd.later (Below.refl _ wr).drew) (by have := HREST.out.2.2.2.1; omega) (by rw [hpn]; omega) (by rw [Nat.mul_comm i 256]; exact hh) (Nat.le_refl _)
              rwa [show ((s + 1 + PLI : Nat) : Int) = (s : Int) + 1 + (PLI : Int) by omega] at this
            have HWRT := Lib.hid hwrt; clear hwrt hh
            have hw1 : IntKind.i64.wrap ((s : Int) + 1) = (s : Int) + 1 := IntWalk.i64_in _ (by omega)
            have hw2 : IntKind.i64.wrap ((s : Int) + 1 + (PLI : Int)) = (s : Int) + 1 + (PLI : Int) := IntWalk.i64_in _ (by omega)
            have hw3 : IntKind.i64.wrap ((i : Int) * 256) = (i : Int) * 256 := IntWalk.i64_in _ (by omega)
            have hw4 : IntKind.i64.wrap ((i : Int) * 256 + 256) = (i : Int) * 256 + 256 := IntWalk.i64_in _ (by omega)
            have hsl := fun W => run_slice_blk W gb (256 * (nw + 2)) c5 (i * 256) ((i : Int) * 256) ((i : Int) * 256 + 256) (by omega) (by omega) (by omega) hcap
            have hcl := hdoc.cells
            have hS : wr.drew.cell? ⟨m, 0, none⟩ = some (.pointer (some ⟨r, 0, none⟩)) ∧ wr.drew.cell? ⟨m, 1, none⟩ = some (.int .i64 (s : Int)) ∧ wr.drew.cell? ⟨m, 4, none⟩ = some (.int .i64 (PLI : Int)) := ⟨hcl.1, hcl.2.1, hcl.2.2.2.2.1⟩
            have hapm : ¬ F' m := fun e => by
              rcases hF' m e with e | e
              · exact HREST.out.2.2.2.2.2.1 e
              · have := HD8.out.size; have := HW2B.out.size; omega
            have HAPM := Lib.hid hapm; clear hapm
            have HDOC := Lib.hid hdoc; clear hdoc hcl
            have HF' := Lib.hid hF'; clear hF'
            have HT := Lib.hid hT; clear hT hrd
            go_wp2_with fail
            go_region_held (fun V : World => V.cell? ⟨m, 0, none⟩ = some (.pointer (some ⟨r, 0, none⟩)) ∧ V.cell? ⟨m, 1, none⟩ = some (.int .i64 (s : Int)) ∧ V.cell? ⟨m, 4, none⟩ = some (.int .i64 (PLI : Int))) (assumption)
              (first
                | (go_at_call 39
                   have hcall := HWRT.out
                   refine Calls.mono hcall ?_
                   rintro e V9 ⟨F9, rfl, hr9, hf9, hT9⟩
                   clear hcall hS
                   have hd9 : DocAt V9 m r (s : Int) (l : Int) SEQ PLI (.slice A nl c0) := (hT9.block m (Array.getElem?_eq_some_iff.1 HDOC.out).1 HAPM.out).trans HDOC.out
                   have hcl := hd9.cells
                   have hS9 : V9.cell? ⟨m, 0, none⟩ = some (.pointer (some ⟨r, 0, none⟩)) ∧ V9.cell? ⟨m, 1, none⟩ = some (.int .i64 (s : Int)) ∧ V9.cell? ⟨m, 4, none⟩ = some (.int .i64 (PLI : Int)) := ⟨hcl.1, hcl.2.1, hcl.2.2.2.2.1⟩
                   have HD9 := Lib.hid hd9
                   have HR9 := Lib.hid hr9
                   have HF9 := Lib.hid hf9
                   have HT9 := Lib.hid hT9
                   clear hcl hd9 hr9 hf9 hT9))
            all_goals
              clear hS9 HWRT
              have hS : V9.drew.cell? ⟨m, 2, none⟩ = some (.int .i64 (l : Int)) ∧ V9.drew.cell? ⟨m, 4, none⟩ = some (.int .i64 (PLI : Int)) := ⟨HD9.out.cells.2.2.1, HD9.out.cells.2.2.2.2.1⟩
              have f4 : V9.drew.frozen? ⟨m, 4, none⟩ = false := frozen_of_row V9 m 4 _ _ HD9.out
              have hw5 : IntKind.i64.wrap ((PLI : Int) + 1) = (PLI : Int) + 1 := IntWalk.i64_in _ (by omega)
              have hw6 : IntKind.i64.wrap ((l : Int) - 1) = (l : Int) - 1 := IntWalk.i64_in _ (by omega)
              have hl1 : ¬ (l : Int) - 1 = 0 := by omega
              go_wp2_with fail
              refine wp_region_E (fun V : World => V.cell? ⟨m, 2, none⟩ = some (.int .i64 (l : Int)) ∧ V.cell? ⟨m, 4, none⟩ = some (.int .i64 (PLI : Int))) 14 (by kernel_rfl) ?_
              refine wpE_take 0 ⟨some 76, _, _, _, _, _⟩ (v := ?_) [12, 13, 14] rfl (by kernel_rfl) (by kernel_rfl) (by kernel_rfl) (by kernel_rfl) (fun _ _ _ h => h) hS (Or.inl ⟨by rfl, ?_⟩) ?_
              rotate_left
              · (intro V hSw; obtain ⟨s2, s4⟩ := hSw; go_simp; try with_reducible rfl)
              simp only [Act.put]
              refine wpE_take 1 ⟨some 77, _, _, _, _, _⟩ (v := ?_) [2, 3, 4, 5, 11, 12, 13, 14] rfl (by kernel_rfl) (by kernel_rfl) (by kernel_rfl) (by kernel_rfl) (fun _ _ _ h => h) hS (Or.inl ⟨by rfl, ?_⟩) ?_
              rotate_left
              · (intro V hSw; obtain ⟨s2, s4⟩ := hSw; go_simp; try with_reducible rfl)
              simp only [Act.put]
              refine wpE_take 2 ⟨some 78, _, _, _, _, _⟩ (v := ?_) [3, 4, 5, 11, 12, 13, 14] rfl (by kernel_rfl) (by kernel_rfl) (by kernel_rfl) (by kernel_rfl) (fun _ _ _ h => h) hS (Or.inl ⟨by rfl, ?_⟩) ?_
              rotate_left
              · (intro V hSw; obtain ⟨s2, s4⟩ := hSw; go_simp; try with_reducible rfl)
              simp only [Act.put]
              refine wpE_take 3 ⟨some 79, _, _, _, _, _⟩ (v := ?_) [4, 5, 11, 12, 13, 14] rfl (by kernel_rfl) (by kernel_rfl) (by kernel_rfl) (by kernel_rfl) (fun _ _ _ h => h) hS (Or.inl ⟨by rfl, ?_⟩) ?_
              rotate_left
              · (intro V hSw; obtain ⟨s2, s4⟩ := hSw; go_simp; try with_reducible rfl)
              simp only [Act.put]
              refine wpE_take 4 ⟨some 80, _, _, _, _, _⟩ (v := ?_) [5, 11, 12, 13, 14] rfl (by kernel_rfl) (by kernel_rfl) (by kernel_rfl) (by kernel_rfl) (fun _ _ _ h => h) hS (Or.inl ⟨by rfl, ?_⟩) ?_
              rotate_left
              · (intro V hSw; obtain ⟨s2, s4⟩ := hSw; go_simp; try with_reducible rfl)
              simp only [Act.put]
              refine wpE_take 5 ⟨some 81, _, _, _, _, _⟩ (v := ?_) [11, 12, 13, 14] rfl (by kernel_rfl) (by kernel_rfl) (by kernel_rfl) (by kernel_rfl) (fun _ _ _ h => h) hS (Or.inl ⟨by rfl, ?_⟩) ?_
              rotate_left
              · (intro V hSw; obtain ⟨s2, s4⟩ := hSw; go_simp; try with_reducible rfl)
              simp only [Act.put]
              refine wpE_take 6 ⟨some 82, _, _, _, _, _⟩ (v := ?_) [7, 8, 9, 10, 11, 12, 13, 14] rfl (by kernel_rfl) (by kernel_rfl) (by kernel_rfl) (by kernel_rfl) (fun _ _ _ h => h) hS (Or.inl ⟨by rfl, ?_⟩) ?_
              rotate_left
              · (intro V hSw; obtain ⟨s2, s4⟩ := hSw; go_simp; try with_reducible rfl)
              simp only [Act.put]
              refine wpE_take 7 ⟨some 83, _, _, _, _, _⟩ (v := ?_) [8, 9, 10, 11, 12, 13, 14] rfl (by kernel_rfl) (by kernel_rfl) (by kernel_rfl) (by kernel_rfl) (fun _ _ _ h => h) hS (Or.inl ⟨by rfl, ?_⟩) ?_
              rotate_left
              · (intro V hSw; obtain ⟨s2, s4⟩ := hSw; go_simp; try with_reducible rfl)
              simp only [Act.put]
              refine wpE_take 8 ⟨some 84, _, _, _, _, _⟩ (v := ?_) [9, 10, 11, 12, 13, 14] rfl (by kernel_rfl) (by kernel_rfl) (by kernel_rfl) (by kernel_rfl) (fun _ _ _ h => h) hS (Or.inl ⟨by rfl, ?_⟩) ?_
              rotate_left
              · (intro V hSw; obtain ⟨s2, s4⟩ := hSw; go_simp; try with_reducible rfl)
              simp only [Act.put]
              refine wpE_take 9 ⟨some 85, _, _, _, _, _⟩ (v := ?_) [10, 11, 12, 13, 14] rfl (by kernel_rfl) (by kernel_rfl) (by kernel_rfl) (by kernel_rfl) (fun _ _ _ h => h) hS (Or.inl ⟨by rfl, ?_⟩) ?_
              rotate_left
              · (intro V hSw; obtain ⟨s2, s4⟩ := hSw; go_simp; try with_reducible rfl)
              simp only [Act.put]
              refine wpE_take 10 ⟨some 86, _, _, _, _, _⟩ (v := ?_) [11, 12, 13, 14] rfl (by kernel_rfl) (by kernel_rfl) (by kernel_rfl) (by kernel_rfl) (fun _ _ _ h => h) hS (Or.inl ⟨by rfl, ?_⟩) ?_
              rotate_left
              · (intro V hSw; obtain ⟨s2, s4⟩ := hSw; go_simp; try with_reducible rfl)
              simp only [Act.put]
              refine wpE_take 11 ⟨some 87, _, _, _, _, _⟩ (v := ?_) [12, 13, 14] rfl (by kernel_rfl) (by kernel_rfl) (by kernel_rfl) (by kernel_rfl) (fun _ _ _ h => h) hS (Or.inl ⟨by rfl, ?_⟩) ?_
              rotate_left
              · (intro V hSw; obtain ⟨s2, s4⟩ := hSw; go_simp; try with_reducible rfl)
              simp only [Act.put]
              refine wpE_take 12 ⟨some 88, _, _, _, _, _⟩ (v := ?_) [13, 14] rfl (by kernel_rfl) (by kernel_rfl) (by kernel_rfl) (by kernel_rfl) (fun _ _ _ h => h) hS (Or.inl ⟨by rfl, ?_⟩) ?_
              rotate_left
              · (intro V hSw; obtain ⟨s2, s4⟩ := hSw; go_simp; try with_reducible rfl)
              simp only [Act.put]
              refine wpE_take 13 ⟨some 89, _, _, _, _, _⟩ (v := ?_) [14] rfl (by kernel_rfl) (by kernel_rfl) (by kernel_rfl) (by kernel_rfl) (fun _ _ _ h => h) hS (Or.inl ⟨by rfl, ?_⟩) ?_
              rotate_left
              · (intro V hSw; obtain ⟨s2, s4⟩ := hSw; go_simp; try with_reducible rfl)
              simp only [Act.put]
              refine wpE_last (by kernel_rfl) rfl (fun K hK => ?_)
              go_simp
              refine hK.out _ _ ?_
              clear hK K
              refine wpE_done (by kernel_rfl) ?_ _
              have hmod : ((PLI : Int) + 1).tmod ((l : Int) - 1) = (((PLI + 1) % (l - 1) : Nat) : Int) := by
                rw [show (PLI : Int) + 1 = ((PLI + 1 : Nat) : Int) by omega, show (l : Int) - 1 = ((l - 1 : Nat) : Int) by omega]; rfl
              have hnF9 : ¬ F9 m := fun e => by
                rcases HF9.out m e with e | e
                · exact HAPM.out e
                · have := HD9.out; have h1 := (Array.getElem?_eq_some_iff.1 HDOC.out).1; exact absurd (show wr.heap.size ≤ m from e) (by omega)
              have hdr : DocAt (V9.setCell ⟨m, 4, none⟩ (.int .i64 (((PLI : Int) + 1).tmod ((l : Int) - 1)))) m r (s : Int) (l : Int) SEQ (putL s (l - 1) g.d g.pl (CH.take (i + 1))).2 (.slice A nl c0) := by
                rw [HNEXT.out, hmod]
                exact heap_setCell_same V9 m 4 _ _ _ HD9.out
              have hT1 : Turns (fun q => q = m) V9 (V9.setCell ⟨m, 4, none⟩ (.int .i64 (((PLI : Int) + 1).tmod ((l : Int) - 1)))) := (Turns.refl (fun q => q = m) V9).setCell (p := ⟨m, 4, none⟩) (fun _ => rfl) _
              have hrr : RefDisk (V9.setCell ⟨m, 4, none⟩ (.int .i64 (((PLI : Int) + 1).tmod ((l : Int) - 1)))) r (putL s (l - 1) g.d g.pl (CH.take (i + 1))).1 (c + (i + 1)) F9 := by
                rw [HNEXT.out]
                exact HR9.out.turns hT1 (fun k hk e => hnF9 (e ▸ hk))
              have hTt : Turns (fun q => F q ∨ q = m) w8 (V9.setCell ⟨m, 4, none⟩ (.int .i64 (((PLI : Int) + 1).tmod ((l : Int) - 1)))) := ((HT.out.drew).trans HT9.out (fun k hk e => by
                rcases HF'.out k e with e | e
                · exact .inl e
                · omega)).trans hT1 (fun _ _ e => .inr e)
              have hff : ∀ q, F9 q → F q ∨ w8.heap.size ≤ q := fun q e => by
                rcases HF9.out q e with e | e
                · exact HF'.out q e
                · exact .inr (Nat.le_trans HT.out.size e)
              generalize V9.setCell ⟨m, 4, none⟩ (.int .i64 (((PLI : Int) + 1).tmod ((l : Int) - 1))) = VN at hdr hrr hTt hT1 ⊢
              have HDR := Lib.hid hdr
              have HRR := Lib.hid hrr
              have HTT := Lib.hid hTt
              have HFF := Lib.hid hff
              clear hdr hrr hTt hff hT1 hS f4 hw1 hw2 hw3 hw4 hw5 hw6 hl1 hsl hmod
              go_wp2
              go_roundw
              case rel => exact ⟨i + 1, F9, by omega, by go_num, HDR.out, HRR.out.later (Below.refl _ VN).drew, HFF.out, HTT.out.drew⟩
              case measure => simp [intOf]; omega
          · obtain rfl : i = nw + 2 := by omega
            rw [List.take_of_length_le (by rw [HCHL.out]; exact Nat.le_refl _)] at hdoc hrd
            obtain ⟨hpn, hpl⟩ := HPUT.out (nw + 2)
            rw [List.take_of_length_le (by rw [HCHL.out]; exact Nat.le_refl _)] at hpn hpl
            have hltI : ¬ ((nw + 2 : Nat) : Int) < (nw : Int) + 2 := by omega
            obtain ⟨ST, hST⟩ : ∃ ST, ST = putL s (l - 1) g.d g.pl CH := ⟨_, rfl⟩
            rw [← hST] at hdoc hrd hpn hpl
            have HST := Lib.hid hST; clear hST
            have hbox8 := (HKEEP.out w8 HD8.out).2.1
            have hpbw : w.heap.size ≤ pb ∧ pb < w8.heap.size := HPB.out w8 HD8.out
            have hbblk : wr.heap[pb]? = w8.heap[pb]? := hT.block pb hpbw.2 (fun e => by
              rcases e with e | e
              · have := hFw pb e; omega
              · omega)
            have hboxr : ∀ V, Below wr.heap.size wr V → V.cell? ⟨pb, 0, none⟩ = some (.int .u64 (SEQ : Int)) ∧ V.cell? ⟨pb, 1, none⟩ = some (.slice Bw nw dw) ∧ V.cell? ⟨pb, 2, none⟩ = some (.slice Br nr dr) := fun V hV => by
              have hb : V.heap[pb]? = w8.heap[pb]? := (hV.block pb (Nat.lt_of_lt_of_le hpbw.2 hT.size)).trans hbblk
              have e : ∀ k, V.cell? ⟨pb, k, none⟩ = w8.cell? ⟨pb, k, none⟩ := fun k => by simp only [World.cell?, hb]
              rw [e, e, e]; exact hbox8
            have hvw : ∀ k, (Value.slice A nl c0).ownBlock = some k → k < w.heap.size := fun k hk => HA4.out.row.lt hk
            have hrow : Row wr 67 3 (.slice A nl c0) nl (L.flatMap LiveRec.cells) := (HA4.out.row.turns (Turns.of_below (F := fun _ => False) (HW2B.out.trans (HD8.out.mono HW2B.out.size))) (fun _ _ e => e)).turns hT (fun k hk e => by
              have h9 := HREST.out.2.2.2.2.2.2.1 k hk
              rcases e with e | e
              · exact h9.1 e
              · exact h9.2 e)
            have HROW := Lib.hid hrow; clear hrow
            have HDOC := Lib.hid hdoc; clear hdoc
            have HRD := Lib.hid hrd; clear hrd
            have HF' := Lib.hid hF'; clear hF'
            have HT := Lib.hid hT; clear hT hbblk hbox8
            have hmr : m < wr.heap.size := (Array.getElem?_eq_some_iff.1 HDOC.out).1
            have hkS : ∀ V, Below wr.heap.size wr V → (fun V : World => V.cell? ⟨m, 5, none⟩ = some (.slice A nl c0) ∧ V.cell? ⟨pb, 0, none⟩ = some (.int .u64 (SEQ : Int)) ∧ V.cell? ⟨pb, 1, none⟩ = some (.slice Bw nw dw) ∧ V.cell? ⟨pb, 2, none⟩ = some (.slice Br nr dr)) V := fun V hV => ⟨(HDOC.out.below hV).cells.2.2.2.2.2, hboxr V hV⟩
            have HKS := Lib.hid hkS; clear hkS
            have hS := HKS.out wr.drew (Below.refl _ wr).drew
            have HBXR := Lib.hid hboxr; clear hboxr
            go_wp2_with fail
            refine wp_region_E (fun V : World => V.cell? ⟨m, 5, none⟩ = some (.slice A nl c0) ∧ V.cell? ⟨pb, 0, none⟩ = some (.int .u64 (SEQ : Int)) ∧ V.cell? ⟨pb, 1, none⟩ = some (.slice Bw nw dw) ∧ V.cell? ⟨pb, 2, none⟩ = some (.slice Br nr dr)) 10 (by kernel_rfl) ?_
            refine wpE_take 0 ⟨some 90, _, _, _, _, _⟩ (v := ?_) [8, 9, 10] rfl (by kernel_rfl) (by kernel_rfl) (by kernel_rfl) (by kernel_rfl) (fun _ _ _ h => h) hS (Or.inl ⟨by rfl, ?_⟩) ?_
            rotate_left
            · (intro V hSw; obtain ⟨s5, b0, b1, b2⟩ := hSw; go_simp; try with_reducible rfl)
            simp only [Act.put]
            refine wpE_take 1 ⟨some 91, _, _, _, _, _⟩ (v := ?_) [2, 3, 4, 7, 8, 9, 10] rfl (by kernel_rfl) (by kernel_rfl) (by kernel_rfl) (by kernel_rfl) (fun _ _ _ h => h) hS (Or.inl ⟨by rfl, ?_⟩) ?_
            rotate_left
            · (intro V hSw; obtain ⟨s5, b0, b1, b2⟩ := hSw; go_simp; try with_reducible rfl)
            simp only [Act.put]
            refine wpE_take 2 ⟨some 92, _, _, _, _, _⟩ (v := ?_) [3, 4, 7, 8, 9, 10] rfl (by kernel_rfl) (by kernel_rfl) (by kernel_rfl) (by kernel_rfl) (fun _ _ _ h => h) hS (Or.inl ⟨by rfl, ?_⟩) ?_
            rotate_left
            · (intro V hSw; obtain ⟨s5, b0, b1, b2⟩ := hSw; go_simp; try with_reducible rfl)
            simp only [Act.put]
            refine wpE_take 3 ⟨some 93, _, _, _, _, _⟩ (v := ?_) [4, 7, 8, 9, 10] rfl (by kernel_rfl) (by kernel_rfl) (by kernel_rfl) (by kernel_rfl) (fun _ _ _ h => h) hS (Or.inl ⟨by rfl, ?_⟩) ?_
            rotate_left
            · (intro V hSw; obtain ⟨s5, b0, b1, b2⟩ := hSw; go_simp; try with_reducible rfl)
            simp only [Act.put]
            refine wpE_take 4 ⟨some 94, _, _, _, _, _⟩ (v := ?_) [7, 8, 9, 10] rfl (by kernel_rfl) (by kernel_rfl) (by kernel_rfl) (by kernel_rfl) (fun _ _ _ h => h) hS (Or.inl ⟨by rfl, ?_⟩) ?_
            rotate_left
            · (intro V hSw; obtain ⟨s5, b0, b1, b2⟩ := hSw; go_simp; try with_reducible rfl)
            simp only [Act.put]
            refine wpE_take 5 ⟨some 95, _, _, _, _, _⟩ (v := ?_) [6, 7, 8, 9, 10] rfl (by kernel_rfl) (by kernel_rfl) (by kernel_rfl) (by kernel_rfl) (fun _ _ _ h => h) hS (Or.inl ⟨by rfl, ?_⟩) ?_
            rotate_left
            · (intro V hSw; obtain ⟨s5, b0, b1, b2⟩ := hSw; go_simp; try with_reducible rfl)
            simp only [Act.put]
            refine wpE_one 6 (o := ⟨some 96, _, _, _, _, _⟩) (by kernel_rfl) rfl (fun K hK => ?_)
            go_simp
            have hB9 : Below wr.heap.size wr (wr.alloc (.cells #[.int .u64 (SEQ : Int), .slice Bw nw dw, .slice Br nr dr] 67)).drew := ((Below.refl _ wr).alloc (Nat.le_refl _) _).drew
            refine hK.out _ _ (HKS.out _ hB9) (fun hS => ?_)
            clear hK K
            have hnew : (wr.alloc (.cells #[.int .u64 (SEQ : Int), .slice Bw nw dw, .slice Br nr dr] 67)).drew.heap[wr.heap.size]? = some (.cells #[.int .u64 (SEQ : Int), .slice Bw nw dw, .slice Br nr dr] 67 (0, 0)) := heap_alloc_new wr _
            have hz9 : (wr.alloc (.cells #[.int .u64 (SEQ : Int), .slice Bw nw dw, .slice Br nr dr] 67)).drew.heap.size = wr.heap.size + 1 := by show (wr.alloc _).heap.size = _; simp
            generalize (wr.alloc (.cells #[.int .u64 (SEQ : Int), .slice Bw nw dw, .slice Br nr dr] 67)).drew = V9 at hB9 hnew hz9 hS ⊢
            have hrow9 := HROW.out.turns (Turns.of_below (F := fun _ => False) hB9) (fun _ _ e => e)
            obtain ⟨i0, hi0, hz0, hz1, hz2⟩ := info_parts info_txn
            have hnlb : nl ≤ nb := by have := HREST.out.2.2.2.2.1; have := HCNT.out; omega
            obtain ⟨v9, V10, hrun, hown, hgrow, -, hob⟩ := run_append_own_at (P := Try.prog) (w := V9) 0 70 70 67 i0 (.agg #[.int .u64 0, .slice none 0 0, .slice none 0 0]) 3 56 Try.underlying70 hi0 hz0 hz1 hz2 rfl (by decide) (.slice A nl c0) nl (L.flatMap LiveRec.cells) hrow9 ⟨wr.heap.size, 0, none⟩ 1 1 [.int .u64 (SEQ : Int), .slice Bw nw dw, .slice Br nr dr] rfl (fun j u hu => by
              have hadd : (⟨wr.heap.size, 0, none⟩ : Addr).add j = ⟨wr.heap.size, j, none⟩ := by unfold Addr.add; split <;> simp_all
              rw [hadd, cell_of_row _ _ _ _ _ _ hnew]
              simpa using hu) (by intro u hu; simp at hu; rcases hu with rfl | rfl | rfl <;> rfl) (by unfold maxLen; omega) (by omega) (Nat.zero_le _)
            obtain ⟨A9, c9, rfl⟩ : ∃ A9 c9, v9 = .slice A9 (nl + 1) c9 := by
              rcases hown.2 with ⟨e, h0⟩ | ⟨g', cap', cur', e, _⟩
              · exact ⟨none, 0, by rw [e, h0]⟩
              · exact ⟨_, _, e⟩
            refine wpE_one 7 (o := ⟨some 97, _, _, _, _, _⟩) (by kernel_rfl) rfl (fun K hK => ?_)
            refine step_apprun rfl (.tmp 94) (.tmp 96) 70 70 rfl (.slice A nl c0) (.slice (some ⟨wr.heap.size, 0, none⟩) 1 1) (by go_simp) (by go_simp) (.slice A9 (nl + 1) c9) V10 hrun ?_
            have hvm : (Value.slice A nl c0).ownBlock ≠ some m := fun e => (HREST.out.2.2.2.2.2.2.1 _ e).2 rfl
            have hd9 := HDOC.out.below hB9
            have hd10 : DocAt V10 m r (s : Int) (l : Int) SEQ ST.2 (.slice A nl c0) := (hgrow.block m (Array.getElem?_eq_some_iff.1 hd9).1 (fun e => hvm e.symm)).trans hd9
            have hpb9 : pb < V9.heap.size := by have := HT.out.size; omega
            have hpb10 : V10.heap[pb]? = V9.heap[pb]? := hgrow.block pb hpb9 (fun e => by have := hvw _ e.symm; omega)
            have hbx10 : V10.cell? ⟨pb, 0, none⟩ = some (.int .u64 (SEQ : Int)) ∧ V10.cell? ⟨pb, 1, none⟩ = some (.slice Bw nw dw) ∧ V10.cell? ⟨pb, 2, none⟩ = some (.slice Br nr dr) := by
              have e : ∀ k, V10.cell? ⟨pb, k, none⟩ = V9.cell? ⟨pb, k, none⟩ := fun k => by simp only [World.cell?, hpb10]
              rw [e, e, e]; exact HBXR.out V9 hB9
            refine hK.out _ _ ⟨hd10.cells.2.2.2.2.2, hbx10⟩ (fun hS => ?_)
            clear hK K hrun
            have f5 : V10.frozen? ⟨m, 5, none⟩ = false := frozen_of_row V10 m 5 _ _ hd10
            have s5' : V10.cell? ⟨m, 5, none⟩ = some (.slice A nl c0) := hS.1
            have HOWN := Lib.hid hown; clear hown
            have HGROW := Lib.hid hgrow; clear hgrow
            have HD10 := Lib.hid hd10; clear hd10 hd9
            have HOB := Lib.hid hob; clear hob
            have HBX10 := Lib.hid hbx10; clear hbx10 hpb10
            have HB9 := Lib.hid hB9; clear hB9 hnew hrow9 hi0 hz0 hz1 hz2
            simp only [Act.put]
            refine wpE_take 8 ⟨some 98, _, _, _, _, _⟩ (v := ?_) [9, 10] rfl (by kernel_rfl) (by kernel_rfl) (by kernel_rfl) (by kernel_rfl) (fun _ _ _ h => h) hS (Or.inl ⟨by rfl, ?_⟩) ?_
            rotate_left
            · (intro V hSw; obtain ⟨s5, b0, b1, b2⟩ := hSw; go_simp; try with_reducible rfl)
            simp only [Act.put]
            refine wpE_take 9 ⟨some 99, _, _, _, _, _⟩ (v := ?_) [10] rfl (by kernel_rfl) (by kernel_rfl) (by kernel_rfl) (by kernel_rfl) (fun _ _ _ h => h) hS (Or.inl ⟨by rfl, ?_⟩) ?_
            rotate_left
            · (intro V hSw; obtain ⟨s5, b0, b1, b2⟩ := hSw; go_simp; try with_reducible rfl)
            simp only [Act.put]
            refine wpE_last (by kernel_rfl) rfl (fun K hK => ?_)
            go_simp
            refine hK.out _ _ ?_
            clear hK K hS f5 s5'
            refine wpE_done (by kernel_rfl) ?_ _
            have hd11 : DocAt (V10.setCell ⟨m, 5, none⟩ (.slice A9 (nl + 1) c9)) m r (s : Int) (l : Int) SEQ ST.2 (.slice A9 (nl + 1) c9) := heap_setCell_same V10 m 5 _ _ _ HD10.out
            have hpm : pb ≠ m := by omega
            have hbx11 : (V10.setCell ⟨m, 5, none⟩ (.slice A9 (nl + 1) c9)).cell? ⟨pb, 0, none⟩ = some (.int .u64 (SEQ : Int)) := by
              have e : (V10.setCell ⟨m, 5, none⟩ (.slice A9 (nl + 1) c9)).heap[pb]? = V10.heap[pb]? := Below.heap_setCell _ _ _ _ hpm
              have e2 : (V10.setCell ⟨m, 5, none⟩ (.slice A9 (nl + 1) c9)).cell? ⟨pb, 0, none⟩ = V10.cell? ⟨pb, 0, none⟩ := by simp only [World.cell?, e]
              rw [e2]; exact HBX10.out.1
            have hrow11 : Row (V10.setCell ⟨m, 5, none⟩ (.slice A9 (nl + 1) c9)) 67 3 (.slice A9 (nl + 1) c9) (nl + 1) (L.flatMap LiveRec.cells ++ [.int .u64 (SEQ : Int), .slice Bw nw dw, .slice Br nr dr]) := Row.turns HOWN.out ((Turns.refl (fun q => q = m) V10).setCell (p := ⟨m, 5, none⟩) (fun _ => rfl) _) (fun k hk e => by
              subst e
              rcases HOB.out with e | e
              · exact hvm (e ▸ hk)
              · rw [e] at hk; injection hk with hk; have := HB9.out.size; omega)
            have hT11 : Turns (fun q => q = m ∨ (Value.slice A nl c0).ownBlock = some q) wr (V10.setCell ⟨m, 5, none⟩ (.slice A9 (nl + 1) c9)) := ((Turns.of_below (F := fun q => q = m ∨ (Value.slice A nl c0).ownBlock = some q) HB9.out).grown HGROW.out (fun k hk _ => .inr hk)).setCell (p := ⟨m, 5, none⟩) (fun _ => .inl rfl) _
            have HOB9 : Hid (∀ k, (Value.slice A9 (nl + 1) c9).ownBlock = some k → (Value.slice A nl c0).ownBlock = some k ∨ wr.heap.size ≤ k) := Lib.hid (fun k hk => by
              rcases HOB.out with e | e
              · exact .inl (e ▸ hk)
              · rw [e] at hk; injection hk with hk; have := HB9.out.size; exact .inr (by omega))
            clear HOWN HGROW HD10 HOB HBX10 HB9
            generalize V10.setCell ⟨m, 5, none⟩ (.slice A9 (nl + 1) c9) = V11 at hd11 hbx11 hrow11 hT11 ⊢
            have c3 := hd11.cells.2.2.2.1
            have f3 : V11.frozen? ⟨m, 3, none⟩ = false := frozen_of_row V11 m 3 _ _ hd11
            have r0 : (V11.setCell ⟨m, 3, none⟩ (.int .u64 ((SEQ : Int) + 1))).cell? ⟨pb, 0, none⟩ = some (.int .u64 (SEQ : Int)) := by
              have e : (V11.setCell ⟨m, 3, none⟩ (.int .u64 ((SEQ : Int) + 1))).heap[pb]? = V11.heap[pb]? := Below.heap_setCell _ _ _ _ hpm
              have e2 : (V11.setCell ⟨m, 3, none⟩ (.int .u64 ((SEQ : Int) + 1))).cell? ⟨pb, 0, none⟩ = V11.cell? ⟨pb, 0, none⟩ := by simp only [World.cell?, e]
              rw [e2]; exact hbx11
            have HD11 := Lib.hid hd11; clear hd11
            have HROW11 := Lib.hid hrow11; clear hrow11
            have HT11 := Lib.hid hT11; clear hT11 hbx11
            have HPBW := Lib.hid hpbw; clear hpbw
            go_wp2
            go_ret2
            refine ⟨by rw [← HSEQ.out]; rfl, ?_⟩
            obtain ⟨b3, bX, b5, b6, b7, b8, b9, b10, b11, b12⟩ := HREST.out
            have hT12 : Turns (fun q => q = m ∨ (Value.slice A nl c0).ownBlock = some q) wr (V11.setCell ⟨m, 3, none⟩ (.int .u64 ((SEQ : Int) + 1))) := HT11.out.setCell (p := ⟨m, 3, none⟩) (fun _ => .inl rfl) _
            have hd12 : DocAt (V11.setCell ⟨m, 3, none⟩ (.int .u64 ((SEQ : Int) + 1))) m r (s : Int) (l : Int) (SEQ + 1) ST.2 (.slice A9 (nl + 1) c9) := by
              have := heap_setCell_same V11 m 3 _ _ (.int .u64 ((SEQ : Int) + 1)) HD11.out
              have e : ((SEQ + 1 : Nat) : Int) = (SEQ : Int) + 1 := by omega
              unfold DocAt docCells
              rw [e]
              exact this
            have hrow12 := HROW11.out.turns ((Turns.refl (fun q => q = m) V11).setCell (p := ⟨m, 3, none⟩) (fun _ => rfl) (.int .u64 ((SEQ : Int) + 1))) (fun k hk e => by
              subst e
              rcases HOB9.out _ hk with e | e
              · exact hvm e
              · omega)
            generalize V11.setCell ⟨m, 3, none⟩ (.int .u64 ((SEQ : Int) + 1)) = V12 at hT12 hd12 hrow12 ⊢
            have hw8 : Below w.heap.size w w8 := HW2B.out.trans (HD8.out.mono HW2B.out.size)
            have hTwr : Turns (fun q => F q ∨ q = m) w wr := (Turns.of_below (F := fun q => F q ∨ q = m) hw8).trans HT.out (fun _ _ e => e)
            have hTw : Turns (fun q => F q ∨ q = m ∨ (Value.slice A nl c0).ownBlock = some q) w V12 := (hTwr.mono (F := fun q => F q ∨ q = m ∨ (Value.slice A nl c0).ownBlock = some q) (fun _ _ e => e.imp id .inl)).trans hT12 (fun _ _ e => .inr e)
            have hF'm : ¬ F' m := fun e => by
              rcases HF'.out m e with e | e
              · exact b8 e
              · have := hw8.size; omega
            have hF'v : ∀ q, (Value.slice A nl c0).ownBlock = some q → ¬ F' q := fun q e e2 => by
              rcases HF'.out q e2 with e3 | e3
              · exact (b9 q e).1 e3
              · have := hvw q e; have := hw8.size; omega
            have hln : (L ++ [(⟨g.txn t, Bw, dw, Br, dr⟩ : LiveRec)]).length = nl + 1 := by rw [List.length_append, HNL.out]; rfl
            refine ⟨A9, c9, c + (nw + 2), F', L ++ [⟨g.txn t, Bw, dw, Br, dr⟩], ?_⟩
            rw [hln]
            have hput : putL s (l - 1) g.d g.pl (chunksOf (g.txn t).enc (t.ws.length + 2)) = ST := by rw [HST.out, HCH.out, HEN.out, hnwt]
            have e4 : (g.add s (l - 1) t) = { seq := g.seq + 1, pl := ST.2, used := g.used + (t.ws.length + 2), d := ST.1, ts := g.ts ++ [g.txn t] } := by unfold Lg.add; rw [hput]
            show DocAt V12 m r (s : Int) (l : Int) (g.add s (l - 1) t).seq (g.add s (l - 1) t).pl _ ∧ RefDisk V12 r (g.add s (l - 1) t).d _ _ ∧ (g.add s (l - 1) t).d.stable.length = n ∧ _ ∧ _ ∧ _ = (g.add s (l - 1) t).ts ∧ _ ∧ (g.add s (l - 1) t).ts.length ≤ _ ∧ _
            rw [e4]
            refine ⟨by rw [← HSEQ.out]; exact hd12, HRD.out.turns hT12 (fun q hq e => ?_), hpn, ?_, (fun q e => Nat.lt_of_lt_of_le (bX q e) hTw.size), ?_, by omega, ?_, hF'm, fun q e => ?_, fun q e => ?_, fun q e => ?_, b12.trans hTw (fun i hi e => ?_)⟩
            · rcases e with e | e
              · exact hF'm (e ▸ hq)
              · exact hF'v q e hq
            · refine HA4.out.more (hTw.mono (fun q _ e => ?_)) (fun i hi e => ?_) ?_ ⟨hmay, (fair_wide hfr).2.2.1⟩ (fun W hW => ?_)
              · rcases e with e | e | e
                · exact .inl e
                · exact .inr (.inl e)
                · exact .inr (.inr (.inl e))
              · rcases e with e | e | e | e
                · rcases HF'.out i e with e | e
                  · exact .inl e
                  · have := hw8.size; omega
                · exact .inr (.inl e)
                · rcases HOB9.out i e with e | e
                  · exact .inr (.inr (.inl e))
                  · have := hTwr.size; omega
                · exact .inr (.inr (.inr e))
              · show Row _ _ 3 _ _ (_ ++ [Value.int .u64 ((g.txn t).seq : Int), .slice Bw (g.txn t).ws.length dw, .slice Br (g.txn t).rs.length dr])
                rw [hnw, hnr, HE2.out]
                exact hrow12
              · have hk := HO1.out.kept (w' := W) (fun q h1 h2 => by
                  have s1 : w1.heap.size ≤ w8.heap.size := (HB18.out w8 HD8.out).1
                  have f8 : w8.heap[q]? = w1.heap[q]? := (HB18.out w8 HD8.out).2 q h2
                  have f9 : wr.heap[q]? = w8.heap[q]? := HT.out.block q (by omega) (fun e => by
                    rcases e with e | e
                    · have := hFw q e; omega
                    · omega)
                  have s2 := HT.out.size
                  have f10 : V12.heap[q]? = wr.heap[q]? := hT12.block q (by omega) (fun e => by
                    rcases e with e | e
                    · omega
                    · have := hvw q e; omega)
                  have s3 := hT12.size
                  have f11 : W.heap[q]? = V12.heap[q]? := hW.block q (by omega) (fun e => by
                    rcases e with e | e | e | e
                    · rcases HF'.out q e with e | e
                      · have := hFw q e; omega
                      · omega
                    · omega
                    · rcases HOB9.out q e with e | e
                      · have := hvw q e; omega
                      · omega
                    · have := bX q e; omega)
                  rw [f11, f10, f9, f8])
                exact owns_txat hk HTX.out.seq (by show (g.txn t).ws.length ≤ _; rw [hnw]; have := HTX.out.fits; omega) (by show (g.txn t).rs.length ≤ _; rw [hnr]; have := HTX.out.fits; omega) HTX.out.intW HTX.out.intR
            · rw [List.map_append, b5]; rfl
            · rw [List.length_append, List.length_singleton]; omega
            · rcases HOB9.out q e with e | e
              · exact ⟨hF'v q e, fun e' => hvm (e' ▸ e)⟩
              · refine ⟨fun e2 => ?_, by omega⟩
                have := HRD.out.lt q e2; omega
            · rcases HF'.out q e with e | e
              · exact b10 q e
              · have := hw8.size; have := b12.size; exact .inr (by omega)
            · rcases HOB9.out q e with e | e
              · exact b11 q e
              · have := hTwr.size; have := b12.size; exact .inr (by omega)
            · rcases e with e | e | e
              · rcases b10 i e with e' | e'
                · exact .inl e'
                · omega
              · exact .inr e
              · rcases b11 i e with e' | e'
                · exact .inl e'
                · omega
      · have happ : g.app n s (l - 1) t = (0, 9, g) := by unfold Lg.app; rw [hfr, if_pos rfl, if_neg (by rw [hnwt]; exact hfit)]
        obtain rfl : AP = (0, 9, g) := by rw [HAP.out]; exact happ
        have hq : (l : Int) - 1 - (g.used : Int) < (nw : Int) + 2 := by omega
        have hfin := (HK.out.later (HW2B.out.trans (HD7.out.mono HW2B.out.size))).more (Nat.le_succ nb) (show cb ≤ cb + 60 by omega)
        have HFIN := Lib.hid hfin; clear hfin hfr happ k0 k1 k2
        go_wp2
        go_ret2
        exact ⟨rfl, HFIN.out⟩
end Go.Proofs.Ytelnoibfamcnmaa.Log
