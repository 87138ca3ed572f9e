/- The document's log: Append. -/
import Derived.Test.YtelnoibfamcnmaaGreatLgHomed
import Derived.Test.YtelnoibfamcnmaaGreatRfEnc
import Derived.Test.YtelnoibfamcnmaaGreatLgRef
import Derived.Test.YtelnoibfamcnmaaGreatLgList
namespace Go.Proofs.YtelnoibfamcnmaaGreat.Log
set_option maxRecDepth 20000
open Go.RowKit
open Go.Proofs.YtelnoibfamcnmaaGreat.Mem Go.Proofs.YtelnoibfamcnmaaGreat.Crc Go.Proofs.YtelnoibfamcnmaaGreat.Disk
open Go.Proofs.YtelnoibfamcnmaaGreat.Rec (Tx Wt TxAt HoldsW HoldsI IsInt mayB_iff OwnsT mayr_any)

theorem takes_nums (n s r : Nat) (t : Tx) : takesB n s r t = t.nums.all (outB n s r) := by
  unfold takesB Tx.nums
  rw [List.all_append, List.all_map]; rfl
theorem all_drop {α : Type} (f : α → Bool) (l : List α) (k : Nat) (x : α) (hx : l[k]? = some x) : (l.drop k).all f = (f x && (l.drop (k + 1)).all f) := by
  have hl := (List.getElem?_eq_some_iff.1 hx).1
  rw [List.drop_eq_getElem_cons hl, List.all_cons, (List.getElem?_eq_some_iff.1 hx).2]

set_option maxRecDepth 100000 in
set_option maxHeartbeats 2000000 in
theorem fairr_any (t : Tx) (Aw Ar : Option Addr) (nw cw nr cr B : Nat) (w : World) (h : TxAt w B t Aw nw cw Ar nr cr) (hB : B ≤ w.heap.size) (n s l : Nat) (S : Int) (hS : S = (s : Int)) (h8 : 8 ≤ l) (hl : l ≤ 1024) (hs : s ≤ 1024) :
    Calls Tryz.prog 68 #[.agg #[.int .u64 (t.seq : Int), .slice Aw nw cw, .slice Ar nr cr], .int .i64 (n : Int), .int .i64 S, .int .i64 (l : Int)] w fun e w' => e = .returned (.bool (t.mayB && takesB n s (l - 1) t)) ∧ Below w.heap.size w w' := by
  subst hS
  obtain ⟨ans, hans⟩ : ∃ ans, ans = (t.mayB && takesB n s (l - 1) t) := ⟨_, rfl⟩
  rw [← hans]
  have HANS := Lib.hid hans; clear hans
  have hb1 : Below w.heap.size w (w.alloc (.cells #[.int .u64 (t.seq : Int), .slice Aw nw cw, .slice Ar nr cr] 63)) := (Below.refl _ w).alloc (Nat.le_refl _) _
  have hx1 : (w.alloc (.cells #[.int .u64 (t.seq : Int), .slice Aw nw cw, .slice Ar nr cr] 63)).heap[w.heap.size]? = some (.cells #[.int .u64 (t.seq : Int), .slice Aw nw cw, .slice Ar nr cr] 63 (0, 0)) := heap_alloc_new w _
  have hmay := mayr_any t Aw Ar nw cw nr cr B _ (h.below (hb1.mono hB)) (Nat.le_trans hB hb1.size)
  have HMAY := Lib.hid hmay; clear hmay
  have HB1 := Lib.hid hb1; clear hb1
  have HX1 := Lib.hid hx1; clear hx1
  have q0 := cell_of_row _ w.heap.size 0 _ _ _ HX1.out
  have q1 := cell_of_row _ w.heap.size 1 _ _ _ HX1.out
  have q2 := cell_of_row _ w.heap.size 2 _ _ _ HX1.out
  have H := Lib.hid h; clear h
  go_enter Tryz.func68, Tryz.ntmps68
  go_wp2_with fail
  generalize w.alloc (.cells #[.int .u64 (t.seq : Int), .slice Aw nw cw, .slice Ar nr cr] 63) = W at HB1 HX1 HMAY q0 q1 q2 ⊢
  with_reducible refine HMAY.out.mono ?_
  rintro e w2 ⟨rfl, hb2⟩
  have hbw2 : Below w.heap.size w w2 := HB1.out.trans (hb2.mono HB1.out.size)
  have hx2 := (hb2.block _ (Array.getElem?_eq_some_iff.1 HX1.out).1).trans HX1.out
  clear q0 q1 q2 HMAY
  cases hm : t.mayB
  · have HB2 := Lib.hid hbw2; clear hbw2 hb2 hx2
    have hf : ans = false := by rw [HANS.out, hm]; rfl
    subst hf
    clear hm
    go_wp2
    go_ret
    exact ⟨rfl, HB2.out⟩
  · have hM := (mayB_iff t).1 hm
    have hhi := hM.hi
    rw [H.out.ws.1, H.out.rs.1] at hhi
    have hcells : ∀ V, Below w2.heap.size w2 V → V.cell? ⟨w.heap.size, 1, none⟩ = some (.slice Aw nw cw) ∧ V.cell? ⟨w.heap.size, 2, none⟩ = some (.slice Ar nr cr) ∧ Below B w V := fun V hV => by
      have hx := (hV.block _ (Array.getElem?_eq_some_iff.1 hx2).1).trans hx2
      exact ⟨cell_of_row V _ 1 _ _ _ hx, cell_of_row V _ 2 _ _ _ hx, (hbw2.trans (hV.mono hbw2.size)).mono hB⟩
    have hnums : t.nums.length = nw + nr := by unfold Tx.nums; rw [List.length_append, List.length_map, H.out.ws.1, H.out.rs.1]
    have HNUM := Lib.hid hM.nums
    have HNL := Lib.hid hnums; clear hnums
    have HCELLS := Lib.hid hcells; clear hcells hb2 hx2 HX1 HB1 hM
    have HBW2 := Lib.hid hbw2; clear hbw2
    have hans : ans = t.nums.all (outB n s (l - 1)) := by rw [HANS.out, hm, Bool.true_and, takes_nums]
    have HANS2 := Lib.hid hans; clear hans HANS hm
    have hwsl : IntKind.i64.wrap ((s : Int) + (l : Int)) = (s : Int) + (l : Int) := IntWalk.i64_in _ (by omega)
    go_wp2
    go_loopw [9, 10] (fun iv _ wr => ∃ i : Nat, i ≤ nw + nr ∧ iv = .int .i64 (i : Int) ∧ ans = (t.nums.drop i).all (outB n s (l - 1)) ∧ Below w2.heap.size w2 wr) (fun iv _ _ => nw + nr - (intOf iv).toNat)
    case atStart => exact ⟨0, Nat.zero_le _, rfl, by rw [List.drop_zero]; exact HANS2.out, Below.refl _ _⟩
    case round =>
      obtain ⟨i, hi, rfl, hall, hbr⟩ := hrel
      have HALL := Lib.hid hall; clear hall
      obtain ⟨c1, c2, hbB⟩ := HCELLS.out _ hbr
      have HBR := Lib.hid hbr; clear hbr
      have hsum : IntKind.i64.wrap ((nw : Int) + (nr : Int)) = (nw : Int) + (nr : Int) := IntWalk.i64_in _ (by omega)
      rcases Nat.lt_or_ge i (nw + nr) with hlt | hge
      · have hli : (i : Int) < (nw : Int) + (nr : Int) := by omega
        obtain ⟨x, hx⟩ : ∃ x, t.nums[i]? = some x := ⟨_, List.getElem?_eq_getElem (by rw [HNL.out]; exact hlt)⟩
        have hxr := HNUM.out x (List.mem_of_getElem? hx)
        have hdrop := all_drop (outB n s (l - 1)) t.nums i x hx
        have HDROP := Lib.hid hdrop; clear hdrop
        have hi0 : (0 : Int) ≤ (i : Int) := by omega
        have hout : outB n s (l - 1) x = (decide (x < (n : Int)) && !(decide ((s : Int) ≤ x) && decide (x < (s : Int) + (l : Int)))) := by
          unfold outB
          have e1 : decide (0 ≤ x) = true := by simp; omega
          have e2 : decide (x ≤ (s : Int) + ((l - 1 : Nat) : Int)) = decide (x < (s : Int) + (l : Int)) := by congr 1; simp; omega
          rw [e1, e2, Bool.true_and]
        have HOUT := Lib.hid hout; clear hout
        rcases Nat.lt_or_ge i nw with hiw | hiw
        · have hiwi : (i : Int) < (nw : Int) := by omega
          obtain ⟨y, hy⟩ : ∃ y, t.ws[i]? = some y := ⟨_, List.getElem?_eq_getElem (by rw [H.out.ws.1]; exact hiw)⟩
          have hyx : y.1 = x := by
            unfold Tx.nums at hx
            rw [List.getElem?_append_left (by rw [List.length_map, H.out.ws.1]; exact hiw), List.getElem?_map, hy] at hx
            simpa using hx
          obtain ⟨bb, off, rfl, hbl, hc⟩ := (H.out.below hbB).ws.2 (by omega)
          have z := (hc i y hy).1
          rw [hyx] at z
          clear hc hyx hy hx hbB hbl
          by_cases k1 : (n : Int) ≤ x
          · have dn : decide (x < (n : Int)) = false := by simp; omega
            have ds := True.intro
            have hfin : ans = false := by rw [HALL.out, HDROP.out, HOUT.out, dn]; rfl
            have HFIN := Lib.hid hfin; clear hfin dn ds
            have hbe := HBW2.out.trans (HBR.out.mono HBW2.out.size)
            have HBE := Lib.hid hbe; clear hbe
            go_wp2
            go_ret
            exact ⟨by rw [HFIN.out]; rfl, HBE.out⟩
          · have k1n : x < (n : Int) := by omega
            have dn : decide (x < (n : Int)) = true := by simpa using k1n
            clear k1n
            by_cases k2 : (s : Int) ≤ x
            · by_cases k3 : x < (s : Int) + (l : Int)
              · have ds : (decide ((s : Int) ≤ x) && decide (x < (s : Int) + (l : Int))) = true := by simp [k2, k3]
                have hfin : ans = false := by rw [HALL.out, HDROP.out, HOUT.out, dn, ds]; rfl
                have HFIN := Lib.hid hfin; clear hfin dn ds
                have hbe := HBW2.out.trans (HBR.out.mono HBW2.out.size)
                have HBE := Lib.hid hbe; clear hbe
                go_wp2
                go_ret
                exact ⟨by rw [HFIN.out]; rfl, HBE.out⟩
              · have ds : (decide ((s : Int) ≤ x) && decide (x < (s : Int) + (l : Int))) = false := by simp only [Bool.and_eq_false_iff, decide_eq_false_iff_not]; exact .inr k3
                have hnext : ans = (t.nums.drop (i + 1)).all (outB n s (l - 1)) := by rw [HALL.out, HDROP.out, HOUT.out, dn, ds]; rfl
                have HNEXT := Lib.hid hnext; clear hnext dn ds
                go_wp2
                go_roundw
                case rel => exact ⟨i + 1, by omega, by go_num, HNEXT.out, HBR.out⟩
                case measure => simp [intOf]; omega
            · have ds : (decide ((s : Int) ≤ x) && decide (x < (s : Int) + (l : Int))) = false := by simp only [Bool.and_eq_false_iff, decide_eq_false_iff_not]; exact .inl k2
              have hnext : ans = (t.nums.drop (i + 1)).all (outB n s (l - 1)) := by rw [HALL.out, HDROP.out, HOUT.out, dn, ds]; rfl
              have HNEXT := Lib.hid hnext; clear hnext dn ds
              go_wp2
              go_roundw
              case rel => exact ⟨i + 1, by omega, by go_num, HNEXT.out, HBR.out⟩
              case measure => simp [intOf]; omega
        · have hiwi : ¬ (i : Int) < (nw : Int) := by omega
          have hy : t.rs[i - nw]? = some x := by
            unfold Tx.nums at hx
            rwa [List.getElem?_append_right (by rw [List.length_map, H.out.ws.1]; exact hiw), List.length_map, H.out.ws.1] at hx
          obtain ⟨bb, off, rfl, hbl, hc⟩ := (H.out.below hbB).rs.2 (by omega)
          have z := hc (i - nw) x hy
          obtain ⟨k, rfl⟩ : ∃ k, i = nw + k := ⟨i - nw, by omega⟩
          rw [show nw + k - nw = k by omega] at z
          have hwk : IntKind.i64.wrap (((nw + k : Nat) : Int) - (nw : Int)) = (k : Int) := by rw [IntWalk.i64_in _ (by omega)]; omega
          have hwk2 : IntKind.i64.wrap ((nw : Int) + (k : Int) - (nw : Int)) = (k : Int) := by rw [IntWalk.i64_in _ (by omega)]; omega
          have hk0 : (0 : Int) ≤ (k : Int) := by omega
          have hkn : (k : Int) < (nr : Int) := by omega
          clear hc hy hx hbB hbl
          by_cases k1 : (n : Int) ≤ x
          · have dn : decide (x < (n : Int)) = false := by simp; omega
            have ds := True.intro
            have hfin : ans = false := by rw [HALL.out, HDROP.out, HOUT.out, dn]; rfl
            have HFIN := Lib.hid hfin; clear hfin dn ds
            have hbe := HBW2.out.trans (HBR.out.mono HBW2.out.size)
            have HBE := Lib.hid hbe; clear hbe
            go_wp2
            go_ret
            exact ⟨by rw [HFIN.out]; rfl, HBE.out⟩
          · have k1n : x < (n : Int) := by omega
            have dn : decide (x < (n : Int)) = true := by simpa using k1n
            clear k1n
            by_cases k2 : (s : Int) ≤ x
            · by_cases k3 : x < (s : Int) + (l : Int)
              · have ds : (decide ((s : Int) ≤ x) && decide (x < (s : Int) + (l : Int))) = true := by simp [k2, k3]
                have hfin : ans = false := by rw [HALL.out, HDROP.out, HOUT.out, dn, ds]; rfl
                have HFIN := Lib.hid hfin; clear hfin dn ds
                have hbe := HBW2.out.trans (HBR.out.mono HBW2.out.size)
                have HBE := Lib.hid hbe; clear hbe
                go_wp2
                go_ret
                exact ⟨by rw [HFIN.out]; rfl, HBE.out⟩
              · have ds : (decide ((s : Int) ≤ x) && decide (x < (s : Int) + (l : Int))) = false := by simp only [Bool.and_eq_false_iff, decide_eq_false_iff_not]; exact .inr k3
                have hnext : ans = (t.nums.drop (nw + k + 1)).all (outB n s (l - 1)) := by rw [HALL.out, HDROP.out, HOUT.out, dn, ds]; rfl
                have HNEXT := Lib.hid hnext; clear hnext dn ds
                go_wp2
                go_roundw
                case rel => exact ⟨nw + k + 1, by omega, by go_num, HNEXT.out, HBR.out⟩
                case measure => simp [intOf]; omega
            · have ds : (decide ((s : Int) ≤ x) && decide (x < (s : Int) + (l : Int))) = false := by simp only [Bool.and_eq_false_iff, decide_eq_false_iff_not]; exact .inl k2
              have hnext : ans = (t.nums.drop (nw + k + 1)).all (outB n s (l - 1)) := by rw [HALL.out, HDROP.out, HOUT.out, dn, ds]; rfl
              have HNEXT := Lib.hid hnext; clear hnext dn ds
              go_wp2
              go_roundw
              case rel => exact ⟨nw + k + 1, by omega, by go_num, HNEXT.out, HBR.out⟩
              case measure => simp [intOf]; omega
      · obtain rfl : i = nw + nr := by omega
        have hli : ¬ ((nw + nr : Nat) : Int) < (nw : Int) + (nr : Int) := by omega
        have hfin : ans = true := by rw [HALL.out, List.drop_of_length_le (by rw [HNL.out]; exact Nat.le_refl _)]; rfl
        have HFIN := Lib.hid hfin; clear hfin hbB
        have hbe := HBW2.out.trans (HBR.out.mono HBW2.out.size)
        have HBE := Lib.hid hbe; clear hbe
        go_wp2
        go_ret
        exact ⟨by rw [HFIN.out]; rfl, HBE.out⟩
end Go.Proofs.YtelnoibfamcnmaaGreat.Log

namespace Go.Proofs.YtelnoibfamcnmaaGreat.Log
set_option maxRecDepth 20000
open Go.RowKit
open Go.Proofs.YtelnoibfamcnmaaGreat.Mem Go.Proofs.YtelnoibfamcnmaaGreat.Crc Go.Proofs.YtelnoibfamcnmaaGreat.Disk Go.Proofs.YtelnoibfamcnmaaGreat.Reg
open Go.Proofs.YtelnoibfamcnmaaGreat.Rec (Tx Wt TxAt HoldsW HoldsI IsInt mayB_iff OwnsT mayr_any)

def docCells (r : Nat) (s l : Int) (seq pl : Nat) (v : Value) : Array Value := #[.pointer (some ⟨r, 0, none⟩), .int .i64 s, .int .i64 l, .int .u64 (seq : Int), .int .i64 (pl : Int), v]
def DocAt (w : World) (m r : Nat) (s l : Int) (seq pl : Nat) (v : Value) : Prop := w.heap[m]? = some (.cells (docCells r s l seq pl v) 139 (0, 0))
theorem DocAt.below {w V : World} {m r : Nat} {s l : Int} {seq pl : Nat} {v : Value} (h : DocAt w m r s l seq pl v) (hV : Below w.heap.size w V) : DocAt V m r s l seq pl v := (hV.block m (Array.getElem?_eq_some_iff.1 h).1).trans h
theorem DocAt.cells {w : World} {m r : Nat} {s l : Int} {seq pl : Nat} {v : Value} (h : DocAt w m r s l seq pl v) : w.cell? ⟨m, 0, none⟩ = some (.pointer (some ⟨r, 0, none⟩)) ∧ w.cell? ⟨m, 1, none⟩ = some (.int .i64 s) ∧ w.cell? ⟨m, 2, none⟩ = some (.int .i64 l) ∧ w.cell? ⟨m, 3, none⟩ = some (.int .u64 (seq : Int)) ∧ w.cell? ⟨m, 4, none⟩ = some (.int .i64 (pl : Int)) ∧ w.cell? ⟨m, 5, none⟩ = some v := by
  unfold DocAt docCells at h
  exact ⟨cell_of_row w m 0 _ _ _ h, cell_of_row w m 1 _ _ _ h, cell_of_row w m 2 _ _ _ h, cell_of_row w m 3 _ _ _ h, cell_of_row w m 4 _ _ _ h, cell_of_row w m 5 _ _ _ h⟩

def usedOf (ts : List Tx) : Nat := (ts.map fun t => t.ws.length + 2).sum
theorem usedOf_snoc (ts : List Tx) (t : Tx) : usedOf (ts ++ [t]) = usedOf ts + (t.ws.length + 2) := by simp [usedOf]
/-! ### Apply -/
def applyW (ts : List Tx) (i : Nat) (d : Dk.Dk) (x : Wt) : Dk.Dk := if revokedB ts i x.1 = true then d else d.write x.1.toNat x.2
def applyT (ts : List Tx) (i : Nat) (d : Dk.Dk) (t : Tx) : Dk.Dk := t.ws.foldl (applyW ts i) d
def applyN (ts : List Tx) (d : Dk.Dk) : Nat → Dk.Dk
  | 0 => d
  | k + 1 => match ts[k]? with
    | some t => applyT ts k (applyN ts d k) t
    | none => applyN ts d k
theorem applyW_size (ts : List Tx) (i : Nat) (d : Dk.Dk) (x : Wt) : (applyW ts i d x).stable.length = d.stable.length := by
  unfold applyW; split
  · rfl
  · exact write_size _ _ _
theorem applyF_size (ts : List Tx) (i : Nat) : ∀ (l : List Wt) (d : Dk.Dk), (l.foldl (applyW ts i) d).stable.length = d.stable.length
  | [], _ => rfl
  | x :: l, d => by rw [List.foldl_cons, applyF_size ts i l, applyW_size]
theorem applyN_size (ts : List Tx) (d : Dk.Dk) : ∀ k, (applyN ts d k).stable.length = d.stable.length
  | 0 => rfl
  | k + 1 => by
    unfold applyN
    split
    · unfold applyT; rw [applyF_size, applyN_size ts d k]
    · exact applyN_size ts d k

/-- While numbers rise the two ways to tell what was revoked agree. -/
def Rising (ts : List Tx) : Prop := ∀ (i j : Nat) t u, ts[i]? = some t → ts[j]? = some u → i < j → t.seq < u.seq
theorem greatest_ge (ps : List (Int × Nat)) (b : Int) (x : Int × Nat) (hx : x ∈ ps) (hb : x.1 = b) : x.2 ≤ greatest ps b := by
  unfold greatest
  have h1 : ∀ (ps : List (Int × Nat)) (o : Nat), o ≤ ps.foldl (fun o x => if x.1 = b then max o x.2 else o) o := by
    intro ps
    induction ps with
    | nil => intro o; exact Nat.le_refl _
    | cons y r ih =>
      intro o
      rw [List.foldl_cons]
      refine Nat.le_trans ?_ (ih _)
      split <;> omega
  have : ∀ (ps : List (Int × Nat)) (o : Nat), x ∈ ps → x.2 ≤ ps.foldl (fun o x => if x.1 = b then max o x.2 else o) o := by
    intro ps
    induction ps with
    | nil => intro o h; cases h
    | cons y r ih =>
      intro o h
      rw [List.foldl_cons]
      rcases List.mem_cons.1 h with e | e
      · subst e
        refine Nat.le_trans ?_ (h1 r _)
        rw [if_pos hb]; omega
      · exact ih _ e
  exact this ps 0 hx
theorem revoked_greatest (ts : List Tx) (h : Rising ts) (i : Nat) (t : Tx) (ht : ts[i]? = some t) (b : Int) : (revokedB ts i b = true) ↔ ¬ greatest (revsOf ts) b ≤ t.seq := by
  constructor
  · intro hr hg
    unfold revokedB at hr
    obtain ⟨u, hu, hub⟩ := List.any_eq_true.1 hr
    unfold revokesB at hub
    obtain ⟨z, hz, hzb⟩ := List.any_eq_true.1 hub
    obtain ⟨k, hk⟩ := List.getElem?_of_mem hu
    rw [List.getElem?_drop] at hk
    have h1 := h i (i + 1 + k) t u ht hk (by omega)
    have h2 := greatest_ge (revsOf ts) b (z, u.seq) (by
      unfold revsOf
      exact List.mem_flatMap.2 ⟨u, List.mem_of_getElem? hk, List.mem_map.2 ⟨z, hz, rfl⟩⟩) (by simpa using hzb)
    simp only at h2
    omega
  · intro hg
    cases hr : revokedB ts i b with
    | true => rfl
    | false =>
      exfalso
      apply hg
      refine greatest_le _ b t.seq (fun y hy hyb => ?_)
      unfold revsOf at hy
      obtain ⟨u, hu, hy2⟩ := List.mem_flatMap.1 hy
      obtain ⟨z, hz, rfl⟩ := List.mem_map.1 hy2
      obtain ⟨j, hj⟩ := List.getElem?_of_mem hu
      show u.seq ≤ t.seq
      rcases Nat.lt_or_ge i j with hlt | hge
      · exfalso
        have hmem : u ∈ ts.drop (i + 1) := by
          refine List.mem_of_getElem? (i := j - (i + 1)) ?_
          rw [List.getElem?_drop, show i + 1 + (j - (i + 1)) = j by omega]; exact hj
        unfold revokedB at hr
        have h3 := List.any_eq_false.1 hr u hmem
        unfold revokesB at h3
        apply h3
        rw [List.any_eq_true]
        exact ⟨z, hz, by simpa using hyb⟩
      · rcases Nat.lt_or_ge j i with hlt | hge2
        · exact Nat.le_of_lt (h j i u t hj ht hlt)
        · obtain rfl : i = j := by omega
          rw [ht] at hj
          injection hj with hj
          rw [hj]; exact Nat.le_refl _
theorem apply_home (ts : List Tx) (h : Rising ts) (d : Dk.Dk) : applyN ts d ts.length = homeL (revsOf ts) d ts := by
  have : ∀ k, k ≤ ts.length → applyN ts d k = homeL (revsOf ts) d (ts.take k) := by
    intro k
    induction k with
    | zero => intro _; simp [applyN, homeL]
    | succ k ih =>
      intro hk
      have hl : k < ts.length := by omega
      have hx : ts[k]? = some ts[k] := List.getElem?_eq_getElem hl
      rw [List.take_succ_eq_append_getElem hl]
      unfold applyN
      rw [hx]
      show applyT ts k (applyN ts d k) ts[k] = _
      rw [ih (by omega)]
      unfold homeL
      rw [List.foldl_append, List.foldl_cons, List.foldl_nil]
      generalize List.foldl (homeT (revsOf ts)) d (List.take k ts) = D
      unfold applyT homeT
      have he : applyW ts k = homeW (revsOf ts) ts[k].seq := by
        funext d x
        unfold applyW homeW
        have := revoked_greatest ts h k ts[k] hx x.1
        by_cases hg : greatest (revsOf ts) x.1 ≤ ts[k].seq
        · rw [if_neg (fun e => this.1 e hg), if_pos hg]
        · rw [if_pos (this.2 hg), if_neg hg]
      rw [he]
  rw [this ts.length (Nat.le_refl _), List.take_length]

def RHoming (W : World) (r : Nat) (F : Nat → Prop) (wr : World) (d : Dk.Dk) (c : Nat) : Prop :=
  ∃ F', RefDisk wr r d c F' ∧ (∀ k, F' k → F k ∨ W.heap.size ≤ k) ∧ Turns F W wr
theorem RHoming.start {W : World} {r c : Nat} {F : Nat → Prop} {d : Dk.Dk} (h : RefDisk W r d c F) : RHoming W r F W d c := ⟨F, h, fun _ => .inl, Turns.refl _ _⟩
theorem RHoming.later {W wr w' : World} {r c : Nat} {F : Nat → Prop} {d : Dk.Dk} (h : RHoming W r F wr d c) (hb : Below wr.heap.size wr w') : RHoming W r F w' d c := by
  obtain ⟨F', h1, h2, h3⟩ := h
  exact ⟨F', h1.later hb, h2, h3.trans (Turns.of_below (F := F) hb) (fun _ _ e => e)⟩
theorem RHoming.turns {W wr : World} {r c : Nat} {F : Nat → Prop} {d : Dk.Dk} (h : RHoming W r F wr d c) : Turns F W wr := by
  obtain ⟨F', h1, h2, h3⟩ := h
  exact h3
theorem RHoming.step {W wr w' : World} {r c c' : Nat} {F : Nat → Prop} {d d' : Dk.Dk} {e : Ending} {v : Value} (h : RHoming W r F wr d c) (h2 : ∀ F', RefDisk wr r d c F' → RNow wr r d' c' F' v e w') : e = .returned v ∧ RHoming W r F w' d' c' := by
  obtain ⟨F', h1, hf, h3⟩ := h
  obtain ⟨F2, he, k1, kf, k3⟩ := h2 F' h1
  refine ⟨he, F2, k1, fun k hk => ?_, h3.trans k3 (fun i hi e => ?_)⟩
  · rcases kf k hk with e | e
    · exact hf k e
    · have := h3.size; exact .inr (by omega)
  · rcases hf i e with e | e
    · exact e
    · omega
theorem RHoming.more {W wr : World} {r c c' : Nat} {F : Nat → Prop} {d : Dk.Dk} (h : RHoming W r F wr d c) (hc : c ≤ c') : RHoming W r F wr d c' := by
  obtain ⟨F', ⟨R, vb, vw, vg, h1, h2, h3⟩, h4⟩ := h
  exact ⟨F', ⟨R, vb, vw, vg, h1, { h2 with few := Nat.le_trans h2.few hc }, h3⟩, h4⟩
/-- A write on the way. -/
theorem RHoming.write {W wr : World} {r c : Nat} {F : Nat → Prop} {d : Dk.Dk} (h : RHoming W r F wr d c) (ii : Int) (hii : 0 ≤ ii) (A : Option Addr) (cb B : Nat) (data : List UInt8) (hi : ii.toNat < d.stable.length) (hd : Holds wr B A 256 data) (hB : B ≤ wr.heap.size) (hc : c ≤ 1048576) :
    Calls Tryz.prog 43 #[.pointer (some ⟨r, 0, none⟩), .int .i64 ii, .slice A 256 cb] wr fun e w' => e = .returned (.int .i64 0) ∧ RHoming W r F w' (d.write ii.toNat data) (c + 1) := by
  have h0 := h
  obtain ⟨F', h1, h2, h3⟩ := h
  have hw := rwrite_d ii.toNat A cb B data d r c F' wr h1 hc hi hd hB
  rw [show ((ii.toNat : Nat) : Int) = ii by omega] at hw
  refine Calls.mono hw (fun e w' hN => ?_)
  obtain ⟨F2, he, k1, kf, k3⟩ := hN
  refine ⟨he, F2, k1, fun k hk => ?_, h3.trans k3 (fun i hi e => ?_)⟩
  · rcases kf k hk with e | e
    · exact h2 k e
    · have := h3.size; exact .inr (by omega)
  · rcases h2 i e with e | e
    · exact e
    · omega

theorem applyF_take (ts : List Tx) (i : Nat) (d : Dk.Dk) (l : List Wt) (k : Nat) (x : Wt) (hx : l[k]? = some x) : (l.take (k + 1)).foldl (applyW ts i) d = applyW ts i ((l.take k).foldl (applyW ts i) d) x := by
  obtain ⟨hl, rfl⟩ := List.getElem?_eq_some_iff.1 hx
  rw [List.take_succ_eq_append_getElem hl, List.foldl_append]; rfl

set_option maxRecDepth 100000 in
set_option maxHeartbeats 2000000 in
theorem applyr_any (w : World) (A : Option Addr) (nl c0 n s r p c : Nat) (G F : Nat → Prop) (d : Dk.Dk) (L : List LiveRec) (h : Live w G n s r (.slice A nl c0) nl L) (hD : RefDisk w p d c F) (hn : d.stable.length = n) (hFG : ∀ q, F q → G q)
    (hFv : ∀ q, (Value.slice A nl c0).ownBlock = some q → ¬ F q) (hnl : nl ≤ 1048576) (hc : c + 58 * nl < 1048576) :
    Calls Tryz.prog 41 #[.pointer (some ⟨p, 0, none⟩), .slice A nl c0] w fun e w' => e = .returned (.tuple #[]) ∧ RHoming w p F w' (applyN (L.map (·.t)) d nl) (c + 58 * nl) := by
  have hcnt := h.cnt
  have HCNT := Lib.hid hcnt; clear hcnt
  have HLV := Lib.hid h; clear h
  have HN := Lib.hid hn; clear hn
  have hturn : ∀ V, Turns F w V → Live V (fun q => G q ∨ w.heap.size ≤ q) n s r (.slice A nl c0) nl L := fun V hV => HLV.out.turns (hV.mono (fun q _ e => ⟨hFG q e, fun e' => hFv q e' e⟩)) (fun i hi e => by
    rcases e with e | e
    · exact e
    · omega)
  have HTURN := Lib.hid hturn; clear hturn hFG hFv
  have HH0 := Lib.hid (RHoming.start hD); clear hD
  go_enter Tryz.func41, Tryz.ntmps41
  go_wp2
  go_loopw [4, 5, 6] (fun iv _ _ wr => ∃ k : Nat, k ≤ nl ∧ iv = .int .i64 (k : Int) ∧ RHoming w p F wr (applyN (L.map (·.t)) d k) (c + 58 * k)) (fun iv _ _ _ => nl - (intOf iv).toNat)
  case atStart => exact ⟨0, Nat.zero_le _, rfl, HH0.out⟩
  case round =>
    obtain ⟨k, hk, rfl, hH⟩ := hrel
    have HH := Lib.hid hH; clear hH
    by_cases hlt : k < nl
    · obtain ⟨gb, rfl, -⟩ := live_cells HLV.out (by omega)
      obtain ⟨x, hx⟩ : ∃ x, L[k]? = some x := ⟨_, List.getElem?_eq_getElem (by have := HCNT.out; omega)⟩
      have hx58 := live_few HLV.out hx
      have hxm := List.mem_of_getElem? hx
      have hfair := HLV.out.fair x hxm
      have HFAIR := Lib.hid hfair; clear hfair
      obtain ⟨D, hDD⟩ : ∃ D, D = applyN (L.map (·.t)) d k := ⟨_, rfl⟩
      have hDn : D.stable.length = n := by rw [hDD, applyN_size]; exact HN.out
      have hnx2 : applyN (L.map (·.t)) d (k + 1) = x.t.ws.foldl (applyW (L.map (·.t)) k) D := by
        have e : (L.map (·.t))[k]? = some x.t := by rw [List.getElem?_map, hx]; rfl
        rw [hDD]
        simp only [applyN, e]
        rfl
      rw [← hDD] at HH
      have HNX2 := Lib.hid hnx2; clear hnx2 hDD
      have HDN := Lib.hid hDn; clear hDn
      obtain ⟨nx, hnx⟩ : ∃ nx, nx = x.t.ws.length := ⟨_, rfl⟩
      rw [← hnx] at hx58
      have HNX := Lib.hid hnx; clear hnx
      have hc1 : ∀ V, Turns F w V → V.cell? ⟨gb, k * 3 + 1, none⟩ = some (.slice x.Aw nx x.cw) := fun V hV => by
        obtain ⟨gb2, e1, hcells⟩ := live_cells (HTURN.out V hV) (by omega)
        injection e1 with e1
        injection e1 with e1
        subst e1
        rw [HNX.out]
        exact hcells V (Below.refl _ _) k x hx
      have HC1 := Lib.hid hc1; clear hc1
      have HX := Lib.hid hx; clear hx hxm
      have hk0 : (0 : Int) ≤ (k : Int) := by omega
      have hkn : (k : Int) < (nl : Int) := by omega
      have hklt := hlt
      go_wp2
      go_loopw [5, 6] (fun jv _ wr => ∃ j : Nat, j ≤ nx ∧ jv = .int .i64 (j : Int) ∧ RHoming w p F wr ((x.t.ws.take j).foldl (applyW (L.map (·.t)) k) D) (c + 58 * k + j)) (fun jv _ _ => nx - (intOf jv).toNat)
      case atStart => exact ⟨0, Nat.zero_le _, rfl, HH.out⟩
      case round =>
        obtain ⟨j, hj, rfl, hH⟩ := hrel
        have z1 := HC1.out _ hH.turns
        by_cases hlj : j < nx
        · obtain ⟨y, hy⟩ : ∃ y, x.t.ws[j]? = some y := ⟨_, List.getElem?_eq_getElem (by rw [← HNX.out]; exact hlj)⟩
          obtain ⟨bb, off, A2, c2, hAw, hyc⟩ := live_write (HTURN.out _ hH.turns) HX.out hy
          rw [hAw] at z1
          obtain ⟨z2, z3, -⟩ := hyc _ (Below.refl _ _)
          have hout := outB_in HFAIR.out.2 (List.mem_of_getElem? hy)
          have hstep := applyF_take (L.map (·.t)) k D x.t.ws j y hy
          obtain ⟨y1, y2⟩ := y
          dsimp only at z2 hout hyc
          obtain ⟨DJ, hDJ⟩ : ∃ DJ, DJ = (x.t.ws.take j).foldl (applyW (L.map (·.t)) k) D := ⟨_, rfl⟩
          rw [← hDJ] at hstep hH
          have hDJn : DJ.stable.length = n := by rw [hDJ, applyF_size]; exact HDN.out
          have hin1 := hout.1
          have hin2 : y1.toNat < DJ.stable.length := by rw [hDJn]; omega
          have hwb : Below wr.heap.size wr (wr.alloc (.cells #[.int .i64 y1, .slice A2 256 c2] 56)) := (Below.refl _ wr).alloc (Nat.le_refl _) _
          have hbx : (wr.alloc (.cells #[.int .i64 y1, .slice A2 256 c2] 56)).heap[wr.heap.size]? = some (.cells #[.int .i64 y1, .slice A2 256 c2] 56 (0, 0)) := heap_alloc_new wr _
          have q0 := cell_of_row _ wr.heap.size 0 _ _ _ hbx
          have hHb := hH.later hwb
          have HHB := Lib.hid hHb; clear hHb
          have HST := Lib.hid hstep; clear hstep hDJ hDJn hout
          have HYC := Lib.hid hyc; clear hyc
          have HW0 := Lib.hid hH.turns
          clear hH hAw hy
          have hj0 : (0 : Int) ≤ (j : Int) := by omega
          have hjn : (j : Int) < (nx : Int) := by omega
          obtain ⟨wk, hwk⟩ : ∃ wk, wk = wr := ⟨_, rfl⟩
          subst hwk
          go_wp2_with fail
          generalize wk.alloc (.cells #[.int .i64 y1, .slice A2 256 c2] 56) = wb at hwb hbx q0 HHB ⊢
          have hpb : wk.heap.size < wb.heap.size := (Array.getElem?_eq_some_iff.1 hbx).1
          have hbxV : ∀ V, Below wb.heap.size wb V → V.cell? ⟨wk.heap.size, 0, none⟩ = some (.int .i64 y1) ∧ V.cell? ⟨wk.heap.size, 1, none⟩ = some (.slice A2 256 c2) ∧ Holds V wk.heap.size A2 256 y2 ∧ wk.heap.size ≤ V.heap.size := fun V hV => by
            have h := (hV.block _ hpb).trans hbx
            have hwV := hwb.trans (hV.mono hwb.size)
            exact ⟨cell_of_row V _ 0 _ _ _ h, cell_of_row V _ 1 _ _ _ h, (HYC.out V hwV).2.2, hwV.size⟩
          have HBXV := Lib.hid hbxV; clear hbxV hbx q0 z1 z2 z3 hwb
          have hlv := HTURN.out wb HHB.out.turns
          have HLVB := Lib.hid hlv; clear hlv
          generalize wk.heap.size = pb at HBXV hpb ⊢
          with_reducible refine (revokedr_any wb (some ⟨gb, 0, none⟩) nl c0 n s r _ L HLVB.out k y1 hklt hnl).mono ?_
          rintro e w9 ⟨rfl, hb9⟩
          obtain ⟨b0, b1, hdat, hsz⟩ := HBXV.out w9 hb9
          have HH9 := Lib.hid (HHB.out.later hb9)
          have hcall := HH9.out.write y1 hin1 A2 c2 pb y2 hin2 hdat hsz (by omega)
          have HC := Lib.hid hcall; clear hcall hdat hsz HBXV HLVB hb9 HHB
          cases hrv : revokedB (L.map (·.t)) k y1
          · have hs : applyW (L.map (·.t)) k DJ (y1, y2) = DJ.write y1.toNat y2 := by unfold applyW; rw [hrv]; rfl
            have HS := Lib.hid hs; clear hs hrv
            go_wp2_with fail
            with_reducible refine HC.out.mono ?_
            rintro e w10 ⟨rfl, hH10⟩
            have HH10 := Lib.hid hH10; clear hH10 HC b0 b1
            go_wp2
            go_roundw
            case rel => exact ⟨j + 1, by omega, by go_num, by rw [HST.out, HS.out]; exact HH10.out⟩
            case measure => simp [intOf]; omega
          · have hs : applyW (L.map (·.t)) k DJ (y1, y2) = DJ := by unfold applyW; rw [hrv]; rfl
            have HS := Lib.hid hs; clear hs hrv HC b0 b1
            go_wp2
            go_roundw
            case rel => exact ⟨j + 1, by omega, by go_num, by rw [HST.out, HS.out]; exact HH9.out.more (Nat.le_succ _)⟩
            case measure => simp [intOf]; omega
        · obtain rfl : j = nx := by omega
          have hend : RHoming w p F wr (applyN (L.map (·.t)) d (k + 1)) (c + 58 * (k + 1)) := by
            rw [HNX2.out]
            rw [List.take_of_length_le (l := x.t.ws) (by rw [HNX.out]; exact Nat.le_refl _)] at hH
            exact hH.more (by omega)
          have HE := Lib.hid hend; clear hend hH
          go_wp2
          go_roundw
          case rel => exact ⟨k + 1, by omega, by go_num, HE.out⟩
          case measure => simp [intOf]; omega
    · obtain rfl : k = nl := by omega
      go_wp2
      refine bodyPost_end (results_none rfl _ _ _) rfl ?_
      exact ⟨rfl, HH.out⟩
end Go.Proofs.YtelnoibfamcnmaaGreat.Log

namespace Go.Proofs.YtelnoibfamcnmaaGreat.Log
set_option maxRecDepth 20000
open Go.RowKit
open Go.Proofs.YtelnoibfamcnmaaGreat.Mem Go.Proofs.YtelnoibfamcnmaaGreat.Crc Go.Proofs.YtelnoibfamcnmaaGreat.Disk Go.Proofs.YtelnoibfamcnmaaGreat.Reg
open Go.Proofs.YtelnoibfamcnmaaGreat.Rec (Tx Wt TxAt HoldsW HoldsI IsInt mayB_iff OwnsT)

theorem RHoming.drew {W wr : World} {r c : Nat} {F : Nat → Prop} {d : Dk.Dk} (h : RHoming W r F wr d c) : RHoming W r F wr.drew d c := h.later (Below.refl _ wr).drew
theorem RHoming.comp {W wr w' : World} {r c' : Nat} {F F' : Nat → Prop} {d' : Dk.Dk} (hf : ∀ k, F' k → F k ∨ W.heap.size ≤ k) (hT : Turns F W wr) (h : RHoming wr r F' w' d' c') : RHoming W r F w' d' c' := by
  obtain ⟨F2, h1, h2, h3⟩ := h
  refine ⟨F2, h1, fun k hk => ?_, hT.trans h3 (fun i hi e => ?_)⟩
  · rcases h2 k hk with e | e
    · exact hf k e
    · have := hT.size; exact .inr (by omega)
  · rcases hf i e with e | e
    · exact e
    · omega
theorem RHoming.flush {W wr : World} {r c : Nat} {F : Nat → Prop} {d : Dk.Dk} (h : RHoming W r F wr d c) (hc : c ≤ 1048576) :
    Calls Tryz.prog 42 #[.pointer (some ⟨r, 0, none⟩)] wr fun e w' => e = .returned (.tuple #[]) ∧ RHoming W r F w' d.flush c := by
  obtain ⟨F', h1, h2, h3⟩ := h
  refine Calls.mono (rflush_d d r c F' wr h1 hc) (fun e w' hN => ?_)
  obtain ⟨F2, he, k1, kf, k3⟩ := hN
  exact ⟨he, RHoming.comp h2 h3 ⟨F2, k1, kf, k3⟩⟩
theorem RHoming.area {W wr : World} {A : Option Addr} {nl c0 n s r0 r c : Nat} {G F : Nat → Prop} {d : Dk.Dk} {L : List LiveRec} (hL : Live W G n s r0 (.slice A nl c0) nl L) (h : RHoming W r F wr d c) (hn : d.stable.length = n) (hFG : ∀ q, F q → G q)
    (hFv : ∀ q, (Value.slice A nl c0).ownBlock = some q → ¬ F q) (hnl : nl ≤ 1048576) (hc : c + 58 * nl < 1048576) :
    Calls Tryz.prog 41 #[.pointer (some ⟨r, 0, none⟩), .slice A nl c0] wr fun e w' => e = .returned (.tuple #[]) ∧ RHoming W r F w' (applyN (L.map (·.t)) d nl) (c + 58 * nl) := by
  obtain ⟨F', h1, h2, h3⟩ := h
  have hL2 : Live wr (fun q => G q ∨ F' q) n s r0 (.slice A nl c0) nl L := hL.turns (h3.mono (fun q _ e => ⟨hFG q e, fun e2 => hFv q e2 e⟩)) (fun i hi e => by
    rcases e with e | e
    · exact e
    · rcases h2 i e with e | e
      · exact hFG i e
      · omega)
  refine (applyr_any wr A nl c0 n s r0 r c _ F' d L hL2 h1 hn (fun q e => .inr e) (fun q e e2 => ?_) hnl hc).mono fun e w' hN => ⟨hN.1, RHoming.comp h2 h3 hN.2⟩
  rcases h2 q e2 with e3 | e3
  · exact hFv q e e3
  · have := hL.row.lt e; omega

/-- The document's log in memory: since the world W0 nothing but its own blocks has turned. -/
def DKnown (W0 wr : World) (m r s l n : Nat) (G0 X : Nat → Prop) (g : Lg) (nb cb : Nat) : Prop :=
  ∃ A c0 c F L, DocAt wr m r (s : Int) (l : Int) g.seq g.pl (.slice A L.length c0) ∧ RefDisk wr r g.d c F ∧ g.d.stable.length = n ∧ Live wr (fun q => F q ∨ q = m ∨ (Value.slice A L.length c0).ownBlock = some q ∨ X q) n s (l - 1) (.slice A L.length c0) L.length L ∧ (∀ q, X q → q < wr.heap.size) ∧ L.map (·.t) = g.ts ∧ c ≤ cb ∧ g.ts.length ≤ nb ∧
    ¬ F m ∧ (∀ q, (Value.slice A L.length c0).ownBlock = some q → ¬ F q ∧ q ≠ m) ∧ (∀ q, F q → G0 q ∨ W0.heap.size ≤ q) ∧ (∀ q, (Value.slice A L.length c0).ownBlock = some q → G0 q ∨ W0.heap.size ≤ q) ∧ Turns (fun q => G0 q ∨ q = m) W0 wr

/-- What holds of a log's plain state all along. -/
structure Lg.Fit (g : Lg) (s l n : Nat) : Prop where
  rise : Rising g.ts
  low : ∀ t ∈ g.ts, t.seq < g.seq
  used : g.used = usedOf g.ts
  room : g.used ≤ l - 1
  place : g.pl < l - 1
  area : 8 ≤ l ∧ l ≤ 1024 ∧ s + l ≤ n ∧ n ≤ 1024
  size : g.d.stable.length = n

theorem Lg.Fit.home {g : Lg} {s l n : Nat} (h : g.Fit s l n) : (g.home s).Fit s l n := by
  unfold Lg.home
  split
  · exact h
  · refine ⟨(fun i j t u hi => by simp at hi), (fun t ht => by cases ht), rfl, Nat.zero_le _, h.place, h.area, ?_⟩
    show (homeD s g.seq g.pl g.d g.ts).stable.length = n
    unfold homeD; rw [Dk.size_flush, write_size, Dk.size_flush, homeL_size, Dk.size_flush]; exact h.size
theorem Lg.Fit.app {g : Lg} {s l n : Nat} (h : g.Fit s l n) (t : Tx) : (g.app n s (l - 1) t).2.2.Fit s l n := by
  unfold Lg.app
  split
  · split
    · rename_i hr
      have hz := putL_size s (l - 1) g.d g.pl (chunksOf (g.txn t).enc (t.ws.length + 2)) (by have := h.area; omega) h.place
      refine ⟨fun i j a b ha hb hij => ?_, fun a ha => ?_, ?_, hr, hz.2, h.area, hz.1.trans h.size⟩
      · have ha' : (g.ts ++ [g.txn t])[i]? = some a := ha
        have hb' : (g.ts ++ [g.txn t])[j]? = some b := hb
        have hjl := (List.getElem?_eq_some_iff.1 hb').1
        rw [List.length_append, List.length_singleton] at hjl
        rw [List.getElem?_append_left (by omega)] at ha'
        rcases Nat.lt_or_ge j g.ts.length with hl | hl
        · rw [List.getElem?_append_left hl] at hb'
          exact h.rise i j a b ha' hb' hij
        · rw [List.getElem?_append_right hl, show j - g.ts.length = 0 by omega] at hb'
          simp at hb'
          subst hb'
          exact h.low a (List.mem_of_getElem? ha')
      · have ha' : a ∈ g.ts ++ [g.txn t] := ha
        show a.seq < g.seq + 1
        rcases List.mem_append.1 ha' with e | e
        · have := h.low a e; omega
        · simp at e; subst e; show g.seq < g.seq + 1; omega
      · show g.used + (t.ws.length + 2) = usedOf (g.ts ++ [g.txn t])
        rw [usedOf_snoc, h.used]; rfl
    · exact h
  · exact h
theorem Lg.Fit.disk {g : Lg} {s l n : Nat} (h : g.Fit s l n) (d : Dk.Dk) (hd : d.stable.length = g.d.stable.length) : ({ g with d := d } : Lg).Fit s l n := ⟨h.rise, h.low, h.used, h.room, h.place, h.area, hd.trans h.size⟩
theorem Lg.Fit.fresh (s l n : Nat) (h8 : 8 ≤ l) (hl : l ≤ 1024) (hs : s + l ≤ n) (hn : n ≤ 1024) : (Lg.fresh n s).Fit s l n :=
  ⟨(fun i j t u hi => by simp [Lg.fresh] at hi), (fun t ht => by simp [Lg.fresh] at ht), rfl, Nat.zero_le _, by show 0 < l - 1; omega, ⟨h8, hl, hs, hn⟩, freshD_size n s⟩

end Go.Proofs.YtelnoibfamcnmaaGreat.Log

namespace Go.Proofs.YtelnoibfamcnmaaGreat.Log
set_option maxRecDepth 20000
open Go.RowKit
open Go.Proofs.YtelnoibfamcnmaaGreat.Mem Go.Proofs.YtelnoibfamcnmaaGreat.Crc Go.Proofs.YtelnoibfamcnmaaGreat.Disk Go.Proofs.YtelnoibfamcnmaaGreat.Reg
open Go.Proofs.YtelnoibfamcnmaaGreat.Rec (Tx Wt TxAt HoldsW HoldsI IsInt mayB_iff OwnsT Wide copy_any encr_any)

theorem DKnown.later {W0 wr w' : World} {m r s l n nb cb : Nat} {G0 X : Nat → Prop} {g : Lg} (h : DKnown W0 wr m r s l n G0 X g nb cb) (hb : Below wr.heap.size wr w') : DKnown W0 w' m r s l n G0 X g nb cb := by
  obtain ⟨A, c0, c, F, L, a1, a2, a3, a4, aX, a5, a6, a7, a8, a9, a10, a11, a12⟩ := h
  exact ⟨A, c0, c, F, L, a1.below hb, a2.later hb, a3, a4.turns (Turns.of_below hb) (fun _ _ e => e), (fun q e => Nat.lt_of_lt_of_le (aX q e) hb.size), a5, a6, a7, a8, a9, a10, a11, a12.trans (Turns.of_below (F := fun q => G0 q ∨ q = m) hb) (fun _ _ e => e)⟩
theorem DKnown.more {W0 wr : World} {m r s l n nb cb nb' cb' : Nat} {G0 X : Nat → Prop} {g : Lg} (h : DKnown W0 wr m r s l n G0 X g nb cb) (h1 : nb ≤ nb') (h2 : cb ≤ cb') : DKnown W0 wr m r s l n G0 X g nb' cb' := by
  obtain ⟨A, c0, c, F, L, a1, a2, a3, a4, aX, a5, a6, a7, a8⟩ := h
  exact ⟨A, c0, c, F, L, a1, a2, a3, a4, aX, a5, by omega, by omega, a8⟩

end Go.Proofs.YtelnoibfamcnmaaGreat.Log
