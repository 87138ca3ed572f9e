/- Whether the blocks of a record are all the disk's, and outside of the area. -/
import Derived.Test.YtkicobmdogeigaaLgLog
import Derived.Test.YtkicobmdogeigaaRcTxn
namespace Go.Proofs.Ytkicobmdogeigaa.Log
set_option maxRecDepth 20000
open Go.RowKit
open Go.Proofs.Ytkicobmdogeigaa.Mem Go.Proofs.Ytkicobmdogeigaa.Crc Go.Proofs.Ytkicobmdogeigaa.Disk
open Go.Proofs.Ytkicobmdogeigaa.Rec (Tx Wt TxAt HoldsW HoldsI IsInt)
attribute [local go_sem ↓] Go.wp_at_zero Go.wp_at_succ

def outB (n s r : Nat) (x : Int) : Bool := decide (0 ≤ x) && decide (x < (n : Int)) && !(decide ((s : Int) ≤ x) && decide (x ≤ (s : Int) + (r : Int)))

set_option maxHeartbeats 1000000 in
theorem outside_d (x : Int) (s r : Nat) (d : Dk.Dk) (p c : Nat) (F : Nat → Prop) (w : World) (h : DiskAt w p d c F) (hs : s + r < d.stable.length) :
    Calls Try.prog 101 #[areaV p (s : Int) (r : Int), .int .i64 x] w fun e w' => e = .returned (.bool (outB d.stable.length s r x)) ∧ Below w.heap.size w w' := by
  have hm := h.ok.2.2
  have hsz := size_later d p c F w h
  have HSZ := Lib.hid hsz; clear hsz h
  unfold areaV ptr
  generalize d.stable.length = n at *
  rcases (show x < 0 ∨ ((n : Int) ≤ x ∧ 0 ≤ x) ∨ (0 ≤ x ∧ x < (s : Int)) ∨ ((s : Int) ≤ x ∧ x ≤ (s : Int) + (r : Int)) ∨ ((s : Int) + (r : Int) < x ∧ x < (n : Int)) by omega) with h1 | ⟨h1, h2⟩ | ⟨h1, h2⟩ | ⟨h1, h2⟩ | ⟨h1, h2⟩
  · have g1 : ¬ (s : Int) ≤ x := by omega
    have g3 : ¬ (0 : Int) ≤ x := by omega
    have hres : outB n s r x = false := by simp [outB, g3]
    rw [hres]
    go_enter Try.func101, Try.ntmps101
    go_wp2
    go_ret
    exact ⟨by simp [*], (Below.refl _ w).alloc (Nat.le_refl _) _⟩
  · have g1 : (s : Int) ≤ x := by omega
    have g2 : ¬ x ≤ (s : Int) + (r : Int) := by omega
    have g4 : ¬ x < (n : Int) := by omega
    have hres : outB n s r x = false := by simp [outB, g4]
    rw [hres]
    go_enter Try.func101, Try.ntmps101
    go_wp2_with fail
    refine (HSZ.out _ ((Below.refl _ w).alloc (Nat.le_refl _) _)).mono ?_
    rintro e w' ⟨rfl, rfl⟩
    go_wp2
    go_ret
    exact ⟨by simp [*], (Below.refl _ w).alloc (Nat.le_refl _) _⟩
  · have g1 : ¬ (s : Int) ≤ x := by omega
    have g4 : x < (n : Int) := by omega
    have hres : outB n s r x = true := by simp [outB, g1, g4, h1]
    rw [hres]
    go_enter Try.func101, Try.ntmps101
    go_wp2_with fail
    refine (HSZ.out _ ((Below.refl _ w).alloc (Nat.le_refl _) _)).mono ?_
    rintro e w' ⟨rfl, rfl⟩
    go_wp2
    go_ret
    exact ⟨by simp [*], (Below.refl _ w).alloc (Nat.le_refl _) _⟩
  · have g3 : (0 : Int) ≤ x := by omega
    have g4 : x < (n : Int) := by omega
    have hres : outB n s r x = false := by simp [outB, h1, h2]
    rw [hres]
    go_enter Try.func101, Try.ntmps101
    go_wp2_with fail
    refine (HSZ.out _ ((Below.refl _ w).alloc (Nat.le_refl _) _)).mono ?_
    rintro e w' ⟨rfl, rfl⟩
    go_wp2
    go_ret
    exact ⟨by simp [*], (Below.refl _ w).alloc (Nat.le_refl _) _⟩
  · have g1 : (s : Int) ≤ x := by omega
    have g2 : ¬ x ≤ (s : Int) + (r : Int) := by omega
    have g3 : (0 : Int) ≤ x := by omega
    have hres : outB n s r x = true := by simp [outB, g2, g3, h2]
    rw [hres]
    go_enter Try.func101, Try.ntmps101
    go_wp2_with fail
    refine (HSZ.out _ ((Below.refl _ w).alloc (Nat.le_refl _) _)).mono ?_
    rintro e w' ⟨rfl, rfl⟩
    go_wp2
    go_ret
    exact ⟨by simp [*], (Below.refl _ w).alloc (Nat.le_refl _) _⟩

def takesB (n s r : Nat) (t : Tx) : Bool := t.ws.all (fun x => outB n s r x.1) && t.rs.all (outB n s r)
theorem all_take {α : Type} (f : α → Bool) (l : List α) (k : Nat) (x : α) (hx : l[k]? = some x) (h : (l.take k).all f = true) : (l.take (k + 1)).all f = f x := by
  obtain ⟨hk, rfl⟩ := List.getElem?_eq_some_iff.1 hx
  rw [List.take_succ_eq_append_getElem hk, List.all_append, h]
  simp
theorem all_not {α : Type} (f : α → Bool) (l : List α) (k : Nat) (x : α) (hx : l[k]? = some x) (h : f x = false) : l.all f = false := by
  rw [List.all_eq_false]
  exact ⟨x, List.mem_of_getElem? hx, by simp [h]⟩

set_option maxRecDepth 100000 in
set_option maxHeartbeats 1000000 in
theorem takes_d (s r : Nat) (d : Dk.Dk) (p c : Nat) (F : Nat → Prop) (w : World) (h : DiskAt w p d c F) (hs : s + r < d.stable.length) (t : Tx) (Aw Ar : Option Addr) (nw cw nr cr B : Nat) (ht : TxAt w B t Aw nw cw Ar nr cr) (hB : B ≤ w.heap.size) :
    Calls Try.prog 78 #[areaV p (s : Int) (r : Int), .agg #[.int .u64 (t.seq : Int), .slice Aw nw cw, .slice Ar nr cr]] w fun e w' => e = .returned (.bool (takesB d.stable.length s r t)) ∧ Below w.heap.size w w' := by
  have hout : ∀ V, Below w.heap.size w V → ∀ x : Int, Calls Try.prog 101 #[.agg #[.pointer (some ⟨p, 0, none⟩), .int .i64 (s : Int), .int .i64 (r : Int)], .int .i64 x] V fun e w' => e = .returned (.bool (outB d.stable.length s r x)) ∧ Below V.heap.size V w' := fun V hV x =>
    outside_d x s r d p c F V (h.turns (Turns.of_below (F := fun _ => False) hV) (fun _ _ e => e)) hs
  have hf := ht.fits
  obtain ⟨hf1, hf2, hf3, hf4⟩ := hf
  have HOUT := Lib.hid hout; clear hout h
  have HT := Lib.hid ht; clear ht
  unfold areaV ptr takesB
  generalize d.stable.length = n at *
  have hw0 : Below w.heap.size w ((w.alloc (.cells #[.pointer (some ⟨p, 0, none⟩), .int .i64 (s : Int), .int .i64 (r : Int)] 104)).alloc (.cells #[.int .u64 (t.seq : Int), .slice Aw nw cw, .slice Ar nr cr] 67)) := ((Below.refl _ w).alloc (Nat.le_refl _) _).alloc (by simp) _
  have hx0 : ((w.alloc (.cells #[.pointer (some ⟨p, 0, none⟩), .int .i64 (s : Int), .int .i64 (r : Int)] 104)).alloc (.cells #[.int .u64 (t.seq : Int), .slice Aw nw cw, .slice Ar nr cr] 67)).heap[w.heap.size]? = some (.cells #[.pointer (some ⟨p, 0, none⟩), .int .i64 (s : Int), .int .i64 (r : Int)] 104 (0, 0)) := (Below.heap_alloc _ _ _ (by simp)).trans (heap_alloc_new w _)
  have hx1 : ((w.alloc (.cells #[.pointer (some ⟨p, 0, none⟩), .int .i64 (s : Int), .int .i64 (r : Int)] 104)).alloc (.cells #[.int .u64 (t.seq : Int), .slice Aw nw cw, .slice Ar nr cr] 67)).heap[w.heap.size + 1]? = some (.cells #[.int .u64 (t.seq : Int), .slice Aw nw cw, .slice Ar nr cr] 67 (0, 0)) := by
    have := heap_alloc_new (w.alloc (.cells #[.pointer (some ⟨p, 0, none⟩), .int .i64 (s : Int), .int .i64 (r : Int)] 104)) (.cells #[.int .u64 (t.seq : Int), .slice Aw nw cw, .slice Ar nr cr] 67)
    simpa using this
  have HW0 := Lib.hid hw0; clear hw0
  have HX0 := Lib.hid hx0; clear hx0
  have HX1 := Lib.hid hx1; clear hx1
  go_enter Try.func78, Try.ntmps78
  go_wp2
  generalize (w.alloc (.cells #[.pointer (some ⟨p, 0, none⟩), .int .i64 (s : Int), .int .i64 (r : Int)] 104)).alloc (.cells #[.int .u64 (t.seq : Int), .slice Aw nw cw, .slice Ar nr cr] 67) = W0 at HW0 HX0 HX1 ⊢
  have hz1 : w.heap.size + 1 < W0.heap.size := (Array.getElem?_eq_some_iff.1 HX1.out).1
  go_loopw [12] (fun i wr => ∃ k : Nat, k ≤ nw ∧ i = .int .i64 (k : Int) ∧ Below W0.heap.size W0 wr ∧ (t.ws.take k).all (fun x => outB n s r x.1) = true) (fun i _ => nw - (intOf i).toNat)
  case atStart => exact ⟨0, by omega, rfl, Below.refl _ _, by simp⟩
  case round =>
    obtain ⟨k, hk, rfl, hb, hall⟩ := hrel
    obtain ⟨wk, hwk⟩ : ∃ wk, wk = wr := ⟨_, rfl⟩
    subst hwk
    have HB := Lib.hid hb; clear hb
    have HALL := Lib.hid hall; clear hall
    by_cases hlt : k < nw
    · obtain ⟨b, off, rfl, hbB, hcell⟩ := HT.out.ws.2 (by omega)
      have hkl : k < t.ws.length := by rw [HT.out.ws.1]; exact hlt
      have hget : t.ws[k]? = some t.ws[k] := List.getElem?_eq_getElem hkl
      have HGET := Lib.hid hget
      obtain ⟨c0, A', c', c1, -⟩ := hcell k t.ws[k] hget
      generalize t.ws[k]'hkl = x at c0 c1 HGET
      have hwb : Below w.heap.size w wk := HW0.out.trans (HB.out.mono (by omega))
      have e0 : wk.cell? ⟨b, off + k * 2, none⟩ = some (.int .i64 x.1) := (hwb.cell (p := ⟨b, off + k * 2, none⟩) (by show b < _; omega)).trans c0
      have e1 : wk.cell? ⟨b, off + k * 2 + 1, none⟩ = some (.slice A' x.2.length c') := (hwb.cell (p := ⟨b, off + k * 2 + 1, none⟩) (by show b < _; omega)).trans c1
      have hbx := box_at ((HB.out.block _ (by omega)).trans HX0.out)
      obtain ⟨q0, q1, q2⟩ := hbx
      have hi1 : (0 : Int) ≤ (k : Int) := by omega
      have hi2 : (k : Int) < (nw : Int) := by omega
      have HWB := Lib.hid hwb
      have hz2 := HB.out.size
      obtain ⟨x1, x2⟩ := x
      dsimp only at e0 e1
      have hkn : b < wk.heap.size := block_lt_of_cell e0
      have hz3 : w.heap.size < wk.heap.size := by omega
      clear hcell c0 c1 hget
      go_wp2_with fail
      refine (HOUT.out _ (HWB.out.alloc HWB.out.size _) x1).mono ?_
      rintro e U ⟨rfl, hbU⟩
      have hWU : Hid (Below W0.heap.size W0 U) := Lib.hid ((HB.out.alloc HB.out.size _).trans (hbU.mono (by simp; omega)))
      clear hbU e0 e1 q0 q1 q2
      cases hv : outB n s r x1
      · have HV := Lib.hid hv; clear hv
        go_wp2
        go_ret
        exact ⟨by rw [all_not _ t.ws k _ HGET.out HV.out]; simp, HW0.out.trans (hWU.out.mono (by omega))⟩
      · have HV := Lib.hid hv; clear hv
        go_wp2
        go_roundw
        case rel => exact ⟨k + 1, by omega, by go_num, hWU.out, (all_take _ t.ws k _ HGET.out HALL.out).trans HV.out⟩
        case measure => simp [intOf]; omega
    · obtain rfl : k = nw := by omega
      have hfull : t.ws.take k = t.ws := List.take_of_length_le (by rw [HT.out.ws.1]; exact Nat.le_refl _)
      have hall := HALL.out
      rw [hfull] at hall
      have HALLW := Lib.hid hall; clear hall hfull HALL
      have hx1' := (HB.out.block _ hz1).trans HX1.out
      have q2 : wk.cell? ⟨w.heap.size + 1, 2, none⟩ = some (.slice Ar nr cr) := cell_of_row wk (w.heap.size + 1) 2 _ _ _ hx1'
      clear hx1'
      have hmm : (k : Int) ≤ (k : Int) := by omega
      go_wp2
      clear q2
      go_loopw [25] (fun i wr => ∃ j : Nat, j ≤ nr ∧ i = .int .i64 (j : Int) ∧ Below W0.heap.size W0 wr ∧ (t.rs.take j).all (outB n s r) = true) (fun i _ => nr - (intOf i).toNat)
      case atStart => exact ⟨0, by omega, rfl, HB.out, by simp⟩
      case round =>
        clear HB
        obtain ⟨j, hj, rfl, hb, hall⟩ := hrel
        obtain ⟨wk, hwk⟩ : ∃ wk, wk = wr := ⟨_, rfl⟩
        subst hwk
        have HB := Lib.hid hb; clear hb
        have HALL := Lib.hid hall; clear hall
        by_cases hlt : j < nr
        · obtain ⟨b, off, rfl, hbB, hcell⟩ := HT.out.rs.2 (by omega)
          have hkl : j < t.rs.length := by rw [HT.out.rs.1]; exact hlt
          have hget : t.rs[j]? = some t.rs[j] := List.getElem?_eq_getElem hkl
          have HGET := Lib.hid hget
          have c0 := hcell j t.rs[j] hget
          generalize t.rs[j]'hkl = x at c0 HGET
          have hwb : Below w.heap.size w wk := HW0.out.trans (HB.out.mono (by omega))
          have e0 : wk.cell? ⟨b, off + j, none⟩ = some (.int .i64 x) := (hwb.cell (p := ⟨b, off + j, none⟩) (by show b < _; omega)).trans c0
          obtain ⟨q0, q1, q2⟩ := box_at ((HB.out.block _ (by omega)).trans HX0.out)
          have hi1 : (0 : Int) ≤ (j : Int) := by omega
          have hi2 : (j : Int) < (nr : Int) := by omega
          have HWB := Lib.hid hwb
          have hz2 := HB.out.size
          clear hcell c0 hget
          go_wp2_with fail
          refine (HOUT.out _ HWB.out x).mono ?_
          rintro e U ⟨rfl, hbU⟩
          have hWU : Hid (Below W0.heap.size W0 U) := Lib.hid (HB.out.trans (hbU.mono (by omega)))
          clear hbU e0 q0 q1 q2
          cases hv : outB n s r x
          · have HV := Lib.hid hv; clear hv
            go_wp2
            go_ret
            exact ⟨by rw [all_not _ t.rs j _ HGET.out HV.out]; simp, HW0.out.trans (hWU.out.mono (by omega))⟩
          · have HV := Lib.hid hv; clear hv
            go_wp2
            go_roundw
            case rel => exact ⟨j + 1, by omega, by go_num, hWU.out, (all_take _ t.rs j _ HGET.out HALL.out).trans HV.out⟩
            case measure => simp [intOf]; omega
        · obtain rfl : j = nr := by omega
          have hfull : t.rs.take j = t.rs := List.take_of_length_le (by rw [HT.out.rs.1]; exact Nat.le_refl _)
          have hall := HALL.out
          rw [hfull] at hall
          have hmm2 : (j : Int) ≤ (j : Int) := by omega
          have HAR := Lib.hid hall; clear hall hfull
          go_wp2
          go_ret
          exact ⟨by rw [HALLW.out, HAR.out]; rfl, HW0.out.trans (HB.out.mono (by omega))⟩
end Go.Proofs.Ytkicobmdogeigaa.Log
