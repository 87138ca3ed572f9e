/- Contract of the program's asking whether a record may be. -/
import Derived.Test.YtkicobmdogeigaaRcCnt
import Derived.Deep.LoopGhost
namespace Go.Proofs.Ytkicobmdogeigaa.Rec
set_option maxRecDepth 20000
open Go.RowKit
open Go.Proofs.Ytkicobmdogeigaa.Mem Go.Proofs.Ytkicobmdogeigaa.Crc

theorem may_few (t : Tx) (Aw Ar : Option Addr) (nw cw nr cr B : Nat) (w : World) (h : TxAt w B t Aw nw cw Ar nr cr) (hn : ¬ (1 ≤ nw + nr ∧ nw + nr ≤ 58)) :
    Calls Try.prog 95 #[.agg #[.int .u64 (t.seq : Int), .slice Aw nw cw, .slice Ar nr cr]] w (Answers w (.bool t.mayB)) := by
  have hf : t.mayB = false := mayB_false t fun hm => hn ⟨by have := hm.lo; rw [h.ws.1, h.rs.1] at this; exact this, by have := hm.hi; rw [h.ws.1, h.rs.1] at this; exact this⟩
  rw [hf]
  obtain ⟨g1, g2, g3, g4⟩ := h.fits
  clear hf h
  by_cases h1 : (nw : Int) + (nr : Int) < 1
  · go_enter Try.func95, Try.ntmps95
    go_wp2
    go_ret
    exact ⟨rfl, (Below.refl w.heap.size w).alloc (Nat.le_refl _) _⟩
  · have h2 : (58 : Int) < (nw : Int) + (nr : Int) := by omega
    have hd : decide ((nw : Int) + (nr : Int) < 1) = false := by simpa using h1
    clear hn
    go_enter Try.func95, Try.ntmps95
    go_wp2
    go_ret
    exact ⟨rfl, (Below.refl w.heap.size w).alloc (Nat.le_refl _) _⟩

set_option maxRecDepth 100000 in
set_option maxHeartbeats 2000000 in
theorem may_many (t : Tx) (Aw Ar : Option Addr) (nw cw nr cr B : Nat) (w : World) (h : TxAt w B t Aw nw cw Ar nr cr) (hB : B ≤ w.heap.size) (hn1 : 1 ≤ nw + nr) (hn2 : nw + nr ≤ 58) :
    Calls Try.prog 95 #[.agg #[.int .u64 (t.seq : Int), .slice Aw nw cw, .slice Ar nr cr]] w (Answers w (.bool t.mayB)) := by
  obtain ⟨cur, hcur⟩ : ∃ c, c = #[Value.int .u64 (t.seq : Int), .slice Aw nw cw, .slice Ar nr cr] := ⟨_, rfl⟩
  have hnw := h.ws.1
  have hnr := h.rs.1
  have h1 : ¬ (nw : Int) + (nr : Int) < 1 := by omega
  have h2 : ¬ (58 : Int) < (nw : Int) + (nr : Int) := by omega
  have hw58 : nw ≤ 58 := by omega
  have hr58 : nr ≤ 58 := by omega
  have hnl : t.nums.length = nw + nr := by unfold Tx.nums; rw [List.length_append, List.length_map, hnw, hnr]
  have hM0 : Meets w ((w.alloc (.cells cur 67)).alloc (.map #[] 0)) t cur 0 := by
    refine ⟨?_, ⟨0, Nat.le_refl _, ?_⟩, ((Below.refl w.heap.size w).alloc (Nat.le_refl _) _).alloc (by simp) _, by simp⟩
    · rw [Below.heap_alloc _ _ _ (by simp)]; exact heap_alloc_new w _
    · have := World.ownsMap_made (w.alloc (.cells cur 67)) Try.prog 3 (plainElem (H := Unit) Try.prog 3)
      rw [show (w.alloc (.cells cur 67)).heap.size = w.heap.size + 1 by simp] at this
      exact this
  have HM0 := Lib.hid hM0; clear hM0
  have H := Lib.hid h; clear h
  have HNW := Lib.hid hnw; clear hnw
  have HNR := Lib.hid hnr; clear hnr
  have HNL := Lib.hid hnl; clear hnl
  have hmm := @run_makeMap Try.prog
  go_enter Try.func95, Try.ntmps95
  go_wp2_with fail
  rw [← hcur]
  generalize (w.alloc (.cells cur 67)).alloc (.map #[] 0) = W at HM0 ⊢
  have HCUR := Lib.hid hcur; clear hcur
  clear hmm
  go_loopw [28] (fun i wr => ∃ k : Nat, k ≤ nw ∧ i = .int .i64 k ∧ Meets w wr t cur k ∧ ∀ x ∈ t.ws.take k, x.2.length = 256) (fun i _ => nw - (intOf i).toNat)
  case atStart => exact ⟨0, by omega, rfl, HM0.out, by simp⟩
  case round =>
    obtain ⟨k, hk, rfl, hM, hall⟩ := hrel
    have HALL := Lib.hid hall; clear hall
    have HM := Lib.hid hM; clear hM
    by_cases hlt : k < nw
    · have hT := H.out.below (HM.out.below.mono hB)
      obtain ⟨x, hx⟩ : ∃ x, t.ws[k]? = some x := ⟨_, List.getElem?_eq_getElem (by have := HNW.out; omega)⟩
      obtain ⟨b, off, rfl, hbB, hc⟩ := hT.ws.2 (by omega)
      obtain ⟨e0, A', c', e1, -⟩ := hc k x hx
      have hmem := List.mem_of_getElem? hx
      have hix := hT.intW x hmem
      have hget : t.nums.getD k 0 = x.1 := by
        unfold Tx.nums
        rw [List.getD_eq_getElem?_getD, List.getElem?_append_left (by rw [List.length_map, HNW.out]; omega), List.getElem?_map, hx]; rfl
      have hk0 : (0 : Int) ≤ (k : Int) := by omega
      have hkn : (k : Int) < (nw : Int) := by omega
      have HX := Lib.hid hx; clear hx
      clear hc hT
      obtain ⟨x1, x2⟩ := x
      dsimp only at e0 e1 hix hget
      by_cases hd : x2.length = 256
      · have hD : (x2.length : Int) = 256 := by omega
        rw [hd] at e1
        obtain ⟨n, hnk, hcn⟩ := HM.out.table
        have hcn1 : Counts (wr.alloc (.cells #[.int .i64 x1, .slice A' 256 c'] 83)) (w.heap.size + 1) n t.nums k := hcn.alloc _
        have hlook := run_count _ _ n k t.nums x1 hix (by rw [HNL.out]; omega) hcn1
        obtain ⟨w2, hupd, hcn2, hg2⟩ := run_meet _ _ n k t.nums x1 hix (by rw [HNL.out]; omega) hget (by unfold maxLen; omega) (by rw [HNL.out]; omega) hcn1
        have hc58 : (t.nums.take k).count x1 ≤ 58 := Nat.le_trans List.count_le_length (by rw [List.length_take]; omega)
        generalize (t.nums.take k).count x1 = c0 at hlook hupd hc58
        have hb2 : Below w.heap.size w w2 := (HM.out.below.alloc HM.out.below.size _).grown hg2 (by have := HM.out.size; simp; omega) (by intro q hq; injection hq with hq; omega)
        have hbox2 : w2.heap[w.heap.size]? = some (.cells cur 67 (0, 0)) := by
          rw [hg2.block _ (by have := HM.out.size; simp; omega) (by intro e; injection e with e; omega), Below.heap_alloc _ _ _ (by have := HM.out.size; omega)]; exact HM.out.box
        have hs2 : w.heap.size + 1 < w2.heap.size := by have := hg2.size; have := HM.out.size; simp at *; omega
        have HM2 : Hid (Meets w w2 t cur (k + 1)) := Lib.hid ⟨hbox2, ⟨n + 1, by omega, hcn2⟩, hb2, hs2⟩
        clear hcn hcn1 hcn2 hb2 hbox2 hg2 hs2 hget hix hD
        have HD := Lib.hid hd; clear hd
        go_wp2
        go_roundw
        case rel =>
          refine ⟨k + 1, by omega, by go_num, HM2.out, ?_⟩
          intro y hy
          rw [List.take_succ_eq_append_getElem (by have := HNW.out; omega)] at hy
          rcases List.mem_append.1 hy with hy | hy
          · exact HALL.out y hy
          · rw [List.mem_singleton] at hy
            have hx := HX.out
            rw [List.getElem?_eq_getElem (by have := HNW.out; omega)] at hx
            injection hx with hx
            rw [hy, hx]; exact HD.out
        case measure => simp [intOf]; omega
      · have hD : ((x2.length : Int) == 256) = false := beq_eq_false_iff_ne.2 (by omega)
        have hD2 : ((x2.length : Int) != 256) = true := by rw [bne, hD]; rfl
        have hf : t.mayB = false := mayB_false t fun hm => hd (hm.data _ hmem)
        rw [hf]
        clear hf hget hix
        go_wp2
        go_ret
        exact ⟨rfl, HM.out.below.alloc HM.out.below.size _⟩
    · obtain rfl : nw = k := by omega
      have p2 : wr.cell? ⟨w.heap.size, 2, none⟩ = some (.slice Ar nr cr) := by rw [cell_of_row _ _ _ _ _ _ HM.out.box, HCUR.out]; rfl
      have hdata : ∀ x ∈ t.ws, x.2.length = 256 := fun x hx => HALL.out x (by rw [List.take_of_length_le (by have := HNW.out; omega)]; exact hx)
      have HDATA := Lib.hid hdata; clear hdata
      obtain ⟨w5, hw5⟩ : ∃ w5, w5 = wr := ⟨_, rfl⟩
      subst hw5
      clear hk
      go_wp2
      go_loopw [8, 45] (fun _ i wr => ∃ k : Nat, k ≤ nr ∧ i = .int .i64 k ∧ Meets w wr t cur (nw + k)) (fun _ i _ => nr - (intOf i).toNat)
      case atStart => exact ⟨0, by omega, rfl, HM.out⟩
      case round =>
        clear HM HALL p2
        obtain ⟨k, hk, rfl, hM⟩ := hrel
        have HM := Lib.hid hM; clear hM
        by_cases hlt2 : k < nr
        · have hT := H.out.below (HM.out.below.mono hB)
          obtain ⟨x1, hx⟩ : ∃ x, t.rs[k]? = some x := ⟨_, List.getElem?_eq_getElem (by have := HNR.out; omega)⟩
          obtain ⟨b, off, rfl, hbB, hc⟩ := hT.rs.2 (by omega)
          have e0 := hc k x1 hx
          have hmem := List.mem_of_getElem? hx
          have hix := hT.intR x1 hmem
          have hget : t.nums.getD (nw + k) 0 = x1 := by
            unfold Tx.nums
            rw [List.getD_eq_getElem?_getD, List.getElem?_append_right (by rw [List.length_map, HNW.out]; omega), List.length_map, HNW.out, Nat.add_sub_cancel_left, hx]; rfl
          have hk0 : (0 : Int) ≤ (k : Int) := by omega
          have hkn : (k : Int) < (nr : Int) := by omega
          clear hc hT hx hmem
          obtain ⟨n, hnk, hcn⟩ := HM.out.table
          have hlook := run_count _ _ n (nw + k) t.nums x1 hix (by rw [HNL.out]; omega) hcn
          obtain ⟨w2, hupd, hcn2, hg2⟩ := run_meet _ _ n (nw + k) t.nums x1 hix (by rw [HNL.out]; omega) hget (by unfold maxLen; omega) (by rw [HNL.out]; omega) hcn
          have hc58 : (t.nums.take (nw + k)).count x1 ≤ 58 := Nat.le_trans List.count_le_length (by rw [List.length_take]; omega)
          generalize (t.nums.take (nw + k)).count x1 = c0 at hlook hupd hc58
          have hb2 : Below w.heap.size w w2 := HM.out.below.grown hg2 (by have := HM.out.size; omega) (by intro q hq; injection hq with hq; omega)
          have hbox2 : w2.heap[w.heap.size]? = some (.cells cur 67 (0, 0)) := by
            rw [hg2.block _ (by have := HM.out.size; omega) (by intro e; injection e with e; omega)]; exact HM.out.box
          have hs2 : w.heap.size + 1 < w2.heap.size := by have := hg2.size; have := HM.out.size; omega
          have HM2 : Hid (Meets w w2 t cur (nw + (k + 1))) := Lib.hid ⟨hbox2, ⟨n + 1, by omega, hcn2⟩, hb2, hs2⟩
          clear hcn hcn2 hb2 hbox2 hg2 hs2 hget hix
          go_wp2
          go_roundw
          case rel => exact ⟨k + 1, by omega, by go_num, HM2.out⟩
          case measure => simp [intOf]; omega
        · obtain rfl : nr = k := by omega
          obtain ⟨n, hnk, hcn⟩ := HM.out.table
          obtain ⟨w6, hw6⟩ : ∃ w6, w6 = wr := ⟨_, rfl⟩
          subst hw6
          clear hk
          go_wp2_with (first
            | (at_range; refine wpList_range_own _ rfl _ 90 rfl 3 3 intKey Try.underlying90 _ (w.heap.size + 1) _ _ rfl hcn ?_; intro w7 hrg0 hg0 hs0)
            | fail)
          go_frame
          have hstart : ∀ b, b ∈ t.nums → Maps.has (cntD t.nums (nw + nr)) (keyI b) = false → 0 ≤ b ∧ b < 1048576 ∧ t.nums.count b ≤ 1 := by
            intro b hb hf
            rw [cntD_has _ _ _ (by rw [HNL.out]; omega), List.take_of_length_le (by rw [HNL.out]; omega)] at hf
            simp [hb] at hf
          have hb7 : Below w.heap.size w w7 := HM.out.below.grown hg0 HM.out.below.size (by intro q hq; cases hq)
          have HST := Lib.hid hstart; clear hstart
          have HB7 := Lib.hid hb7; clear hb7
          have HRG0 := Lib.hid hrg0; clear hrg0
          have hz6 : w.heap.size ≤ w6.heap.size := HM.out.below.size
          clear hcn hg0 hs0
          go_loopw [9, 10] (fun _ _ wr => ∃ (left : Lit → Bool) (cnt : Nat), wr.ranges Try.prog 3 (plainElem Try.prog 3) (w.heap.size + 1) w6.heap.size n (cntD t.nums (nw + nr)) left cnt ∧
              (∀ b, b ∈ t.nums → left (keyI b) = false → 0 ≤ b ∧ b < 1048576 ∧ t.nums.count b ≤ 1) ∧ Below w.heap.size w wr) (fun _ _ wr => wr.rangeLeft (w.heap.size + 1) w6.heap.size)
          case atStart => exact ⟨_, _, HRG0.out, HST.out, HB7.out⟩
          case round =>
            obtain ⟨left, cnt, hrg, hgood, hbr⟩ := hrel
            have HGD := Lib.hid hgood; clear hgood
            have HBR := Lib.hid hbr; clear hbr
            go_wp2_with (first
              | (at_next; refine wpList_next_ranges_ii _ rfl _ rfl 3 3 .i64 .i64 intKey Try.underlying3 Try.underlying3 (w.heap.size + 1) w6.heap.size _ _ _ _ rfl hrg ?_ ?_)
              | fail)
            · intro hc0 hl0
              have ht : t.mayB = true := (mayB_iff t).2 ⟨by rw [HNW.out, HNR.out]; omega, by rw [HNW.out, HNR.out]; omega, HDATA.out, fun x hx => by
                have := HGD.out x hx (hl0 _); exact ⟨this.1, this.2.1⟩, count_nodup _ fun b hb => (HGD.out b hb (hl0 _)).2.2⟩
              have HF := Lib.hid ht
              clear hrg hc0 hl0 ht
              go_wp2
              go_ret
              exact ⟨Eq.trans (b := Ending.returned (.bool true)) rfl (by rw [HF.out]), HBR.out⟩
            · intro x c w8 cnt1 hwx hwc hlx hat hrg1 hlt1 hg1 hs1 hen
              obtain ⟨hmem, hcc⟩ := cntD_entry t.nums x c (nw + nr) (by rw [HNL.out]; omega) hat
              rw [List.take_of_length_le (by rw [HNL.out]; omega)] at hmem hcc
              have hb8 : Below w.heap.size w w8 := HBR.out.grown hg1 HBR.out.size (by intro q hq; injection hq with hq; omega)
              have HB8 := Lib.hid hb8; clear hb8
              have HRG1 := Lib.hid hrg1; clear hrg1
              have HRG := Lib.hid hrg; clear hrg
              clear hat hg1 hs1 hwx hwc hlx
              by_cases hx0 : x < 0
              · have hf : t.mayB = false := mayB_false t fun hm => by have := hm.nums x hmem; omega
                have HF := Lib.hid hf
                clear hf hcc
                go_wp2
                go_ret
                exact ⟨Eq.trans (b := Ending.returned (.bool false)) rfl (by rw [HF.out]), HB8.out⟩
              · have hd0 : decide (x < 0) = false := by simpa using hx0
                by_cases hx1 : (1048576 : Int) ≤ x
                · have hf : t.mayB = false := mayB_false t fun hm => by have := hm.nums x hmem; omega
                  have HF := Lib.hid hf
                  clear hf hcc
                  go_wp2
                  go_ret
                  exact ⟨Eq.trans (b := Ending.returned (.bool false)) rfl (by rw [HF.out]), HB8.out⟩
                · have hd1 : decide ((1048576 : Int) ≤ x) = false := by simpa using hx1
                  by_cases hc1 : (1 : Int) < c
                  · have hf : t.mayB = false := mayB_false t fun hm => by have := nodup_count _ hm.once x; omega
                    have HF := Lib.hid hf
                    clear hf hcc
                    go_wp2
                    go_ret
                    exact ⟨Eq.trans (b := Ending.returned (.bool false)) rfl (by rw [HF.out]), HB8.out⟩
                  · have hd2 : decide ((1 : Int) < c) = false := by simpa using hc1
                    have hgd : 0 ≤ x ∧ x < 1048576 ∧ t.nums.count x ≤ 1 := ⟨by omega, by omega, by omega⟩
                    have HG := Lib.hid hgd; clear hgd hcc
                    go_wp2
                    go_roundw
                    case rel =>
                      refine ⟨_, cnt1, HRG1.out, fun b hb hl => ?_, HB8.out⟩
                      by_cases e : b = x
                      · rw [e]; exact HG.out
                      · refine HGD.out b hb ?_
                        have hne : (keyI b).sameKey (Lit.int .i64 x) = false := by
                          unfold keyI
                          simp [Lit.sameKey, e]
                        rw [hne] at hl
                        simpa using hl
                    case measure =>
                      rw [HRG1.out.left_eq, HRG.out.left_eq]; exact hlt1

theorem may_any (t : Tx) (Aw Ar : Option Addr) (nw cw nr cr B : Nat) (w : World) (h : TxAt w B t Aw nw cw Ar nr cr) (hB : B ≤ w.heap.size) :
    Calls Try.prog 95 #[.agg #[.int .u64 (t.seq : Int), .slice Aw nw cw, .slice Ar nr cr]] w (Answers w (.bool t.mayB)) := by
  by_cases hn : 1 ≤ nw + nr ∧ nw + nr ≤ 58
  · exact may_many t Aw Ar nw cw nr cr B w h hB hn.1 hn.2
  · exact may_few t Aw Ar nw cw nr cr B w h hn
end Go.Proofs.Ytkicobmdogeigaa.Rec
