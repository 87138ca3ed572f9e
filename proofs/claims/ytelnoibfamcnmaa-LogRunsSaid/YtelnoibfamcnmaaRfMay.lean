/- Contract of the document's May. -/
import Derived.Test.YtelnoibfamcnmaaRcEnc
namespace Go.Proofs.Ytelnoibfamcnmaa.Rec
set_option maxRecDepth 20000
open Go.RowKit
open Go.Proofs.Ytelnoibfamcnmaa.Mem Go.Proofs.Ytelnoibfamcnmaa.Crc

theorem mayr_few (t : Tx) (Aw Ar : Option Addr) (nw cw nr cr B : Nat) (w : World) (h : TxAt w B t Aw nw cw Ar nr cr) (hn : ¬ (1 ≤ nw + nr ∧ nw + nr ≤ 58)) :
    Calls Try.prog 124 #[.agg #[.int .u64 (t.seq : Int), .slice Aw nw cw, .slice Ar nr cr]] w (Answers w (.bool t.mayB)) := by
  have hf : t.mayB = false := mayB_false t fun hm => hn ⟨by have := hm.lo; rw [h.ws.1, h.rs.1] at this; exact this, by have := hm.hi; rw [h.ws.1, h.rs.1] at this; exact this⟩
  rw [hf]
  obtain ⟨g1, g2, g3, g4⟩ := h.fits
  clear hf h
  by_cases h1 : (nw : Int) + (nr : Int) < 1
  · go_enter Try.func124, Try.ntmps124
    go_wp2
    go_ret
    exact ⟨rfl, (Below.refl w.heap.size w).alloc (Nat.le_refl _) _⟩
  · have h2 : (58 : Int) < (nw : Int) + (nr : Int) := by omega
    have hd : decide ((nw : Int) + (nr : Int) < 1) = false := by simpa using h1
    clear hn
    go_enter Try.func124, Try.ntmps124
    go_wp2
    go_ret
    exact ⟨rfl, (Below.refl w.heap.size w).alloc (Nat.le_refl _) _⟩

set_option maxRecDepth 100000 in
set_option maxHeartbeats 4000000 in
theorem mayr_many (t : Tx) (Aw Ar : Option Addr) (nw cw nr cr B : Nat) (w : World) (h : TxAt w B t Aw nw cw Ar nr cr) (hB : B ≤ w.heap.size) (hn1 : 1 ≤ nw + nr) (hn2 : nw + nr ≤ 58) :
    Calls Try.prog 124 #[.agg #[.int .u64 (t.seq : Int), .slice Aw nw cw, .slice Ar nr cr]] w (Answers w (.bool t.mayB)) := by
  obtain ⟨cur, hcur⟩ : ∃ c, c = #[Value.int .u64 (t.seq : Int), .slice Aw nw cw, .slice Ar nr cr] := ⟨_, rfl⟩
  have hnw := h.ws.1
  have hnr := h.rs.1
  have h1 : ¬ (nw : Int) + (nr : Int) < 1 := by omega
  have h2 : ¬ (58 : Int) < (nw : Int) + (nr : Int) := by omega
  have hw58 : nw ≤ 58 := by omega
  have hr58 : nr ≤ 58 := by omega
  have hnl : t.nums.length = nw + nr := by unfold Tx.nums; rw [List.length_append, List.length_map, hnw, hnr]
  have hM0 : Meets w ((w.alloc (.cells cur 67)).alloc (.map #[] 0)) t cur 0 := by
    refine ⟨?_, ⟨0, Nat.le_refl _, ?_⟩, ((Below.refl w.heap.size w).alloc (Nat.le_refl _) _).alloc (by simp) _, by simp⟩
    · rw [Below.heap_alloc _ _ _ (by simp)]; exact heap_alloc_new w _
    · have := World.ownsMap_made (w.alloc (.cells cur 67)) Try.prog 3 (plainElem (H := Unit) Try.prog 3)
      rw [show (w.alloc (.cells cur 67)).heap.size = w.heap.size + 1 by simp] at this
      exact this
  have HM0 := Lib.hid hM0; clear hM0
  have H := Lib.hid h; clear h
  have HNW := Lib.hid hnw; clear hnw
  have HNR := Lib.hid hnr; clear hnr
  have HNL := Lib.hid hnl; clear hnl
  have hmm := @run_makeMap Try.prog
  go_enter Try.func124, Try.ntmps124
  go_wp2_with fail
  rw [← hcur]
  generalize (w.alloc (.cells cur 67)).alloc (.map #[] 0) = W at HM0 ⊢
  have HCUR := Lib.hid hcur; clear hcur
  clear hmm
  go_loopw [5, 6] (fun i _ wr => ∃ k : Nat, k ≤ nw + nr ∧ i = .int .i64 k ∧ Meets w wr t cur k ∧ (∀ x ∈ t.ws.take k, x.2.length = 256) ∧ (∀ b ∈ t.nums.take k, 0 ≤ b ∧ b < 1048576) ∧ (t.nums.take k).Nodup) (fun i _ _ => nw + nr - (intOf i).toNat)
  case atStart => exact ⟨0, by omega, rfl, HM0.out, by simp, by simp, by simp⟩
  case round =>
    obtain ⟨k, hk, rfl, hM, hall, hnum, hnd⟩ := hrel
    have HALL := Lib.hid hall; clear hall
    have HNUM := Lib.hid hnum; clear hnum
    have HND := Lib.hid hnd; clear hnd
    have p1 : wr.cell? ⟨w.heap.size, 1, none⟩ = some (.slice Aw nw cw) := by rw [cell_of_row _ _ _ _ _ _ hM.box, HCUR.out]; rfl
    have p2 : wr.cell? ⟨w.heap.size, 2, none⟩ = some (.slice Ar nr cr) := by rw [cell_of_row _ _ _ _ _ _ hM.box, HCUR.out]; rfl
    have HM := Lib.hid hM; clear hM
    have hT := H.out.below (HM.out.below.mono hB)
    obtain ⟨n, hnk, hcn⟩ := HM.out.table
    have hk0 : (0 : Int) ≤ (k : Int) := by omega
    by_cases hlt : k < nw
    · obtain ⟨x, hx⟩ : ∃ x, t.ws[k]? = some x := ⟨_, List.getElem?_eq_getElem (by have := HNW.out; omega)⟩
      obtain ⟨b, off, rfl, hbB, hc⟩ := hT.ws.2 (by omega)
      obtain ⟨e0, A', c', e1, -⟩ := hc k x hx
      have hmem := List.mem_of_getElem? hx
      have hix := hT.intW x hmem
      have hget : t.nums.getD k 0 = x.1 := by
        unfold Tx.nums
        rw [List.getD_eq_getElem?_getD, List.getElem?_append_left (by rw [List.length_map, HNW.out]; omega), List.getElem?_map, hx]; rfl
      have hmemN : x.1 ∈ t.nums := List.mem_append_left _ (List.mem_map.2 ⟨x, hmem, rfl⟩)
      have hkn : (k : Int) < (nw : Int) := by omega
      have hkt : (k : Int) < (nw : Int) + (nr : Int) := by omega
      have HX := Lib.hid hx; clear hx
      clear hc hT
      obtain ⟨x1, x2⟩ := x
      dsimp only at e0 e1 hix hget hmemN
      by_cases hd : x2.length = 256
      · rw [hd] at e1
        have HD := Lib.hid hd; clear hd
        clear hmem
        have hrunL := run_count _ _ n k t.nums x1 hix (by rw [HNL.out]; omega) hcn
        by_cases hx0 : x1 < 0
        · have hf : t.mayB = false := mayB_false t fun hm => by have := hm.nums x1 hmemN; omega
          rw [hf]
          clear hf hrunL hcn
          go_wp2
          go_ret
          exact ⟨rfl, HM.out.below⟩
        · have hd0 : decide (x1 < 0) = false := by simpa using hx0
          by_cases hx1 : (1048576 : Int) ≤ x1
          · have hf : t.mayB = false := mayB_false t fun hm => by have := hm.nums x1 hmemN; omega
            rw [hf]
            clear hf hrunL hcn
            go_wp2
            go_ret
            exact ⟨rfl, HM.out.below⟩
          · have hd1 : decide ((1048576 : Int) ≤ x1) = false := by simpa using hx1
            by_cases hc0 : (t.nums.take k).count x1 = 0
            · rw [hc0] at hrunL
              obtain ⟨w2, hupd, hcn2, hg2⟩ := run_meet _ _ n k t.nums x1 hix (by rw [HNL.out]; omega) hget (by unfold maxLen; omega) (by rw [HNL.out]; omega) hcn
              rw [hc0] at hupd
              have hupd' : (Instr.mapUpdate 106 (.map (some (w.heap.size + 1))) (.int .i64 x1) (.int .i64 1)).run Try.prog wr = .ok () w2 := hupd
              have hrunL' : (Instr.lookup 106 (.map (some (w.heap.size + 1))) (.int .i64 x1) false).run Try.prog wr = .ok (.int .i64 0) wr := hrunL
              have hb2 : Below w.heap.size w w2 := HM.out.below.grown hg2 (by have := HM.out.size; omega) (by intro q hq; injection hq with hq; omega)
              have hbox2 : w2.heap[w.heap.size]? = some (.cells cur 67 (0, 0)) := by
                rw [hg2.block _ (by have := HM.out.size; omega) (by intro e; injection e with e; omega)]; exact HM.out.box
              have hs2 : w.heap.size + 1 < w2.heap.size := by have := hg2.size; have := HM.out.size; omega
              have HM2 : Hid (Meets w w2 t cur (k + 1)) := Lib.hid ⟨hbox2, ⟨n + 1, by omega, hcn2⟩, hb2, hs2⟩
              have hnot : x1 ∉ t.nums.take k := List.count_eq_zero.1 hc0
              have HNT := Lib.hid hnot
              have HGT := Lib.hid hget
              have HC0 := Lib.hid hc0
              have hgd : 0 ≤ x1 ∧ x1 < 1048576 := ⟨by omega, by omega⟩
              have HGX := Lib.hid hgd
              clear hcn hcn2 hb2 hbox2 hg2 hs2 hget hix hupd hrunL hnot hc0 hgd hmemN
              go_wp2
              go_roundw
              case rel =>
                refine ⟨k + 1, by omega, by go_num, HM2.out, ?_, ?_, ?_⟩
                · intro y hy
                  rw [List.take_succ_eq_append_getElem (by have := HNW.out; omega)] at hy
                  rcases List.mem_append.1 hy with hy | hy
                  · exact HALL.out y hy
                  · rw [List.mem_singleton] at hy
                    have hx := HX.out
                    rw [List.getElem?_eq_getElem (by have := HNW.out; omega)] at hx
                    injection hx with hx
                    rw [hy, hx]; exact HD.out
                · intro b hb
                  rw [take_snocI _ _ (by rw [HNL.out]; omega), HGT.out] at hb
                  rcases List.mem_append.1 hb with hb | hb
                  · exact HNUM.out b hb
                  · rw [List.mem_singleton] at hb; rw [hb]; exact HGX.out
                · rw [take_snocI _ _ (by rw [HNL.out]; omega), HGT.out]
                  exact List.nodup_append.2 ⟨HND.out, by simp, fun a ha b hb e => by rw [List.mem_singleton] at hb; exact HNT.out (by rw [← hb, ← e]; exact ha)⟩
              case measure => simp [intOf]; omega
            · have hne : (((t.nums.take k).count x1 : Int) == 0) = false := beq_eq_false_iff_ne.2 (by omega)
              have hne2 : (((t.nums.take k).count x1 : Int) != 0) = true := by rw [bne, hne]; rfl
              have hf : t.mayB = false := mayB_false t fun hm => by
                have h1 := nodup_count _ hm.once x1
                have h2 : t.nums = t.nums.take k ++ t.nums.drop k := (List.take_append_drop k _).symm
                rw [h2, List.count_append] at h1
                have h3 : 0 < (t.nums.drop k).count x1 := List.count_pos_iff.2 (List.mem_of_getElem? (i := 0) (by
                  rw [List.getElem?_drop, Nat.add_zero, List.getElem?_eq_getElem (by rw [HNL.out]; omega)]
                  rw [List.getD_eq_getElem?_getD, List.getElem?_eq_getElem (by rw [HNL.out]; omega)] at hget
                  exact congrArg some hget))
                omega
              rw [hf]
              generalize ((t.nums.take k).count x1 : Int) = C at hrunL hne hne2
              clear hf hcn hc0 hget
              go_wp2
              go_ret
              exact ⟨rfl, HM.out.below⟩
      · have hD : ((x2.length : Int) == 256) = false := beq_eq_false_iff_ne.2 (by omega)
        have hD2 : ((x2.length : Int) != 256) = true := by rw [bne, hD]; rfl
        have hf : t.mayB = false := mayB_false t fun hm => hd (hm.data _ hmem)
        rw [hf]
        clear hf hget hix hcn
        go_wp2
        go_ret
        exact ⟨rfl, HM.out.below⟩
    · by_cases hlt2 : k < nw + nr
      · obtain ⟨x1, hx⟩ : ∃ x, t.rs[k - nw]? = some x := ⟨_, List.getElem?_eq_getElem (by have := HNR.out; omega)⟩
        obtain ⟨b, off, rfl, hbB, hc⟩ := hT.rs.2 (by omega)
        have e0 := hc (k - nw) x1 hx
        have hmem := List.mem_of_getElem? hx
        have hix := hT.intR x1 hmem
        have hget : t.nums.getD k 0 = x1 := by
          unfold Tx.nums
          rw [List.getD_eq_getElem?_getD, List.getElem?_append_right (by rw [List.length_map, HNW.out]; omega), List.length_map, HNW.out, hx]; rfl
        have hmemN : x1 ∈ t.nums := List.mem_append_right _ hmem
        have hkn : ¬ (k : Int) < (nw : Int) := by omega
        have hkn' : (nw : Int) ≤ (k : Int) := by omega
        have hkt : (k : Int) < (nw : Int) + (nr : Int) := by omega
        have hsub : (k : Int) - (nw : Int) < (nr : Int) := by omega
        have hsub2 : ((k : Int) - (nw : Int)).toNat = k - nw := by omega
        clear hc hT hmem hx
        have hrunL := run_count _ _ n k t.nums x1 hix (by rw [HNL.out]; omega) hcn
        by_cases hx0 : x1 < 0
        · have hf : t.mayB = false := mayB_false t fun hm => by have := hm.nums x1 hmemN; omega
          rw [hf]
          clear hf hrunL hcn
          go_wp2
          go_ret
          exact ⟨rfl, HM.out.below⟩
        · have hd0 : decide (x1 < 0) = false := by simpa using hx0
          by_cases hx1 : (1048576 : Int) ≤ x1
          · have hf : t.mayB = false := mayB_false t fun hm => by have := hm.nums x1 hmemN; omega
            rw [hf]
            clear hf hrunL hcn
            go_wp2
            go_ret
            exact ⟨rfl, HM.out.below⟩
          · have hd1 : decide ((1048576 : Int) ≤ x1) = false := by simpa using hx1
            by_cases hc0 : (t.nums.take k).count x1 = 0
            · rw [hc0] at hrunL
              obtain ⟨w2, hupd, hcn2, hg2⟩ := run_meet _ _ n k t.nums x1 hix (by rw [HNL.out]; omega) hget (by unfold maxLen; omega) (by rw [HNL.out]; omega) hcn
              rw [hc0] at hupd
              have hupd' : (Instr.mapUpdate 106 (.map (some (w.heap.size + 1))) (.int .i64 x1) (.int .i64 1)).run Try.prog wr = .ok () w2 := hupd
              have hrunL' : (Instr.lookup 106 (.map (some (w.heap.size + 1))) (.int .i64 x1) false).run Try.prog wr = .ok (.int .i64 0) wr := hrunL
              have hb2 : Below w.heap.size w w2 := HM.out.below.grown hg2 (by have := HM.out.size; omega) (by intro q hq; injection hq with hq; omega)
              have hbox2 : w2.heap[w.heap.size]? = some (.cells cur 67 (0, 0)) := by
                rw [hg2.block _ (by have := HM.out.size; omega) (by intro e; injection e with e; omega)]; exact HM.out.box
              have hs2 : w.heap.size + 1 < w2.heap.size := by have := hg2.size; have := HM.out.size; omega
              have HM2 : Hid (Meets w w2 t cur (k + 1)) := Lib.hid ⟨hbox2, ⟨n + 1, by omega, hcn2⟩, hb2, hs2⟩
              have hnot : x1 ∉ t.nums.take k := List.count_eq_zero.1 hc0
              have HNT := Lib.hid hnot
              have HGT := Lib.hid hget
              have HC0 := Lib.hid hc0
              have hgd : 0 ≤ x1 ∧ x1 < 1048576 := ⟨by omega, by omega⟩
              have HGX := Lib.hid hgd
              clear hcn hcn2 hb2 hbox2 hg2 hs2 hget hix hupd hrunL hnot hc0 hgd hmemN
              go_wp2
              go_roundw
              case rel =>
                refine ⟨k + 1, by omega, by go_num, HM2.out, ?_, ?_, ?_⟩
                · intro y hy
                  rw [List.take_of_length_le (by have := HNW.out; omega)] at hy
                  exact HALL.out y (by rw [List.take_of_length_le (by have := HNW.out; omega)]; exact hy)
                · intro b hb
                  rw [take_snocI _ _ (by rw [HNL.out]; omega), HGT.out] at hb
                  rcases List.mem_append.1 hb with hb | hb
                  · exact HNUM.out b hb
                  · rw [List.mem_singleton] at hb; rw [hb]; exact HGX.out
                · rw [take_snocI _ _ (by rw [HNL.out]; omega), HGT.out]
                  exact List.nodup_append.2 ⟨HND.out, by simp, fun a ha b hb e => by rw [List.mem_singleton] at hb; exact HNT.out (by rw [← hb, ← e]; exact ha)⟩
              case measure => simp [intOf]; omega
            · have hne : (((t.nums.take k).count x1 : Int) == 0) = false := beq_eq_false_iff_ne.2 (by omega)
              have hne2 : (((t.nums.take k).count x1 : Int) != 0) = true := by rw [bne, hne]; rfl
              have hf : t.mayB = false := mayB_false t fun hm => by
                have h1 := nodup_count _ hm.once x1
                have h2 : t.nums = t.nums.take k ++ t.nums.drop k := (List.take_append_drop k _).symm
                rw [h2, List.count_append] at h1
                have h3 : 0 < (t.nums.drop k).count x1 := List.count_pos_iff.2 (List.mem_of_getElem? (i := 0) (by
                  rw [List.getElem?_drop, Nat.add_zero, List.getElem?_eq_getElem (by rw [HNL.out]; omega)]
                  rw [List.getD_eq_getElem?_getD, List.getElem?_eq_getElem (by rw [HNL.out]; omega)] at hget
                  exact congrArg some hget))
                omega
              rw [hf]
              generalize ((t.nums.take k).count x1 : Int) = C at hrunL hne hne2
              clear hf hcn hc0 hget
              go_wp2
              go_ret
              exact ⟨rfl, HM.out.below⟩
      · obtain rfl : k = nw + nr := by omega
        have ht : t.mayB = true := (mayB_iff t).2 ⟨by rw [HNW.out, HNR.out]; omega, by rw [HNW.out, HNR.out]; omega,
          fun x hx => HALL.out x (by rw [List.take_of_length_le (by have := HNW.out; omega)]; exact hx),
          fun x hx => HNUM.out x (by rw [List.take_of_length_le (by have := HNL.out; omega)]; exact hx),
          by have := HND.out; rwa [List.take_of_length_le (by have := HNL.out; omega)] at this⟩
        have HTT := Lib.hid ht
        have hkt : ((nw + nr : Nat) : Int) = (nw : Int) + (nr : Int) := by omega
        clear hcn hT ht
        go_wp2
        go_ret
        exact ⟨Eq.trans (b := Ending.returned (.bool true)) rfl (by rw [HTT.out]), HM.out.below⟩

theorem mayr_any (t : Tx) (Aw Ar : Option Addr) (nw cw nr cr B : Nat) (w : World) (h : TxAt w B t Aw nw cw Ar nr cr) (hB : B ≤ w.heap.size) :
    Calls Try.prog 124 #[.agg #[.int .u64 (t.seq : Int), .slice Aw nw cw, .slice Ar nr cr]] w (Answers w (.bool t.mayB)) := by
  by_cases hn : 1 ≤ nw + nr ∧ nw + nr ≤ 58
  · exact mayr_many t Aw Ar nw cw nr cr B w h hB hn.1 hn.2
  · exact mayr_few t Aw Ar nw cw nr cr B w h hn
end Go.Proofs.Ytelnoibfamcnmaa.Rec
