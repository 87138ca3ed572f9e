/- Contract of the document's Encode: it tells what the plain words say. -/
import Derived.Test.YtelnoibfamcnmaaGreatRcEnc
import Derived.Test.YtelnoibfamcnmaaGreatRfLow
namespace Go.Proofs.YtelnoibfamcnmaaGreat.Rec
set_option maxRecDepth 20000
open Go.RowKit
open Go.Proofs.YtelnoibfamcnmaaGreat.Mem Go.Proofs.YtelnoibfamcnmaaGreat.Crc

theorem mayr_few (t : Tx) (Aw Ar : Option Addr) (nw cw nr cr B : Nat) (w : World) (h : TxAt w B t Aw nw cw Ar nr cr) (hn : ¬ (1 ≤ nw + nr ∧ nw + nr ≤ 58)) :
    Calls Tryz.prog 96 #[.agg #[.int .u64 (t.seq : Int), .slice Aw nw cw, .slice Ar nr cr]] w (Answers w (.bool t.mayB)) := by
  have hf : t.mayB = false := mayB_false t fun hm => hn ⟨by have := hm.lo; rw [h.ws.1, h.rs.1] at this; exact this, by have := hm.hi; rw [h.ws.1, h.rs.1] at this; exact this⟩
  rw [hf]
  obtain ⟨g1, g2, g3, g4⟩ := h.fits
  clear hf h
  by_cases h1 : (nw : Int) + (nr : Int) < 1
  · go_enter Tryz.func96, Tryz.ntmps96
    go_wp2
    go_ret
    exact ⟨rfl, (Below.refl w.heap.size w).alloc (Nat.le_refl _) _⟩
  · have h2 : (58 : Int) < (nw : Int) + (nr : Int) := by omega
    have hd : decide ((nw : Int) + (nr : Int) < 1) = false := by simpa using h1
    clear hn
    go_enter Tryz.func96, Tryz.ntmps96
    go_wp2
    go_ret
    exact ⟨rfl, (Below.refl w.heap.size w).alloc (Nat.le_refl _) _⟩

set_option maxRecDepth 100000 in
set_option maxHeartbeats 4000000 in
theorem mayr_many (t : Tx) (Aw Ar : Option Addr) (nw cw nr cr B : Nat) (w : World) (h : TxAt w B t Aw nw cw Ar nr cr) (hB : B ≤ w.heap.size) (hn1 : 1 ≤ nw + nr) (hn2 : nw + nr ≤ 58) :
    Calls Tryz.prog 96 #[.agg #[.int .u64 (t.seq : Int), .slice Aw nw cw, .slice Ar nr cr]] w (Answers w (.bool t.mayB)) := by
  obtain ⟨cur, hcur⟩ : ∃ c, c = #[Value.int .u64 (t.seq : Int), .slice Aw nw cw, .slice Ar nr cr] := ⟨_, rfl⟩
  have hnw := h.ws.1
  have hnr := h.rs.1
  have h1 : ¬ (nw : Int) + (nr : Int) < 1 := by omega
  have h2 : ¬ (58 : Int) < (nw : Int) + (nr : Int) := by omega
  have hw58 : nw ≤ 58 := by omega
  have hr58 : nr ≤ 58 := by omega
  have hnl : t.nums.length = nw + nr := by unfold Tx.nums; rw [List.length_append, List.length_map, hnw, hnr]
  have hM0 : Meets w ((w.alloc (.cells cur 63)).alloc (.map #[] 0)) t cur 0 := by
    refine ⟨?_, ⟨0, Nat.le_refl _, ?_⟩, ((Below.refl w.heap.size w).alloc (Nat.le_refl _) _).alloc (by simp) _, by simp⟩
    · rw [Below.heap_alloc _ _ _ (by simp)]; exact heap_alloc_new w _
    · have := World.ownsMap_made (w.alloc (.cells cur 63)) Tryz.prog 3 (plainElem (H := Unit) Tryz.prog 3)
      rw [show (w.alloc (.cells cur 63)).heap.size = w.heap.size + 1 by simp] at this
      exact this
  have HM0 := Lib.hid hM0; clear hM0
  have H := Lib.hid h; clear h
  have HNW := Lib.hid hnw; clear hnw
  have HNR := Lib.hid hnr; clear hnr
  have HNL := Lib.hid hnl; clear hnl
  have hmm := @run_makeMap Tryz.prog
  go_enter Tryz.func96, Tryz.ntmps96
  go_wp2_with fail
  rw [← hcur]
  generalize (w.alloc (.cells cur 63)).alloc (.map #[] 0) = W at HM0 ⊢
  have HCUR := Lib.hid hcur; clear hcur
  clear hmm
  go_loopw [5, 6] (fun i _ wr => ∃ k : Nat, k ≤ nw + nr ∧ i = .int .i64 k ∧ Meets w wr t cur k ∧ (∀ x ∈ t.ws.take k, x.2.length = 256) ∧ (∀ b ∈ t.nums.take k, 0 ≤ b ∧ b < 1048576) ∧ (t.nums.take k).Nodup) (fun i _ _ => nw + nr - (intOf i).toNat)
  case atStart => exact ⟨0, by omega, rfl, HM0.out, by simp, by simp, by simp⟩
  case round =>
    obtain ⟨k, hk, rfl, hM, hall, hnum, hnd⟩ := hrel
    have HALL := Lib.hid hall; clear hall
    have HNUM := Lib.hid hnum; clear hnum
    have HND := Lib.hid hnd; clear hnd
    have p1 : wr.cell? ⟨w.heap.size, 1, none⟩ = some (.slice Aw nw cw) := by rw [cell_of_row _ _ _ _ _ _ hM.box, HCUR.out]; rfl
    have p2 : wr.cell? ⟨w.heap.size, 2, none⟩ = some (.slice Ar nr cr) := by rw [cell_of_row _ _ _ _ _ _ hM.box, HCUR.out]; rfl
    have HM := Lib.hid hM; clear hM
    have hT := H.out.below (HM.out.below.mono hB)
    obtain ⟨n, hnk, hcn⟩ := HM.out.table
    have hk0 : (0 : Int) ≤ (k : Int) := by omega
    by_cases hlt : k < nw
    · obtain ⟨x, hx⟩ : ∃ x, t.ws[k]? = some x := ⟨_, List.getElem?_eq_getElem (by have := HNW.out; omega)⟩
      obtain ⟨b, off, rfl, hbB, hc⟩ := hT.ws.2 (by omega)
      obtain ⟨e0, A', c', e1, -⟩ := hc k x hx
      have hmem := List.mem_of_getElem? hx
      have hix := hT.intW x hmem
      have hget : t.nums.getD k 0 = x.1 := by
        unfold Tx.nums
        rw [List.getD_eq_getElem?_getD, List.getElem?_append_left (by rw [List.length_map, HNW.out]; omega), List.getElem?_map, hx]; rfl
      have hmemN : x.1 ∈ t.nums := List.mem_append_left _ (List.mem_map.2 ⟨x, hmem, rfl⟩)
      have hkn : (k : Int) < (nw : Int) := by omega
      have hkt : (k : Int) < (nw : Int) + (nr : Int) := by omega
      have HX := Lib.hid hx; clear hx
      clear hc hT
      obtain ⟨x1, x2⟩ := x
      dsimp only at e0 e1 hix hget hmemN
      by_cases hd : x2.length = 256
      · rw [hd] at e1
        have HD := Lib.hid hd; clear hd
        clear hmem
        have hrunL := run_count _ _ n k t.nums x1 hix (by rw [HNL.out]; omega) hcn
        by_cases hx0 : x1 < 0
        · have hf : t.mayB = false := mayB_false t fun hm => by have := hm.nums x1 hmemN; omega
          rw [hf]
          clear hf hrunL hcn
          go_wp2
          go_ret
          exact ⟨rfl, HM.out.below⟩
        · have hd0 : decide (x1 < 0) = false := by simpa using hx0
          by_cases hx1 : (1048576 : Int) ≤ x1
          · have hf : t.mayB = false := mayB_false t fun hm => by have := hm.nums x1 hmemN; omega
            rw [hf]
            clear hf hrunL hcn
            go_wp2
            go_ret
            exact ⟨rfl, HM.out.below⟩
          · have hd1 : decide ((1048576 : Int) ≤ x1) = false := by simpa using hx1
            by_cases hc0 : (t.nums.take k).count x1 = 0
            · rw [hc0] at hrunL
              obtain ⟨w2, hupd, hcn2, hg2⟩ := run_meet _ _ n k t.nums x1 hix (by rw [HNL.out]; omega) hget (by unfold maxLen; omega) (by rw [HNL.out]; omega) hcn
              rw [hc0] at hupd
              have hupd' : (Instr.mapUpdate 78 (.map (some (w.heap.size + 1))) (.int .i64 x1) (.int .i64 1)).run Tryz.prog wr = .ok () w2 := hupd
              have hrunL' : (Instr.lookup 78 (.map (some (w.heap.size + 1))) (.int .i64 x1) false).run Tryz.prog wr = .ok (.int .i64 0) wr := hrunL
              have hb2 : Below w.heap.size w w2 := HM.out.below.grown hg2 (by have := HM.out.size; omega) (by intro q hq; injection hq with hq; omega)
              have hbox2 : w2.heap[w.heap.size]? = some (.cells cur 63 (0, 0)) := by
                rw [hg2.block _ (by have := HM.out.size; omega) (by intro e; injection e with e; omega)]; exact HM.out.box
              have hs2 : w.heap.size + 1 < w2.heap.size := by have := hg2.size; have := HM.out.size; omega
              have HM2 : Hid (Meets w w2 t cur (k + 1)) := Lib.hid ⟨hbox2, ⟨n + 1, by omega, hcn2⟩, hb2, hs2⟩
              have hnot : x1 ∉ t.nums.take k := List.count_eq_zero.1 hc0
              have HNT := Lib.hid hnot
              have HGT := Lib.hid hget
              have HC0 := Lib.hid hc0
              have hgd : 0 ≤ x1 ∧ x1 < 1048576 := ⟨by omega, by omega⟩
              have HGX := Lib.hid hgd
              clear hcn hcn2 hb2 hbox2 hg2 hs2 hget hix hupd hrunL hnot hc0 hgd hmemN
              go_wp2
              go_roundw
              case rel =>
                refine ⟨k + 1, by omega, by go_num, HM2.out, ?_, ?_, ?_⟩
                · intro y hy
                  rw [List.take_succ_eq_append_getElem (by have := HNW.out; omega)] at hy
                  rcases List.mem_append.1 hy with hy | hy
                  · exact HALL.out y hy
                  · rw [List.mem_singleton] at hy
                    have hx := HX.out
                    rw [List.getElem?_eq_getElem (by have := HNW.out; omega)] at hx
                    injection hx with hx
                    rw [hy, hx]; exact HD.out
                · intro b hb
                  rw [take_snocI _ _ (by rw [HNL.out]; omega), HGT.out] at hb
                  rcases List.mem_append.1 hb with hb | hb
                  · exact HNUM.out b hb
                  · rw [List.mem_singleton] at hb; rw [hb]; exact HGX.out
                · rw [take_snocI _ _ (by rw [HNL.out]; omega), HGT.out]
                  exact List.nodup_append.2 ⟨HND.out, by simp, fun a ha b hb e => by rw [List.mem_singleton] at hb; exact HNT.out (by rw [← hb, ← e]; exact ha)⟩
              case measure => simp [intOf]; omega
            · have hne : (((t.nums.take k).count x1 : Int) == 0) = false := beq_eq_false_iff_ne.2 (by omega)
              have hne2 : (((t.nums.take k).count x1 : Int) != 0) = true := by rw [bne, hne]; rfl
              have hf : t.mayB = false := mayB_false t fun hm => by
                have h1 := nodup_count _ hm.once x1
                have h2 : t.nums = t.nums.take k ++ t.nums.drop k := (List.take_append_drop k _).symm
                rw [h2, List.count_append] at h1
                have h3 : 0 < (t.nums.drop k).count x1 := List.count_pos_iff.2 (List.mem_of_getElem? (i := 0) (by
                  rw [List.getElem?_drop, Nat.add_zero, List.getElem?_eq_getElem (by rw [HNL.out]; omega)]
                  rw [List.getD_eq_getElem?_getD, List.getElem?_eq_getElem (by rw [HNL.out]; omega)] at hget
                  exact congrArg some hget))
                omega
              rw [hf]
              generalize ((t.nums.take k).count x1 : Int) = C at hrunL hne hne2
              clear hf hcn hc0 hget
              go_wp2
              go_ret
              exact ⟨rfl, HM.out.below⟩
      · have hD : ((x2.length : Int) == 256) = false := beq_eq_false_iff_ne.2 (by omega)
        have hD2 : ((x2.length : Int) != 256) = true := by rw [bne, hD]; rfl
        have hf : t.mayB = false := mayB_false t fun hm => hd (hm.data _ hmem)
        rw [hf]
        clear hf hget hix hcn
        go_wp2
        go_ret
        exact ⟨rfl, HM.out.below⟩
    · by_cases hlt2 : k < nw + nr
      · obtain ⟨x1, hx⟩ : ∃ x, t.rs[k - nw]? = some x := ⟨_, List.getElem?_eq_getElem (by have := HNR.out; omega)⟩
        obtain ⟨b, off, rfl, hbB, hc⟩ := hT.rs.2 (by omega)
        have e0 := hc (k - nw) x1 hx
        have hmem := List.mem_of_getElem? hx
        have hix := hT.intR x1 hmem
        have hget : t.nums.getD k 0 = x1 := by
          unfold Tx.nums
          rw [List.getD_eq_getElem?_getD, List.getElem?_append_right (by rw [List.length_map, HNW.out]; omega), List.length_map, HNW.out, hx]; rfl
        have hmemN : x1 ∈ t.nums := List.mem_append_right _ hmem
        have hkn : ¬ (k : Int) < (nw : Int) := by omega
        have hkn' : (nw : Int) ≤ (k : Int) := by omega
        have hkt : (k : Int) < (nw : Int) + (nr : Int) := by omega
        have hsub : (k : Int) - (nw : Int) < (nr : Int) := by omega
        have hsub2 : ((k : Int) - (nw : Int)).toNat = k - nw := by omega
        clear hc hT hmem hx
        have hrunL := run_count _ _ n k t.nums x1 hix (by rw [HNL.out]; omega) hcn
        by_cases hx0 : x1 < 0
        · have hf : t.mayB = false := mayB_false t fun hm => by have := hm.nums x1 hmemN; omega
          rw [hf]
          clear hf hrunL hcn
          go_wp2
          go_ret
          exact ⟨rfl, HM.out.below⟩
        · have hd0 : decide (x1 < 0) = false := by simpa using hx0
          by_cases hx1 : (1048576 : Int) ≤ x1
          · have hf : t.mayB = false := mayB_false t fun hm => by have := hm.nums x1 hmemN; omega
            rw [hf]
            clear hf hrunL hcn
            go_wp2
            go_ret
            exact ⟨rfl, HM.out.below⟩
          · have hd1 : decide ((1048576 : Int) ≤ x1) = false := by simpa using hx1
            by_cases hc0 : (t.nums.take k).count x1 = 0
            · rw [hc0] at hrunL
              obtain ⟨w2, hupd, hcn2, hg2⟩ := run_meet _ _ n k t.nums x1 hix (by rw [HNL.out]; omega) hget (by unfold maxLen; omega) (by rw [HNL.out]; omega) hcn
              rw [hc0] at hupd
              have hupd' : (Instr.mapUpdate 78 (.map (some (w.heap.size + 1))) (.int .i64 x1) (.int .i64 1)).run Tryz.prog wr = .ok () w2 := hupd
              have hrunL' : (Instr.lookup 78 (.map (some (w.heap.size + 1))) (.int .i64 x1) false).run Tryz.prog wr = .ok (.int .i64 0) wr := hrunL
              have hb2 : Below w.heap.size w w2 := HM.out.below.grown hg2 (by have := HM.out.size; omega) (by intro q hq; injection hq with hq; omega)
              have hbox2 : w2.heap[w.heap.size]? = some (.cells cur 63 (0, 0)) := by
                rw [hg2.block _ (by have := HM.out.size; omega) (by intro e; injection e with e; omega)]; exact HM.out.box
              have hs2 : w.heap.size + 1 < w2.heap.size := by have := hg2.size; have := HM.out.size; omega
              have HM2 : Hid (Meets w w2 t cur (k + 1)) := Lib.hid ⟨hbox2, ⟨n + 1, by omega, hcn2⟩, hb2, hs2⟩
              have hnot : x1 ∉ t.nums.take k := List.count_eq_zero.1 hc0
              have HNT := Lib.hid hnot
              have HGT := Lib.hid hget
              have HC0 := Lib.hid hc0
              have hgd : 0 ≤ x1 ∧ x1 < 1048576 := ⟨by omega, by omega⟩
              have HGX := Lib.hid hgd
              clear hcn hcn2 hb2 hbox2 hg2 hs2 hget hix hupd hrunL hnot hc0 hgd hmemN
              go_wp2
              go_roundw
              case rel =>
                refine ⟨k + 1, by omega, by go_num, HM2.out, ?_, ?_, ?_⟩
                · intro y hy
                  rw [List.take_of_length_le (by have := HNW.out; omega)] at hy
                  exact HALL.out y (by rw [List.take_of_length_le (by have := HNW.out; omega)]; exact hy)
                · intro b hb
                  rw [take_snocI _ _ (by rw [HNL.out]; omega), HGT.out] at hb
                  rcases List.mem_append.1 hb with hb | hb
                  · exact HNUM.out b hb
                  · rw [List.mem_singleton] at hb; rw [hb]; exact HGX.out
                · rw [take_snocI _ _ (by rw [HNL.out]; omega), HGT.out]
                  exact List.nodup_append.2 ⟨HND.out, by simp, fun a ha b hb e => by rw [List.mem_singleton] at hb; exact HNT.out (by rw [← hb, ← e]; exact ha)⟩
              case measure => simp [intOf]; omega
            · have hne : (((t.nums.take k).count x1 : Int) == 0) = false := beq_eq_false_iff_ne.2 (by omega)
              have hne2 : (((t.nums.take k).count x1 : Int) != 0) = true := by rw [bne, hne]; rfl
              have hf : t.mayB = false := mayB_false t fun hm => by
                have h1 := nodup_count _ hm.once x1
                have h2 : t.nums = t.nums.take k ++ t.nums.drop k := (List.take_append_drop k _).symm
                rw [h2, List.count_append] at h1
                have h3 : 0 < (t.nums.drop k).count x1 := List.count_pos_iff.2 (List.mem_of_getElem? (i := 0) (by
                  rw [List.getElem?_drop, Nat.add_zero, List.getElem?_eq_getElem (by rw [HNL.out]; omega)]
                  rw [List.getD_eq_getElem?_getD, List.getElem?_eq_getElem (by rw [HNL.out]; omega)] at hget
                  exact congrArg some hget))
                omega
              rw [hf]
              generalize ((t.nums.take k).count x1 : Int) = C at hrunL hne hne2
              clear hf hcn hc0 hget
              go_wp2
              go_ret
              exact ⟨rfl, HM.out.below⟩
      · obtain rfl : k = nw + nr := by omega
        have ht : t.mayB = true := (mayB_iff t).2 ⟨by rw [HNW.out, HNR.out]; omega, by rw [HNW.out, HNR.out]; omega,
          fun x hx => HALL.out x (by rw [List.take_of_length_le (by have := HNW.out; omega)]; exact hx),
          fun x hx => HNUM.out x (by rw [List.take_of_length_le (by have := HNL.out; omega)]; exact hx),
          by have := HND.out; rwa [List.take_of_length_le (by have := HNL.out; omega)] at this⟩
        have HTT := Lib.hid ht
        have hkt : ((nw + nr : Nat) : Int) = (nw : Int) + (nr : Int) := by omega
        clear hcn hT ht
        go_wp2
        go_ret
        exact ⟨Eq.trans (b := Ending.returned (.bool true)) rfl (by rw [HTT.out]), HM.out.below⟩

theorem mayr_any (t : Tx) (Aw Ar : Option Addr) (nw cw nr cr B : Nat) (w : World) (h : TxAt w B t Aw nw cw Ar nr cr) (hB : B ≤ w.heap.size) :
    Calls Tryz.prog 96 #[.agg #[.int .u64 (t.seq : Int), .slice Aw nw cw, .slice Ar nr cr]] w (Answers w (.bool t.mayB)) := by
  by_cases hn : 1 ≤ nw + nr ∧ nw + nr ≤ 58
  · exact mayr_many t Aw Ar nw cw nr cr B w h hB hn.1 hn.2
  · exact mayr_few t Aw Ar nw cw nr cr B w h hn
end Go.Proofs.YtelnoibfamcnmaaGreat.Rec

namespace Go.Proofs.YtelnoibfamcnmaaGreat.Rec
set_option maxRecDepth 20000
open Go.RowKit
open Go.Proofs.YtelnoibfamcnmaaGreat.Mem Go.Proofs.YtelnoibfamcnmaaGreat.Crc

theorem rbytes_any (V N : Int) (v n : Nat) (w : World) (hV : V = (v : Int)) (hN : N = (n : Int)) (hn : n ≤ 8) : Calls Tryz.prog 72 #[.int .u64 V, .int .i64 N] w fun e w' => ∃ A c, e = .returned (.slice A n c) ∧ Owned w' w.heap.size (.slice A n c) (bytesL v n) ∧ Below w.heap.size w w' := by
  subst hV hN
  refine (refbytes_any v n w n (by omega) (by omega) (by omega)).mono ?_
  rintro e w1 ⟨sv, rfl, ho1, hb1⟩
  obtain ⟨A1, c1, rfl, -⟩ := Owned.holds ho1
  rw [bytesL_len] at ho1 ⊢
  exact ⟨A1, c1, rfl, ho1, hb1⟩
theorem headV_any (K S : Int) (kind : UInt8) (seq : Nat) (w : World) (hK : K = (kind.toNat : Int)) (hS : S = (seq : Int)) :
    Calls Tryz.prog 103 #[.int .u8 K, .int .u64 S] w fun e w' => ∃ A c, e = .returned (.slice A 16 c) ∧ Owned w' w.heap.size (.slice A 16 c) (headL kind seq) ∧ Below w.heap.size w w' := by
  subst hK hS
  refine (head_ref kind seq w).mono ?_
  rintro e w1 ⟨A, c, rfl, ho, hb⟩
  rw [headL_len] at ho ⊢
  exact ⟨A, c, rfl, ho, hb⟩

def ToldR (w : World) (t : Tx) (e : Ending) (w' : World) : Prop :=
  (t.mayB = false ∧ e = .returned (.tuple #[.slice none 0 0, .int .i64 17]) ∧ Below w.heap.size w w') ∨
  (t.mayB = true ∧ ∃ A c, e = .returned (.tuple #[.slice A t.enc.length c, .int .i64 0]) ∧ Owned w' w.heap.size (.slice A t.enc.length c) t.enc ∧ Below w.heap.size w w')

set_option maxRecDepth 100000 in
theorem encr_not (t : Tx) (Aw Ar : Option Addr) (nw cw nr cr B : Nat) (w : World) (h : TxAt w B t Aw nw cw Ar nr cr) (hB : B ≤ w.heap.size) (hm : t.mayB = false) :
    Calls Tryz.prog 95 #[.agg #[.int .u64 (t.seq : Int), .slice Aw nw cw, .slice Ar nr cr]] w (ToldR w t) := by
  obtain ⟨cur, hcur⟩ : ∃ c, c = #[Value.int .u64 (t.seq : Int), .slice Aw nw cw, .slice Ar nr cr] := ⟨_, rfl⟩
  have hb0 := (Below.refl w.heap.size w).alloc (Nat.le_refl _) (.cells cur 63)
  have hbk := heap_alloc_new w (.cells cur 63)
  have h1 := h.below (hb0.mono hB)
  have H1 := Lib.hid h1; clear h1
  have HB0 := Lib.hid hb0; clear hb0
  have HBK := Lib.hid hbk; clear hbk
  have HM := Lib.hid hm; clear hm h
  have hs0 : w.heap.size < (w.alloc (.cells cur 63)).heap.size := by simp
  go_enter Tryz.func95, Tryz.ntmps95
  go_wp2_with fail
  rw [← hcur]
  generalize w.alloc (.cells cur 63) = W at H1 HB0 HBK hs0 ⊢
  have HCUR := Lib.hid hcur; clear hcur
  have l0 : W.cell? ⟨w.heap.size, 0, none⟩ = some (.int .u64 (t.seq : Int)) := by rw [cell_of_row _ _ _ _ _ _ HBK.out, HCUR.out]; rfl
  have l1 : W.cell? ⟨w.heap.size, 1, none⟩ = some (.slice Aw nw cw) := by rw [cell_of_row _ _ _ _ _ _ HBK.out, HCUR.out]; rfl
  have l2 : W.cell? ⟨w.heap.size, 2, none⟩ = some (.slice Ar nr cr) := by rw [cell_of_row _ _ _ _ _ _ HBK.out, HCUR.out]; rfl
  have hmc := mayr_any t Aw Ar nw cw nr cr B W H1.out (by omega)
  rw [← HCUR.out] at hmc
  refine hmc.mono ?_
  clear hmc
  rintro e W1 ⟨rfl, hb1⟩
  rw [HM.out]
  have HB1 := Lib.hid hb1; clear hb1
  go_wp2
  go_ret2
  exact .inl ⟨HM.out, rfl, HB0.out.trans (HB1.out.mono (by omega))⟩

/-- What stays while the blocks are put together. -/
structure Box (w W wr : World) (base : Nat) (cur : Array Value) : Prop where
  box : wr.heap[w.heap.size]? = some (.cells cur 63 (0, 0))
  below : Below base W wr
theorem Box.next {w W wr wr' : World} {base : Nat} {cur : Array Value} (h : Box w W wr base cur) (hz : w.heap.size < base) (hb : Below base wr wr') : Box w W wr' base cur :=
  ⟨(hb.block _ hz).trans h.box, h.below.trans hb⟩

set_option maxRecDepth 100000 in
set_option maxHeartbeats 2000000 in
theorem encr_may (t : Tx) (Aw Ar : Option Addr) (nw cw nr cr B : Nat) (w : World) (h : TxAt w B t Aw nw cw Ar nr cr) (hB : B ≤ w.heap.size) (hm : t.mayB = true) :
    Calls Tryz.prog 95 #[.agg #[.int .u64 (t.seq : Int), .slice Aw nw cw, .slice Ar nr cr]] w (ToldR w t) := by
  have hmay := (mayB_iff t).1 hm
  obtain ⟨cur, hcur⟩ : ∃ c, c = #[Value.int .u64 (t.seq : Int), .slice Aw nw cw, .slice Ar nr cr] := ⟨_, rfl⟩
  have hb0 := (Below.refl w.heap.size w).alloc (Nat.le_refl _) (.cells cur 63)
  have hbk := heap_alloc_new w (.cells cur 63)
  have hnw := h.ws.1
  have hnr := h.rs.1
  have hhi := hmay.hi
  have hw58 : nw ≤ 58 := by omega
  have hr58 : nr ≤ 58 := by omega
  have hwr58 : nw + nr ≤ 58 := by omega
  have hs0 : (w.alloc (.cells cur 63)).heap.size = w.heap.size + 1 := by simp
  have h1 := h.below (hb0.mono hB)
  obtain ⟨base, hbase0⟩ : ∃ b, b = w.heap.size + 1 := ⟨_, rfl⟩
  rw [← hbase0] at hs0
  have hbz : w.heap.size < base := by omega
  have hBb : B ≤ base := by omega
  have H1 := Lib.hid h1; clear h1
  have HB0 := Lib.hid hb0; clear hb0
  have HBK := Lib.hid hbk; clear hbk
  have HM := Lib.hid hm; clear hm h
  have HMAY := Lib.hid hmay; clear hmay
  have HNW := Lib.hid hnw; clear hnw
  have HNR := Lib.hid hnr; clear hnr
  have HS0 := Lib.hid hs0; clear hs0
  clear hhi hbase0
  go_enter Tryz.func95, Tryz.ntmps95
  go_wp2_with fail
  rw [← hcur]
  generalize w.alloc (.cells cur 63) = W at H1 HB0 HBK HS0 ⊢
  have HCUR := Lib.hid hcur; clear hcur
  have l0 : W.cell? ⟨w.heap.size, 0, none⟩ = some (.int .u64 (t.seq : Int)) := by rw [cell_of_row _ _ _ _ _ _ HBK.out, HCUR.out]; rfl
  have l1 : W.cell? ⟨w.heap.size, 1, none⟩ = some (.slice Aw nw cw) := by rw [cell_of_row _ _ _ _ _ _ HBK.out, HCUR.out]; rfl
  have l2 : W.cell? ⟨w.heap.size, 2, none⟩ = some (.slice Ar nr cr) := by rw [cell_of_row _ _ _ _ _ _ HBK.out, HCUR.out]; rfl
  have hmc := mayr_any t Aw Ar nw cw nr cr B W H1.out (by have := HS0.out; omega)
  rw [← HCUR.out] at hmc
  refine hmc.mono ?_
  clear hmc
  rintro e W1 ⟨rfl, hb1⟩
  rw [HM.out]
  have hX1 : Box w W W1 base cur := ⟨(hb1.block _ (by have := HS0.out; omega)).trans HBK.out, hb1.mono (by have := HS0.out; omega)⟩
  have HX1 := Lib.hid hX1; clear hX1
  clear hb1 l0 l1 l2
  have cells : ∀ V, Box w W V base cur → V.cell? ⟨w.heap.size, 0, none⟩ = some (.int .u64 (t.seq : Int)) ∧ V.cell? ⟨w.heap.size, 1, none⟩ = some (.slice Aw nw cw) ∧ V.cell? ⟨w.heap.size, 2, none⟩ = some (.slice Ar nr cr) := fun V hV =>
    ⟨by rw [cell_of_row _ _ _ _ _ _ hV.box, HCUR.out]; rfl, by rw [cell_of_row _ _ _ _ _ _ hV.box, HCUR.out]; rfl, by rw [cell_of_row _ _ _ _ _ _ hV.box, HCUR.out]; rfl⟩
  have CELLS := Lib.hid cells; clear cells
  have hle : ∀ V, Box w W V base cur → base ≤ V.heap.size := fun V hV => by have := hV.below.size; have := HS0.out; omega
  have HLE := Lib.hid hle; clear hle
  have htx : ∀ V, Box w W V base cur → TxAt V B t Aw nw cw Ar nr cr := fun V hV => H1.out.below (hV.below.mono hBb)
  have HTX := Lib.hid htx; clear htx
  obtain ⟨m0, m1, m2⟩ := CELLS.out W1 HX1.out
  go_wp2_with fail
  refine (headV_any 1 (t.seq : Int) 1 t.seq W1 rfl rfl).mono ?_
  rintro e w2 ⟨A2, c2, rfl, ho2, hb2⟩
  have HX2 := Lib.hid (HX1.out.next hbz (hb2.mono (HLE.out _ HX1.out)))
  have HO2 := Lib.hid (Owned.mono ho2 (HLE.out _ HX1.out)); clear ho2 hb2 m0 m1 m2
  obtain ⟨m0, m1, m2⟩ := CELLS.out w2 HX2.out
  go_wp2_with fail
  refine (rbytes_any _ _ nw 2 w2 rfl rfl (by omega)).mono ?_
  rintro e w3 ⟨A3, c3, rfl, ho3, hb3⟩
  have HX3 := Lib.hid (HX2.out.next hbz (hb3.mono (HLE.out _ HX2.out)))
  have HO3 := Lib.hid (Owned.keep HO2.out hb3 (Nat.le_refl _))
  have HR3 := Lib.hid (Owned.reads ho3)
  clear ho3 hb3 m0 m1 m2
  go_wp2_with (at_builtin; refine wpList_addall rfl (.tmp 17) (.tmp 22) rfl base _ (headL 1 t.seq) rfl HO3.out w3.heap.size A3 2 c3 (bytesL nw 2) rfl HR3.out (by rw [headL_len]; omega) (HLE.out _ HX3.out) ?_)
  intro v4 w4 ho4 hb4
  have HX4 := Lib.hid (HX3.out.next hbz hb4)
  have HO4 := Lib.hid ho4; clear ho4 hb4
  obtain ⟨m0, m1, m2⟩ := CELLS.out w4 HX4.out
  go_wp2_with fail
  refine (rbytes_any _ _ nr 2 w4 rfl rfl (by omega)).mono ?_
  rintro e w5 ⟨A5, c5, rfl, ho5, hb5⟩
  have HX5 := Lib.hid (HX4.out.next hbz (hb5.mono (HLE.out _ HX4.out)))
  have HO5 := Lib.hid (Owned.keep HO4.out hb5 (Nat.le_refl _))
  have HR5 := Lib.hid (Owned.reads ho5)
  clear ho5 hb5 m0 m1 m2
  go_wp2_with (at_builtin; refine wpList_addall rfl (.tmp 24) (.tmp 29) rfl base _ (headL 1 t.seq ++ bytesL nw 2) rfl HO5.out w5.heap.size A5 2 c5 (bytesL nr 2) rfl HR5.out (by rw [List.length_append, headL_len, bytesL_len]; omega) (HLE.out _ HX5.out) ?_)
  intro v6 w6 ho6 hb6
  have HX6 := Lib.hid (HX5.out.next hbz hb6)
  obtain ⟨p0, hp0⟩ : ∃ p, p = headL 1 t.seq ++ (bytesL nw 2 ++ bytesL nr 2) := ⟨_, rfl⟩
  rw [← hp0] at ho6
  have hpl : p0.length = 20 := by rw [hp0]; simp only [List.length_append, headL_len, bytesL_len]
  have hsl : headL 1 t.seq ++ t.slots = p0 ++ numBs t.ws ++ revBs t.rs := by
    rw [hp0]; unfold Tx.slots
    rw [HNW.out, HNR.out]
    simp only [List.append_assoc]
  have HSLT := Lib.hid hsl; clear hsl
  have HPL := Lib.hid hpl; clear hpl hp0
  have HO6 := Lib.hid ho6; clear ho6 hb6
  go_wp2_with fail
  go_loopw [4, 5, 6] (fun v i _ wr => ∃ k : Nat, k ≤ nw ∧ i = .int .i64 k ∧ Owned wr base v (p0 ++ numBs (t.ws.take k)) ∧ Box w W wr base cur) (fun _ i _ _ => nw - (intOf i).toNat)
  case atStart => exact ⟨0, by omega, rfl, by simpa [numBs] using HO6.out, HX6.out⟩
  case round =>
    obtain ⟨k, hk, rfl, hown, hbx⟩ := hrel
    have HO := Lib.hid hown; clear hown
    have HX := Lib.hid hbx; clear hbx
    obtain ⟨m0, m1, m2⟩ := CELLS.out wr HX.out
    have hk0 : (0 : Int) ≤ (k : Int) := by omega
    by_cases hlt : k < nw
    · obtain ⟨x, hx⟩ : ∃ x, t.ws[k]? = some x := ⟨_, List.getElem?_eq_getElem (by have := HNW.out; omega)⟩
      obtain ⟨b, off, rfl, hbB, hc⟩ := (HTX.out wr HX.out).ws.2 (by omega)
      obtain ⟨e0, A', c', e1, hh, hf1, hf2⟩ := hc k x hx
      have hmem := List.mem_of_getElem? hx
      have hdl := HMAY.out.data x hmem
      have hxn := HMAY.out.nums x.1 (List.mem_append_left _ (List.mem_map.2 ⟨x, hmem, rfl⟩))
      obtain ⟨hq1, hq2, hq3⟩ := numb_bits x hxn
      have hsn := numBs_snoc t.ws k x hx
      have hnl := numBs_len (t.ws.take k)
      rw [List.length_take, HNW.out, Nat.min_eq_left (by omega)] at hnl
      have hx0 := hxn.1
      have hx1 := hxn.2
      have hkn : (k : Int) < (nw : Int) := by omega
      have HSN := Lib.hid hsn; clear hsn
      have HNL := Lib.hid hnl; clear hnl
      have HQ2 := Lib.hid hq2; clear hq2
      have HQ3 := Lib.hid hq3; clear hq3
      have HH := Lib.hid hh; clear hh
      clear hc hxn hmem hx
      obtain ⟨nb, hnb⟩ : ∃ m, m = numb x := ⟨_, rfl⟩
      rw [← hnb] at hq1 HQ2 HQ3 HSN
      clear hnb
      obtain ⟨x1, x2⟩ := x
      dsimp only at e0 e1 hx0 hx1 hdl HQ2 HQ3 HH hf1
      rw [hdl] at e1 HH hf1
      clear hdl
      cases hlk : looks x2
      all_goals
        have HLK := Lib.hid hlk; clear hlk
        go_wp2_with fail
        refine (looks_ref A' 256 c' B x2 wr HH.out (by omega) hf1).mono ?_
        rintro e w' ⟨rfl, rfl⟩
        rw [HLK.out]
        go_wp2_with fail
        refine (rbytes_any _ _ nb 4 wr (by first | exact (HQ2.out HLK.out).symm | exact (HQ3.out HLK.out).symm) rfl (by omega)).mono ?_
        rintro e w7 ⟨A7, c7, rfl, ho7, hb7⟩
        have HX7 := Lib.hid (HX.out.next hbz (hb7.mono (HLE.out _ HX.out)))
        have HOv := Lib.hid (Owned.keep HO.out hb7 (Nat.le_refl _))
        have HR7 := Lib.hid (Owned.reads ho7)
        clear ho7 hb7 m0 m1 m2 e0 e1
        go_wp2_with (at_builtin; refine wpList_addall rfl (.tmp 54) (.tmp 56) rfl base _ (p0 ++ numBs (t.ws.take k)) rfl HOv.out w7.heap.size A7 4 c7 (bytesL nb 4) rfl HR7.out (by rw [List.length_append, HPL.out, HNL.out]; omega) (HLE.out _ HX7.out) ?_)
        intro v8 w8 ho8 hb8
        have HO8 := Lib.hid ho8; clear ho8
        have HX8 := Lib.hid (HX7.out.next hbz hb8); clear hb8
        go_wp2
        go_roundw
        case rel => exact ⟨k + 1, by omega, by go_num, by rw [HSN.out]; exact HO8.out, HX8.out⟩
        case measure => simp [intOf]; omega
    · obtain rfl : nw = k := by omega
      have htk : t.ws.take nw = t.ws := List.take_of_length_le (by have := HNW.out; omega)
      obtain ⟨p2, hp2⟩ : ∃ p, p = p0 ++ numBs t.ws := ⟨_, rfl⟩
      rw [htk, ← hp2] at HO
      rw [← hp2] at HSLT
      have hpl2 : p2.length = 20 + 4 * nw := by rw [hp2, List.length_append, HPL.out, numBs_len, HNW.out]
      have HPL2 := Lib.hid hpl2; clear hpl2 htk hp2 hk
      go_wp2
      clear m0 m1 m2
      go_loopw [4, 7] (fun v i wr => ∃ k : Nat, k ≤ nr ∧ i = .int .i64 k ∧ Owned wr base v (p2 ++ revBs (t.rs.take k)) ∧ Box w W wr base cur) (fun _ i _ => nr - (intOf i).toNat)
      case atStart => exact ⟨0, by omega, rfl, by simpa [revBs] using HO.out, HX.out⟩
      case round =>
        clear HO HX
        obtain ⟨k, hk, rfl, hown, hbx⟩ := hrel
        have HO := Lib.hid hown; clear hown
        have HX := Lib.hid hbx; clear hbx
        obtain ⟨m0, m1, m2⟩ := CELLS.out wr HX.out
        have hk0 : (0 : Int) ≤ (k : Int) := by omega
        by_cases hlt2 : k < nr
        · obtain ⟨x, hx⟩ : ∃ x, t.rs[k]? = some x := ⟨_, List.getElem?_eq_getElem (by have := HNR.out; omega)⟩
          obtain ⟨b, off, rfl, hbB, hc⟩ := (HTX.out wr HX.out).rs.2 (by omega)
          have e0 := hc k x hx
          have hmem := List.mem_of_getElem? hx
          have hxn := HMAY.out.nums x (List.mem_append_right _ hmem)
          have hsn := revBs_snoc t.rs k x hx
          have hnl := revBs_len (t.rs.take k)
          rw [List.length_take, HNR.out, Nat.min_eq_left (by omega)] at hnl
          have hx0 := hxn.1
          have hx1 := hxn.2
          have hkn : (k : Int) < (nr : Int) := by omega
          have HSN := Lib.hid hsn; clear hsn
          have HNL := Lib.hid hnl; clear hnl
          clear hc hxn hmem hx
          go_wp2_with fail
          refine (rbytes_any _ _ x.toNat 4 wr (by omega) rfl (by omega)).mono ?_
          rintro e w7 ⟨A7, c7, rfl, ho7, hb7⟩
          have HX7 := Lib.hid (HX.out.next hbz (hb7.mono (HLE.out _ HX.out)))
          have HOv := Lib.hid (Owned.keep HO.out hb7 (Nat.le_refl _))
          have HR7 := Lib.hid (Owned.reads ho7)
          clear ho7 hb7 m0 m1 m2 e0
          go_wp2_with (at_builtin; refine wpList_addall rfl (.tmp 65) (.tmp 72) rfl base _ (p2 ++ revBs (t.rs.take k)) rfl HOv.out w7.heap.size A7 4 c7 (bytesL x.toNat 4) rfl HR7.out (by rw [List.length_append, HPL2.out, HNL.out]; omega) (HLE.out _ HX7.out) ?_)
          intro v8 w8 ho8 hb8
          have HO8 := Lib.hid ho8; clear ho8
          have HX8 := Lib.hid (HX7.out.next hbz hb8); clear hb8
          go_wp2
          go_roundw
          case rel => exact ⟨k + 1, by omega, by go_num, by rw [HSN.out]; exact HO8.out, HX8.out⟩
          case measure => simp [intOf]; omega
        · obtain rfl : nr = k := by omega
          have htk : t.rs.take nr = t.rs := List.take_of_length_le (by have := HNR.out; omega)
          rw [htk, ← HSLT.out] at HO
          have hsl := slots_len t
          have hsl2 : t.slots.length ≤ 236 := by have := HNW.out; have := HNR.out; omega
          have hse := sealL_own 1 t.seq t.slots hsl2
          have hbl : (headL 1 t.seq ++ t.slots).length ≤ 252 := by rw [List.length_append, headL_len]; omega
          have HSE := Lib.hid hse; clear hse
          obtain ⟨d0, hd0⟩ : ∃ d, d = ownL 1 t.seq t.slots := ⟨_, rfl⟩
          have hl0 : d0.length = 256 := by rw [hd0]; exact ownL_len _ _ _ hsl2
          have hhead : t.head = d0 ++ bodyL t.ws := by rw [hd0]; rfl
          rw [← hd0] at HSE
          have HL0 := Lib.hid hl0; clear hl0
          have HHD := Lib.hid hhead; clear hhead
          clear htk hk hd0 hsl hsl2
          go_wp2_with fail
          refine (sealed_ref _ (headL 1 t.seq ++ t.slots) base wr HO.out hbl (HLE.out _ HX.out)).mono ?_
          rintro e w7 ⟨A7, c7, rfl, ho7, hb7⟩
          rw [HSE.out] at ho7
          have HX7 := Lib.hid (HX.out.next hbz hb7)
          have HO7 := Lib.hid ho7
          clear ho7 hb7 m0 m1 m2 hbl HO HX
          go_wp2
          go_loopw [8, 9] (fun v i wr => ∃ k : Nat, k ≤ nw ∧ i = .int .i64 k ∧ Owned wr base v (d0 ++ bodyL (t.ws.take k)) ∧ Box w W wr base cur) (fun _ i _ => nw - (intOf i).toNat)
          case atStart => exact ⟨0, by omega, rfl, by simpa [bodyL] using HO7.out, HX7.out⟩
          case round =>
            clear HO7 HX7
            obtain ⟨k, hk, rfl, hown, hbx⟩ := hrel
            have HO := Lib.hid hown; clear hown
            have HX := Lib.hid hbx; clear hbx
            obtain ⟨m0, m1, m2⟩ := CELLS.out wr HX.out
            have hk0 : (0 : Int) ≤ (k : Int) := by omega
            by_cases hlt3 : k < nw
            · obtain ⟨x, hx⟩ : ∃ x, t.ws[k]? = some x := ⟨_, List.getElem?_eq_getElem (by have := HNW.out; omega)⟩
              obtain ⟨b, off, rfl, hbB, hc⟩ := (HTX.out wr HX.out).ws.2 (by omega)
              obtain ⟨e0, A', c', e1, hh, hf1, hf2⟩ := hc k x hx
              have hmem := List.mem_of_getElem? hx
              have hdl := HMAY.out.data x hmem
              have hsn := bodyL_snoc t.ws k x hx
              have hnl := bodyL_len (t.ws.take k) (fun y hy => HMAY.out.data y (List.mem_of_mem_take hy))
              rw [List.length_take, HNW.out, Nat.min_eq_left (by omega)] at hnl
              have hkn : (k : Int) < (nw : Int) := by omega
              have HSN := Lib.hid hsn; clear hsn
              have HNL := Lib.hid hnl; clear hnl
              have HH := Lib.hid hh; clear hh
              clear hc hmem hx
              obtain ⟨x1, x2⟩ := x
              dsimp only at e0 e1 hdl HH hf1 HSN
              rw [hdl] at e1 HH hf1
              have HDL := Lib.hid hdl; clear hdl
              cases hlk : looks x2
              · have hbe := bareL_not x2 hlk
                rw [hbe] at HSN
                have HLK := Lib.hid hlk; clear hlk hbe
                go_wp2_with fail
                refine (looks_ref A' 256 c' B x2 wr HH.out (by omega) hf1).mono ?_
                rintro e w' ⟨rfl, rfl⟩
                rw [HLK.out]
                go_wp2_with (at_builtin; refine wpList_addall rfl (.tmp 102) (.tmp 108) rfl base _ (d0 ++ bodyL (t.ws.take k)) rfl HO.out B A' 256 c' x2 rfl HH.out (by rw [List.length_append, HL0.out, HNL.out]; omega) (HLE.out _ HX.out) ?_)
                intro v8 w8 ho8 hb8
                have HO8 := Lib.hid ho8; clear ho8
                have HX8 := Lib.hid (HX.out.next hbz hb8); clear hb8
                clear m0 m1 m2 e0 e1
                go_wp2
                go_roundw
                case rel => exact ⟨k + 1, by omega, by go_num, by rw [HSN.out]; exact HO8.out, HX8.out⟩
                case measure => simp [intOf]; omega
              · have hbe := bareL_eq x2 hlk
                rw [hbe] at HSN
                have HLK := Lib.hid hlk; clear hlk hbe
                go_wp2_with fail
                refine (looks_ref A' 256 c' B x2 wr HH.out (by omega) hf1).mono ?_
                rintro e w' ⟨rfl, rfl⟩
                rw [HLK.out]
                have hz0 := holds_lit wr [0, 0, 0, 0] #[.int .u8 0, .int .u8 0, .int .u8 0, .int .u8 0] rfl (0, 0)
                have hoz : Owned (wr.alloc (.cells #[.int .u8 0, .int .u8 0, .int .u8 0, .int .u8 0] 5)) base u8 (d0 ++ bodyL (t.ws.take k)) := World.ownsRow.alloc HO.out _
                have hXz : Box w W (wr.alloc (.cells #[.int .u8 0, .int .u8 0, .int .u8 0, .int .u8 0] 5)) base cur := HX.out.next hbz ((Below.refl base wr).alloc (HLE.out _ HX.out) _)
                have HZ0 := Lib.hid hz0; clear hz0
                have HOZ := Lib.hid hoz; clear hoz
                have HXZ := Lib.hid hXz; clear hXz
                go_wp2_with (at_builtin; refine wpList_addall rfl (.tmp 90) (.tmp 91) rfl base _ (d0 ++ bodyL (t.ws.take k)) rfl HOZ.out _ _ 4 4 [0, 0, 0, 0] rfl HZ0.out (by rw [List.length_append, HL0.out, HNL.out]; omega) (HLE.out _ HXZ.out) ?_)
                intro v8 w8 ho8 hb8
                obtain ⟨q8, hq8⟩ : ∃ q, q = d0 ++ (bodyL (t.ws.take k) ++ [0, 0, 0, 0]) := ⟨_, rfl⟩
                have ho8' : Owned w8 base v8 q8 := by rw [hq8]; simpa only [List.append_assoc] using ho8
                have hql : q8.length = 256 + 256 * k + 4 := by rw [hq8]; simp only [List.length_append, HL0.out, HNL.out, List.length_cons, List.length_nil]; omega
                have hbb : Below base wr w8 := ((Below.refl base wr).alloc (HLE.out _ HX.out) _).trans hb8
                have f1 := (hbb.cell (p := ⟨b, off + k * 2 + 1, none⟩) (by show b < base; omega)).trans e1
                have hh8 := HH.out.below (hbb.mono hBb)
                have HO8 := Lib.hid ho8'; clear ho8 ho8'
                have HX8 := Lib.hid (HXZ.out.next hbz hb8); clear hb8 hbb
                clear m0 m1 m2 e0 e1
                obtain ⟨m0, m1, m2⟩ := CELLS.out w8 HX8.out
                obtain ⟨b', off', rfl⟩ := Holds.addr hh8 (by omega)
                have hdr := Holds.drop (k := 4) (m := 252) hh8 (by omega)
                rw [List.take_of_length_le (by rw [List.length_drop, HDL.out]; omega)] at hdr
                have HDR := Lib.hid hdr; clear hdr hh8
                have HQ8 := Lib.hid hq8; clear hq8
                go_wp2_with (at_builtin; refine wpList_addall rfl (.tmp 93) (.tmp 100) rfl base _ q8 rfl HO8.out B (some ⟨b', off' + 4, none⟩) 252 _ (x2.drop 4) rfl HDR.out (by rw [hql]; omega) (HLE.out _ HX8.out) ?_)
                intro v9 w9 ho9 hb9
                have HO9 := Lib.hid ho9; clear ho9
                have HX9 := Lib.hid (HX8.out.next hbz hb9); clear hb9
                clear m0 m1 m2 f1 hql
                go_wp2
                go_roundw
                case rel =>
                  refine ⟨k + 1, by omega, by go_num, ?_, HX9.out⟩
                  have ho := HO9.out
                  rw [HQ8.out] at ho
                  rw [HSN.out]
                  simpa only [List.append_assoc] using ho
                case measure => simp [intOf]; omega
            · obtain rfl : nw = k := by omega
              have htk : t.ws.take nw = t.ws := List.take_of_length_le (by have := HNW.out; omega)
              rw [htk, ← HHD.out] at HO
              have hhl := head_len t HMAY.out
              rw [HNW.out] at hhl
              have HHL := Lib.hid hhl; clear hhl htk hk
              obtain ⟨A8, c8, hv8, -⟩ := Owned.holds HO.out
              subst hv8
              obtain ⟨N, hN⟩ : ∃ N, N = t.head.length := ⟨_, rfl⟩
              rw [← hN] at HO ⊢
              have hN2 : N ≤ 15104 := by have := HHL.out; omega
              have HN := Lib.hid hN; clear hN
              go_wp2_with fail
              refine (headV_any 2 (t.seq : Int) 2 t.seq wr rfl rfl).mono ?_
              rintro e w2 ⟨A2, c2, rfl, ho2, hb2⟩
              obtain ⟨base2, hb2e⟩ : ∃ b, b = wr.heap.size := ⟨_, rfl⟩
              rw [← hb2e] at ho2 hb2
              have hz2 : base2 ≤ wr.heap.size := by omega
              have hzb2 : base ≤ base2 := by have := HLE.out _ HX.out; omega
              have HO2 := Lib.hid ho2
              have HB2 := Lib.hid hb2
              have HOh := Lib.hid (Owned.keep HO.out hb2 (by omega)); clear ho2 hb2 m0 m1 m2
              have HZW : Hid (wr.heap.size ≤ base2) := Lib.hid (by omega)
              clear hb2e
              go_wp2_with fail
              refine (refsum_any A8 N c8 w2.heap.size t.head w2 (Owned.reads HOh.out) (by unfold maxLen; omega)).mono ?_
              rintro e w' ⟨rfl, rfl⟩
              have hsm := sum_lt t.head
              obtain ⟨SM, hSM⟩ : ∃ s, s = sum t.head := ⟨_, rfl⟩
              rw [← hSM] at hsm ⊢
              have HSM := Lib.hid hSM; clear hSM
              go_wp2_with fail
              refine (rbytes_any _ _ SM 4 w2 rfl rfl (by omega)).mono ?_
              rintro e w3 ⟨A3, c3, rfl, ho3, hb3⟩
              have hz22 : base2 ≤ w2.heap.size := Nat.le_trans hz2 HB2.out.size
              have HB3 : Hid (Below base2 wr w3) := Lib.hid (HB2.out.trans (hb3.mono hz22))
              have HO3 := Lib.hid (Owned.keep HO2.out hb3 (Nat.le_refl _))
              have HR3 := Lib.hid (Owned.reads ho3)
              clear ho3 hb3
              have hz23 : base2 ≤ w3.heap.size := Nat.le_trans hz2 HB3.out.size
              go_wp2_with (at_builtin; refine wpList_addall rfl (.tmp 112) (.tmp 116) rfl base2 _ (headL 2 t.seq) rfl HO3.out w3.heap.size A3 4 c3 (bytesL SM 4) rfl HR3.out (by rw [headL_len]; omega) hz23 ?_)
              intro v4 w4 ho4 hb4
              have HB4 : Hid (Below base2 wr w4) := Lib.hid (HB3.out.trans hb4)
              have HO4 := Lib.hid ho4; clear ho4 hb4
              have hz24 : base2 ≤ w4.heap.size := Nat.le_trans hz2 HB4.out.size
              have hse := sealL_own 2 t.seq (bytesL SM 4) (by rw [bytesL_len]; omega)
              have HSE := Lib.hid hse; clear hse
              have hbl : (headL 2 t.seq ++ bytesL SM 4).length ≤ 252 := by rw [List.length_append, headL_len, bytesL_len]; omega
              go_wp2_with fail
              refine (sealed_ref _ (headL 2 t.seq ++ bytesL SM 4) base2 w4 HO4.out hbl hz24).mono ?_
              rintro e w5 ⟨A5, c5, rfl, ho5, hb5⟩
              rw [HSE.out] at ho5
              have HB5 : Hid (Below base2 wr w5) := Lib.hid (HB4.out.trans hb5)
              have HR5 := Lib.hid (Owned.reads ho5)
              have HOh5 := Lib.hid (Owned.keep HO.out HB5.out HZW.out)
              clear ho5 hb5
              have hz5 : base ≤ w5.heap.size := by have := HB5.out.size; omega
              go_wp2_with (at_builtin; refine wpList_addall rfl (.tmp 118) (.tmp 120) rfl base _ t.head rfl HOh5.out w5.heap.size A5 256 c5 (ownL 2 t.seq (bytesL SM 4)) rfl HR5.out (by rw [← HN.out]; omega) hz5 ?_)
              intro v8 w8 ho8 hb8
              rw [HSM.out] at ho8
              have ho8' : Owned w8 base v8 t.enc := ho8
              clear ho8
              obtain ⟨A9, c9, hv9, -⟩ := Owned.holds ho8'
              subst hv9
              have HO8 := Lib.hid ho8'; clear ho8'
              have HB8 : Hid (Below w.heap.size w w8) := Lib.hid (HB0.out.trans ((HX.out.below.trans ((HB5.out.mono hzb2).trans hb8)).mono (by omega)))
              clear hb8 hbl
              go_wp2
              go_ret2
              exact .inr ⟨HM.out, A9, c9, rfl, Owned.mono HO8.out (by omega), HB8.out⟩

theorem encr_any (t : Tx) (Aw Ar : Option Addr) (nw cw nr cr B : Nat) (w : World) (h : TxAt w B t Aw nw cw Ar nr cr) (hB : B ≤ w.heap.size) :
    Calls Tryz.prog 95 #[.agg #[.int .u64 (t.seq : Int), .slice Aw nw cw, .slice Ar nr cr]] w (ToldR w t) := by
  cases hm : t.mayB
  · exact encr_not t Aw Ar nw cw nr cr B w h hB hm
  · exact encr_may t Aw Ar nw cw nr cr B w h hB hm
end Go.Proofs.YtelnoibfamcnmaaGreat.Rec
