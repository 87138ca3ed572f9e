/- Contract of the program's slots: the counts and the blocks' numbers, as bytes. -/
import Derived.Test.YtkicobmdogeigaaRcTxn
import Derived.Deep.RegionHeld3
import Derived.Below
namespace Go.Proofs.Ytkicobmdogeigaa.Rec
set_option maxRecDepth 20000
open Go.RowKit
open Go.Proofs.Ytkicobmdogeigaa.Mem Go.Proofs.Ytkicobmdogeigaa.Crc

theorem bytesV_any (V N : Int) (v n : Nat) (w : World) (hV : V = (v : Int)) (hN : N = (n : Int)) (hn : n ≤ 8) : Calls Try.prog 99 #[.int .u64 V, .int .i64 N] w fun e w' => ∃ A c, e = .returned (.slice A n c) ∧ Owned w' w.heap.size (.slice A n c) (bytesL v n) ∧ Below w.heap.size w w' := by
  subst hV hN
  exact bytesN_any v n w hn
theorem wrap_nat (n : Nat) (h : n ≤ 281474976710656) : IntKind.u64.wrap (n : Int) = (n : Int) := by rw [IntKind.wrap_u64]; omega

set_option maxRecDepth 100000 in
set_option maxHeartbeats 1000000 in
theorem slots_any (t : Tx) (Aw Ar : Option Addr) (nw cw nr cr B : Nat) (w : World) (h : TxAt w B t Aw nw cw Ar nr cr) (hB : B ≤ w.heap.size) (hm : t.May) :
    Calls Try.prog 97 #[.agg #[.int .u64 (t.seq : Int), .slice Aw nw cw, .slice Ar nr cr]] w (Made w t.slots) := by
  obtain ⟨cur, hcur⟩ : ∃ c, c = #[Value.int .u64 (t.seq : Int), .slice Aw nw cw, .slice Ar nr cr] := ⟨_, rfl⟩
  have hnw := h.ws.1
  have hnr := h.rs.1
  have hhi := hm.hi
  have hw58 : nw ≤ 58 := by omega
  have hr58 : nr ≤ 58 := by omega
  have hb0 := (Below.refl w.heap.size w).alloc (Nat.le_refl _) (.cells cur 67)
  have hbk := heap_alloc_new w (.cells cur 67)
  have hs0 : (w.alloc (.cells cur 67)).heap.size = w.heap.size + 1 := by simp
  have h1 := h.below (hb0.mono hB)
  have H1 := Lib.hid h1; clear h1
  have H := Lib.hid h; clear h
  have HM := Lib.hid hm; clear hm
  have HNW := Lib.hid hnw; clear hnw
  have HNR := Lib.hid hnr; clear hnr
  have HB0 := Lib.hid hb0; clear hb0
  have HBK := Lib.hid hbk; clear hbk
  have HS0 := Lib.hid hs0; clear hs0
  clear hhi
  go_enter Try.func97, Try.ntmps97
  go_wp2_with fail
  rw [← hcur]
  generalize w.alloc (.cells cur 67) = W at H1 HB0 HBK HS0 ⊢
  have HCUR := Lib.hid hcur; clear hcur
  have hbkD : W.drew.heap[w.heap.size]? = some (.cells cur 67 (0, 0)) := HBK.out
  have l1 : W.cell? ⟨w.heap.size, 1, none⟩ = some (.slice Aw nw cw) := by rw [cell_of_row _ _ _ _ _ _ HBK.out, HCUR.out]; rfl
  have l2 : W.cell? ⟨w.heap.size, 2, none⟩ = some (.slice Ar nr cr) := by rw [cell_of_row _ _ _ _ _ _ HBK.out, HCUR.out]; rfl
  have HBD := Lib.hid hbkD; clear hbkD
  have hzW : w.heap.size < W.drew.heap.size := by show w.heap.size < W.heap.size; have := HS0.out; omega
  go_region_held3 (fun V => V.cell? ⟨w.heap.size, 1, none⟩ = some (.slice Aw nw cw) ∧ V.cell? ⟨w.heap.size, 2, none⟩ = some (.slice Ar nr cr)) (go_keep)
    (first
      | (go_at_call 99
         have hcall := bytesV_any (IntKind.u64.wrap (nw : Int)) 2 nw 2 W.drew (wrap_nat nw (by omega)) rfl (by omega)
         with_reducible refine hcall.mono ?_
         clear hcall
         rintro e w2 ⟨A2, c2, rfl, ho2, hb2⟩
         have k1 := (hb2.cell (p := ⟨w.heap.size, 1, none⟩) hzW).trans l1
         have k2 := (hb2.cell (p := ⟨w.heap.size, 2, none⟩) hzW).trans l2
         have HO2 := Lib.hid ho2
         have HB2 := Lib.hid hb2
         clear ho2 hb2)
      | (go_at_call 99
         have hcall := bytesV_any (IntKind.u64.wrap (nr : Int)) 2 nr 2 w2 (wrap_nat nr (by omega)) rfl (by omega)
         with_reducible refine hcall.mono ?_
         clear hcall
         rintro e w3 ⟨A3, c3, rfl, ho3, hb3⟩
         have hz2 : w.heap.size < w2.heap.size := by have := HB2.out.size; omega
         have m1 := (hb3.cell (p := ⟨w.heap.size, 1, none⟩) hz2).trans k1
         have m2 := (hb3.cell (p := ⟨w.heap.size, 2, none⟩) hz2).trans k2
         have HO3 := Lib.hid ho3
         have HB3 := Lib.hid hb3
         have hz3 : w.heap.size < W.drew.heap.size := hzW
         have HA := Lib.hid (Owned.keep HO2.out hb3 (Nat.le_refl _))
         have hbase : W.drew.heap.size ≤ w3.heap.size := by have := HB2.out.size; have := HB3.out.size; omega
         clear ho3 hb3)
      | (refine step_addall rfl (.tmp 13) (.tmp 18) rfl W.drew.heap.size (.slice A2 2 c2) (bytesL nw 2) rfl HA.out w3.heap.size A3 2 c3 (bytesL nr 2) rfl (Owned.reads HO3.out) (by rw [bytesL_len]; omega) hbase ?_
         intro v4 w4 ho4 hb4
         have n1 := (hb4.cell (p := ⟨w.heap.size, 1, none⟩) hzW).trans m1
         have n2 := (hb4.cell (p := ⟨w.heap.size, 2, none⟩) hzW).trans m2
         have HO4 := Lib.hid ho4
         have HB4 := Lib.hid hb4
         clear ho4 hb4))
  have HPRE := HO4
  obtain ⟨pre, hpre⟩ : ∃ p, p = bytesL nw 2 ++ bytesL nr 2 := ⟨_, rfl⟩
  rw [← hpre] at HO4
  have hpl : pre.length = 4 := by rw [hpre, List.length_append, bytesL_len, bytesL_len]
  have HPL := Lib.hid hpl; clear hpl
  have hsl : t.slots = pre ++ numBs t.ws ++ revBs t.rs := by unfold Tx.slots; rw [hpre, HNW.out, HNR.out]
  have HSL := Lib.hid hsl; clear hsl hpre HPRE HA HO2 HO3
  have hWB4 : Below W.drew.heap.size W w4 := ((Below.refl W.drew.heap.size W).drew.trans HB2.out).trans ((HB3.out.mono HB2.out.size).trans HB4.out)
  have hzd : W.drew.heap.size = w.heap.size + 1 := HS0.out
  have HBW4 : Hid (Below w.heap.size w w4) := Lib.hid (HB0.out.trans (hWB4.mono (by omega)))
  have hbk4 : w4.heap[w.heap.size]? = some (.cells cur 67 (0, 0)) := (hWB4.block _ (by omega)).trans HBK.out
  have hT4 := H1.out.below (hWB4.mono (by omega))
  obtain ⟨base, hbase0⟩ : ∃ b, b = W.drew.heap.size := ⟨_, rfl⟩
  rw [← hbase0] at HO4 hzd hWB4
  have hz4 : base ≤ w4.heap.size := by rw [hbase0]; have := HB4.out.size; omega
  have HZD := Lib.hid hzd; clear hzd
  have HT4 := Lib.hid hT4; clear hT4
  have HBK4 := Lib.hid hbk4; clear hbk4
  clear hbase0 hWB4 HB2 HB3 HB4 hbase hz2 hz3 hzW HBD HBK H1 HB0 HS0 l1 l2 k1 k2 m1 m2 H
  go_wp2
  go_loopw [3, 6, 23] (fun v _ i wr => ∃ k : Nat, k ≤ nw ∧ i = .int .i64 k ∧ Owned wr base v (pre ++ numBs (t.ws.take k)) ∧ Below base w4 wr) (fun _ _ i _ => nw - (intOf i).toNat)
  case atStart => exact ⟨0, by omega, rfl, by simpa [numBs] using HO4.out, Below.refl _ _⟩
  case round =>
    obtain ⟨k, hk, rfl, hown, hbr⟩ := hrel
    have HO := Lib.hid hown; clear hown
    have HBR := Lib.hid hbr; clear hbr
    by_cases hlt : k < nw
    · have hT := HT4.out.below (HBR.out.mono (show B ≤ base by have := HZD.out; omega))
      obtain ⟨x, hx⟩ : ∃ x, t.ws[k]? = some x := ⟨_, List.getElem?_eq_getElem (by have := HNW.out; omega)⟩
      obtain ⟨b, off, rfl, hbB, hc⟩ := hT.ws.2 (by omega)
      obtain ⟨e0, A', c', e1, hh, hf1, hf2⟩ := hc k x hx
      have hmem := List.mem_of_getElem? hx
      have hdl := HM.out.data x hmem
      have hxn := HM.out.nums x.1 (List.mem_append_left _ (List.mem_map.2 ⟨x, hmem, rfl⟩))
      obtain ⟨hq1, hq2, hq3⟩ := numb_bits x hxn
      have hsn := numBs_snoc t.ws k x hx
      have hnl := numBs_len (t.ws.take k)
      rw [List.length_take, HNW.out, Nat.min_eq_left (by omega)] at hnl
      have hx0 := hxn.1
      have hx1 := hxn.2
      have hk0 : (0 : Int) ≤ (k : Int) := by omega
      have hkn : (k : Int) < (nw : Int) := by omega
      have HX := Lib.hid hx; clear hx
      have HDL := Lib.hid hdl; clear hdl
      have HSN := Lib.hid hsn; clear hsn
      have HNL := Lib.hid hnl; clear hnl
      have HQ2 := Lib.hid hq2; clear hq2
      have HQ3 := Lib.hid hq3; clear hq3
      have HH := Lib.hid hh; clear hh
      clear hc hT hxn hmem n1 n2
      obtain ⟨nb, hnb⟩ : ∃ m, m = numb x := ⟨_, rfl⟩
      rw [← hnb] at hq1 HQ2 HQ3 HSN
      clear hnb
      obtain ⟨x1, x2⟩ := x
      dsimp only at e0 e1 hx0 hx1 HDL HQ2 HQ3 HH hf1
      obtain ⟨N, hN⟩ : ∃ N, N = x2.length := ⟨_, rfl⟩
      rw [← hN] at e1 HH hf1 HDL
      clear hN
      cases hlk : looks x2
      all_goals
        have HLK := Lib.hid hlk; clear hlk
        go_wp2_with fail
        have hh1 := HH.out.below (((Below.refl wr.heap.size wr).alloc (Nat.le_refl _) (.cells #[.int .i64 x1, .slice A' N c'] 83)).mono (show B ≤ wr.heap.size by have := HBR.out.size; have := HZD.out; omega))
        have ho1 : Owned (wr.alloc (.cells #[.int .i64 x1, .slice A' N c'] 83)) base u3 (pre ++ numBs (t.ws.take k)) := World.ownsRow.alloc HO.out _
        have hb1 := HBR.out.alloc (Nat.le_trans hz4 HBR.out.size) (.cells #[.int .i64 x1, .slice A' N c'] 83)
        clear e0 e1
        generalize wr.alloc (.cells #[.int .i64 x1, .slice A' N c'] 83) = w5 at hh1 ho1 hb1 ⊢
        have HH1 := Lib.hid hh1; clear hh1
        have HO1 := Lib.hid ho1; clear ho1
        have HB1 := Lib.hid hb1; clear hb1
        refine (marked_any A' N c' B x2 w5 HH1.out (by have := HB1.out.size; have := HZD.out; omega) hf1).mono ?_
        rintro e w6 ⟨rfl, hb6⟩
        rw [HLK.out]
        have HO6 := Lib.hid (Owned.keep HO1.out hb6 (Nat.le_refl _))
        have HB6 : Hid (Below base w4 w6) := Lib.hid (HB1.out.trans (hb6.mono (Nat.le_trans hz4 HB1.out.size)))
        clear hb6
        go_wp2_with fail
        refine (bytesV_any _ _ nb 4 w6 (by first | exact (HQ2.out HLK.out).symm | exact (HQ3.out HLK.out).symm) rfl (by omega)).mono ?_
        rintro e w7 ⟨A7, c7, rfl, ho7, hb7⟩
        have HO7 := Lib.hid ho7; clear ho7
        have HOv := Lib.hid (Owned.keep HO6.out hb7 (Nat.le_refl _))
        have HB7 : Hid (Below base w4 w7) := Lib.hid (HB6.out.trans (hb7.mono (Nat.le_trans hz4 HB6.out.size)))
        clear hb7
        go_wp2_with (at_builtin; refine wpList_addall rfl (.tmp 35) (.tmp 37) rfl base _ (pre ++ numBs (t.ws.take k)) rfl HOv.out w7.heap.size A7 4 c7 (bytesL nb 4) rfl (Owned.reads HO7.out) ?c1 (Nat.le_trans hz4 HB7.out.size) ?_)
        case c1 => rw [List.length_append, HPL.out, HNL.out]; omega
        intro v8 w8 ho8 hb8
        have HO8 := Lib.hid ho8; clear ho8
        have HB8 : Hid (Below base w4 w8) := Lib.hid (HB7.out.trans hb8)
        clear hb8
        go_wp2
        go_roundw
        case rel => exact ⟨k + 1, by omega, by go_num, by rw [HSN.out]; exact HO8.out, HB8.out⟩
        case measure => simp [intOf]; omega
    · obtain rfl : nw = k := by omega
      have hbkr : wr.heap[w.heap.size]? = some (.cells cur 67 (0, 0)) := (HBR.out.block _ (by have := HZD.out; omega)).trans HBK4.out
      have p2 : wr.cell? ⟨w.heap.size, 2, none⟩ = some (.slice Ar nr cr) := by rw [cell_of_row _ _ _ _ _ _ hbkr, HCUR.out]; rfl
      have hT := HT4.out.below (HBR.out.mono (show B ≤ base by have := HZD.out; omega))
      have HT5 := Lib.hid hT; clear hT
      have htk : t.ws.take nw = t.ws := List.take_of_length_le (by have := HNW.out; omega)
      obtain ⟨w5, hw5⟩ : ∃ w5, w5 = wr := ⟨_, rfl⟩
      subst hw5
      obtain ⟨pre2, hpre2⟩ : ∃ p, p = pre ++ numBs t.ws := ⟨_, rfl⟩
      rw [htk, ← hpre2] at HO
      rw [← hpre2] at HSL
      have hpl2 : pre2.length = 4 + 4 * nw := by rw [hpre2, List.length_append, HPL.out, numBs_len, HNW.out]
      have HPL2 := Lib.hid hpl2; clear hpl2 htk hpre2
      clear hbkr n1 n2 hk
      go_wp2
      go_loopw [3, 8, 43] (fun v _ i wr => ∃ k : Nat, k ≤ nr ∧ i = .int .i64 k ∧ Owned wr base v (pre2 ++ revBs (t.rs.take k)) ∧ Below base w4 wr) (fun _ _ i _ => nr - (intOf i).toNat)
      case atStart => exact ⟨0, by omega, rfl, by simpa [revBs] using HO.out, HBR.out⟩
      case round =>
        obtain ⟨k, hk, rfl, hown, hbr⟩ := hrel
        have HOr := Lib.hid hown; clear hown
        have HBR2 := Lib.hid hbr; clear hbr
        by_cases hlt2 : k < nr
        · have hT := HT4.out.below (HBR2.out.mono (show B ≤ base by have := HZD.out; omega))
          obtain ⟨x, hx⟩ : ∃ x, t.rs[k]? = some x := ⟨_, List.getElem?_eq_getElem (by have := HNR.out; omega)⟩
          obtain ⟨b, off, rfl, hbB, hc⟩ := hT.rs.2 (by omega)
          have e0 := hc k x hx
          have hmem := List.mem_of_getElem? hx
          have hxn := HM.out.nums x (List.mem_append_right _ hmem)
          have hsn := revBs_snoc t.rs k x hx
          have hnl := revBs_len (t.rs.take k)
          rw [List.length_take, HNR.out, Nat.min_eq_left (by omega)] at hnl
          have hx0 := hxn.1
          have hx1 := hxn.2
          have hk0 : (0 : Int) ≤ (k : Int) := by omega
          have hkn : (k : Int) < (nr : Int) := by omega
          have HX := Lib.hid hx; clear hx
          have HSN := Lib.hid hsn; clear hsn
          have HNL := Lib.hid hnl; clear hnl
          clear hc hT hxn hmem p2
          go_wp2_with fail
          refine (bytesV_any _ _ x.toNat 4 wr (by omega) rfl (by omega)).mono ?_
          rintro e w7 ⟨A7, c7, rfl, ho7, hb7⟩
          have HO7 := Lib.hid ho7; clear ho7
          have HOv := Lib.hid (Owned.keep HOr.out hb7 (Nat.le_refl _))
          have HB7 : Hid (Below base w4 w7) := Lib.hid (HBR2.out.trans (hb7.mono (Nat.le_trans hz4 HBR2.out.size)))
          clear hb7
          go_wp2_with (at_builtin; refine wpList_addall rfl (.tmp 47) (.tmp 50) rfl base _ (pre2 ++ revBs (t.rs.take k)) rfl HOv.out w7.heap.size A7 4 c7 (bytesL x.toNat 4) rfl (Owned.reads HO7.out) ?c2 (Nat.le_trans hz4 HB7.out.size) ?_)
          case c2 => rw [List.length_append, HPL2.out, HNL.out]; omega
          intro v8 w8 ho8 hb8
          have HO8 := Lib.hid ho8; clear ho8
          have HB8 : Hid (Below base w4 w8) := Lib.hid (HB7.out.trans hb8)
          clear hb8
          go_wp2
          go_roundw
          case rel => exact ⟨k + 1, by omega, by go_num, by rw [HSN.out]; exact HO8.out, HB8.out⟩
          case measure => simp [intOf]; omega
        · obtain rfl : nr = k := by omega
          have htk : t.rs.take nr = t.rs := List.take_of_length_le (by have := HNR.out; omega)
          have ho := HOr.out
          rw [htk, ← HSL.out] at ho
          have HE := Lib.hid ho; clear ho htk
          obtain ⟨A9, c9, rfl, -⟩ := Owned.holds HE.out
          clear p2
          go_wp2
          go_ret
          exact ⟨A9, c9, rfl, Owned.mono HE.out (by have := HZD.out; omega), HBW4.out.trans (HBR2.out.mono (by have := HZD.out; omega))⟩
end Go.Proofs.Ytkicobmdogeigaa.Rec
