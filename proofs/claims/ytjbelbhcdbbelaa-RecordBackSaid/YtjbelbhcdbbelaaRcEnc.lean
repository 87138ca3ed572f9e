/- Contract of the program's Encode: for every record. -/
import Derived.Test.YtjbelbhcdbbelaaRcTxn
import Derived.Deep.RegionHeld3
import Derived.Below
import Derived.Maps.RangeWalk
import Derived.Maps.OwnOps
import Derived.Maps.OwnSet
import Derived.Maps.Ext
import Derived.Deep.LoopGhost
namespace Go.Proofs.Ytjbelbhcdbbelaa.Rec
set_option maxRecDepth 20000
open Go.RowKit
open Go.Proofs.Ytjbelbhcdbbelaa.Mem Go.Proofs.Ytjbelbhcdbbelaa.Crc

theorem bytesV_any (V N : Int) (v n : Nat) (w : World) (hV : V = (v : Int)) (hN : N = (n : Int)) (hn : n ≤ 8) : Calls Try.prog 12 #[.int .u64 V, .int .i64 N] w fun e w' => ∃ A c, e = .returned (.slice A n c) ∧ Owned w' w.heap.size (.slice A n c) (bytesL v n) ∧ Below w.heap.size w w' := by
  subst hV hN
  exact bytesN_any v n w hn
theorem wrap_nat (n : Nat) (h : n ≤ 281474976710656) : IntKind.u64.wrap (n : Int) = (n : Int) := by rw [IntKind.wrap_u64]; omega

set_option maxRecDepth 100000 in
set_option maxHeartbeats 1000000 in
theorem slots_any (t : Tx) (Aw Ar : Option Addr) (nw cw nr cr B : Nat) (w : World) (h : TxAt w B t Aw nw cw Ar nr cr) (hB : B ≤ w.heap.size) (hm : t.May) :
    Calls Try.prog 10 #[.agg #[.int .u64 (t.seq : Int), .slice Aw nw cw, .slice Ar nr cr]] w (Made w t.slots) := by
  obtain ⟨cur, hcur⟩ : ∃ c, c = #[Value.int .u64 (t.seq : Int), .slice Aw nw cw, .slice Ar nr cr] := ⟨_, rfl⟩
  have hnw := h.ws.1
  have hnr := h.rs.1
  have hhi := hm.hi
  have hw58 : nw ≤ 58 := by omega
  have hr58 : nr ≤ 58 := by omega
  have hb0 := (Below.refl w.heap.size w).alloc (Nat.le_refl _) (.cells cur 26)
  have hbk := heap_alloc_new w (.cells cur 26)
  have hs0 : (w.alloc (.cells cur 26)).heap.size = w.heap.size + 1 := by simp
  have h1 := h.below (hb0.mono hB)
  have H1 := Lib.hid h1; clear h1
  have H := Lib.hid h; clear h
  have HM := Lib.hid hm; clear hm
  have HNW := Lib.hid hnw; clear hnw
  have HNR := Lib.hid hnr; clear hnr
  have HB0 := Lib.hid hb0; clear hb0
  have HBK := Lib.hid hbk; clear hbk
  have HS0 := Lib.hid hs0; clear hs0
  clear hhi
  go_enter Try.func10, Try.ntmps10
  go_wp2_with fail
  rw [← hcur]
  generalize w.alloc (.cells cur 26) = W at H1 HB0 HBK HS0 ⊢
  have HCUR := Lib.hid hcur; clear hcur
  have hbkD : W.drew.heap[w.heap.size]? = some (.cells cur 26 (0, 0)) := HBK.out
  have l1 : W.cell? ⟨w.heap.size, 1, none⟩ = some (.slice Aw nw cw) := by rw [cell_of_row _ _ _ _ _ _ HBK.out, HCUR.out]; rfl
  have l2 : W.cell? ⟨w.heap.size, 2, none⟩ = some (.slice Ar nr cr) := by rw [cell_of_row _ _ _ _ _ _ HBK.out, HCUR.out]; rfl
  have HBD := Lib.hid hbkD; clear hbkD
  have hzW : w.heap.size < W.drew.heap.size := by show w.heap.size < W.heap.size; have := HS0.out; omega
  go_region_held3 (fun V => V.cell? ⟨w.heap.size, 1, none⟩ = some (.slice Aw nw cw) ∧ V.cell? ⟨w.heap.size, 2, none⟩ = some (.slice Ar nr cr)) (go_keep)
    (first
      | (go_at_call 12
         have hcall := bytesV_any (IntKind.u64.wrap (nw : Int)) 2 nw 2 W.drew (wrap_nat nw (by omega)) rfl (by omega)
         with_reducible refine hcall.mono ?_
         clear hcall
         rintro e w2 ⟨A2, c2, rfl, ho2, hb2⟩
         have k1 := (hb2.cell (p := ⟨w.heap.size, 1, none⟩) hzW).trans l1
         have k2 := (hb2.cell (p := ⟨w.heap.size, 2, none⟩) hzW).trans l2
         have HO2 := Lib.hid ho2
         have HB2 := Lib.hid hb2
         clear ho2 hb2)
      | (go_at_call 12
         have hcall := bytesV_any (IntKind.u64.wrap (nr : Int)) 2 nr 2 w2 (wrap_nat nr (by omega)) rfl (by omega)
         with_reducible refine hcall.mono ?_
         clear hcall
         rintro e w3 ⟨A3, c3, rfl, ho3, hb3⟩
         have hz2 : w.heap.size < w2.heap.size := by have := HB2.out.size; omega
         have m1 := (hb3.cell (p := ⟨w.heap.size, 1, none⟩) hz2).trans k1
         have m2 := (hb3.cell (p := ⟨w.heap.size, 2, none⟩) hz2).trans k2
         have HO3 := Lib.hid ho3
         have HB3 := Lib.hid hb3
         have hz3 : w.heap.size < W.drew.heap.size := hzW
         have HA := Lib.hid (Owned.keep HO2.out hb3 (Nat.le_refl _))
         have hbase : W.drew.heap.size ≤ w3.heap.size := by have := HB2.out.size; have := HB3.out.size; omega
         clear ho3 hb3)
      | (refine step_addall rfl (.tmp 13) (.tmp 18) rfl W.drew.heap.size (.slice A2 2 c2) (bytesL nw 2) rfl HA.out w3.heap.size A3 2 c3 (bytesL nr 2) rfl (Owned.reads HO3.out) (by rw [bytesL_len]; omega) hbase ?_
         intro v4 w4 ho4 hb4
         have n1 := (hb4.cell (p := ⟨w.heap.size, 1, none⟩) hzW).trans m1
         have n2 := (hb4.cell (p := ⟨w.heap.size, 2, none⟩) hzW).trans m2
         have HO4 := Lib.hid ho4
         have HB4 := Lib.hid hb4
         clear ho4 hb4))
  have HPRE := HO4
  obtain ⟨pre, hpre⟩ : ∃ p, p = bytesL nw 2 ++ bytesL nr 2 := ⟨_, rfl⟩
  rw [← hpre] at HO4
  have hpl : pre.length = 4 := by rw [hpre, List.length_append, bytesL_len, bytesL_len]
  have HPL := Lib.hid hpl; clear hpl
  have hsl : t.slots = pre ++ numBs t.ws ++ revBs t.rs := by unfold Tx.slots; rw [hpre, HNW.out, HNR.out]
  have HSL := Lib.hid hsl; clear hsl hpre HPRE HA HO2 HO3
  have hWB4 : Below W.drew.heap.size W w4 := ((Below.refl W.drew.heap.size W).drew.trans HB2.out).trans ((HB3.out.mono HB2.out.size).trans HB4.out)
  have hzd : W.drew.heap.size = w.heap.size + 1 := HS0.out
  have HBW4 : Hid (Below w.heap.size w w4) := Lib.hid (HB0.out.trans (hWB4.mono (by omega)))
  have hbk4 : w4.heap[w.heap.size]? = some (.cells cur 26 (0, 0)) := (hWB4.block _ (by omega)).trans HBK.out
  have hT4 := H1.out.below (hWB4.mono (by omega))
  obtain ⟨base, hbase0⟩ : ∃ b, b = W.drew.heap.size := ⟨_, rfl⟩
  rw [← hbase0] at HO4 hzd hWB4
  have hz4 : base ≤ w4.heap.size := by rw [hbase0]; have := HB4.out.size; omega
  have HZD := Lib.hid hzd; clear hzd
  have HT4 := Lib.hid hT4; clear hT4
  have HBK4 := Lib.hid hbk4; clear hbk4
  clear hbase0 hWB4 HB2 HB3 HB4 hbase hz2 hz3 hzW HBD HBK H1 HB0 HS0 l1 l2 k1 k2 m1 m2 H
  go_wp2
  go_loopw [3, 6, 23] (fun v _ i wr => ∃ k : Nat, k ≤ nw ∧ i = .int .i64 k ∧ Owned wr base v (pre ++ numBs (t.ws.take k)) ∧ Below base w4 wr) (fun _ _ i _ => nw - (intOf i).toNat)
  case atStart => exact ⟨0, by omega, rfl, by simpa [numBs] using HO4.out, Below.refl _ _⟩
  case round =>
    obtain ⟨k, hk, rfl, hown, hbr⟩ := hrel
    have HO := Lib.hid hown; clear hown
    have HBR := Lib.hid hbr; clear hbr
    by_cases hlt : k < nw
    · have hT := HT4.out.below (HBR.out.mono (show B ≤ base by have := HZD.out; omega))
      obtain ⟨x, hx⟩ : ∃ x, t.ws[k]? = some x := ⟨_, List.getElem?_eq_getElem (by have := HNW.out; omega)⟩
      obtain ⟨b, off, rfl, hbB, hc⟩ := hT.ws.2 (by omega)
      obtain ⟨e0, A', c', e1, hh, hf1, hf2⟩ := hc k x hx
      have hmem := List.mem_of_getElem? hx
      have hdl := HM.out.data x hmem
      have hxn := HM.out.nums x.1 (List.mem_append_left _ (List.mem_map.2 ⟨x, hmem, rfl⟩))
      obtain ⟨hq1, hq2, hq3⟩ := numb_bits x hxn
      have hsn := numBs_snoc t.ws k x hx
      have hnl := numBs_len (t.ws.take k)
      rw [List.length_take, HNW.out, Nat.min_eq_left (by omega)] at hnl
      have hx0 := hxn.1
      have hx1 := hxn.2
      have hk0 : (0 : Int) ≤ (k : Int) := by omega
      have hkn : (k : Int) < (nw : Int) := by omega
      have HX := Lib.hid hx; clear hx
      have HDL := Lib.hid hdl; clear hdl
      have HSN := Lib.hid hsn; clear hsn
      have HNL := Lib.hid hnl; clear hnl
      have HQ2 := Lib.hid hq2; clear hq2
      have HQ3 := Lib.hid hq3; clear hq3
      have HH := Lib.hid hh; clear hh
      clear hc hT hxn hmem n1 n2
      obtain ⟨nb, hnb⟩ : ∃ m, m = numb x := ⟨_, rfl⟩
      rw [← hnb] at hq1 HQ2 HQ3 HSN
      clear hnb
      obtain ⟨x1, x2⟩ := x
      dsimp only at e0 e1 hx0 hx1 HDL HQ2 HQ3 HH hf1
      obtain ⟨N, hN⟩ : ∃ N, N = x2.length := ⟨_, rfl⟩
      rw [← hN] at e1 HH hf1 HDL
      clear hN
      cases hlk : looks x2
      all_goals
        have HLK := Lib.hid hlk; clear hlk
        go_wp2_with fail
        have hh1 := HH.out.below (((Below.refl wr.heap.size wr).alloc (Nat.le_refl _) (.cells #[.int .i64 x1, .slice A' N c'] 40)).mono (show B ≤ wr.heap.size by have := HBR.out.size; have := HZD.out; omega))
        have ho1 : Owned (wr.alloc (.cells #[.int .i64 x1, .slice A' N c'] 40)) base u3 (pre ++ numBs (t.ws.take k)) := World.ownsRow.alloc HO.out _
        have hb1 := HBR.out.alloc (Nat.le_trans hz4 HBR.out.size) (.cells #[.int .i64 x1, .slice A' N c'] 40)
        clear e0 e1
        generalize wr.alloc (.cells #[.int .i64 x1, .slice A' N c'] 40) = w5 at hh1 ho1 hb1 ⊢
        have HH1 := Lib.hid hh1; clear hh1
        have HO1 := Lib.hid ho1; clear ho1
        have HB1 := Lib.hid hb1; clear hb1
        refine (marked_any A' N c' B x2 w5 HH1.out (by have := HB1.out.size; have := HZD.out; omega) hf1).mono ?_
        rintro e w6 ⟨rfl, hb6⟩
        rw [HLK.out]
        have HO6 := Lib.hid (Owned.keep HO1.out hb6 (Nat.le_refl _))
        have HB6 : Hid (Below base w4 w6) := Lib.hid (HB1.out.trans (hb6.mono (Nat.le_trans hz4 HB1.out.size)))
        clear hb6
        go_wp2_with fail
        refine (bytesV_any _ _ nb 4 w6 (by first | exact (HQ2.out HLK.out).symm | exact (HQ3.out HLK.out).symm) rfl (by omega)).mono ?_
        rintro e w7 ⟨A7, c7, rfl, ho7, hb7⟩
        have HO7 := Lib.hid ho7; clear ho7
        have HOv := Lib.hid (Owned.keep HO6.out hb7 (Nat.le_refl _))
        have HB7 : Hid (Below base w4 w7) := Lib.hid (HB6.out.trans (hb7.mono (Nat.le_trans hz4 HB6.out.size)))
        clear hb7
        go_wp2_with (at_builtin; refine wpList_addall rfl (.tmp 35) (.tmp 37) rfl base _ (pre ++ numBs (t.ws.take k)) rfl HOv.out w7.heap.size A7 4 c7 (bytesL nb 4) rfl (Owned.reads HO7.out) ?c1 (Nat.le_trans hz4 HB7.out.size) ?_)
        case c1 => rw [List.length_append, HPL.out, HNL.out]; omega
        intro v8 w8 ho8 hb8
        have HO8 := Lib.hid ho8; clear ho8
        have HB8 : Hid (Below base w4 w8) := Lib.hid (HB7.out.trans hb8)
        clear hb8
        go_wp2
        go_roundw
        case rel => exact ⟨k + 1, by omega, by go_num, by rw [HSN.out]; exact HO8.out, HB8.out⟩
        case measure => simp [intOf]; omega
    · obtain rfl : nw = k := by omega
      have hbkr : wr.heap[w.heap.size]? = some (.cells cur 26 (0, 0)) := (HBR.out.block _ (by have := HZD.out; omega)).trans HBK4.out
      have p2 : wr.cell? ⟨w.heap.size, 2, none⟩ = some (.slice Ar nr cr) := by rw [cell_of_row _ _ _ _ _ _ hbkr, HCUR.out]; rfl
      have hT := HT4.out.below (HBR.out.mono (show B ≤ base by have := HZD.out; omega))
      have HT5 := Lib.hid hT; clear hT
      have htk : t.ws.take nw = t.ws := List.take_of_length_le (by have := HNW.out; omega)
      obtain ⟨w5, hw5⟩ : ∃ w5, w5 = wr := ⟨_, rfl⟩
      subst hw5
      obtain ⟨pre2, hpre2⟩ : ∃ p, p = pre ++ numBs t.ws := ⟨_, rfl⟩
      rw [htk, ← hpre2] at HO
      rw [← hpre2] at HSL
      have hpl2 : pre2.length = 4 + 4 * nw := by rw [hpre2, List.length_append, HPL.out, numBs_len, HNW.out]
      have HPL2 := Lib.hid hpl2; clear hpl2 htk hpre2
      clear hbkr n1 n2 hk
      go_wp2
      go_loopw [3, 8, 43] (fun v _ i wr => ∃ k : Nat, k ≤ nr ∧ i = .int .i64 k ∧ Owned wr base v (pre2 ++ revBs (t.rs.take k)) ∧ Below base w4 wr) (fun _ _ i _ => nr - (intOf i).toNat)
      case atStart => exact ⟨0, by omega, rfl, by simpa [revBs] using HO.out, HBR.out⟩
      case round =>
        obtain ⟨k, hk, rfl, hown, hbr⟩ := hrel
        have HOr := Lib.hid hown; clear hown
        have HBR2 := Lib.hid hbr; clear hbr
        by_cases hlt2 : k < nr
        · have hT := HT4.out.below (HBR2.out.mono (show B ≤ base by have := HZD.out; omega))
          obtain ⟨x, hx⟩ : ∃ x, t.rs[k]? = some x := ⟨_, List.getElem?_eq_getElem (by have := HNR.out; omega)⟩
          obtain ⟨b, off, rfl, hbB, hc⟩ := hT.rs.2 (by omega)
          have e0 := hc k x hx
          have hmem := List.mem_of_getElem? hx
          have hxn := HM.out.nums x (List.mem_append_right _ hmem)
          have hsn := revBs_snoc t.rs k x hx
          have hnl := revBs_len (t.rs.take k)
          rw [List.length_take, HNR.out, Nat.min_eq_left (by omega)] at hnl
          have hx0 := hxn.1
          have hx1 := hxn.2
          have hk0 : (0 : Int) ≤ (k : Int) := by omega
          have hkn : (k : Int) < (nr : Int) := by omega
          have HX := Lib.hid hx; clear hx
          have HSN := Lib.hid hsn; clear hsn
          have HNL := Lib.hid hnl; clear hnl
          clear hc hT hxn hmem p2
          go_wp2_with fail
          refine (bytesV_any _ _ x.toNat 4 wr (by omega) rfl (by omega)).mono ?_
          rintro e w7 ⟨A7, c7, rfl, ho7, hb7⟩
          have HO7 := Lib.hid ho7; clear ho7
          have HOv := Lib.hid (Owned.keep HOr.out hb7 (Nat.le_refl _))
          have HB7 : Hid (Below base w4 w7) := Lib.hid (HBR2.out.trans (hb7.mono (Nat.le_trans hz4 HBR2.out.size)))
          clear hb7
          go_wp2_with (at_builtin; refine wpList_addall rfl (.tmp 47) (.tmp 50) rfl base _ (pre2 ++ revBs (t.rs.take k)) rfl HOv.out w7.heap.size A7 4 c7 (bytesL x.toNat 4) rfl (Owned.reads HO7.out) ?c2 (Nat.le_trans hz4 HB7.out.size) ?_)
          case c2 => rw [List.length_append, HPL2.out, HNL.out]; omega
          intro v8 w8 ho8 hb8
          have HO8 := Lib.hid ho8; clear ho8
          have HB8 : Hid (Below base w4 w8) := Lib.hid (HB7.out.trans hb8)
          clear hb8
          go_wp2
          go_roundw
          case rel => exact ⟨k + 1, by omega, by go_num, by rw [HSN.out]; exact HO8.out, HB8.out⟩
          case measure => simp [intOf]; omega
        · obtain rfl : nr = k := by omega
          have htk : t.rs.take nr = t.rs := List.take_of_length_le (by have := HNR.out; omega)
          have ho := HOr.out
          rw [htk, ← HSL.out] at ho
          have HE := Lib.hid ho; clear ho htk
          obtain ⟨A9, c9, rfl, -⟩ := Owned.holds HE.out
          clear p2
          go_wp2
          go_ret
          exact ⟨A9, c9, rfl, Owned.mono HE.out (by have := HZD.out; omega), HBW4.out.trans (HBR2.out.mono (by have := HZD.out; omega))⟩
end Go.Proofs.Ytjbelbhcdbbelaa.Rec

namespace Go.Proofs.Ytjbelbhcdbbelaa.Rec
set_option maxRecDepth 20000
open Go.RowKit
open Go.Proofs.Ytjbelbhcdbbelaa.Mem Go.Proofs.Ytjbelbhcdbbelaa.Crc

def keyI (b : Int) : Lit := .int .i64 b
def cV (k : Nat) : DataW Unit := .lit (.int .i64 (k : Int))
/-- The table behind the first k numbers. -/
def cntD (bs : List Int) : Nat → DataW Unit
  | 0 => .map []
  | k + 1 => (cntD bs k).put (keyI (bs.getD k 0)) (cV ((bs.take k).count (bs.getD k 0) + 1))
theorem keyI_inj {a b : Int} : keyI a = keyI b ↔ a = b := by
  unfold keyI
  constructor
  · intro h; injection h
  · intro h; rw [h]
theorem cntD_isMap (bs : List Int) : ∀ k, Maps.IsMap (cntD bs k)
  | 0 => ⟨[], rfl⟩
  | k + 1 => (cntD_isMap bs k).put _ _
theorem take_snocI (bs : List Int) (k : Nat) (h : k < bs.length) : bs.take (k + 1) = bs.take k ++ [bs.getD k 0] := by
  rw [List.take_succ_eq_append_getElem h]; simp [List.getD, h]
theorem cntD_has (bs : List Int) (b : Int) : ∀ k, k ≤ bs.length → Maps.has (cntD bs k) (keyI b) = decide (b ∈ bs.take k)
  | 0, _ => by simp [cntD]; rfl
  | k + 1, hk => by
    have ih := cntD_has bs b k (by omega)
    rw [take_snocI bs k (by omega)]
    show Maps.has ((cntD bs k).put _ _) _ = _
    by_cases h : b = bs.getD k 0
    · subst h
      rw [Maps.has_put_same (cntD_isMap bs k) (by unfold keyI; trivial)]; simp
    · rw [Maps.has_put_other (by rw [Ne, keyI_inj]; exact h), ih]
      simp only [List.mem_append, List.mem_singleton, h, or_false]
theorem cntD_at (bs : List Int) (b : Int) : ∀ k, k ≤ bs.length → (cntD bs k).atKey (keyI b) (.lit (.int .i64 0)) = cV ((bs.take k).count b)
  | 0, _ => by simp [cntD]; rfl
  | k + 1, hk => by
    have ih := cntD_at bs b k (by omega)
    rw [take_snocI bs k (by omega)]
    show DataW.atKey ((cntD bs k).put _ _) _ _ = _
    by_cases h : b = bs.getD k 0
    · subst h
      rw [Maps.atKey_put_same (cntD_isMap bs k) (by unfold keyI; trivial)]
      simp [List.count_append]
    · rw [Maps.atKey_put_other (by rw [Ne, keyI_inj]; exact h), ih]
      rw [List.count_append]
      have : List.count b [bs.getD k 0] = 0 := List.count_eq_zero.2 (by rw [List.mem_singleton]; exact h)
      rw [this]; rfl
/-- An entry of the table is a number that was met, and how often. -/
theorem cntD_entry (bs : List Int) (x c : Int) (k : Nat) (hk : k ≤ bs.length) (h : ∀ zd, (cntD bs k).atKey (keyI x) zd = .lit (.int .i64 c)) : x ∈ bs.take k ∧ c = ((bs.take k).count x : Int) := by
  have h1 := cntD_at bs x k hk
  rw [h] at h1
  unfold cV at h1
  injection h1 with h1
  injection h1 with _ h1
  refine ⟨?_, h1⟩
  have hh := cntD_has bs x k hk
  by_cases hm : x ∈ bs.take k
  · exact hm
  · exfalso
    have h2 := h (.lit (.int .i64 (c + 1)))
    have h3 := h .nil
    clear h h1 hh
    induction k with
    | zero => cases h3
    | succ k ih =>
      rw [take_snocI bs k (by omega)] at hm
      simp only [List.mem_append, List.mem_singleton, not_or] at hm
      have e : keyI x ≠ keyI (bs.getD k 0) := by rw [Ne, keyI_inj]; exact hm.2
      change DataW.atKey ((cntD bs k).put _ _) _ _ = _ at h2
      change DataW.atKey ((cntD bs k).put _ _) _ _ = _ at h3
      rw [Maps.atKey_put_other e] at h2 h3
      exact ih (by omega) hm.1 h2 h3

theorem intLitI {x : Int} (h : IsInt x) : (Lit.int .i64 x).wf = true := by
  obtain ⟨h1, h2⟩ := h
  simp [Lit.wf, show IntKind.i64.min = -9223372036854775808 from rfl, show IntKind.i64.max = 9223372036854775807 from rfl]
  omega
theorem intKey : Maps.Keyed Try.prog 3 := Maps.int_keyed Try.underlying3
abbrev Counts (w : World) (m n : Nat) (bs : List Int) (k : Nat) : Prop := w.ownsMap Try.prog 3 (plainElem Try.prog 3) m n (cntD bs k)

set_option maxRecDepth 100000 in
/-- 'm[b]', in whatever world holds the table. -/
theorem run_count (W : World) (m n k : Nat) (bs : List Int) (b : Int) (hb : IsInt b) (hk : k ≤ bs.length) (h : Counts W m n bs k) :
    (Instr.lookup 49 (.map (some m)) (.int .i64 b) false).run Try.prog W = .ok (.int .i64 ((bs.take k).count b : Int)) W := by
  have hz : (zeroValue 3).run Try.prog W = .ok (.int .i64 0) W := by rfl
  obtain ⟨c, hrun, hat, _⟩ := h.lookup_int intKey Try.underlying49 Try.underlying3 hz (Maps.keyOf_int_mk Try.underlying3 (intLitI hb))
  rw [hrun]
  have h2 := cntD_at bs b k hk
  unfold keyI at h2
  rw [h2] at hat
  unfold cV at hat
  injection hat with hat
  injection hat with _ hat
  rw [hat]
/-- 'm[b]++'. -/
theorem run_meet (W : World) (m n k : Nat) (bs : List Int) (b : Int) (hb : IsInt b) (hk : k < bs.length) (hget : bs.getD k 0 = b) (hn : n < maxLen) (hbs : bs.length ≤ 65536) (h : Counts W m n bs k) :
    ∃ w', (Instr.mapUpdate 49 (.map (some m)) (.int .i64 b) (.int .i64 (((bs.take k).count b : Int) + 1))).run Try.prog W = .ok () w' ∧ Counts w' m (n + 1) bs (k + 1) ∧ W.grownBy w' (some m) := by
  have hkey : keyOf Try.prog 3 (.int .i64 b) = some (keyI b) := Maps.keyOf_int_mk Try.underlying3 (intLitI hb)
  have hle : (bs.take k).count b ≤ 65536 := Nat.le_trans List.count_le_length (by rw [List.length_take]; omega)
  have hv : plainElem (H := Unit) Try.prog 3 (.int .i64 (((bs.take k).count b : Int) + 1)) = some (cV ((bs.take k).count b + 1), []) := by
    have := plainElem_int (H := Unit) (P := Try.prog) (a := (((bs.take k).count b : Int) + 1)) Try.underlying3 (intLitI ⟨by omega, by omega⟩)
    rw [this]; rfl
  obtain ⟨w2, hrun, hM2, hg2⟩ := h.update (t := 49) intKey Try.underlying49 hn hkey hv
  refine ⟨w2, hrun, ?_, hg2⟩
  have e : cntD bs (k + 1) = (cntD bs k).put (keyI b) (cV ((bs.take k).count b + 1)) := by
    show (cntD bs k).put _ _ = _
    rw [hget]
  show w2.ownsMap _ _ _ _ _ (cntD bs (k + 1))
  rw [e]; exact hM2

theorem nodup_count : ∀ l : List Int, l.Nodup → ∀ b, l.count b ≤ 1
  | [], _, b => by simp
  | x :: r, h, b => by
    rw [List.nodup_cons] at h
    have ih := nodup_count r h.2 b
    rw [List.count_cons]
    by_cases e : x = b
    · subst e
      rw [List.count_eq_zero.2 h.1]; simp
    · simp [e]; exact ih
theorem count_nodup : ∀ l : List Int, (∀ b, b ∈ l → l.count b ≤ 1) → l.Nodup
  | [], _ => List.nodup_nil
  | x :: r, h => by
    rw [List.nodup_cons]
    refine ⟨fun hm => ?_, count_nodup r fun b hb => ?_⟩
    · have h1 := h x (by simp)
      rw [List.count_cons_self] at h1
      have := List.count_pos_iff.2 hm
      omega
    · have h1 := h b (by simp [hb])
      rw [List.count_cons] at h1
      omega
def Tx.mayB (t : Tx) : Bool := decide (1 ≤ t.ws.length + t.rs.length) && (decide (t.ws.length + t.rs.length ≤ 58) && (decide (∀ x ∈ t.ws, x.2.length = 256) && (decide (∀ x ∈ t.nums, 0 ≤ x ∧ x < 1048576) && decide t.nums.Nodup)))
theorem mayB_iff (t : Tx) : t.mayB = true ↔ t.May := by
  unfold Tx.mayB
  simp only [Bool.and_eq_true, decide_eq_true_eq]
  exact ⟨fun ⟨a, b, c, d, e⟩ => ⟨a, b, c, d, e⟩, fun ⟨a, b, c, d, e⟩ => ⟨a, b, c, d, e⟩⟩
theorem mayB_false (t : Tx) (h : ¬ t.May) : t.mayB = false := by
  cases hb : t.mayB
  · rfl
  · exact absurd ((mayB_iff t).1 hb) h

def Answers (w : World) (v : Value) (e : Ending) (w' : World) : Prop := e = .returned v ∧ Below w.heap.size w w'

/-- What holds at the head of both loops. -/
structure Meets (w wr : World) (t : Tx) (cur : Array Value) (k : Nat) : Prop where
  box : wr.heap[w.heap.size]? = some (.cells cur 26 (0, 0))
  table : ∃ n, n ≤ k ∧ Counts wr (w.heap.size + 1) n t.nums k
  below : Below w.heap.size w wr
  size : w.heap.size + 1 < wr.heap.size

end Go.Proofs.Ytjbelbhcdbbelaa.Rec

namespace Go.Proofs.Ytjbelbhcdbbelaa.Rec
set_option maxRecDepth 20000
open Go.RowKit
open Go.Proofs.Ytjbelbhcdbbelaa.Mem Go.Proofs.Ytjbelbhcdbbelaa.Crc

theorem may_few (t : Tx) (Aw Ar : Option Addr) (nw cw nr cr B : Nat) (w : World) (h : TxAt w B t Aw nw cw Ar nr cr) (hn : ¬ (1 ≤ nw + nr ∧ nw + nr ≤ 58)) :
    Calls Try.prog 8 #[.agg #[.int .u64 (t.seq : Int), .slice Aw nw cw, .slice Ar nr cr]] w (Answers w (.bool t.mayB)) := by
  have hf : t.mayB = false := mayB_false t fun hm => hn ⟨by have := hm.lo; rw [h.ws.1, h.rs.1] at this; exact this, by have := hm.hi; rw [h.ws.1, h.rs.1] at this; exact this⟩
  rw [hf]
  obtain ⟨g1, g2, g3, g4⟩ := h.fits
  clear hf h
  by_cases h1 : (nw : Int) + (nr : Int) < 1
  · go_enter Try.func8, Try.ntmps8
    go_wp2
    go_ret
    exact ⟨rfl, (Below.refl w.heap.size w).alloc (Nat.le_refl _) _⟩
  · have h2 : (58 : Int) < (nw : Int) + (nr : Int) := by omega
    have hd : decide ((nw : Int) + (nr : Int) < 1) = false := by simpa using h1
    clear hn
    go_enter Try.func8, Try.ntmps8
    go_wp2
    go_ret
    exact ⟨rfl, (Below.refl w.heap.size w).alloc (Nat.le_refl _) _⟩

set_option maxRecDepth 100000 in
set_option maxHeartbeats 2000000 in
theorem may_many (t : Tx) (Aw Ar : Option Addr) (nw cw nr cr B : Nat) (w : World) (h : TxAt w B t Aw nw cw Ar nr cr) (hB : B ≤ w.heap.size) (hn1 : 1 ≤ nw + nr) (hn2 : nw + nr ≤ 58) :
    Calls Try.prog 8 #[.agg #[.int .u64 (t.seq : Int), .slice Aw nw cw, .slice Ar nr cr]] w (Answers w (.bool t.mayB)) := by
  obtain ⟨cur, hcur⟩ : ∃ c, c = #[Value.int .u64 (t.seq : Int), .slice Aw nw cw, .slice Ar nr cr] := ⟨_, rfl⟩
  have hnw := h.ws.1
  have hnr := h.rs.1
  have h1 : ¬ (nw : Int) + (nr : Int) < 1 := by omega
  have h2 : ¬ (58 : Int) < (nw : Int) + (nr : Int) := by omega
  have hw58 : nw ≤ 58 := by omega
  have hr58 : nr ≤ 58 := by omega
  have hnl : t.nums.length = nw + nr := by unfold Tx.nums; rw [List.length_append, List.length_map, hnw, hnr]
  have hM0 : Meets w ((w.alloc (.cells cur 26)).alloc (.map #[] 0)) t cur 0 := by
    refine ⟨?_, ⟨0, Nat.le_refl _, ?_⟩, ((Below.refl w.heap.size w).alloc (Nat.le_refl _) _).alloc (by simp) _, by simp⟩
    · rw [Below.heap_alloc _ _ _ (by simp)]; exact heap_alloc_new w _
    · have := World.ownsMap_made (w.alloc (.cells cur 26)) Try.prog 3 (plainElem (H := Unit) Try.prog 3)
      rw [show (w.alloc (.cells cur 26)).heap.size = w.heap.size + 1 by simp] at this
      exact this
  have HM0 := Lib.hid hM0; clear hM0
  have H := Lib.hid h; clear h
  have HNW := Lib.hid hnw; clear hnw
  have HNR := Lib.hid hnr; clear hnr
  have HNL := Lib.hid hnl; clear hnl
  have hmm := @run_makeMap Try.prog
  go_enter Try.func8, Try.ntmps8
  go_wp2_with fail
  rw [← hcur]
  generalize (w.alloc (.cells cur 26)).alloc (.map #[] 0) = W at HM0 ⊢
  have HCUR := Lib.hid hcur; clear hcur
  clear hmm
  go_loopw [28] (fun i wr => ∃ k : Nat, k ≤ nw ∧ i = .int .i64 k ∧ Meets w wr t cur k ∧ ∀ x ∈ t.ws.take k, x.2.length = 256) (fun i _ => nw - (intOf i).toNat)
  case atStart => exact ⟨0, by omega, rfl, HM0.out, by simp⟩
  case round =>
    obtain ⟨k, hk, rfl, hM, hall⟩ := hrel
    have HALL := Lib.hid hall; clear hall
    have HM := Lib.hid hM; clear hM
    by_cases hlt : k < nw
    · have hT := H.out.below (HM.out.below.mono hB)
      obtain ⟨x, hx⟩ : ∃ x, t.ws[k]? = some x := ⟨_, List.getElem?_eq_getElem (by have := HNW.out; omega)⟩
      obtain ⟨b, off, rfl, hbB, hc⟩ := hT.ws.2 (by omega)
      obtain ⟨e0, A', c', e1, -⟩ := hc k x hx
      have hmem := List.mem_of_getElem? hx
      have hix := hT.intW x hmem
      have hget : t.nums.getD k 0 = x.1 := by
        unfold Tx.nums
        rw [List.getD_eq_getElem?_getD, List.getElem?_append_left (by rw [List.length_map, HNW.out]; omega), List.getElem?_map, hx]; rfl
      have hk0 : (0 : Int) ≤ (k : Int) := by omega
      have hkn : (k : Int) < (nw : Int) := by omega
      have HX := Lib.hid hx; clear hx
      clear hc hT
      obtain ⟨x1, x2⟩ := x
      dsimp only at e0 e1 hix hget
      by_cases hd : x2.length = 256
      · have hD : (x2.length : Int) = 256 := by omega
        rw [hd] at e1
        obtain ⟨n, hnk, hcn⟩ := HM.out.table
        have hcn1 : Counts (wr.alloc (.cells #[.int .i64 x1, .slice A' 256 c'] 40)) (w.heap.size + 1) n t.nums k := hcn.alloc _
        have hlook := run_count _ _ n k t.nums x1 hix (by rw [HNL.out]; omega) hcn1
        obtain ⟨w2, hupd, hcn2, hg2⟩ := run_meet _ _ n k t.nums x1 hix (by rw [HNL.out]; omega) hget (by unfold maxLen; omega) (by rw [HNL.out]; omega) hcn1
        have hc58 : (t.nums.take k).count x1 ≤ 58 := Nat.le_trans List.count_le_length (by rw [List.length_take]; omega)
        generalize (t.nums.take k).count x1 = c0 at hlook hupd hc58
        have hb2 : Below w.heap.size w w2 := (HM.out.below.alloc HM.out.below.size _).grown hg2 (by have := HM.out.size; simp; omega) (by intro q hq; injection hq with hq; omega)
        have hbox2 : w2.heap[w.heap.size]? = some (.cells cur 26 (0, 0)) := by
          rw [hg2.block _ (by have := HM.out.size; simp; omega) (by intro e; injection e with e; omega), Below.heap_alloc _ _ _ (by have := HM.out.size; omega)]; exact HM.out.box
        have hs2 : w.heap.size + 1 < w2.heap.size := by have := hg2.size; have := HM.out.size; simp at *; omega
        have HM2 : Hid (Meets w w2 t cur (k + 1)) := Lib.hid ⟨hbox2, ⟨n + 1, by omega, hcn2⟩, hb2, hs2⟩
        clear hcn hcn1 hcn2 hb2 hbox2 hg2 hs2 hget hix hD
        have HD := Lib.hid hd; clear hd
        go_wp2
        go_roundw
        case rel =>
          refine ⟨k + 1, by omega, by go_num, HM2.out, ?_⟩
          intro y hy
          rw [List.take_succ_eq_append_getElem (by have := HNW.out; omega)] at hy
          rcases List.mem_append.1 hy with hy | hy
          · exact HALL.out y hy
          · rw [List.mem_singleton] at hy
            have hx := HX.out
            rw [List.getElem?_eq_getElem (by have := HNW.out; omega)] at hx
            injection hx with hx
            rw [hy, hx]; exact HD.out
        case measure => simp [intOf]; omega
      · have hD : ((x2.length : Int) == 256) = false := beq_eq_false_iff_ne.2 (by omega)
        have hD2 : ((x2.length : Int) != 256) = true := by rw [bne, hD]; rfl
        have hf : t.mayB = false := mayB_false t fun hm => hd (hm.data _ hmem)
        rw [hf]
        clear hf hget hix
        go_wp2
        go_ret
        exact ⟨rfl, HM.out.below.alloc HM.out.below.size _⟩
    · obtain rfl : nw = k := by omega
      have p2 : wr.cell? ⟨w.heap.size, 2, none⟩ = some (.slice Ar nr cr) := by rw [cell_of_row _ _ _ _ _ _ HM.out.box, HCUR.out]; rfl
      have hdata : ∀ x ∈ t.ws, x.2.length = 256 := fun x hx => HALL.out x (by rw [List.take_of_length_le (by have := HNW.out; omega)]; exact hx)
      have HDATA := Lib.hid hdata; clear hdata
      obtain ⟨w5, hw5⟩ : ∃ w5, w5 = wr := ⟨_, rfl⟩
      subst hw5
      clear hk
      go_wp2
      go_loopw [8, 45] (fun _ i wr => ∃ k : Nat, k ≤ nr ∧ i = .int .i64 k ∧ Meets w wr t cur (nw + k)) (fun _ i _ => nr - (intOf i).toNat)
      case atStart => exact ⟨0, by omega, rfl, HM.out⟩
      case round =>
        clear HM HALL p2
        obtain ⟨k, hk, rfl, hM⟩ := hrel
        have HM := Lib.hid hM; clear hM
        by_cases hlt2 : k < nr
        · have hT := H.out.below (HM.out.below.mono hB)
          obtain ⟨x1, hx⟩ : ∃ x, t.rs[k]? = some x := ⟨_, List.getElem?_eq_getElem (by have := HNR.out; omega)⟩
          obtain ⟨b, off, rfl, hbB, hc⟩ := hT.rs.2 (by omega)
          have e0 := hc k x1 hx
          have hmem := List.mem_of_getElem? hx
          have hix := hT.intR x1 hmem
          have hget : t.nums.getD (nw + k) 0 = x1 := by
            unfold Tx.nums
            rw [List.getD_eq_getElem?_getD, List.getElem?_append_right (by rw [List.length_map, HNW.out]; omega), List.length_map, HNW.out, Nat.add_sub_cancel_left, hx]; rfl
          have hk0 : (0 : Int) ≤ (k : Int) := by omega
          have hkn : (k : Int) < (nr : Int) := by omega
          clear hc hT hx hmem
          obtain ⟨n, hnk, hcn⟩ := HM.out.table
          have hlook := run_count _ _ n (nw + k) t.nums x1 hix (by rw [HNL.out]; omega) hcn
          obtain ⟨w2, hupd, hcn2, hg2⟩ := run_meet _ _ n (nw + k) t.nums x1 hix (by rw [HNL.out]; omega) hget (by unfold maxLen; omega) (by rw [HNL.out]; omega) hcn
          have hc58 : (t.nums.take (nw + k)).count x1 ≤ 58 := Nat.le_trans List.count_le_length (by rw [List.length_take]; omega)
          generalize (t.nums.take (nw + k)).count x1 = c0 at hlook hupd hc58
          have hb2 : Below w.heap.size w w2 := HM.out.below.grown hg2 (by have := HM.out.size; omega) (by intro q hq; injection hq with hq; omega)
          have hbox2 : w2.heap[w.heap.size]? = some (.cells cur 26 (0, 0)) := by
            rw [hg2.block _ (by have := HM.out.size; omega) (by intro e; injection e with e; omega)]; exact HM.out.box
          have hs2 : w.heap.size + 1 < w2.heap.size := by have := hg2.size; have := HM.out.size; omega
          have HM2 : Hid (Meets w w2 t cur (nw + (k + 1))) := Lib.hid ⟨hbox2, ⟨n + 1, by omega, hcn2⟩, hb2, hs2⟩
          clear hcn hcn2 hb2 hbox2 hg2 hs2 hget hix
          go_wp2
          go_roundw
          case rel => exact ⟨k + 1, by omega, by go_num, HM2.out⟩
          case measure => simp [intOf]; omega
        · obtain rfl : nr = k := by omega
          obtain ⟨n, hnk, hcn⟩ := HM.out.table
          obtain ⟨w6, hw6⟩ : ∃ w6, w6 = wr := ⟨_, rfl⟩
          subst hw6
          clear hk
          go_wp2_with (first
            | (at_range; refine wpList_range_own _ rfl _ 49 rfl 3 3 intKey Try.underlying49 _ (w.heap.size + 1) _ _ rfl hcn ?_; intro w7 hrg0 hg0 hs0)
            | fail)
          go_frame
          have hstart : ∀ b, b ∈ t.nums → Maps.has (cntD t.nums (nw + nr)) (keyI b) = false → 0 ≤ b ∧ b < 1048576 ∧ t.nums.count b ≤ 1 := by
            intro b hb hf
            rw [cntD_has _ _ _ (by rw [HNL.out]; omega), List.take_of_length_le (by rw [HNL.out]; omega)] at hf
            simp [hb] at hf
          have hb7 : Below w.heap.size w w7 := HM.out.below.grown hg0 HM.out.below.size (by intro q hq; cases hq)
          have HST := Lib.hid hstart; clear hstart
          have HB7 := Lib.hid hb7; clear hb7
          have HRG0 := Lib.hid hrg0; clear hrg0
          have hz6 : w.heap.size ≤ w6.heap.size := HM.out.below.size
          clear hcn hg0 hs0
          go_loopw [9, 10] (fun _ _ wr => ∃ (left : Lit → Bool) (cnt : Nat), wr.ranges Try.prog 3 (plainElem Try.prog 3) (w.heap.size + 1) w6.heap.size n (cntD t.nums (nw + nr)) left cnt ∧
              (∀ b, b ∈ t.nums → left (keyI b) = false → 0 ≤ b ∧ b < 1048576 ∧ t.nums.count b ≤ 1) ∧ Below w.heap.size w wr) (fun _ _ wr => wr.rangeLeft (w.heap.size + 1) w6.heap.size)
          case atStart => exact ⟨_, _, HRG0.out, HST.out, HB7.out⟩
          case round =>
            obtain ⟨left, cnt, hrg, hgood, hbr⟩ := hrel
            have HGD := Lib.hid hgood; clear hgood
            have HBR := Lib.hid hbr; clear hbr
            go_wp2_with (first
              | (at_next; refine wpList_next_ranges_ii _ rfl _ rfl 3 3 .i64 .i64 intKey Try.underlying3 Try.underlying3 (w.heap.size + 1) w6.heap.size _ _ _ _ rfl hrg ?_ ?_)
              | fail)
            · intro hc0 hl0
              have ht : t.mayB = true := (mayB_iff t).2 ⟨by rw [HNW.out, HNR.out]; omega, by rw [HNW.out, HNR.out]; omega, HDATA.out, fun x hx => by
                have := HGD.out x hx (hl0 _); exact ⟨this.1, this.2.1⟩, count_nodup _ fun b hb => (HGD.out b hb (hl0 _)).2.2⟩
              have HF := Lib.hid ht
              clear hrg hc0 hl0 ht
              go_wp2
              go_ret
              exact ⟨Eq.trans (b := Ending.returned (.bool true)) rfl (by rw [HF.out]), HBR.out⟩
            · intro x c w8 cnt1 hwx hwc hlx hat hrg1 hlt1 hg1 hs1 hen
              obtain ⟨hmem, hcc⟩ := cntD_entry t.nums x c (nw + nr) (by rw [HNL.out]; omega) hat
              rw [List.take_of_length_le (by rw [HNL.out]; omega)] at hmem hcc
              have hb8 : Below w.heap.size w w8 := HBR.out.grown hg1 HBR.out.size (by intro q hq; injection hq with hq; omega)
              have HB8 := Lib.hid hb8; clear hb8
              have HRG1 := Lib.hid hrg1; clear hrg1
              have HRG := Lib.hid hrg; clear hrg
              clear hat hg1 hs1 hwx hwc hlx
              by_cases hx0 : x < 0
              · have hf : t.mayB = false := mayB_false t fun hm => by have := hm.nums x hmem; omega
                have HF := Lib.hid hf
                clear hf hcc
                go_wp2
                go_ret
                exact ⟨Eq.trans (b := Ending.returned (.bool false)) rfl (by rw [HF.out]), HB8.out⟩
              · have hd0 : decide (x < 0) = false := by simpa using hx0
                by_cases hx1 : (1048576 : Int) ≤ x
                · have hf : t.mayB = false := mayB_false t fun hm => by have := hm.nums x hmem; omega
                  have HF := Lib.hid hf
                  clear hf hcc
                  go_wp2
                  go_ret
                  exact ⟨Eq.trans (b := Ending.returned (.bool false)) rfl (by rw [HF.out]), HB8.out⟩
                · have hd1 : decide ((1048576 : Int) ≤ x) = false := by simpa using hx1
                  by_cases hc1 : (1 : Int) < c
                  · have hf : t.mayB = false := mayB_false t fun hm => by have := nodup_count _ hm.once x; omega
                    have HF := Lib.hid hf
                    clear hf hcc
                    go_wp2
                    go_ret
                    exact ⟨Eq.trans (b := Ending.returned (.bool false)) rfl (by rw [HF.out]), HB8.out⟩
                  · have hd2 : decide ((1 : Int) < c) = false := by simpa using hc1
                    have hgd : 0 ≤ x ∧ x < 1048576 ∧ t.nums.count x ≤ 1 := ⟨by omega, by omega, by omega⟩
                    have HG := Lib.hid hgd; clear hgd hcc
                    go_wp2
                    go_roundw
                    case rel =>
                      refine ⟨_, cnt1, HRG1.out, fun b hb hl => ?_, HB8.out⟩
                      by_cases e : b = x
                      · rw [e]; exact HG.out
                      · refine HGD.out b hb ?_
                        have hne : (keyI b).sameKey (Lit.int .i64 x) = false := by
                          unfold keyI
                          simp [Lit.sameKey, e]
                        rw [hne] at hl
                        simpa using hl
                    case measure =>
                      rw [HRG1.out.left_eq, HRG.out.left_eq]; exact hlt1

theorem may_any (t : Tx) (Aw Ar : Option Addr) (nw cw nr cr B : Nat) (w : World) (h : TxAt w B t Aw nw cw Ar nr cr) (hB : B ≤ w.heap.size) :
    Calls Try.prog 8 #[.agg #[.int .u64 (t.seq : Int), .slice Aw nw cw, .slice Ar nr cr]] w (Answers w (.bool t.mayB)) := by
  by_cases hn : 1 ≤ nw + nr ∧ nw + nr ≤ 58
  · exact may_many t Aw Ar nw cw nr cr B w h hB hn.1 hn.2
  · exact may_few t Aw Ar nw cw nr cr B w h hn
end Go.Proofs.Ytjbelbhcdbbelaa.Rec

namespace Go.Proofs.Ytjbelbhcdbbelaa.Rec
set_option maxRecDepth 20000
open Go.RowKit
open Go.Proofs.Ytjbelbhcdbbelaa.Mem Go.Proofs.Ytjbelbhcdbbelaa.Crc

theorem ownV_any (K S : Int) (kind : UInt8) (seq : Nat) (A : Option Addr) (n c B : Nat) (rest : List UInt8) (w : World) (hK : K = (kind.toNat : Int)) (hS : S = (seq : Int)) (h : Holds w B A n rest) (h0 : 0 < n) (hn : n ≤ 236) (hB : B ≤ w.heap.size) :
    Calls Try.prog 9 #[.int .u8 K, .int .u64 S, .slice A n c] w (Made w (ownL kind seq rest)) := by
  subst hK hS
  exact own_any kind seq A n c B rest w h h0 hn hB

/-- What Encode tells. -/
def Told (w : World) (t : Tx) (e : Ending) (w' : World) : Prop :=
  (t.mayB = false ∧ e = .returned (.tuple #[.slice none 0 0, .int .i64 17]) ∧ Below w.heap.size w w') ∨
  (t.mayB = true ∧ ∃ A c, e = .returned (.tuple #[.slice A t.enc.length c, .int .i64 0]) ∧ Owned w' w.heap.size (.slice A t.enc.length c) t.enc ∧ Below w.heap.size w w')

set_option maxRecDepth 100000 in
theorem enc_not (t : Tx) (Aw Ar : Option Addr) (nw cw nr cr B : Nat) (w : World) (h : TxAt w B t Aw nw cw Ar nr cr) (hB : B ≤ w.heap.size) (hm : t.mayB = false) :
    Calls Try.prog 5 #[.agg #[.int .u64 (t.seq : Int), .slice Aw nw cw, .slice Ar nr cr]] w (Told w t) := by
  obtain ⟨cur, hcur⟩ : ∃ c, c = #[Value.int .u64 (t.seq : Int), .slice Aw nw cw, .slice Ar nr cr] := ⟨_, rfl⟩
  have hb0 := (Below.refl w.heap.size w).alloc (Nat.le_refl _) (.cells cur 26)
  have hbk := heap_alloc_new w (.cells cur 26)
  have h1 := h.below (hb0.mono hB)
  have H1 := Lib.hid h1; clear h1
  have HB0 := Lib.hid hb0; clear hb0
  have HBK := Lib.hid hbk; clear hbk
  have HM := Lib.hid hm; clear hm h
  have hs0 : w.heap.size < (w.alloc (.cells cur 26)).heap.size := by simp
  go_enter Try.func5, Try.ntmps5
  go_wp2_with fail
  rw [← hcur]
  generalize w.alloc (.cells cur 26) = W at H1 HB0 HBK hs0 ⊢
  have HCUR := Lib.hid hcur; clear hcur
  have l0 : W.cell? ⟨w.heap.size, 0, none⟩ = some (.int .u64 (t.seq : Int)) := by rw [cell_of_row _ _ _ _ _ _ HBK.out, HCUR.out]; rfl
  have l1 : W.cell? ⟨w.heap.size, 1, none⟩ = some (.slice Aw nw cw) := by rw [cell_of_row _ _ _ _ _ _ HBK.out, HCUR.out]; rfl
  have l2 : W.cell? ⟨w.heap.size, 2, none⟩ = some (.slice Ar nr cr) := by rw [cell_of_row _ _ _ _ _ _ HBK.out, HCUR.out]; rfl
  have hmc := may_any t Aw Ar nw cw nr cr B W H1.out (by omega)
  rw [← HCUR.out] at hmc
  refine hmc.mono ?_
  clear hmc
  rintro e W1 ⟨rfl, hb1⟩
  rw [HM.out]
  have HB1 := Lib.hid hb1; clear hb1
  go_wp2
  go_ret2
  exact .inl ⟨HM.out, rfl, HB0.out.trans (HB1.out.mono (by omega))⟩

set_option maxRecDepth 100000 in
set_option maxHeartbeats 2000000 in
theorem enc_may (t : Tx) (Aw Ar : Option Addr) (nw cw nr cr B : Nat) (w : World) (h : TxAt w B t Aw nw cw Ar nr cr) (hB : B ≤ w.heap.size) (hm : t.mayB = true) :
    Calls Try.prog 5 #[.agg #[.int .u64 (t.seq : Int), .slice Aw nw cw, .slice Ar nr cr]] w (Told w t) := by
  have hmay := (mayB_iff t).1 hm
  obtain ⟨cur, hcur⟩ : ∃ c, c = #[Value.int .u64 (t.seq : Int), .slice Aw nw cw, .slice Ar nr cr] := ⟨_, rfl⟩
  have hb0 := (Below.refl w.heap.size w).alloc (Nat.le_refl _) (.cells cur 26)
  have hbk := heap_alloc_new w (.cells cur 26)
  have hnw := h.ws.1
  have hnr := h.rs.1
  have hhi := hmay.hi
  have hlo := hmay.lo
  have hw58 : nw ≤ 58 := by omega
  have hs0 : (w.alloc (.cells cur 26)).heap.size = w.heap.size + 1 := by simp
  have h1 := h.below (hb0.mono hB)
  have hsl := slots_len t
  have hhl := head_len t hmay
  have hsl1 : t.slots.length ≤ 236 := by omega
  have hsl0 : 0 < t.slots.length := by omega
  obtain ⟨SL, hSL⟩ : ∃ s, s = t.slots.length := ⟨_, rfl⟩
  rw [← hSL] at hsl0 hsl1
  have H1 := Lib.hid h1; clear h1
  have HB0 := Lib.hid hb0; clear hb0
  have HBK := Lib.hid hbk; clear hbk
  have HM := Lib.hid hm; clear hm h
  have HMAY := Lib.hid hmay; clear hmay
  have HNW := Lib.hid hnw; clear hnw
  have HS0 := Lib.hid hs0; clear hs0
  have HSL := Lib.hid hSL; clear hSL
  have HHL := Lib.hid hhl; clear hhl
  clear hsl hnr hhi hlo
  go_enter Try.func5, Try.ntmps5
  go_wp2_with fail
  rw [← hcur]
  generalize w.alloc (.cells cur 26) = W at H1 HB0 HBK HS0 ⊢
  have HCUR := Lib.hid hcur; clear hcur
  have l0 : W.cell? ⟨w.heap.size, 0, none⟩ = some (.int .u64 (t.seq : Int)) := by rw [cell_of_row _ _ _ _ _ _ HBK.out, HCUR.out]; rfl
  have l1 : W.cell? ⟨w.heap.size, 1, none⟩ = some (.slice Aw nw cw) := by rw [cell_of_row _ _ _ _ _ _ HBK.out, HCUR.out]; rfl
  have l2 : W.cell? ⟨w.heap.size, 2, none⟩ = some (.slice Ar nr cr) := by rw [cell_of_row _ _ _ _ _ _ HBK.out, HCUR.out]; rfl
  have hmc := may_any t Aw Ar nw cw nr cr B W H1.out (by have := HS0.out; omega)
  rw [← HCUR.out] at hmc
  refine hmc.mono ?_
  clear hmc
  rintro e W1 ⟨rfl, hb1⟩
  rw [HM.out]
  have hbk1 : W1.drew.heap[w.heap.size]? = some (.cells cur 26 (0, 0)) := (hb1.block _ (by have := HS0.out; omega)).trans HBK.out
  have m0 : W1.cell? ⟨w.heap.size, 0, none⟩ = some (.int .u64 (t.seq : Int)) := (hb1.cell (p := ⟨w.heap.size, 0, none⟩) (by have := HS0.out; show w.heap.size < _; omega)).trans l0
  have m1 : W1.cell? ⟨w.heap.size, 1, none⟩ = some (.slice Aw nw cw) := (hb1.cell (p := ⟨w.heap.size, 1, none⟩) (by have := HS0.out; show w.heap.size < _; omega)).trans l1
  have m2 : W1.cell? ⟨w.heap.size, 2, none⟩ = some (.slice Ar nr cr) := (hb1.cell (p := ⟨w.heap.size, 2, none⟩) (by have := HS0.out; show w.heap.size < _; omega)).trans l2
  have hT1 : TxAt W1.drew B t Aw nw cw Ar nr cr := (H1.out.below (hb1.mono (by have := HS0.out; omega))).below (Below.refl B W1).drew
  have hbW1 : Below W.heap.size W W1.drew := hb1.drew
  have HB1 := Lib.hid hbW1; clear hb1 hbW1
  have HT1 := Lib.hid hT1; clear hT1
  have HBK1 := Lib.hid hbk1; clear hbk1
  have hz1 : w.heap.size < W1.drew.heap.size := by have := HB1.out.size; have := HS0.out; omega
  have hz1' : B ≤ W1.drew.heap.size := by omega
  clear l0 l1 l2
  go_wp2_with fail
  go_region_held3 (fun V => V.cell? ⟨w.heap.size, 0, none⟩ = some (.int .u64 (t.seq : Int)) ∧ V.cell? ⟨w.heap.size, 1, none⟩ = some (.slice Aw nw cw) ∧ V.cell? ⟨w.heap.size, 2, none⟩ = some (.slice Ar nr cr)) (go_keep)
    (first
      | (go_at_call 10
         have hcall := slots_any t Aw Ar nw cw nr cr B W1.drew HT1.out hz1' HMAY.out
         with_reducible refine hcall.mono ?_
         clear hcall
         rintro e w2 ⟨A2, c2, rfl, ho2, hb2⟩
         rw [← HSL.out] at ho2 ⊢
         have k0 := (hb2.cell (p := ⟨w.heap.size, 0, none⟩) hz1).trans m0
         have k1 := (hb2.cell (p := ⟨w.heap.size, 1, none⟩) hz1).trans m1
         have k2 := (hb2.cell (p := ⟨w.heap.size, 2, none⟩) hz1).trans m2
         have HR2 := Lib.hid (Owned.reads ho2)
         have HB2 := Lib.hid hb2
         clear ho2 hb2)
      | (go_at_call 9
         have hcall := ownV_any 1 (t.seq : Int) 1 t.seq A2 SL c2 w2.heap.size t.slots w2 rfl rfl HR2.out hsl0 hsl1 (Nat.le_refl _)
         with_reducible refine hcall.mono ?_
         clear hcall
         rintro e w3 ⟨A3, c3, rfl, ho3, hb3⟩
         have hz2 : w.heap.size < w2.heap.size := by have := HB2.out.size; omega
         have j0 := (hb3.cell (p := ⟨w.heap.size, 0, none⟩) hz2).trans k0
         have j1 := (hb3.cell (p := ⟨w.heap.size, 1, none⟩) hz2).trans k1
         have j2 := (hb3.cell (p := ⟨w.heap.size, 2, none⟩) hz2).trans k2
         have HO3 := Lib.hid ho3
         have HB3 := Lib.hid hb3
         clear ho3 hb3))
  have hl0 : (ownL 1 t.seq t.slots).length = 256 := ownL_len _ _ _ (by rw [← HSL.out]; omega)
  rw [hl0] at HO3 ⊢
  obtain ⟨base, hbase0⟩ : ∃ b, b = w.heap.size + 1 := ⟨_, rfl⟩
  have hb13 : Below W1.drew.heap.size W1.drew w3 := HB2.out.trans (HB3.out.mono HB2.out.size)
  have hzb : base ≤ W1.drew.heap.size := by omega
  have hbW3 : Below base W w3 := (HB1.out.mono (by rw [hbase0]; have := HS0.out; omega)).trans (hb13.mono hzb)
  have ho3 : Owned w3 base (.slice A3 256 c3) (ownL 1 t.seq t.slots) := Owned.mono HO3.out (Nat.le_trans hzb HB2.out.size)
  obtain ⟨d0, hd0⟩ : ∃ d, d = ownL 1 t.seq t.slots := ⟨_, rfl⟩
  rw [← hd0] at ho3 hl0
  have hhead : t.head = d0 ++ bodyL t.ws := by rw [hd0]; rfl
  have hz3 : base ≤ w3.heap.size := Nat.le_trans hzb hb13.size
  have hT3 : TxAt w3 B t Aw nw cw Ar nr cr := HT1.out.below (hb13.mono hz1')
  have hBb : B ≤ base := by omega
  have HD0 := Lib.hid hd0; clear hd0
  have HL0 := Lib.hid hl0; clear hl0
  have HHD := Lib.hid hhead; clear hhead
  have HOs := Lib.hid ho3; clear ho3 HO3
  have HT3 := Lib.hid hT3; clear hT3
  have hbk3 : w3.heap[w.heap.size]? = some (.cells cur 26 (0, 0)) := (hb13.block _ hz1).trans HBK1.out
  have HBK3 := Lib.hid hbk3; clear hbk3
  have HW3 : Hid (Below w.heap.size w w3) := Lib.hid (HB0.out.trans (hbW3.mono (by omega)))
  have HB0E := Lib.hid hbase0; clear hbase0
  clear hb13 hbW3 HB1 HB2 HB3 HR2 HT1 HBK1 HB0 HBK H1 HS0 hzb hz1 hz1' hz2 k0 k1 k2 m0 m1 m2 j0 j2
  go_wp2
  go_loopw [4, 19] (fun v i wr => ∃ k : Nat, k ≤ nw ∧ i = .int .i64 k ∧ Owned wr base v (d0 ++ bodyL (t.ws.take k)) ∧ Below base w3 wr) (fun _ i _ => nw - (intOf i).toNat)
  case atStart => exact ⟨0, by omega, rfl, by simpa [bodyL] using HOs.out, Below.refl _ _⟩
  case round =>
    clear j1
    obtain ⟨k, hk, rfl, hown, hbr⟩ := hrel
    have HO := Lib.hid hown; clear hown
    have HBR := Lib.hid hbr; clear hbr
    by_cases hlt : k < nw
    · have hT := HT3.out.below (HBR.out.mono hBb)
      obtain ⟨x, hx⟩ : ∃ x, t.ws[k]? = some x := ⟨_, List.getElem?_eq_getElem (by have := HNW.out; omega)⟩
      obtain ⟨b, off, rfl, hbB, hc⟩ := hT.ws.2 (by omega)
      obtain ⟨e0, A', c', e1, hh, hf1, hf2⟩ := hc k x hx
      have hmem := List.mem_of_getElem? hx
      have hdl := HMAY.out.data x hmem
      have hsn := bodyL_snoc t.ws k x hx
      have hnl := bodyL_len (t.ws.take k) (fun y hy => HMAY.out.data y (List.mem_of_mem_take hy))
      rw [List.length_take, HNW.out, Nat.min_eq_left (by omega)] at hnl
      have hk0 : (0 : Int) ≤ (k : Int) := by omega
      have hkn : (k : Int) < (nw : Int) := by omega
      have HSN := Lib.hid hsn; clear hsn
      have HNL := Lib.hid hnl; clear hnl
      clear hc hT hmem hx
      obtain ⟨x1, x2⟩ := x
      dsimp only at e0 e1 hdl hh hf1 HSN
      rw [hdl] at e1 hh hf1
      have hbl := bareL_len x2
      rw [hdl] at hbl
      have HBL := Lib.hid hbl; clear hbl hdl
      have HH := Lib.hid hh; clear hh
      go_wp2_with fail
      have hh1 := HH.out.below (((Below.refl wr.heap.size wr).alloc (Nat.le_refl _) (.cells #[.int .i64 x1, .slice A' 256 c'] 40)).mono (show B ≤ wr.heap.size by have := HBR.out.size; omega))
      have ho1 : Owned (wr.alloc (.cells #[.int .i64 x1, .slice A' 256 c'] 40)) base u4 (d0 ++ bodyL (t.ws.take k)) := World.ownsRow.alloc HO.out _
      have hb1 := HBR.out.alloc (Nat.le_trans hz3 HBR.out.size) (.cells #[.int .i64 x1, .slice A' 256 c'] 40)
      clear e0 e1
      generalize wr.alloc (.cells #[.int .i64 x1, .slice A' 256 c'] 40) = w5 at hh1 ho1 hb1 ⊢
      have HH1 := Lib.hid hh1; clear hh1
      have HO1 := Lib.hid ho1; clear ho1
      have HB1 := Lib.hid hb1; clear hb1
      refine (bare_any A' 256 c' B x2 w5 HH1.out (by omega) (by have := HB1.out.size; omega)).mono ?_
      rintro e w6 ⟨A6, c6, rfl, ho6, hb6⟩
      rw [HBL.out] at ho6 ⊢
      have HO6 := Lib.hid ho6; clear ho6
      have HOv := Lib.hid (Owned.keep HO1.out hb6 (Nat.le_refl _))
      have HB6 : Hid (Below base w3 w6) := Lib.hid (HB1.out.trans (hb6.mono (Nat.le_trans hz3 HB1.out.size)))
      clear hb6
      go_wp2_with (at_builtin; refine wpList_addall rfl (.tmp 23) (.tmp 26) rfl base _ (d0 ++ bodyL (t.ws.take k)) rfl HOv.out w6.heap.size A6 256 c6 (bareL x2) rfl (Owned.reads HO6.out) ?c1 (Nat.le_trans hz3 HB6.out.size) ?_)
      case c1 => rw [List.length_append, HL0.out, HNL.out]; omega
      intro v8 w8 ho8 hb8
      have HO8 := Lib.hid ho8; clear ho8
      have HB8 : Hid (Below base w3 w8) := Lib.hid (HB6.out.trans hb8)
      clear hb8
      go_wp2
      go_roundw
      case rel => exact ⟨k + 1, by omega, by go_num, by rw [HSN.out]; exact HO8.out, HB8.out⟩
      case measure => simp [intOf]; omega
    · obtain rfl : nw = k := by omega
      have htk : t.ws.take nw = t.ws := List.take_of_length_le (by have := HNW.out; omega)
      rw [htk, ← HHD.out] at HO
      clear htk hk
      have hbkr : wr.heap[w.heap.size]? = some (.cells cur 26 (0, 0)) := (HBR.out.block _ (by have := HB0E.out; omega)).trans HBK3.out
      have HBKR := Lib.hid hbkr; clear hbkr
      obtain ⟨A4, c4, hv4, -⟩ := Owned.holds HO.out
      subst hv4
      have hhl := HHL.out
      have hhl2 : t.head.length ≤ 15104 := by have := HNW.out; omega
      obtain ⟨N, hN⟩ : ∃ N, N = t.head.length := ⟨_, rfl⟩
      rw [← hN] at HO hhl2 ⊢
      have HN := Lib.hid hN; clear hN hhl
      go_wp2_with fail
      refine (sum_any A4 N c4 t.head wr (Owned.reads HO.out) (by unfold maxLen; omega)).mono ?_
      rintro e w5 ⟨rfl, hb5⟩
      have hsm := sum_lt t.head
      have HO5 := Lib.hid (Owned.keep HO.out hb5 (Nat.le_refl _))
      have HB5 : Hid (Below base w3 w5) := Lib.hid (HBR.out.trans (hb5.mono (Nat.le_trans hz3 HBR.out.size)))
      clear hb5
      obtain ⟨SM, hSM⟩ : ∃ s, s = sum t.head := ⟨_, rfl⟩
      rw [← hSM] at hsm ⊢
      have HSM := Lib.hid hSM; clear hSM
      go_wp2_with fail
      refine (bytesV_any _ _ SM 4 w5 rfl rfl (by omega)).mono ?_
      rintro e w6 ⟨A6, c6, rfl, ho6, hb6⟩
      have HR6 := Lib.hid (Owned.reads ho6)
      have HO6 := Lib.hid (Owned.keep HO5.out hb6 (Nat.le_refl _))
      have HB6 : Hid (Below base w3 w6) := Lib.hid (HB5.out.trans (hb6.mono (Nat.le_trans hz3 HB5.out.size)))
      clear ho6 hb6
      have p0 : w6.cell? ⟨w.heap.size, 0, none⟩ = some (.int .u64 (t.seq : Int)) := by rw [cell_of_row _ _ _ _ _ _ ((HB6.out.block _ (by have := HB0E.out; omega)).trans HBK3.out), HCUR.out]; rfl
      go_wp2_with fail
      refine (ownV_any 2 (t.seq : Int) 2 t.seq A6 4 c6 w6.heap.size (bytesL SM 4) w6 rfl rfl HR6.out (by omega) (by omega) (Nat.le_refl _)).mono ?_
      rintro e w7 ⟨A7, c7, rfl, ho7, hb7⟩
      have hl7 : (ownL 2 t.seq (bytesL SM 4)).length = 256 := ownL_len _ _ _ (by rw [bytesL_len]; omega)
      rw [hl7] at ho7 ⊢
      have HR7 := Lib.hid (Owned.reads ho7)
      have HO7 := Lib.hid (Owned.keep HO6.out hb7 (Nat.le_refl _))
      have HB7 : Hid (Below base w3 w7) := Lib.hid (HB6.out.trans (hb7.mono (Nat.le_trans hz3 HB6.out.size)))
      clear ho7 hb7 hl7 p0
      go_wp2_with (at_builtin; refine wpList_addall rfl (.tmp 33) (.tmp 37) rfl base _ t.head rfl HO7.out w7.heap.size A7 256 c7 (ownL 2 t.seq (bytesL SM 4)) rfl HR7.out ?c2 (Nat.le_trans hz3 HB7.out.size) ?_)
      case c2 => rw [← HN.out]; omega
      intro v8 w8 ho8 hb8
      rw [HSM.out] at ho8
      have ho8' : Owned w8 base v8 t.enc := ho8
      clear ho8
      obtain ⟨A8, c8, hv8, -⟩ := Owned.holds ho8'
      subst hv8
      have HO8 := Lib.hid ho8'; clear ho8'
      have HB8 : Hid (Below w.heap.size w w8) := Lib.hid (HW3.out.trans ((HB7.out.trans hb8).mono (by have := HB0E.out; omega)))
      clear hb8
      go_wp2
      go_ret2
      exact .inr ⟨HM.out, A8, c8, rfl, Owned.mono HO8.out (by have := HB0E.out; omega), HB8.out⟩

theorem enc_any (t : Tx) (Aw Ar : Option Addr) (nw cw nr cr B : Nat) (w : World) (h : TxAt w B t Aw nw cw Ar nr cr) (hB : B ≤ w.heap.size) :
    Calls Try.prog 5 #[.agg #[.int .u64 (t.seq : Int), .slice Aw nw cw, .slice Ar nr cr]] w (Told w t) := by
  cases hm : t.mayB
  · exact enc_not t Aw Ar nw cw nr cr B w h hB hm
  · exact enc_may t Aw Ar nw cw nr cr B w h hB hm
end Go.Proofs.Ytjbelbhcdbbelaa.Rec

