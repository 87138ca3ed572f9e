/- No two parts of an answer share memory with each other or with the blocks: proved for every record. -/
import Derived.Test.YthildbbfccipoaaRcKeep
import Derived.Deep.RegionWith
namespace Go.Proofs.Ythildbbfccipoaa.RecordKeeps
open Go.ChangeShapes Go.WideShapes Go.ChangeAt Go.RowKit
open Go.Proofs.Ythildbbfccipoaa.Mem Go.Proofs.Ythildbbfccipoaa.Rec Go.Proofs.Ythildbbfccipoaa.Lift Go.Proofs.Ythildbbfccipoaa.Reg
attribute [local go_sem ↓] xorB_eq

theorem kp_store {W wr : World} {y base seq nw dw nr dr g k : Nat} {ws : List Wt} {rs : List Int} {Bw Br : Option Addr} {vs : List Value} (u : Value) (h : Kp W wr y base seq ws rs Bw nw dw Br nr dr vs) (hg : g < base) (hy : base ≤ y) (hW : W.heap.size ≤ g) :
    Kp W (wr.setCell ⟨g, k, none⟩ u) y base seq ws rs Bw nw dw Br nr dr vs :=
  ⟨h.own.kept (Kept.cell hg), ownsRow_kept h.ints (Kept.cell hg), by rw [Below.heap_setCell _ _ _ _ (by show y ≠ g; omega)]; exact h.box, h.below.setCell hW _, h.bb, by rw [show (wr.setCell ⟨g, k, none⟩ u).heap.size = wr.heap.size by simp [World.setCell]]; exact h.size⟩
theorem kp_later {W wr V : World} {y base seq nw dw nr dr : Nat} {ws : List Wt} {rs : List Int} {Bw Br : Option Addr} {vs : List Value} (h : Kp W wr y base seq ws rs Bw nw dw Br nr dr vs) (hb : Below wr.heap.size wr V) :
    Kp W V y base seq ws rs Bw nw dw Br nr dr vs :=
  ⟨h.own.kept (Kept.of_below hb (Nat.le_refl _)), ownsRow_kept h.ints (Kept.of_below hb (Nat.le_refl _)), (hb.block _ (Array.getElem?_eq_some_iff.1 h.box).1).trans h.box, h.below.trans (hb.mono (by have := h.bb; have := h.size; omega)), h.bb, Nat.le_trans h.size hb.size⟩
def fillB (j : Nat) : List UInt8 := List.replicate 256 (UInt8.ofNat j)
/-- The first i are filled; the others are of a block's length. -/
def Filled (i : Nat) (ws : List Wt) : Prop := ∀ j x, ws[j]? = some x → (j < i → x.2 = fillB j ++ [1, 2]) ∧ (i ≤ j → x.2.length = 256)
/-- Number i is being filled. -/
structure Filling (i k : Nat) (ws : List Wt) (x : Wt) : Prop where
  elder : ∀ j z, ws[j]? = some z → (j < i → z.2 = fillB j ++ [1, 2]) ∧ (i < j → z.2.length = 256)
  at_ : ws[i]? = some x
  len : x.2.length = 256
  got : ∀ q, q < k → x.2[q]? = some (UInt8.ofNat i)
theorem Filled.begin {i : Nat} {ws : List Wt} (h : Filled i ws) {x : Wt} (hx : ws[i]? = some x) : Filling i 0 ws x :=
  ⟨fun j z hz => ⟨(h j z hz).1, fun hj => (h j z hz).2 (by omega)⟩, hx, (h i x hx).2 (Nat.le_refl _), fun q hq => absurd hq (by omega)⟩
theorem Filling.step {i k : Nat} {ws : List Wt} {x : Wt} (h : Filling i k ws x) (hk : k < 256) : Filling i (k + 1) (ws.set i (x.1, x.2.set k (UInt8.ofNat i))) (x.1, x.2.set k (UInt8.ofNat i)) := by
  refine ⟨fun j z hz => ?_, by rw [List.getElem?_set_self (List.getElem?_eq_some_iff.1 h.at_).1], by rw [List.length_set]; exact h.len, fun q hq => ?_⟩
  · by_cases hij : i = j
    · subst hij; exact ⟨fun hj => absurd hj (by omega), fun hj => absurd hj (by omega)⟩
    · rw [List.getElem?_set_ne hij] at hz; exact h.elder j z hz
  · by_cases hqk : k = q
    · subst hqk; rw [List.getElem?_set_self (by rw [h.len]; exact hk)]
    · rw [List.getElem?_set_ne hqk]; exact h.got q (by omega)
theorem Filling.done {i : Nat} {ws : List Wt} {x : Wt} (h : Filling i 256 ws x) : x.2 = fillB i := by
  apply List.ext_getElem?
  intro q
  by_cases hq : q < 256
  · rw [h.got q hq]; unfold fillB; rw [List.getElem?_replicate, if_pos hq]
  · rw [List.getElem?_eq_none (by rw [h.len]; omega), List.getElem?_eq_none (by unfold fillB; rw [List.length_replicate]; omega)]
theorem Filling.next {i : Nat} {ws : List Wt} {x : Wt} (h : Filling i 256 ws x) : Filled (i + 1) (ws.set i (x.1, x.2 ++ [1, 2])) := fun j z hz => by
  by_cases hij : i = j
  · subst hij
    rw [List.getElem?_set_self (List.getElem?_eq_some_iff.1 h.at_).1] at hz
    injection hz with hz
    subst hz
    exact ⟨fun _ => by dsimp only; rw [h.done], fun hj => absurd hj (by omega)⟩
  · rw [List.getElem?_set_ne hij] at hz
    exact ⟨fun hj => (h.elder j z hz).1 (by omega), fun hj => (h.elder j z hz).2 (by omega)⟩
theorem byte_of (i : Nat) (h : i < 256) : byteV (UInt8.ofNat i) = .int .u8 (i : Int) := by
  unfold byteV
  rw [UInt8.toNat_ofNat', Nat.mod_eq_of_lt (by omega)]

set_option maxRecDepth 100000 in
set_option maxHeartbeats 4000000 in
theorem walk (t : Tx) (Aw Ar : Option Addr) (nw cw nr cr : Nat) (w : World) (ht : TxAt w w.heap.size t Aw nw cw Ar nr cr) :
    Calls Try.prog 7 #[.agg #[.int .u64 (t.seq : Int), .slice Aw nw cw, .slice Ar nr cr]] w fun e w' => e = .returned (.bool true) ∧ Below w.heap.size w w' := by
  obtain ⟨seq, ws, rs⟩ := t
  obtain ⟨cur, hcur⟩ : ∃ c, c = #[Value.int .u64 (seq : Int), .slice Aw nw cw, .slice Ar nr cr] := ⟨_, rfl⟩
  obtain ⟨W, hWe⟩ : ∃ W, W = w.alloc (.cells cur 52) := ⟨_, rfl⟩
  have hb0 : Below w.heap.size w W := by rw [hWe]; exact (Below.refl w.heap.size w).alloc (Nat.le_refl _) _
  have hs0 : w.heap.size < W.heap.size := by rw [hWe]; simp
  have hbk : W.heap[w.heap.size]? = some (.cells cur 52) := by rw [hWe]; exact heap_alloc_new w _
  have HSQ := Lib.hid ht.seq
  have hlw : ws.length = nw := ht.ws.1
  have hlr : rs.length = nr := ht.rs.1
  have HLW := Lib.hid hlw; clear hlw
  have HLR := Lib.hid hlr; clear hlr
  have HT := Lib.hid ht; clear ht
  go_enter Try.func7, Try.ntmps7
  go_wp2_with fail
  rw [← hcur, ← hWe]
  have P0 : Hid (∀ v, Below W.heap.size W v → v.cell? ⟨w.heap.size, 0, none⟩ = some (.int .u64 (seq : Int)) ∧ v.cell? ⟨w.heap.size, 1, none⟩ = some (.slice Aw nw cw) ∧ v.cell? ⟨w.heap.size, 2, none⟩ = some (.slice Ar nr cr)) := Lib.hid (fun v hv => by
    have hh : v.heap[w.heap.size]? = some (.cells cur 52) := (hv.block _ hs0).trans hbk
    rw [hcur] at hh
    exact ⟨cell_of_row _ _ _ _ _ _ hh, cell_of_row _ _ _ _ _ _ hh, cell_of_row _ _ _ _ _ _ hh⟩)
  have HB0 := Lib.hid hb0; clear hb0 hs0
  clear hcur hWe hbk
  refine (alive_any W).mono ?_
  rintro e w1 ⟨rfl, hb1⟩
  have HTA : Hid (∀ v, Below W.heap.size W v → TxAt v w.heap.size ⟨seq, ws, rs⟩ Aw nw cw Ar nr cr) := Lib.hid (fun v hv => HT.out.below (HB0.out.trans (hv.mono HB0.out.size)))
  obtain ⟨p0, p1, p2⟩ := P0.out w1 hb1
  have HW1 := Lib.hid hb1; clear hb1
  cases hm : (⟨seq, ws, rs⟩ : Tx).mayB
  · have HE := Lib.hid (enc_unfit ⟨seq, ws, rs⟩ Aw Ar nw cw nr cr w.heap.size w1 (HTA.out w1 HW1.out) (Nat.le_trans HB0.out.size HW1.out.size) hm)
    go_wp2_with fail
    with_reducible refine HE.out.mono ?_
    rintro e w3 ⟨rfl, hb3⟩
    have HB := Lib.hid (HB0.out.trans ((HW1.out.trans (hb3.mono HW1.out.size)).mono HB0.out.size)); clear hb3 p0 p1 p2 hm
    go_wp2
    go_ret
    exact ⟨rfl, HB.out⟩
  · have HE := Lib.hid (enc_fits ⟨seq, ws, rs⟩ Aw Ar nw cw nr cr w.heap.size w1 (HTA.out w1 HW1.out) (Nat.le_trans HB0.out.size HW1.out.size) hm)
    go_wp2_with fail
    with_reducible refine HE.out.mono ?_
    clear HE p0 p1 p2
    rintro e w2 ⟨g, off, cb, rfl, ho2, hcb, hcm, hb2⟩
    have hM := (mayB_iff (⟨seq, ws, rs⟩ : Tx)).1 hm
    have hlen := enc_len _ hM
    rw [show (⟨seq, ws, rs⟩ : Tx).ws.length = nw from HLW.out] at hlen
    have hk58 : nw ≤ 58 := by have h1 := hM.hi; have h2 := HLW.out; dsimp only at h1; omega
    obtain ⟨ENC, hENC⟩ : ∃ l, l = (⟨seq, ws, rs⟩ : Tx).enc := ⟨_, rfl⟩
    rw [← hENC] at ho2 hcb hlen ⊢
    obtain ⟨E, hE⟩ : ∃ E, E = ENC.length := ⟨_, rfl⟩
    rw [← hE] at ho2 hcb hlen ⊢
    obtain ⟨g', cap, cu, hv, hgb, hgl, -⟩ := Owned.cut ho2 (by rw [← hE]; omega)
    injection hv with a1 a0 a3
    clear a0
    injection a1 with a1
    injection a1 with a1 a2
    subst a1 a2 a3
    have hEb : E ≤ 15360 := by omega
    have HENC := Lib.hid hENC
    have hr2 := Owned.reads ho2
    have hww2 := HW1.out.trans (hb2.mono HW1.out.size)
    obtain ⟨p0, p1, p2⟩ := P0.out w2 hww2
    have hD := dec_ownT ⟨seq, ws, rs⟩ [] (some ⟨g, 0, none⟩) E cb w2.heap.size w2 (by rw [List.append_nil, ← hENC]; exact hr2) (Nat.le_refl _) hcb hcm HSQ.out hm
    rw [show (⟨seq, ws, rs⟩ : Tx).ws.length = nw from HLW.out, show (⟨seq, ws, rs⟩ : Tx).rs.length = nr from HLR.out] at hD
    have HD := Lib.hid hD; clear hD
    have HEL : Hid (ENC.length = E) := Lib.hid hE.symm
    have HM := Lib.hid hM
    have HO2 := Lib.hid ho2
    have HWW2 := Lib.hid hww2
    have hgb2 : W.heap.size ≤ g := by have := HW1.out.size; omega
    clear hM ho2 hww2 hr2 hE hlen hgb hcm hb2 hENC
    go_wp2_with fail
    with_reducible refine HD.out.mono ?_
    clear HD p0 p1 p2
    rintro e w3 ⟨Ax, cx, Ay, cy, vs, rfl, ho3, hb3⟩
    have hK : Kp W (w3.alloc (.cells #[.int .u64 (seq : Int), .slice Ax nw cx, .slice Ay nr cy] 52)) w3.heap.size w2.heap.size seq ws rs Ax nw cx Ay nr cy vs := by
      have hbA := (Below.refl w3.heap.size w3).alloc (Nat.le_refl _) (.cells #[.int .u64 (seq : Int), .slice Ax nw cx, .slice Ay nr cy] 52)
      have hk1 := ho3.kept (Kept.of_below hbA (Nat.le_refl _))
      have h1 := hk1.ws
      have h2 := hk1.rs
      rw [show (⟨seq, ws, rs⟩ : Tx).ws.length = nw from HLW.out] at h1
      rw [show (⟨seq, ws, rs⟩ : Tx).rs.length = nr from HLR.out] at h2
      exact ⟨h1, h2, heap_alloc_new w3 _, HWW2.out.trans ((hb3.trans (hbA.mono hb3.size)).mono HWW2.out.size), HWW2.out.size, Nat.le_trans hb3.size hbA.size⟩
    have hO3 : Owned (w3.alloc (.cells #[.int .u64 (seq : Int), .slice Ax nw cx, .slice Ay nr cy] 52)) w1.heap.size (.slice (some ⟨g, 0, none⟩) E cb) ENC :=
      World.ownsRow.alloc (Owned.keep HO2.out hb3 (Nat.le_refl _)) _
    obtain ⟨y, hy⟩ : ∃ y, y = w3.heap.size := ⟨_, rfl⟩
    obtain ⟨base, hbase⟩ : ∃ b, b = w2.heap.size := ⟨_, rfl⟩
    have hyb : base ≤ y := by rw [hy, hbase]; exact hb3.size
    have hgbase : g < base := by rw [hbase]; exact hgl
    rw [← hy, ← hbase] at hK
    have HK := Lib.hid hK; clear hK
    have HO3 := Lib.hid hO3; clear hO3 ho3 hb3
    go_wp2_with fail
    rw [← hy]
    clear hy hbase hgl
    go_loopw [8] (fun i wr => ∃ (k : Nat) (Y : List UInt8), k ≤ E ∧ Y.length = E ∧ i = .int .i64 k ∧ Owned wr w1.heap.size (.slice (some ⟨g, 0, none⟩) E cb) Y ∧ Kp W wr y base seq ws rs Ax nw cx Ay nr cy vs) (fun i _ => E - (intOf i).toNat)
    case atStart => exact ⟨0, ENC, by omega, HEL.out, rfl, HO3.out, HK.out⟩
    case round =>
      clear HK HO3
      obtain ⟨k, Y, hk, hYl, rfl, hoY, hK⟩ := hrel
      by_cases hlt : k < E
      · obtain ⟨g', cap', hv', -, hgl', hcp', hrow'⟩ := Owned.row hoY (by omega)
        have hg' : g = g' := by injection hv' with e1 _ _; injection e1 with e1; injection e1 with e1
        have hrk := hrow' k (by omega)
        rw [← hg'] at hrk
        obtain ⟨r1, r2, r3⟩ := hrk
        have hk1 : (0 : Int) ≤ (k : Int) := by omega
        have hk2 : (k : Int) < (E : Int) := by omega
        obtain ⟨u, hu⟩ : ∃ u, u = Y[k]'(by omega) := ⟨_, rfl⟩
        rw [← hu] at r1
        unfold byteV at r1
        have hfl := run_xorB u
        have hnew := (r3 (u ^^^ 255)).1
        have hKn := kp_store (k := k) (byteV (u ^^^ 255)) hK hgbase hyb hgb2
        have HN1 := Lib.hid hnew; clear hnew
        have HK1 := Lib.hid hKn; clear hKn
        have HY1 := Lib.hid hYl
        clear hrow' r3 hu hv' hcp' hgl' hg' hoY hK hYl
        go_wp2
        go_roundw
        case rel => exact ⟨k + 1, _, by omega, by rw [List.length_set]; exact HY1.out, by go_num, HN1.out, HK1.out⟩
        case measure => simp [intOf]; omega
      · obtain rfl : k = E := by omega
        have HK := Lib.hid hK; clear hK
        clear hoY hYl
        have hxT : TxAt wr wr.heap.size ⟨seq, ws, rs⟩ Ax nw cx Ay nr cy :=
          ⟨HK.out.own.holds, row_ints HK.out.ints HLR.out, HSQ.out, ⟨row_cap HK.out.own.row, by omega, row_cap HK.out.ints, by have h1 := HM.out.hi; have h2 := HLR.out; dsimp only at h1; omega⟩, HT.out.intW, HT.out.intR⟩
        have hS := same_any ⟨seq, ws, rs⟩ ⟨seq, ws, rs⟩ Ax Ay nw cx nr cy wr.heap.size Aw Ar nw cw nr cr w.heap.size wr hxT (Nat.le_refl _) (HTA.out wr HK.out.below) (Nat.le_trans HB0.out.size HK.out.below.size) (by omega) (by have := hxT.fits; omega)
        rw [(sameB_iff (⟨seq, ws, rs⟩ : Tx) _).2 rfl] at hS
        have HS := Lib.hid hS; clear hS hxT
        obtain ⟨p0, p1, p2⟩ := P0.out wr HK.out.below
        have b0 : wr.cell? ⟨y, 0, none⟩ = some (.int .u64 (seq : Int)) := cell_of_row _ _ _ _ _ _ HK.out.box
        have b1 : wr.cell? ⟨y, 1, none⟩ = some (.slice Ax nw cx) := cell_of_row _ _ _ _ _ _ HK.out.box
        have b2 : wr.cell? ⟨y, 2, none⟩ = some (.slice Ay nr cy) := cell_of_row _ _ _ _ _ _ HK.out.box
        go_wp2_with fail
        with_reducible refine HS.out.mono ?_
        clear HS p0 p1 p2 b0 b1 b2
        rintro e V1 ⟨rfl, hv⟩
        have hK1 := kp_later HK.out hv
        have HK1 := Lib.hid hK1; clear hK1 hv HK
        go_wp2
        go_loopw [9, 10] (fun i _ wr => ∃ (i0 : Nat) (ws' : List Wt) (vs' : List Value), i0 ≤ nw ∧ i = .int .i64 i0 ∧ Kp W wr y base seq ws' rs Ax nw cx Ay nr cy vs' ∧ Filled i0 ws') (fun i _ _ => nw - (intOf i).toNat)
        case atStart => exact ⟨0, ws, vs, by omega, rfl, HK1.out, fun j x hx => ⟨fun hj => absurd hj (by omega), fun _ => HM.out.data x (List.mem_of_getElem? hx)⟩⟩
        case round =>
          clear HK1
          obtain ⟨i0, ws', vs', hi, rfl, hK, hF⟩ := hrel
          have hi0 : (0 : Int) ≤ (i0 : Int) := by omega
          have b1 : wr.cell? ⟨y, 1, none⟩ = some (.slice Ax nw cx) := cell_of_row _ _ _ _ _ _ hK.box
          by_cases hlt : i0 < nw
          · have hin : (i0 : Int) < (nw : Int) := by omega
            obtain ⟨x, hx⟩ : ∃ x, ws'[i0]? = some x := ⟨_, List.getElem?_eq_getElem (by rw [hK.own.cnt]; exact hlt)⟩
            obtain ⟨b, A2, c2, rfl, hv, -, -, -, -, -⟩ := hK.own.at hx
            rw [(hF i0 x hx).2 (Nat.le_refl _)] at hv
            have HFG := Lib.hid (hF.begin hx)
            have HV := Lib.hid hv; clear hv hx hF
            have HK := Lib.hid hK; clear hK
            have hw8 : IntKind.u8.wrap (i0 : Int) = (i0 : Int) := by rw [IntKind.wrap_u8]; omega
            go_wp2
            go_loopw [10] (fun kk wr' => ∃ (k : Nat) (ws'' : List Wt) (x' : Wt), k ≤ 256 ∧ kk = .int .i64 k ∧ Kp W wr' y base seq ws'' rs (some ⟨b, 0, none⟩) nw cx Ay nr cy vs' ∧ Filling i0 k ws'' x') (fun kk _ => 256 - (intOf kk).toNat)
            case atStart => exact ⟨0, ws', x, by omega, rfl, HK.out, HFG.out⟩
            case round =>
              clear HK HFG b1
              obtain ⟨k, ws'', x', hk, rfl, hK, hF⟩ := hrel
              obtain ⟨l1, l2, l3, l4, l5, l6⟩ := hK.look hF.at_ HV.out
              have HO := Lib.hid l4; clear l4
              have HK := Lib.hid hK; clear hK
              have HFG := Lib.hid hF; clear hF
              have hk0 : (0 : Int) ≤ (k : Int) := by omega
              by_cases hlk : k < 256
              · have hkn : (k : Int) < 256 := by omega
                obtain ⟨g2, cap2, hv2, -, -, -, hrow2⟩ := Owned.row HO.out (by rw [HFG.out.len]; omega)
                injection hv2 with d1 d2 d3
                clear d2
                subst d1 d3
                obtain ⟨r1, r2, -⟩ := hrow2 k (by rw [HFG.out.len]; exact hlk)
                have hKs := HK.out.set (k := k) (UInt8.ofNat i0) HFG.out.at_ HV.out (by rw [HFG.out.len]; exact hlk)
                rw [byte_of i0 (by omega)] at hKs
                have HKS := Lib.hid hKs; clear hKs
                have HFS := Lib.hid (HFG.out.step hlk)
                unfold byteV at r1
                clear hrow2
                go_wp2
                go_roundw
                case rel => exact ⟨k + 1, _, _, by omega, by go_num, HKS.out, HFS.out⟩
                case measure => simp [intOf]; omega
              · obtain rfl : k = 256 := by omega
                go_wp2
                have hS : (fun V : World => V.cell? ⟨y, 1, none⟩ = some (.slice (some ⟨b, 0, none⟩) nw cx) ∧ V.cell? ⟨b, i0 * 2 + 1, none⟩ = some (.slice A2 256 c2)) wr.drew := ⟨l1, l2⟩
                refine wp_region_E (fun V : World => V.cell? ⟨y, 1, none⟩ = some (.slice (some ⟨b, 0, none⟩) nw cx) ∧ V.cell? ⟨b, i0 * 2 + 1, none⟩ = some (.slice A2 256 c2)) 13 (by kernel_rfl) ?_
                refine wpE_take 0 _ (v := ?_) [1, 11, 12, 13] rfl (by kernel_rfl) (by kernel_rfl) (by kernel_rfl) (by kernel_rfl) (fun _ _ _ h => h) hS (Or.inl ⟨by rfl, ?_⟩) ?_
                rotate_left
                · (intro V hSw; obtain ⟨s1, s2⟩ := hSw; go_simp; try with_reducible rfl)
                simp only [Act.put]
                refine wpE_take 1 _ (v := ?_) [11, 12, 13] rfl (by kernel_rfl) (by kernel_rfl) (by kernel_rfl) (by kernel_rfl) (fun _ _ _ h => h) hS (Or.inl ⟨by rfl, ?_⟩) ?_
                rotate_left
                · (intro V hSw; obtain ⟨s1, s2⟩ := hSw; go_simp; try with_reducible rfl)
                simp only [Act.put]
                refine wpE_take 2 _ (v := ?_) [11, 12, 13] rfl (by kernel_rfl) (by kernel_rfl) (by kernel_rfl) (by kernel_rfl) (fun _ _ _ h => h) hS (Or.inl ⟨by rfl, ?_⟩) ?_
                rotate_left
                · (intro V hSw; obtain ⟨s1, s2⟩ := hSw; go_simp; try with_reducible rfl)
                simp only [Act.put]
                refine wpE_take 3 _ (v := ?_) [4, 6, 7, 8, 10, 13] rfl (by kernel_rfl) (by kernel_rfl) (by kernel_rfl) (by kernel_rfl) (fun _ _ _ h => h) hS (Or.inl ⟨by rfl, ?_⟩) ?_
                rotate_left
                · (intro V hSw; obtain ⟨s1, s2⟩ := hSw; go_simp; try with_reducible rfl)
                simp only [Act.put]
                refine wpE_take 4 _ (v := ?_) [6, 7, 8, 10, 13] rfl (by kernel_rfl) (by kernel_rfl) (by kernel_rfl) (by kernel_rfl) (fun _ _ _ h => h) hS (Or.inl ⟨by rfl, ?_⟩) ?_
                rotate_left
                · (intro V hSw; obtain ⟨s1, s2⟩ := hSw; go_simp; try with_reducible rfl)
                simp only [Act.put]
                refine wpE_take 5 _ (v := ?_) [6, 7, 8, 10, 13] rfl (by kernel_rfl) (by kernel_rfl) (by kernel_rfl) (by kernel_rfl) (fun _ _ _ h => h) hS (Or.inl ⟨by rfl, ?_⟩) ?_
                rotate_left
                · (intro V hSw; obtain ⟨s1, s2⟩ := hSw; go_simp; try with_reducible rfl)
                simp only [Act.put]
                refine wpE_take 6 _ (v := ?_) [7, 8, 10, 13] rfl (by kernel_rfl) (by kernel_rfl) (by kernel_rfl) (by kernel_rfl) (fun _ _ _ h => h) hS (Or.inl ⟨by rfl, ?_⟩) ?_
                rotate_left
                · (intro V hSw; obtain ⟨s1, s2⟩ := hSw; go_simp; try with_reducible rfl)
                simp only [Act.put]
                refine wpE_take 7 _ (v := ?_) [8, 10, 13] rfl (by kernel_rfl) (by kernel_rfl) (by kernel_rfl) (by kernel_rfl) (fun _ _ _ h => h) hS (Or.inl ⟨by rfl, ?_⟩) ?_
                rotate_left
                · (intro V hSw; obtain ⟨s1, s2⟩ := hSw; go_simp; try with_reducible rfl)
                simp only [Act.put]
                refine wpE_take 8 _ (v := ?_) [10, 13] rfl (by kernel_rfl) (by kernel_rfl) (by kernel_rfl) (by kernel_rfl) (fun _ _ _ h => h) hS (Or.inl ⟨by rfl, ?_⟩) ?_
                rotate_left
                · (intro V hSw; obtain ⟨s1, s2⟩ := hSw; go_simp; try with_reducible rfl)
                simp only [Act.put]
                have hb1 : Below wr.heap.size wr (wr.drew.alloc (.cells #[.int .u8 1, .int .u8 2] 5)) := (Below.refl _ wr).drew.alloc (Nat.le_refl _) _
                have hk1 := kp_later HK.out hb1
                obtain ⟨m1, m2, m3, m4, m5, m6⟩ := hk1.look HFG.out.at_ HV.out
                refine wpE_one 9 (by kernel_rfl) rfl (fun K hK => ?_)
                go_simp
                refine hK.out _ _ ⟨m1, m2⟩ (fun hS => ?_)
                clear hK K
                obtain ⟨if0, hi1, hz0, hz1, hz2⟩ := info_parts info_u8
                have hml : x'.2.length = 256 := HFG.out.len
                have hm4 : (wr.drew.alloc (.cells #[.int .u8 1, .int .u8 2] 5)).ownsRow base 5 1 (.slice A2 256 c2) 256 (x'.2.map byteV) := by
                  have := m4
                  unfold Owned at this
                  rw [hml] at this
                  exact this
                refine wpE_one 10 (by kernel_rfl) rfl (fun K hK => ?_)
                refine step_append_lies (o := ⟨some 94, _, _, _, _, _⟩) _ rfl (.tmp 92) (.tmp 93) 33 rfl base 5 if0 (.int .u8 0) 1 1 Try.underlying33 hi1 hz0 hz1 hz2 rfl (by omega) (.slice A2 256 c2) 256 (x'.2.map byteV) (by go_simp) hm4 ⟨wr.heap.size, 0, none⟩ 2 2 [.int .u8 1, .int .u8 2] (by go_simp) rfl (World.news_of_block (heap_alloc_new wr.drew (.cells #[.int .u8 1, .int .u8 2] 5))) (by intro u hu; simp at hu; rcases hu with rfl | rfl <;> rfl) (by omega) (by unfold maxLen; omega) (by omega) hk1.size _ rfl ?_
                intro g2 cap2 V2 hown2 hgrow2 hat2 hlt2
                have hy2 : Owned V2 base (.slice (some ⟨g2, 0, none⟩) 258 cap2) (x'.2 ++ [1, 2]) := by
                  unfold Owned
                  rw [List.length_append, hml, List.map_append]
                  exact hown2
                have happ := hk1.app HFG.out.at_ HV.out hy2 hgrow2 (fun q hq => by
                  have : q = g2 := by injection hq with hq; exact hq.symm
                  subst this
                  rcases hat2 with h | h
                  · exact .inl h
                  · exact .inr (by rw [h]; exact Nat.le_refl _))
                have hbx2 := block_grown hk1.box hm4 (by decide) hgrow2
                obtain ⟨curb, hcb⟩ := row_type hk1.own.row (k := b) rfl
                have hcb2 := block_grown hcb hm4 (by decide) hgrow2
                have n2 : V2.cell? ⟨b, i0 * 2 + 1, none⟩ = some (.slice A2 256 c2) := by
                  rw [cell_of_row _ _ _ _ _ _ hcb2, ← cell_of_row _ _ _ _ _ _ hcb]; exact m2
                have f2 := frozen_of_row _ _ (i0 * 2 + 1) _ _ hcb2
                refine hK.out _ _ ⟨cell_of_row _ _ _ _ _ _ hbx2, n2⟩ (fun hS => ?_)
                clear hK K
                simp only [Act.put]
                have HAPP := Lib.hid happ
                have HNX := Lib.hid HFG.out.next
                clear happ hy2 hown2 hgrow2 hat2 hlt2 hbx2 hcb hcb2 hm4 hml hk1 hb1 m1 m2 m3 m4 m5 m6 hi1 hz0 hz1 hz2 l1 l2 l3 l5 l6
                refine wpE_take 11 _ (v := ?_) [12, 13] rfl (by kernel_rfl) (by kernel_rfl) (by kernel_rfl) (by kernel_rfl) (fun _ _ _ h => h) hS (Or.inl ⟨by rfl, ?_⟩) ?_
                rotate_left
                · (intro V hSw; obtain ⟨s1, s2⟩ := hSw; go_simp; try with_reducible rfl)
                simp only [Act.put]
                refine wpE_take 12 _ (v := ?_) [13] rfl (by kernel_rfl) (by kernel_rfl) (by kernel_rfl) (by kernel_rfl) (fun _ _ _ h => h) hS (Or.inl ⟨by rfl, ?_⟩) ?_
                rotate_left
                · (intro V hSw; obtain ⟨s1, s2⟩ := hSw; go_simp; try with_reducible rfl)
                simp only [Act.put]
                refine wpE_last (by kernel_rfl) rfl (fun K hK => ?_)
                go_simp
                refine hK.out _ _ ?_
                clear hK K
                refine wpE_done (by kernel_rfl) ?_ _
                go_wp2
                go_roundw
                case rel => exact ⟨i0 + 1, _, _, by omega, by go_num, HAPP.out, HNX.out⟩
                case measure => simp [intOf]; omega
          · obtain rfl : i0 = nw := by omega
            have HK := Lib.hid hK; clear hK
            have HF := Lib.hid hF; clear hF
            go_wp2
            go_loopw [11, 12] (fun i _ wr' => ∃ i1 : Nat, i1 ≤ i0 ∧ i = .int .i64 i1 ∧ wr = wr') (fun i _ _ => i0 - (intOf i).toNat)
            case atStart => exact ⟨0, by omega, rfl, rfl⟩
            case round =>
              obtain ⟨i1, hi1, rfl, rfl⟩ := hrel
              have hi10 : (0 : Int) ≤ (i1 : Int) := by omega
              by_cases hl1 : i1 < i0
              · have hin : (i1 : Int) < (i0 : Int) := by omega
                obtain ⟨x, hx⟩ : ∃ x, ws'[i1]? = some x := ⟨_, List.getElem?_eq_getElem (by rw [HK.out.own.cnt]; exact hl1)⟩
                obtain ⟨b, A2, c2, rfl, hv, -, -, -, -, -⟩ := HK.out.own.at hx
                have hxe := (HF.out i1 x hx).1 hl1
                have hxl : x.2.length = 258 := by rw [hxe, List.length_append]; unfold fillB; rw [List.length_replicate]; rfl
                rw [hxl] at hv
                obtain ⟨l1, l2, l3, l4, l5, l6⟩ := HK.out.look hx hv
                obtain ⟨g2, cap2, hv2, -, -, -, hrow2⟩ := Owned.row l4 (by rw [hxl]; omega)
                injection hv2 with d1 d2 d3
                clear d2
                subst d1 d3
                have hcell : ∀ k : Nat, k < 256 → wr.cell? ⟨g2, k, none⟩ = some (.int .u8 (i1 : Int)) := fun k hk => by
                  have h1 := (hrow2 k (by rw [hxl]; omega)).1
                  rw [h1, ← byte_of i1 (by omega)]
                  congr 2
                  have h2 : x.2[k]? = some (UInt8.ofNat i1) := by
                    rw [hxe, List.getElem?_append_left (by unfold fillB; rw [List.length_replicate]; exact hk)]
                    unfold fillB
                    rw [List.getElem?_replicate, if_pos hk]
                  rw [List.getElem?_eq_getElem (by rw [hxl]; omega)] at h2
                  injection h2
                have HC := Lib.hid hcell; clear hcell
                have hw8 : IntKind.u8.wrap (i1 : Int) = (i1 : Int) := by rw [IntKind.wrap_u8]; omega
                clear hrow2 l3 l4 l5 l6 hx hv hxe hxl
                go_wp2
                go_loopw [12] (fun kk wr'' => ∃ k : Nat, k ≤ 256 ∧ kk = .int .i64 k ∧ wr = wr'') (fun kk _ => 256 - (intOf kk).toNat)
                case atStart => exact ⟨0, by omega, rfl, rfl⟩
                case round =>
                  obtain ⟨k, hk, rfl, rfl⟩ := hrel
                  have hk0 : (0 : Int) ≤ (k : Int) := by omega
                  by_cases hlk : k < 256
                  · have hkn : (k : Int) < 256 := by omega
                    have hkn2 : (k : Int) < 258 := by omega
                    have c1 := HC.out k hlk
                    go_wp2
                    go_roundw
                    case rel => exact ⟨k + 1, by omega, by go_num, by trivial⟩
                    case measure => simp [intOf]; omega
                  · obtain rfl : k = 256 := by omega
                    go_wp2
                    go_roundw
                    case rel => exact ⟨i1 + 1, by omega, by go_num, by trivial⟩
                    case measure => simp [intOf]; omega
              · obtain rfl : i1 = i0 := by omega
                obtain ⟨p0, p1, p2⟩ := P0.out wr HK.out.below
                have hBK := HK.out.below
                have HE := Lib.hid (enc_both ⟨seq, ws, rs⟩ Aw Ar i1 cw nr cr w.heap.size wr (HTA.out wr hBK) (Nat.le_trans HB0.out.size hBK.size))
                have HBK := Lib.hid hBK; clear hBK
                go_wp2_with fail
                with_reducible refine HE.out.mono ?_
                clear HE p0 p1 p2
                rintro e w5 ⟨A5, n5, c5, rfl, hn5, hA5, hnc5, hb5⟩
                have HA5 := Lib.hid hA5; clear hA5 hn5 hnc5
                obtain ⟨ke, hke⟩ : ∃ k, errOf ⟨seq, ws, rs⟩ = k := ⟨_, rfl⟩
                rw [hke]
                have HKE := Lib.hid hke; clear hke
                have hw5 := HBK.out.trans (hb5.mono HBK.out.size)
                obtain ⟨p0, p1, p2⟩ := P0.out w5 hw5
                have HF2 := Lib.hid (encr_both ⟨seq, ws, rs⟩ Aw Ar i1 cw nr cr w.heap.size w5 (HTA.out w5 hw5) (Nat.le_trans HB0.out.size hw5.size))
                have HB5 := Lib.hid hw5; clear hb5 hw5
                go_wp2_with fail
                with_reducible refine HF2.out.mono ?_
                clear HF2 p0 p1 p2
                rintro e w6 ⟨A6, n6, c6, rfl, hn6, hA6, hnc6, hb6⟩
                rw [HKE.out]
                have ta := run_text w6 _ A5 n5 c5 _ (HA5.out.below hb6)
                have tb := run_text w6 _ A6 n6 c6 _ hA6
                obtain ⟨BS, hBS⟩ : ∃ l, l = blocksOf ⟨seq, ws, rs⟩ := ⟨_, rfl⟩
                rw [← hBS] at ta tb
                have HB6 := Lib.hid (HB0.out.trans ((HB5.out.trans (hb6.mono HB5.out.size)).mono HB0.out.size))
                clear hb6 hA6 hn6 hnc6 hBS
                go_wp2
                go_ret
                exact ⟨rfl, HB6.out⟩

theorem walks : Walks 7 Try.f7 All := by
  intro H enc W base args ds p hval hA hsz _
  rw [Try.params7] at hA hval hsz
  obtain ⟨v0, vs0, d0, ds0, p0, q0, hargs, rfl, rfl, h0, r0⟩ := trodAll_cons hA
  obtain ⟨rfl, rfl, rfl⟩ := trodAll_nil r0
  obtain rfl : args = #[v0] := by cases args; simp_all
  obtain ⟨t, Aw, nw, cw, Ar, nr, cr, rfl, ht⟩ := txn_open (hval 0 _ v0 rfl rfl) h0 (txn_weights hsz (j := 0) rfl rfl)
  exact walk t Aw Ar nw cw nr cr W ht

set_option maxRecDepth 100000 in
theorem proved : Rows.RecordKeepsSaid :=
  OpenClaim.holds_of_wide 7 Try.f7 rfl rfl rfl rfl rfl rfl rfl ⟨rfl, rfl, rfl, rfl, rfl⟩ rfl rfl rfl rfl rfl (by kernel_rfl) Try.func7 (by kernel_rfl)
    (of_decide_eq_true (by kernel_rfl)) (by unfold Func.isWrapper; first | (rw [if_pos (by decide +kernel)]; kernel_rfl) | (rw [if_neg (by decide +kernel)]; exact ⟨rfl, rfl⟩))
    (fun os started H enc _ => lifted (s := Rows.recordKeepsSpec) walks (by kernel_rfl) rfl rfl (fun H ds hl => by match ds, hl with | [d1], _ => rfl) (by kernel_rfl) Try.func7 os started H enc
      (ChangeSpec.witness6 (enc := enc) (C := Try.checked) false ⟨#[], #[.agg #[.int .u64 0, .slice none 0 0, .slice none 0 0]], []⟩ 8 (by kernel_rfl) (by kernel_rfl) (by kernel_rfl) (by kernel_rfl)))
#print axioms proved
end Go.Proofs.Ythildbbfccipoaa.RecordKeeps
