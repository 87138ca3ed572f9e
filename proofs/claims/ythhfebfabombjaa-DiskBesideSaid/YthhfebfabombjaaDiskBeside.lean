/- What is read of a block is changed by no write to another one, no flush and no settling: proved for every list of deeds and every block. -/
import Derived.Test.YthhfebfabombjaaDeeds
namespace Go.Proofs.Ythhfebfabombjaa.DiskBeside
open Go.ChangeShapes Go.WideShapes Go.ChangeAt Go.RowKit
open Go.Proofs.Ythhfebfabombjaa.Mem Go.Proofs.Ythhfebfabombjaa.Disk Go.Proofs.Ythhfebfabombjaa.Lift
attribute [local go_sem ↓] Go.wp_at_zero Go.wp_at_succ

set_option maxRecDepth 100000 in
set_option maxHeartbeats 2000000 in
theorem walk (A : Option Addr) (n c : Nat) (xs : List DeedR) (blk : Int) (w : World) (h : Deeds w w.heap.size A n xs) (hc : n ≤ c) (hm : c ≤ maxLen) :
    Calls Try.prog 9 #[.slice A n c, .int .i64 blk] w fun e w' => e = .returned (.bool true) ∧ Below w.heap.size w w' := by
  obtain ⟨k0, hk0, hand0⟩ := and_mask blk 3 2 rfl (by omega)
  have hand : bits .and .i64 blk 3 = (k0 : Int) := hand0
  have hfew : fewN n ≤ 40 ∧ fewN n ≤ n := by unfold fewN; split <;> omega
  go_enter Try.func9, Try.ntmps9
  go_wp2_with fail
  refine (alive_any _).mono ?_
  rintro e w1 ⟨rfl, hb1⟩
  go_wp2_with fail
  refine (new_d 4 4 0 _ rfl (by omega) (by omega)).mono ?_
  rintro e w2 ⟨p, F0, rfl, hD0, hF0, hb2⟩
  have hB2 := hb1.trans (hb2.mono hb1.size)
  have hF0' : ∀ q, F0 q → w.heap.size ≤ q := fun q hq => Nat.le_trans hb1.size (hF0 q hq)
  have HD0 := Lib.hid hD0; clear hD0
  have HF0 := Lib.hid hF0'; clear hF0 hF0'
  have HB2 := Lib.hid hB2; clear hB2 hb1 hb2
  go_wp2_with fail
  refine (few_any A n c _ hc hm (fun hn => by obtain ⟨b, off, e, _⟩ := h.2.1 hn; exact ⟨b, off, e⟩)).mono ?_
  rintro e w' ⟨rfl, rfl⟩
  obtain ⟨m, hmd⟩ : ∃ m, fewN n = m := ⟨_, rfl⟩
  rw [hmd] at hfew ⊢
  have hds := h.take (show m ≤ n by omega)
  have HDS := Lib.hid hds; clear hds
  clear hmd
  have H := Lib.hid h; clear h
  go_wp2
  go_loopw [8] (fun i wr => ∃ (k : Nat) (d : Dk.Dk) (F : Nat → Prop), k ≤ m ∧ i = .int .i64 k ∧ DiskAt wr p d k F ∧ d.stable.length = 4 ∧ d.fuse = none ∧ (∀ q, F q → w.heap.size ≤ q) ∧ Below w.heap.size w wr) (fun i _ => m - (intOf i).toNat)
  case atStart => exact ⟨0, _, F0, by omega, rfl, HD0.out, rfl, rfl, HF0.out, HB2.out⟩
  case round =>
    obtain ⟨k, d, F, hk, rfl, hD, hst, hfu, hF, hB⟩ := hrel
    obtain ⟨wk, hwk⟩ : ∃ wk, wk = wr := ⟨_, rfl⟩
    subst hwk
    by_cases hlt : k < m
    · have hds := HDS.out.below hB
      have hxl : (xs.take m).length = m := hds.1
      obtain ⟨b, off, rfl, hbB, hcell⟩ := hds.2.1 (by omega)
      have hx := hds.2.2 _ (List.getElem_mem (show k < (xs.take m).length by omega))
      have hcell := hcell k (by omega)
      generalize (xs.take m)[k]'(by omega) = x at hx hcell
      have e0 : wk.cell? ⟨b, off + k * 5, none⟩ = some (.int .i64 x.op) := hcell 0 (by omega)
      have e1 : wk.cell? ⟨b, off + k * 5 + 1, none⟩ = some (.int .i64 x.blk) := hcell 1 (by omega)
      have e2 : wk.cell? ⟨b, off + k * 5 + 2, none⟩ = some (.int .u8 (x.fill.toNat : Int)) := hcell 2 (by omega)
      have e3 : wk.cell? ⟨b, off + k * 5 + 3, none⟩ = some (.bool x.short) := hcell 3 (by omega)
      have e4 : wk.cell? ⟨b, off + k * 5 + 4, none⟩ = some (.slice x.A x.n x.c) := hcell 4 (by omega)
      clear hcell
      obtain ⟨k1, hk1, hand1⟩ := and_mask x.blk 3 2 rfl (by omega)
      have handb : bits .and .i64 x.blk 3 = (k1 : Int) := hand1
      obtain ⟨k2, hk2, hand2⟩ := and_mask x.op 3 2 rfl (by omega)
      have hando : bits .and .i64 x.op 3 = (k2 : Int) := hand2
      clear hand0 hand1 hand2
      have hi1 : (0 : Int) ≤ (k : Int) := by omega
      have hi2 : (k : Int) < (m : Int) := by omega
      have HD := Lib.hid hD; clear hD
      have HST := Lib.hid hst; clear hst
      have HFU := Lib.hid hfu; clear hfu
      have HF := Lib.hid hF; clear hF
      have HB := Lib.hid hB; clear hB
      have HX := Lib.hid hx; clear hx
      have HXL := Lib.hid hxl; clear hxl
      clear hds
      go_wp2_with fail
      have ht1 : Turns (fun _ => False) wk (wk.alloc (.cells #[.int .i64 x.op, .int .i64 (k1 : Int), .int .u8 (x.fill.toNat : Int), .bool false, .slice x.A x.n x.c] 35)) := (Turns.refl _ wk).alloc _
      have hbx : (wk.alloc (.cells #[.int .i64 x.op, .int .i64 (k1 : Int), .int .u8 (x.fill.toNat : Int), .bool false, .slice x.A x.n x.c] 35)).heap[wk.heap.size]? = some (.cells #[.int .i64 x.op, .int .i64 (k1 : Int), .int .u8 (x.fill.toNat : Int), .bool false, .slice x.A x.n x.c] 35 (0, 0)) := heap_alloc_new wk _
      have hs1 : wk.heap.size < (wk.alloc (.cells #[.int .i64 x.op, .int .i64 (k1 : Int), .int .u8 (x.fill.toNat : Int), .bool false, .slice x.A x.n x.c] 35)).heap.size := by simp
      generalize wk.alloc (.cells #[.int .i64 x.op, .int .i64 (k1 : Int), .int .u8 (x.fill.toNat : Int), .bool false, .slice x.A x.n x.c] 35) = W1 at ht1 hbx hs1 ⊢
      clear e0 e1 e2 e3 e4
      have hD1 := HD.out.turns ht1 (fun _ _ e => e)
      have hlt1 := HD.out.lt
      refine (read_d (k0 : Int) k0 rfl d p k F W1 hD1 (by rw [HST.out]; omega) (by omega)).mono ?_
      rintro e w4 ⟨rfl, hl4, rfl⟩
      have hr2 := range_new W1 ((d.read k0).map byteV) 5
      have ht2 : Turns (fun _ => False) W1 (W1.alloc (.cells ((d.read k0).map byteV).toArray 5)) := (Turns.refl _ W1).alloc _
      have hs2 : W1.heap.size < (W1.alloc (.cells ((d.read k0).map byteV).toArray 5)).heap.size := by simp
      generalize W1.alloc (.cells ((d.read k0).map byteV).toArray 5) = W2 at hr2 ht2 hs2 ⊢
      have hbx2 := (ht2.block _ hs1 (fun e => e)).trans hbx
      have hD2 := hD1.turns ht2 (fun _ _ e => e)
      have hB2 : Below w.heap.size w W2 := (HB.out.trans (ht1.below (B := w.heap.size) (fun _ e => e.elim) HB.out.size)).trans (ht2.below (B := w.heap.size) (fun _ e => e.elim) (by have := HB.out.size; omega))
      have hBK : Below w.heap.size wk W2 := (ht1.below (B := w.heap.size) (fun _ e => e.elim) HB.out.size).trans (ht2.below (B := w.heap.size) (fun _ e => e.elim) (by have := HB.out.size; omega))
      have HBK := Lib.hid hBK; clear hBK
      have HFW : Hid (∀ q, F q → q < wk.heap.size) := Lib.hid hlt1
      have g0 : W2.cell? ⟨wk.heap.size, 0, none⟩ = some (.int .i64 x.op) := cell_of_row _ _ _ _ _ _ hbx2
      have g1 : W2.cell? ⟨wk.heap.size, 1, none⟩ = some (.int .i64 (k1 : Int)) := cell_of_row _ _ _ _ _ _ hbx2
      have g2 : W2.cell? ⟨wk.heap.size, 2, none⟩ = some (.int .u8 (x.fill.toNat : Int)) := cell_of_row _ _ _ _ _ _ hbx2
      have g3 : W2.cell? ⟨wk.heap.size, 3, none⟩ = some (.bool false) := cell_of_row _ _ _ _ _ _ hbx2
      have g4 : W2.cell? ⟨wk.heap.size, 4, none⟩ = some (.slice x.A x.n x.c) := cell_of_row _ _ _ _ _ _ hbx2
      have hFb : ∀ q, F q → q < W1.heap.size := fun q hq => by have := hlt1 q hq; omega
      have HD2 := Lib.hid hD2; clear hD2 hD1
      have HBX := Lib.hid hbx2; clear hbx2 hbx
      have HB2' := Lib.hid hB2; clear hB2
      have HR2 := Lib.hid hr2; clear hr2
      have HFB := Lib.hid hFb; clear hFb hlt1
      have HL4 := Lib.hid hl4; clear hl4
      have hsw : wk.heap.size < W2.heap.size := by omega
      have hblow : d.blown = false := by unfold Dk.Dk.blown; rw [HFU.out]; rfl
      have HBW := Lib.hid hblow; clear hblow
      clear ht1 ht2 hand
      by_cases c1 : k2 = 1
      · have t1 : ((k2 : Int) == 1) = true := by simp [c1]
        have HC1 := Lib.hid c1; clear c1
        go_wp2_with fail
        refine (flush_d d p k F W2 HD2.out (by omega)).mono ?_
        rintro e W3 ⟨F3, rfl, hD3, hF3', hT3⟩
        have hr3 := range_turns HR2.out hT3 (by omega) (fun e => by have := HFB.out _ e; omega)
        have hB3 : Below w.heap.size w W3 := HB2'.out.trans (hT3.below (B := w.heap.size) HF.out HB2'.out.size)
        have hF3 : ∀ q, F3 q → w.heap.size ≤ q := fun q hq => by
          rcases hF3' q hq with e | e
          · exact HF.out q e
          · have := HB2'.out.size; omega
        have hrd3 := Dk.read_flush d HD.out.ok.1 k0
        have hst3 : d.flush.stable.length = 4 := by rw [Dk.size_flush]; exact HST.out
        have hfu3 : d.flush.fuse = none := by unfold Dk.Dk.flush; rw [if_neg (by rw [HBW.out]; simp)]; show d.fuse.map _ = none; rw [HFU.out]; rfl
        have hD3 := hD3.more (show k ≤ k + 1 by omega)
        generalize d.flush = d3 at hD3 hrd3 hst3 hfu3
        clear g0 g1 g2 g3 g4 hF3' hT3 t1
        have hD3 := hD3
        have hrd : d3.read k0 = d.read k0 := hrd3
        go_wp2_with fail
        refine (read_d (k0 : Int) k0 rfl d3 p (k + 1) F3 W3 hD3 (by rw [hst3]; omega) (by omega)).mono ?_
        rintro e w5 ⟨rfl, hl5, rfl⟩
        rw [hrd] at hl5 ⊢
        have hT := run_text (W3.alloc (.cells ((d.read k0).map byteV).toArray 5)) (W3.heap.size + 1) (some ⟨W3.heap.size, 0, none⟩) 256 256 (d.read k0) (by
          have := holds_of_range (B := W3.heap.size + 1) (bs := d.read k0) (range_new W3 ((d.read k0).map byteV) 5) (by omega)
          rwa [hl5] at this)
        have hr3' : (W3.alloc (.cells ((d.read k0).map byteV).toArray 5)).rangeAt W1.heap.size 0 ((d.read k0).map byteV) := World.rangeAt_alloc hr3 _
        have hT2 := run_text (W3.alloc (.cells ((d.read k0).map byteV).toArray 5)) (W1.heap.size + 1) (some ⟨W1.heap.size, 0, none⟩) 256 256 (d.read k0) (by
          have := holds_of_range (B := W1.heap.size + 1) hr3' (by omega)
          rwa [hl5] at this)
        have hD5 : DiskAt (W3.alloc (.cells ((d.read k0).map byteV).toArray 5)) p d3 (k + 1) F3 := hD3.turns ((Turns.refl (fun _ => False) W3).alloc _) (fun _ _ e => e)
        have hB5 : Below w.heap.size w (W3.alloc (.cells ((d.read k0).map byteV).toArray 5)) := hB3.alloc hB3.size _
        have HD5 := Lib.hid hD5; clear hD5 hD3
        have HB5 := Lib.hid hB5; clear hB5 hB3
        have HF3 := Lib.hid hF3; clear hF3
        have HS3 := Lib.hid hst3; clear hst3
        have HU3 := Lib.hid hfu3; clear hfu3
        clear hr3 hr3' hl5 hrd hrd3
        go_wp2
        go_roundw
        case rel => exact ⟨k + 1, d3, F3, by omega, by go_num, HD5.out, HS3.out, HU3.out, HF3.out, HB5.out⟩
        case measure => simp [intOf]; omega
      · have t1 : ((k2 : Int) == 1) = false := by simp; omega
        by_cases c2 : k2 = 2
        · have t2 : ((k2 : Int) == 2) = true := by simp [c2]
          clear c1
          have HC2 := Lib.hid c2; clear c2
          have hbits : ∀ w', Turns F W2 w' → Holds w' w.heap.size x.A x.n x.bs := fun w' ht => HX.out.bits.below (HBK.out.trans (ht.below HF.out HB2'.out.size))
          have hnx := HX.out.fits
          go_wp2_with fail
          refine (settle_d x.A x.n x.c w.heap.size x.bs d p k F W2 HD2.out (by omega) hbits (by omega)).mono ?_
          rintro e W3 ⟨F3, rfl, hD3, hF3', hT3⟩
          have hr3 := range_turns HR2.out hT3 (by omega) (fun e => by have := HFB.out _ e; omega)
          have hB3 : Below w.heap.size w W3 := HB2'.out.trans (hT3.below (B := w.heap.size) HF.out HB2'.out.size)
          have hF3 : ∀ q, F3 q → w.heap.size ≤ q := fun q hq => by
            rcases hF3' q hq with e | e
            · exact HF.out q e
            · have := HB2'.out.size; omega
          have hrd3 := Dk.read_settle d HD.out.ok.1 x.bs k0
          have hst3 : (d.settle x.bs).stable.length = 4 := by rw [Dk.size_settle]; exact HST.out
          have hfu3 : (d.settle x.bs).fuse = none := by unfold Dk.Dk.settle; rw [if_neg (by rw [HBW.out]; simp)]; show d.fuse = none; exact HFU.out
          have hD3 := hD3.more (show k ≤ k + 1 by omega)
          generalize d.settle x.bs = d3 at hD3 hrd3 hst3 hfu3
          clear g0 g1 g2 g3 g4 hF3' hT3 t1 t2 hbits hnx
          have hD3 := hD3
          have hrd : d3.read k0 = d.read k0 := hrd3
          go_wp2_with fail
          refine (read_d (k0 : Int) k0 rfl d3 p (k + 1) F3 W3 hD3 (by rw [hst3]; omega) (by omega)).mono ?_
          rintro e w5 ⟨rfl, hl5, rfl⟩
          rw [hrd] at hl5 ⊢
          have hT := run_text (W3.alloc (.cells ((d.read k0).map byteV).toArray 5)) (W3.heap.size + 1) (some ⟨W3.heap.size, 0, none⟩) 256 256 (d.read k0) (by
            have := holds_of_range (B := W3.heap.size + 1) (bs := d.read k0) (range_new W3 ((d.read k0).map byteV) 5) (by omega)
            rwa [hl5] at this)
          have hr3' : (W3.alloc (.cells ((d.read k0).map byteV).toArray 5)).rangeAt W1.heap.size 0 ((d.read k0).map byteV) := World.rangeAt_alloc hr3 _
          have hT2 := run_text (W3.alloc (.cells ((d.read k0).map byteV).toArray 5)) (W1.heap.size + 1) (some ⟨W1.heap.size, 0, none⟩) 256 256 (d.read k0) (by
            have := holds_of_range (B := W1.heap.size + 1) hr3' (by omega)
            rwa [hl5] at this)
          have hD5 : DiskAt (W3.alloc (.cells ((d.read k0).map byteV).toArray 5)) p d3 (k + 1) F3 := hD3.turns ((Turns.refl (fun _ => False) W3).alloc _) (fun _ _ e => e)
          have hB5 : Below w.heap.size w (W3.alloc (.cells ((d.read k0).map byteV).toArray 5)) := hB3.alloc hB3.size _
          have HD5 := Lib.hid hD5; clear hD5 hD3
          have HB5 := Lib.hid hB5; clear hB5 hB3
          have HF3 := Lib.hid hF3; clear hF3
          have HS3 := Lib.hid hst3; clear hst3
          have HU3 := Lib.hid hfu3; clear hfu3
          clear hr3 hr3' hl5 hrd hrd3
          go_wp2
          go_roundw
          case rel => exact ⟨k + 1, d3, F3, by omega, by go_num, HD5.out, HS3.out, HU3.out, HF3.out, HB5.out⟩
          case measure => simp [intOf]; omega
        · have t2 : ((k2 : Int) == 2) = false := by simp; omega
          clear c1 c2
          by_cases ck : k1 = k0
          · have t3 : ((k1 : Int) != (k0 : Int)) = false := by simp [ck]
            have HCK := Lib.hid ck; clear ck
            have hD5 := HD2.out.more (show k ≤ k + 1 by omega)
            have HD5 := Lib.hid hD5; clear hD5
            go_wp2
            go_roundw
            case rel => exact ⟨k + 1, d, F, by omega, by go_num, HD5.out, HST.out, HFU.out, HF.out, HB2'.out⟩
            case measure => simp [intOf]; omega
          · have t3 : ((k1 : Int) != (k0 : Int)) = true := by simp; omega
            go_wp2_with fail
            go_region_held3 (fun w' => w'.cell? ⟨wk.heap.size, 0, none⟩ = some (.int .i64 x.op) ∧ w'.cell? ⟨wk.heap.size, 1, none⟩ = some (.int .i64 (k1 : Int)) ∧ w'.cell? ⟨wk.heap.size, 2, none⟩ = some (.int .u8 (x.fill.toNat : Int)) ∧ w'.cell? ⟨wk.heap.size, 3, none⟩ = some (.bool false) ∧ w'.cell? ⟨wk.heap.size, 4, none⟩ = some (.slice x.A x.n x.c)) (go_keep)
              (first
                | (go_at_call 24
                   refine (data_long x.op (k1 : Int) x.fill x.A x.n x.c _).mono ?_
                   rintro e w2 ⟨b2, rfl, hlen2, hb2, hbl2, hw2⟩
                   have l0 := (hw2.cell (p := ⟨wk.heap.size, 0, none⟩) hsw).trans g0
                   have l1 := (hw2.cell (p := ⟨wk.heap.size, 1, none⟩) hsw).trans g1
                   have l2 := (hw2.cell (p := ⟨wk.heap.size, 2, none⟩) hsw).trans g2
                   have l3 := (hw2.cell (p := ⟨wk.heap.size, 3, none⟩) hsw).trans g3
                   have l4 := (hw2.cell (p := ⟨wk.heap.size, 4, none⟩) hsw).trans g4
                   have HW2 := Lib.hid hw2
                   have HBL2 := Lib.hid hbl2
                   have HLEN2 := Lib.hid hlen2
                   clear hw2 hbl2 hlen2)
                | (go_at_call 23
                   refine (write_d (k1 : Int) k1 rfl b2 0 256 (dataL x.fill false) d p k F w2 ((HD2.out.turns (G := fun _ => False) (Turns.refl _ W2).drew (fun _ _ e => e)).turns (G := fun _ => False) (Turns.of_below HW2.out) (fun _ _ e => e)) HBW.out (by rw [HST.out]; omega) HLEN2.out (range_of_heap HBL2.out) (by omega)).mono ?_
                   rintro e W3 ⟨F3, rfl, hD3, hF3', hT3⟩
                   have hsw2 : wk.heap.size < w2.heap.size := by have := HW2.out.size; have : W2.drew.heap.size = W2.heap.size := rfl; omega
                   have hblk := hT3.block wk.heap.size hsw2 (fun e => by have := HFW.out _ e; omega)
                   have m0 := (World.cell?_of_block (a := ⟨wk.heap.size, 0, none⟩) hblk).trans l0
                   have m1 := (World.cell?_of_block (a := ⟨wk.heap.size, 1, none⟩) hblk).trans l1
                   have m2 := (World.cell?_of_block (a := ⟨wk.heap.size, 2, none⟩) hblk).trans l2
                   have m3 := (World.cell?_of_block (a := ⟨wk.heap.size, 3, none⟩) hblk).trans l3
                   have m4 := (World.cell?_of_block (a := ⟨wk.heap.size, 4, none⟩) hblk).trans l4
                   have HBLK := Lib.hid hblk
                   have HD3 := Lib.hid hD3
                   have HF3P := Lib.hid hF3'
                   have HT3 := Lib.hid hT3
                   clear hblk hD3 hF3' hT3))
            have hD3 := HD3.out
            have hw2s := HW2.out.size
            have hW2d : W2.drew.heap.size = W2.heap.size := rfl
            have hr3 : W3.rangeAt W1.heap.size 0 ((d.read k0).map byteV) := by
              have ha := range_turns (w := W2.drew) HR2.out (Turns.of_below (F := F) HW2.out) (by omega) (fun e => by have := HFB.out _ e; omega)
              exact range_turns ha HT3.out (by omega) (fun e => by have := HFB.out _ e; omega)
            have hB3 : Below w.heap.size w W3 := by
              have h1 : Below w.heap.size w w2 := HB2'.out.drew.trans (HW2.out.mono HB2'.out.size)
              exact h1.trans (HT3.out.below (B := w.heap.size) HF.out h1.size)
            have hF3 : ∀ q, F3 q → w.heap.size ≤ q := fun q hq => by
              rcases HF3P.out q hq with e | e
              · exact HF.out q e
              · have := HB2'.out.size; omega
            have hrd3 : (d.write k1 (dataL x.fill false)).read k0 = d.read k0 := by rw [Dk.read_write d HD.out.ok.1, if_neg ck]
            have hst3 : (d.write k1 (dataL x.fill false)).stable.length = 4 := by rw [Dk.size_write]; exact HST.out
            have hfu3 : (d.write k1 (dataL x.fill false)).fuse = none := by unfold Dk.Dk.write; rw [if_neg (by rw [HBW.out]; simp)]; show d.fuse.map _ = none; rw [HFU.out]; rfl
            clear HD3
            generalize d.write k1 (dataL x.fill false) = d3 at hD3 hrd3 hst3 hfu3
            have HCK := Lib.hid ck; clear ck
            clear g0 g1 g2 g3 g4 m0 m1 m2 m3 m4 l0 l1 l2 l3 l4 t1 t2 t3 hw2s hW2d
            have hD3 := hD3
            have hrd : d3.read k0 = d.read k0 := hrd3
            go_wp2_with fail
            refine (read_d (k0 : Int) k0 rfl d3 p (k + 1) F3 W3 hD3 (by rw [hst3]; omega) (by omega)).mono ?_
            rintro e w5 ⟨rfl, hl5, rfl⟩
            rw [hrd] at hl5 ⊢
            have hT := run_text (W3.alloc (.cells ((d.read k0).map byteV).toArray 5)) (W3.heap.size + 1) (some ⟨W3.heap.size, 0, none⟩) 256 256 (d.read k0) (by
              have := holds_of_range (B := W3.heap.size + 1) (bs := d.read k0) (range_new W3 ((d.read k0).map byteV) 5) (by omega)
              rwa [hl5] at this)
            have hr3' : (W3.alloc (.cells ((d.read k0).map byteV).toArray 5)).rangeAt W1.heap.size 0 ((d.read k0).map byteV) := World.rangeAt_alloc hr3 _
            have hT2 := run_text (W3.alloc (.cells ((d.read k0).map byteV).toArray 5)) (W1.heap.size + 1) (some ⟨W1.heap.size, 0, none⟩) 256 256 (d.read k0) (by
              have := holds_of_range (B := W1.heap.size + 1) hr3' (by omega)
              rwa [hl5] at this)
            have hD5 : DiskAt (W3.alloc (.cells ((d.read k0).map byteV).toArray 5)) p d3 (k + 1) F3 := hD3.turns ((Turns.refl (fun _ => False) W3).alloc _) (fun _ _ e => e)
            have hB5 : Below w.heap.size w (W3.alloc (.cells ((d.read k0).map byteV).toArray 5)) := hB3.alloc hB3.size _
            have HD5 := Lib.hid hD5; clear hD5 hD3
            have HB5 := Lib.hid hB5; clear hB5 hB3
            have HF3 := Lib.hid hF3; clear hF3
            have HS3 := Lib.hid hst3; clear hst3
            have HU3 := Lib.hid hfu3; clear hfu3
            clear hr3 hr3' hl5 hrd hrd3
            go_wp2
            go_roundw
            case rel => exact ⟨k + 1, d3, F3, by omega, by go_num, HD5.out, HS3.out, HU3.out, HF3.out, HB5.out⟩
            case measure => simp [intOf]; omega
    · obtain rfl : k = m := by omega
      have HB := Lib.hid hB; clear hB
      have HD := Lib.hid hD; clear hD
      have HST := Lib.hid hst; clear hst
      have HFU := Lib.hid hfu; clear hfu
      have HF := Lib.hid hF; clear hF
      go_wp2
      go_ret
      exact ⟨rfl, HB.out⟩

theorem walks : Walks 9 Try.f9 All := by
  intro H enc W base args ds p hval hA hsz _
  rw [Try.params9] at hA hval
  obtain ⟨v0, vs0, d0, ds0, p0, q0, hargs, rfl, rfl, h0, r0⟩ := trodAll_cons hA
  obtain ⟨v1, vs1, d1, ds1, p1, q1, rfl, rfl, rfl, h1, r1⟩ := trodAll_cons r0
  obtain ⟨rfl, rfl, rfl⟩ := trodAll_nil r1
  obtain rfl : args = #[v0, v1] := by cases args; simp_all
  obtain ⟨A, n, c, xs, rfl, hd, hn, hc⟩ := deeds_of (hval 0 _ v0 rfl rfl) h0
  obtain ⟨x, rfl, rfl, rfl, hx⟩ := open_int Try.underlying3 (hval 1 _ v1 rfl rfl) h1
  exact walk A n c xs x W hd hn hc

set_option maxRecDepth 100000 in
theorem proved : Rows.DiskBesideSaid :=
  OpenClaim.holds_of_wide 9 Try.f9 rfl rfl rfl rfl rfl rfl rfl ⟨rfl, rfl, rfl, rfl, rfl⟩ rfl rfl rfl rfl rfl (by kernel_rfl) Try.func9 (by kernel_rfl)
    (of_decide_eq_true (by kernel_rfl)) (by unfold Func.isWrapper; first | (rw [if_pos (by decide +kernel)]; kernel_rfl) | (rw [if_neg (by decide +kernel)]; exact ⟨rfl, rfl⟩))
    (fun os started H enc _ => lifted (s := Rows.diskBesideSpec) walks (by kernel_rfl) rfl rfl (fun H ds hl => by match ds, hl with | [d1, d2], _ => rfl) (by kernel_rfl) Try.func9 os started H enc
      (ChangeSpec.witness6 (enc := enc) (C := Try.checked) false ⟨#[], #[.slice none 0 0, .int .i64 0], []⟩ 8 (by kernel_rfl) (by kernel_rfl) (by kernel_rfl) (by kernel_rfl)))
#print axioms proved
end Go.Proofs.Ythhfebfabombjaa.DiskBeside
