/- What was written is read until it is written again, settling changes nothing that is read, and what was flushed stays through any crash: proved for every list of deeds, every last deed and every list of bits. -/
import Derived.Test.YthhfebfabombjaaDeeds
namespace Go.Proofs.Ythhfebfabombjaa.DiskKeeps
open Go.ChangeShapes Go.WideShapes Go.ChangeAt Go.RowKit
open Go.Proofs.Ythhfebfabombjaa.Mem Go.Proofs.Ythhfebfabombjaa.Disk Go.Proofs.Ythhfebfabombjaa.Lift
attribute [local go_sem ↓] Go.wp_at_zero Go.wp_at_succ

set_option maxRecDepth 100000 in
set_option maxHeartbeats 4000000 in
theorem walk (A : Option Addr) (n c : Nat) (xs : List DeedR) (y : DeedR) (Ab : Option Addr) (nb cb : Nat) (bits : List UInt8) (w : World) (h : Deeds w w.heap.size A n xs) (hc : n ≤ c) (hm : c ≤ maxLen) (hy : y.Is w w.heap.size) (hbi : Holds w w.heap.size Ab nb bits) (hnb : nb ≤ maxLen) :
    Calls Try.prog 5 #[.slice A n c, .agg y.cells, .slice Ab nb cb] w fun e w' => e = .returned (.bool true) ∧ Below w.heap.size w w' := by
  have hfew : fewN n ≤ 40 ∧ fewN n ≤ n := by unfold fewN; split <;> omega
  obtain ⟨ky, hky, handy⟩ := and_mask y.blk 3 2 rfl (by omega)
  have handY : Go.bits .and .i64 y.blk 3 = (ky : Int) := handy
  clear handy
  unfold DeedR.cells deedV
  go_enter Try.func5, Try.ntmps5
  go_wp2_with fail
  have hb0 : Below w.heap.size w (w.alloc (.cells #[.int .i64 y.op, .int .i64 y.blk, .int .u8 (y.fill.toNat : Int), .bool y.short, .slice y.A y.n y.c] 35)) := (Below.refl _ _).alloc (Nat.le_refl _) _
  have hbx : (w.alloc (.cells #[.int .i64 y.op, .int .i64 y.blk, .int .u8 (y.fill.toNat : Int), .bool y.short, .slice y.A y.n y.c] 35)).heap[w.heap.size]? = some (.cells #[.int .i64 y.op, .int .i64 y.blk, .int .u8 (y.fill.toNat : Int), .bool y.short, .slice y.A y.n y.c] 35 (0, 0)) := heap_alloc_new w _
  have hs0 : (w.alloc (.cells #[.int .i64 y.op, .int .i64 y.blk, .int .u8 (y.fill.toNat : Int), .bool y.short, .slice y.A y.n y.c] 35)).heap.size = w.heap.size + 1 := by simp
  generalize w.alloc (.cells #[.int .i64 y.op, .int .i64 y.blk, .int .u8 (y.fill.toNat : Int), .bool y.short, .slice y.A y.n y.c] 35) = W0 at hb0 hbx hs0 ⊢
  have HB0 := Lib.hid hb0; clear hb0
  have HBX := Lib.hid hbx; clear hbx
  have hs0' : w.heap.size < W0.heap.size := by omega
  have HS0 := Lib.hid hs0; clear hs0
  refine (alive_any _).mono ?_
  rintro e w1 ⟨rfl, hb1⟩
  go_wp2_with fail
  refine (new_d 4 4 0 _ rfl (by omega) (by omega)).mono ?_
  rintro e w2 ⟨p, F0, rfl, hD0, hF0, hb2⟩
  have hB2 := hb1.trans (hb2.mono hb1.size)
  have hF0' : ∀ q, F0 q → W0.heap.size ≤ q := fun q hq => Nat.le_trans hb1.size (hF0 q hq)
  have HD0 := Lib.hid hD0; clear hD0
  have HF0 := Lib.hid hF0'; clear hF0 hF0'
  have HB2 := Lib.hid hB2; clear hB2 hb1 hb2
  go_wp2_with fail
  refine (few_any A n c _ hc hm (fun hn => by obtain ⟨b, off, e, _⟩ := h.2.1 hn; exact ⟨b, off, e⟩)).mono ?_
  rintro e w' ⟨rfl, rfl⟩
  obtain ⟨m, hmd⟩ : ∃ m, fewN n = m := ⟨_, rfl⟩
  rw [hmd] at hfew ⊢
  have hds := h.take (show m ≤ n by omega)
  have HDS := Lib.hid hds; clear hds
  clear hmd
  have H := Lib.hid h; clear h
  have HY := Lib.hid hy; clear hy
  have HBI := Lib.hid hbi; clear hbi
  go_wp2
  go_loopw [10] (fun i wr => ∃ (k : Nat) (d : Dk.Dk) (F : Nat → Prop), k ≤ m ∧ i = .int .i64 k ∧ DiskAt wr p d k F ∧ d.stable.length = 4 ∧ d.fuse = none ∧ (∀ q, F q → W0.heap.size ≤ q) ∧ Below W0.heap.size W0 wr) (fun i _ => m - (intOf i).toNat)
  case atStart => exact ⟨0, _, F0, by omega, rfl, HD0.out, rfl, rfl, HF0.out, HB2.out⟩
  case round =>
    obtain ⟨k, d, F, hk, rfl, hD, hst, hfu, hF, hB⟩ := hrel
    obtain ⟨wk, hwk⟩ : ∃ wk, wk = wr := ⟨_, rfl⟩
    subst hwk
    by_cases hlt : k < m
    · have hBw : Below w.heap.size w wk := HB0.out.trans (hB.mono (by omega))
      have hds := HDS.out.below hBw
      have hxl : (xs.take m).length = m := hds.1
      obtain ⟨b, off, rfl, hbB, hcell⟩ := hds.2.1 (by omega)
      have hx := hds.2.2 _ (List.getElem_mem (show k < (xs.take m).length by omega))
      have hcell := hcell k (by omega)
      generalize (xs.take m)[k]'(by omega) = x at hx hcell
      have e0 : wk.cell? ⟨b, off + k * 5, none⟩ = some (.int .i64 x.op) := hcell 0 (by omega)
      have e1 : wk.cell? ⟨b, off + k * 5 + 1, none⟩ = some (.int .i64 x.blk) := hcell 1 (by omega)
      have e2 : wk.cell? ⟨b, off + k * 5 + 2, none⟩ = some (.int .u8 (x.fill.toNat : Int)) := hcell 2 (by omega)
      have e3 : wk.cell? ⟨b, off + k * 5 + 3, none⟩ = some (.bool x.short) := hcell 3 (by omega)
      have e4 : wk.cell? ⟨b, off + k * 5 + 4, none⟩ = some (.slice x.A x.n x.c) := hcell 4 (by omega)
      clear hcell
      obtain ⟨k1, hk1, hand1⟩ := and_mask x.blk 3 2 rfl (by omega)
      have handb : Go.bits .and .i64 x.blk 3 = (k1 : Int) := hand1
      clear hand1
      have hi1 : (0 : Int) ≤ (k : Int) := by omega
      have hi2 : (k : Int) < (m : Int) := by omega
      have HD := Lib.hid hD; clear hD
      have HST := Lib.hid hst; clear hst
      have HFU := Lib.hid hfu; clear hfu
      have HF := Lib.hid hF; clear hF
      have HB := Lib.hid hB; clear hB
      have HX := Lib.hid hx; clear hx
      have HXL := Lib.hid hxl; clear hxl
      clear hds hBw
      have ht1 : Turns (fun _ => False) wk (wk.alloc (.cells #[.int .i64 x.op, .int .i64 (k1 : Int), .int .u8 (x.fill.toNat : Int), .bool x.short, .slice x.A x.n x.c] 35)) := (Turns.refl _ wk).alloc _
      have hbx1 : (wk.alloc (.cells #[.int .i64 x.op, .int .i64 (k1 : Int), .int .u8 (x.fill.toNat : Int), .bool x.short, .slice x.A x.n x.c] 35)).heap[wk.heap.size]? = some (.cells #[.int .i64 x.op, .int .i64 (k1 : Int), .int .u8 (x.fill.toNat : Int), .bool x.short, .slice x.A x.n x.c] 35 (0, 0)) := heap_alloc_new wk _
      have hs1 : wk.heap.size < (wk.alloc (.cells #[.int .i64 x.op, .int .i64 (k1 : Int), .int .u8 (x.fill.toNat : Int), .bool x.short, .slice x.A x.n x.c] 35)).heap.size := by simp
      have HT1 := Lib.hid ht1; clear ht1
      have HBX1 := Lib.hid hbx1; clear hbx1
      have HS1 := Lib.hid hs1; clear hs1
      go_wp2_with fail
      generalize wk.alloc (.cells #[.int .i64 x.op, .int .i64 (k1 : Int), .int .u8 (x.fill.toNat : Int), .bool x.short, .slice x.A x.n x.c] 35) = W2 at HT1 HBX1 HS1 ⊢
      clear e0 e1 e2 e3 e4
      have hsw : wk.heap.size < W2.heap.size := HS1.out
      have g0 : W2.cell? ⟨wk.heap.size, 0, none⟩ = some (.int .i64 x.op) := cell_of_row _ _ _ _ _ _ HBX1.out
      have g1 : W2.cell? ⟨wk.heap.size, 1, none⟩ = some (.int .i64 (k1 : Int)) := cell_of_row _ _ _ _ _ _ HBX1.out
      have g2 : W2.cell? ⟨wk.heap.size, 2, none⟩ = some (.int .u8 (x.fill.toNat : Int)) := cell_of_row _ _ _ _ _ _ HBX1.out
      have g3 : W2.cell? ⟨wk.heap.size, 3, none⟩ = some (.bool x.short) := cell_of_row _ _ _ _ _ _ HBX1.out
      have g4 : W2.cell? ⟨wk.heap.size, 4, none⟩ = some (.slice x.A x.n x.c) := cell_of_row _ _ _ _ _ _ HBX1.out
      have hblow : d.blown = false := by unfold Dk.Dk.blown; rw [HFU.out]; rfl
      have HBW := Lib.hid hblow; clear hblow
      have HD2 := Lib.hid (HD.out.turns HT1.out (fun _ _ e => e))
      have HFW : Hid (∀ q, F q → q < wk.heap.size) := Lib.hid HD.out.lt
      have HB2' : Hid (Below W0.heap.size W0 W2) := Lib.hid (HB.out.trans (HT1.out.below (B := W0.heap.size) (fun _ e => e.elim) HB.out.size))
      go_region_held3 (fun w' => w'.cell? ⟨wk.heap.size, 0, none⟩ = some (.int .i64 x.op) ∧ w'.cell? ⟨wk.heap.size, 1, none⟩ = some (.int .i64 (k1 : Int)) ∧ w'.cell? ⟨wk.heap.size, 2, none⟩ = some (.int .u8 (x.fill.toNat : Int)) ∧ w'.cell? ⟨wk.heap.size, 3, none⟩ = some (.bool x.short) ∧ w'.cell? ⟨wk.heap.size, 4, none⟩ = some (.slice x.A x.n x.c)) (go_keep)
         (first
           | (go_at_call 24
              refine (data_any x.op (k1 : Int) x.fill x.short x.A x.n x.c _).mono ?_
              rintro e w2 ⟨b2, rfl, hb2, hbl2, hw2⟩
              have l0 := (hw2.cell (p := ⟨wk.heap.size, 0, none⟩) hsw).trans g0
              have l1 := (hw2.cell (p := ⟨wk.heap.size, 1, none⟩) hsw).trans g1
              have l2 := (hw2.cell (p := ⟨wk.heap.size, 2, none⟩) hsw).trans g2
              have l3 := (hw2.cell (p := ⟨wk.heap.size, 3, none⟩) hsw).trans g3
              have l4 := (hw2.cell (p := ⟨wk.heap.size, 4, none⟩) hsw).trans g4
              have HW2 := Lib.hid hw2
              have HBL2 := Lib.hid hbl2
              clear hw2 hbl2)
           | (go_at_call 23
              refine (write_data_d (k1 : Int) k1 rfl b2 x.fill x.short d p k F w2 ((HD2.out.turns (G := fun _ => False) (Turns.refl _ W2).drew (fun _ _ e => e)).turns (G := fun _ => False) (Turns.of_below HW2.out) (fun _ _ e => e)) HBW.out (by rw [HST.out]; omega) HBL2.out (by omega)).mono ?_
              rintro e W3 ⟨F3, rfl, hD3, hF3', hT3⟩
              have hsw2 : wk.heap.size < w2.heap.size := by have := HW2.out.size; have : W2.drew.heap.size = W2.heap.size := rfl; omega
              have hblk := hT3.block wk.heap.size hsw2 (fun e => by have := HFW.out _ e; omega)
              have m0 := (World.cell?_of_block (a := ⟨wk.heap.size, 0, none⟩) hblk).trans l0
              have m1 := (World.cell?_of_block (a := ⟨wk.heap.size, 1, none⟩) hblk).trans l1
              have m2 := (World.cell?_of_block (a := ⟨wk.heap.size, 2, none⟩) hblk).trans l2
              have m3 := (World.cell?_of_block (a := ⟨wk.heap.size, 3, none⟩) hblk).trans l3
              have m4 := (World.cell?_of_block (a := ⟨wk.heap.size, 4, none⟩) hblk).trans l4
              have HBLK := Lib.hid hblk
              have HD3 := Lib.hid hD3
              have HF3P := Lib.hid hF3'
              have HT3 := Lib.hid hT3
              clear hblk hD3 hF3' hT3))
      have hD3 := HD3.out
      have hw2s := HW2.out.size
      have hW2d : W2.drew.heap.size = W2.heap.size := rfl
      have hB3 : Below W0.heap.size W0 W3 := by
        have h1 : Below W0.heap.size W0 w2 := HB2'.out.drew.trans (HW2.out.mono HB2'.out.size)
        exact h1.trans (HT3.out.below (B := W0.heap.size) HF.out h1.size)
      have hF3 : ∀ q, F3 q → W0.heap.size ≤ q := fun q hq => by
        rcases HF3P.out q hq with e | e
        · exact HF.out q e
        · have := HB2'.out.size; omega
      have HB3 := Lib.hid hB3; clear hB3
      have HF3 := Lib.hid hF3; clear hF3
      have hst3 := (put_size d k1 x.fill x.short).trans HST.out
      have hfu3 := put_free d k1 x.fill x.short HFU.out
      have HS3 := Lib.hid hst3; clear hst3
      have HU3 := Lib.hid hfu3; clear hfu3
      clear hD3 hw2s hW2d g0 g1 g2 g3 g4 m0 m1 m2 m3 m4 l0 l1 l2 l3 l4
      go_wp2
      go_roundw
      case rel => exact ⟨k + 1, _, F3, by omega, by go_num, HD3.out, HS3.out, HU3.out, HF3.out, HB3.out⟩
      case measure => simp [intOf]; omega
    · obtain rfl : k = m := by omega
      have hbxk : wk.heap[w.heap.size]? = some (.cells #[.int .i64 y.op, .int .i64 y.blk, .int .u8 (y.fill.toNat : Int), .bool y.short, .slice y.A y.n y.c] 35 (0, 0)) := (hB.block _ hs0').trans HBX.out
      have y3 : wk.cell? ⟨w.heap.size, 3, none⟩ = some (.bool y.short) := cell_of_row _ _ _ _ _ _ hbxk
      have z3 : wk.frozen? ⟨w.heap.size, 3, none⟩ = false := frozen_of_row _ _ _ _ _ hbxk
      have y0 : wk.cell? ⟨w.heap.size, 0, none⟩ = some (.int .i64 y.op) := cell_of_row _ _ _ _ _ _ hbxk
      have y1 : wk.cell? ⟨w.heap.size, 1, none⟩ = some (.int .i64 y.blk) := cell_of_row _ _ _ _ _ _ hbxk
      have HBXK := Lib.hid hbxk; clear hbxk
      have HB := Lib.hid hB; clear hB
      have HD := Lib.hid hD; clear hD
      have HST := Lib.hid hst; clear hst
      have HFU := Lib.hid hfu; clear hfu
      have HF := Lib.hid hF; clear hF
      go_wp2
      have hblow : d.blown = false := by unfold Dk.Dk.blown; rw [HFU.out]; rfl
      have HBW := Lib.hid hblow; clear hblow
      have htc : Turns (fun q => q = w.heap.size) wk (wk.setCell ⟨w.heap.size, 3, none⟩ (.bool false)) := turns_cell wk w.heap.size 3 _
      have hbx2 : (wk.setCell ⟨w.heap.size, 3, none⟩ (.bool false)).heap[w.heap.size]? = some (.cells #[.int .i64 y.op, .int .i64 y.blk, .int .u8 (y.fill.toNat : Int), .bool false, .slice y.A y.n y.c] 35 (0, 0)) := by
        rw [heap_setCell_same _ _ _ _ _ _ HBXK.out]; rfl
      have hBw2 : Below w.heap.size w (wk.setCell ⟨w.heap.size, 3, none⟩ (.bool false)) := (HB0.out.trans (HB.out.mono (by omega))).trans (htc.below (fun q e => by omega) (by have := HB.out.size; omega))
      have hsw0 : W0.heap.size ≤ (wk.setCell ⟨w.heap.size, 3, none⟩ (.bool false)).heap.size := by have := HB.out.size; simpa [World.setCell] using this
      have hD2 := HD.out.turns htc (fun q hq e => by have := HF.out q hq; omega)
      generalize wk.setCell ⟨w.heap.size, 3, none⟩ (.bool false) = W2 at htc hbx2 hBw2 hsw0 hD2 ⊢
      have g0 : W2.cell? ⟨w.heap.size, 0, none⟩ = some (.int .i64 y.op) := cell_of_row _ _ _ _ _ _ hbx2
      have g1 : W2.cell? ⟨w.heap.size, 1, none⟩ = some (.int .i64 y.blk) := cell_of_row _ _ _ _ _ _ hbx2
      have g2 : W2.cell? ⟨w.heap.size, 2, none⟩ = some (.int .u8 (y.fill.toNat : Int)) := cell_of_row _ _ _ _ _ _ hbx2
      have g3 : W2.cell? ⟨w.heap.size, 3, none⟩ = some (.bool false) := cell_of_row _ _ _ _ _ _ hbx2
      have g4 : W2.cell? ⟨w.heap.size, 4, none⟩ = some (.slice y.A y.n y.c) := cell_of_row _ _ _ _ _ _ hbx2
      have hsw : w.heap.size < W2.heap.size := by omega
      have HD2 := Lib.hid hD2; clear hD2
      have HBX2 := Lib.hid hbx2; clear hbx2
      have HBW2 := Lib.hid hBw2; clear hBw2
      have HSW0 := Lib.hid hsw0; clear hsw0
      have HFW : Hid (∀ q, F q → q < w.heap.size ∨ W0.heap.size ≤ q) := Lib.hid (fun q hq => .inr (HF.out q hq))
      clear htc y0 y1 y3 z3
      go_region_held3 (fun w' => w'.cell? ⟨w.heap.size, 0, none⟩ = some (.int .i64 y.op) ∧ w'.cell? ⟨w.heap.size, 1, none⟩ = some (.int .i64 y.blk) ∧ w'.cell? ⟨w.heap.size, 2, none⟩ = some (.int .u8 (y.fill.toNat : Int)) ∧ w'.cell? ⟨w.heap.size, 3, none⟩ = some (.bool false) ∧ w'.cell? ⟨w.heap.size, 4, none⟩ = some (.slice y.A y.n y.c)) (go_keep)
         (first
           | (go_at_call 24
              refine (data_any y.op y.blk y.fill false y.A y.n y.c _).mono ?_
              rintro e w2 ⟨b2, rfl, hb2, hbl2, hw2⟩
              have l0 := (hw2.cell (p := ⟨w.heap.size, 0, none⟩) hsw).trans g0
              have l1 := (hw2.cell (p := ⟨w.heap.size, 1, none⟩) hsw).trans g1
              have l2 := (hw2.cell (p := ⟨w.heap.size, 2, none⟩) hsw).trans g2
              have l3 := (hw2.cell (p := ⟨w.heap.size, 3, none⟩) hsw).trans g3
              have l4 := (hw2.cell (p := ⟨w.heap.size, 4, none⟩) hsw).trans g4
              have HW2 := Lib.hid hw2
              have HBL2 := Lib.hid hbl2
              clear hw2 hbl2)
           | (go_at_call 23
              refine (write_data_d (ky : Int) ky rfl b2 y.fill false d p k F w2 ((HD2.out.turns (G := fun _ => False) (Turns.refl _ W2).drew (fun _ _ e => e)).turns (G := fun _ => False) (Turns.of_below HW2.out) (fun _ _ e => e)) HBW.out (by rw [HST.out]; omega) HBL2.out (by omega)).mono ?_
              rintro e W3 ⟨F3, rfl, hD3, hF3', hT3⟩
              have hsw2 : w.heap.size < w2.heap.size := by have := HW2.out.size; have : W2.drew.heap.size = W2.heap.size := rfl; omega
              have hblk := hT3.block w.heap.size hsw2 (fun e => by have := HFW.out _ e; omega)
              have m0 := (World.cell?_of_block (a := ⟨w.heap.size, 0, none⟩) hblk).trans l0
              have m1 := (World.cell?_of_block (a := ⟨w.heap.size, 1, none⟩) hblk).trans l1
              have m2 := (World.cell?_of_block (a := ⟨w.heap.size, 2, none⟩) hblk).trans l2
              have m3 := (World.cell?_of_block (a := ⟨w.heap.size, 3, none⟩) hblk).trans l3
              have m4 := (World.cell?_of_block (a := ⟨w.heap.size, 4, none⟩) hblk).trans l4
              have HBLK := Lib.hid hblk
              have HD3 := Lib.hid hD3
              have HF3P := Lib.hid hF3'
              have HT3 := Lib.hid hT3
              clear hblk hD3 hF3' hT3))
      have hp0 : putR false = 0 := rfl
      have hd1 : put d ky y.fill false = d.write ky (dataL y.fill false) := rfl
      rw [hd1] at HD3
      obtain ⟨d1, hd1d⟩ : ∃ d1, d1 = d.write ky (dataL y.fill false) := ⟨_, rfl⟩
      rw [← hd1d] at HD3
      have hok1 : d1.Ok := HD3.out.ok.1
      have hread1 : d1.read ky = dataL y.fill false := by rw [hd1d, Dk.read_write d HD.out.ok.1, if_pos rfl]
      have hst1 : d1.stable.length = 4 := by rw [hd1d, Dk.size_write]; exact HST.out
      have hfu1 : d1.fuse = none := by have := put_free d ky y.fill false HFU.out; rw [hd1d]; exact this
      have hw2s := HW2.out.size
      have hW2d : W2.drew.heap.size = W2.heap.size := rfl
      have hB3 : Below W0.heap.size W2 W3 := by
        have h1 : Below W0.heap.size W2 w2 := (Below.refl _ _).drew.trans (HW2.out.mono HSW0.out)
        exact h1.trans (HT3.out.below (B := W0.heap.size) HF.out (by have := HSW0.out; omega))
      have hF3 : ∀ q, F3 q → W0.heap.size ≤ q := fun q hq => by
        rcases HF3P.out q hq with e | e
        · exact HF.out q e
        · have := HSW0.out; omega
      have HB3 := Lib.hid hB3; clear hB3
      have HF3 := Lib.hid hF3; clear hF3
      have HRD1 := Lib.hid hread1; clear hread1
      have HST1 := Lib.hid hst1; clear hst1
      have HFU1 := Lib.hid hfu1; clear hfu1
      have HOK1 := Lib.hid hok1; clear hok1
      clear hd1 hd1d hw2s hW2d g0 g1 g2 g3 g4 m0 m1 m2 m3 m4 l0 l1 l2 l3 l4
      go_wp2_with fail
      have hi4 := image_d d1 p (k + 1) F3 W3 HD3.out (by omega)
      obtain ⟨im, himd⟩ : ∃ im, im = d1.image.flatten := ⟨_, rfl⟩
      rw [← himd] at hi4
      have HIMD := Lib.hid himd; clear himd
      refine hi4.mono ?_
      rintro e W4 ⟨A4, c4, rfl, ho4, hb4⟩
      have hT4 := run_text W4 _ _ _ c4 _ (owned_holds ho4)
      have HD4 := Lib.hid (HD3.out.turns (G := fun _ => False) (Turns.of_below hb4) (fun _ _ e => e))
      have HB4 : Hid (Below W0.heap.size W2 W4) := Lib.hid (HB3.out.trans (hb4.mono (by have := HB3.out.size; have := HSW0.out; omega)))
      clear ho4 hb4 hi4
      go_wp2_with fail
      have hBI4 : ∀ w', Turns F3 W4 w' → Holds w' w.heap.size Ab nb bits := fun w' ht => HBI.out.below ((HBW2.out.trans (HB4.out.mono (by omega))).trans (ht.below (B := w.heap.size) (fun q hq => by have := HF3.out q hq; omega) (by have := HB4.out.size; omega)))
      refine (settle_d Ab nb cb w.heap.size bits d1 p (k + 1) F3 W4 HD4.out (by omega) hBI4 hnb).mono ?_
      rintro e W5 ⟨F5, rfl, hD5, hF5', hT5⟩
      clear hBI4 hT4
      have HB5 : Hid (Below W0.heap.size W2 W5) := Lib.hid (HB4.out.trans (hT5.below HF3.out (by have := HB4.out.size; have := HSW0.out; omega)))
      have HF5 : Hid (∀ q, F5 q → W0.heap.size ≤ q) := Lib.hid (fun q hq => by
        rcases hF5' q hq with e | e
        · exact HF3.out q e
        · have := HB4.out.size; have := HSW0.out; omega)
      have HD5 := Lib.hid hD5; clear hD5 hF5' hT5
      have him : (d1.settle bits).image = d1.image := Dk.image_settle d1 HOK1.out bits
      go_wp2_with fail
      have hi6 := image_d (d1.settle bits) p (k + 1) F5 W5 HD5.out (by omega)
      rw [him, ← HIMD.out] at hi6
      refine hi6.mono ?_
      rintro e W6 ⟨A6, c6, rfl, ho6, hb6⟩
      have hT6 := run_text W6 _ _ _ c6 _ (owned_holds ho6)
      have HD6 := Lib.hid (HD5.out.turns (G := fun _ => False) (Turns.of_below hb6) (fun _ _ e => e))
      have HB6 : Hid (Below W0.heap.size W2 W6) := Lib.hid (HB5.out.trans (hb6.mono (by have := HB5.out.size; have := HSW0.out; omega)))
      have HIM := Lib.hid him; clear him
      clear ho6 hb6 hi6
      go_wp2_with fail
      clear hT6
      refine (flush_d (d1.settle bits) p (k + 1) F5 W6 HD6.out (by omega)).mono ?_
      rintro e W7 ⟨F7, rfl, hD7, hF7', hT7⟩
      have HB7 : Hid (Below W0.heap.size W2 W7) := Lib.hid (HB6.out.trans (hT7.below HF5.out (by have := HB6.out.size; have := HSW0.out; omega)))
      have HF7 : Hid (∀ q, F7 q → W0.heap.size ≤ q) := Lib.hid (fun q hq => by
        rcases hF7' q hq with e | e
        · exact HF5.out q e
        · have := HB6.out.size; have := HSW0.out; omega)
      have HD7 := Lib.hid hD7; clear hD7 hF7' hT7
      go_wp2_with fail
      have hBI7 : ∀ w', Turns F7 W7 w' → Holds w' w.heap.size Ab nb bits := fun w' ht => HBI.out.below ((HBW2.out.trans (HB7.out.mono (by omega))).trans (ht.below (B := w.heap.size) (fun q hq => by have := HF7.out q hq; omega) (by have := HB7.out.size; omega)))
      refine (crash_d Ab nb cb w.heap.size bits (d1.settle bits).flush p (k + 1) F7 W7 HD7.out (by omega) hBI7 hnb).mono ?_
      rintro e W8 ⟨F8, rfl, hD8, hF8', hT8⟩
      clear hBI7
      have HB8 : Hid (Below W0.heap.size W2 W8) := Lib.hid (HB7.out.trans (hT8.below HF7.out (by have := HB7.out.size; have := HSW0.out; omega)))
      have HF8 : Hid (∀ q, F8 q → W0.heap.size ≤ q) := Lib.hid (fun q hq => by
        rcases hF8' q hq with e | e
        · exact HF7.out q e
        · have := HB7.out.size; have := HSW0.out; omega)
      have HD8 := Lib.hid hD8; clear hD8 hF8' hT8
      have hbx8 := (HB8.out.block w.heap.size (by omega)).trans HBX2.out
      have y0 : W8.cell? ⟨w.heap.size, 0, none⟩ = some (.int .i64 y.op) := cell_of_row _ _ _ _ _ _ hbx8
      have y1 : W8.cell? ⟨w.heap.size, 1, none⟩ = some (.int .i64 y.blk) := cell_of_row _ _ _ _ _ _ hbx8
      have HBX8 := Lib.hid hbx8; clear hbx8
      go_wp2_with fail
      obtain ⟨d4, hd4⟩ : ∃ d4, d4 = (d1.settle bits).flush.crash bits := ⟨_, rfl⟩
      rw [← hd4] at HD8
      have hb2 : (d1.settle bits).blown = false := by
        unfold Dk.Dk.settle Dk.Dk.blown
        rw [HFU1.out]
        split
        · rw [HFU1.out]; rfl
        · rfl
      have hok2 := Dk.settle_ok d1 HOK1.out bits
      have hp3 := Dk.pend_flush (d1.settle bits) hb2
      have hs4 : d4.stable = d1.image := by
        rw [hd4, Dk.crash_calm _ hp3, Dk.stable_flush _ hok2 hb2, HIM.out]
      have hp4 : d4.pend = [] := by rw [hd4]; rfl
      have hg4 : d4.ghosts = [] := by rw [hd4]; rfl
      have hi4 : d4.image = d1.image := by rw [Dk.image_calm d4 hp4 hg4, hs4]
      have hr4 : d4.read ky = dataL y.fill false := by
        unfold Dk.Dk.read
        rw [hp4, hg4, Dk.last_nil, Dk.last_nil, hs4, ← HRD1.out]
        have hlt4 : ky < d1.stable.length := by rw [HST1.out]; omega
        rw [List.getD_eq_getElem?_getD]
        simp only [Dk.Dk.image, List.getElem?_map, List.getElem?_range hlt4, Option.map_some, Option.getD_some]
      have hst4 : d4.stable.length = 4 := by rw [hd4, Dk.size_crash, Dk.size_flush, Dk.size_settle]; exact HST1.out
      have hpl4 : ((d4.pend.length : Nat) : Int) = 0 := by rw [hp4]; rfl
      obtain ⟨dat, hdat⟩ : ∃ dat, dat = dataL y.fill false := ⟨_, rfl⟩
      have hrd := read_d (ky : Int) ky rfl d4 p 0 F8 W8 HD8.out (by rw [hst4]; omega) (by omega)
      rw [hr4, ← hdat] at hrd
      have hi9 : d4.image.flatten = im := by rw [hi4, HIMD.out]
      have hs9 : d4.stable.flatten = im := by rw [hs4, HIMD.out]
      have HDAT := Lib.hid hdat; clear hdat
      have HI9 := Lib.hid hi9; clear hi9
      have HS9 := Lib.hid hs9; clear hs9
      have HPL := Lib.hid hpl4; clear hpl4
      clear hd4 hb2 hok2 hp3 hs4 hp4 hg4 hi4 hr4 hst4
      refine hrd.mono ?_
      rintro e W9 ⟨rfl, hl9, rfl⟩
      clear hrd
      have hr9 := range_new W8 (dat.map byteV) 5
      have ht9 : Turns (fun _ => False) W8 (W8.alloc (.cells (dat.map byteV).toArray 5)) := (Turns.refl _ W8).alloc _
      have hs9 : W8.heap.size < (W8.alloc (.cells (dat.map byteV).toArray 5)).heap.size := by simp
      generalize W8.alloc (.cells (dat.map byteV).toArray 5) = W9 at hr9 ht9 hs9 ⊢
      have hB9 := HB8.out.trans (ht9.below (B := W0.heap.size) (fun _ e => e.elim) (by have := HB8.out.size; have := HSW0.out; omega))
      have hbx9 := (ht9.block w.heap.size (by have := HB8.out.size; omega) (fun e => e)).trans HBX8.out
      have g0 : W9.cell? ⟨w.heap.size, 0, none⟩ = some (.int .i64 y.op) := cell_of_row _ _ _ _ _ _ hbx9
      have g1 : W9.cell? ⟨w.heap.size, 1, none⟩ = some (.int .i64 y.blk) := cell_of_row _ _ _ _ _ _ hbx9
      have g2 : W9.cell? ⟨w.heap.size, 2, none⟩ = some (.int .u8 (y.fill.toNat : Int)) := cell_of_row _ _ _ _ _ _ hbx9
      have g3 : W9.cell? ⟨w.heap.size, 3, none⟩ = some (.bool false) := cell_of_row _ _ _ _ _ _ hbx9
      have g4 : W9.cell? ⟨w.heap.size, 4, none⟩ = some (.slice y.A y.n y.c) := cell_of_row _ _ _ _ _ _ hbx9
      have hsw9 : w.heap.size < W9.heap.size := by have := HB8.out.size; omega
      have tx : ∀ W, W.rangeAt W8.heap.size 0 (dat.map byteV) → (convert 33 9 (.slice (some ⟨W8.heap.size, 0, none⟩) 256 256)).run Try.prog W = .ok (.string ⟨dat.toArray⟩) W := fun W hr => by
        have := run_text W (W8.heap.size + 1) (some ⟨W8.heap.size, 0, none⟩) 256 256 dat (by
          have := holds_of_range (B := W8.heap.size + 1) hr (by omega)
          rwa [hl9] at this)
        exact this
      have TX := Lib.hid tx; clear tx
      have t9 := TX.out W9.drew hr9
      have HD9 : Hid (DiskAt W9.drew p d4 0 F8) := Lib.hid ((HD8.out.turns ht9 (fun _ _ e => e)).turns (G := fun _ => False) (Turns.refl _ W9).drew (fun _ _ e => e))
      have HB9 : Hid (Below W0.heap.size W2 W9.drew) := Lib.hid hB9.drew
      have HR9 := Lib.hid hr9; clear hr9
      have HBX9 := Lib.hid hbx9; clear hbx9
      have HL9 := Lib.hid hl9; clear hl9
      clear hB9 ht9 y0 y1
      go_wp2_with fail
      go_region_with
        (first
          | (go_at_call 24
             refine (data_long y.op y.blk y.fill y.A y.n y.c _).mono ?_
             rintro e wA ⟨bA, rfl, hlA, hbA, hblA, hwA⟩
             rw [← HDAT.out] at hlA hblA
             have l0 := (hwA.cell (p := ⟨w.heap.size, 0, none⟩) hsw9).trans g0
             have l1 := (hwA.cell (p := ⟨w.heap.size, 1, none⟩) hsw9).trans g1
             have l2 := (hwA.cell (p := ⟨w.heap.size, 2, none⟩) hsw9).trans g2
             have l3 := (hwA.cell (p := ⟨w.heap.size, 3, none⟩) hsw9).trans g3
             have l4 := (hwA.cell (p := ⟨w.heap.size, 4, none⟩) hsw9).trans g4
             have hrA := range_turns (w := W9.drew) HR9.out (Turns.of_below (F := fun _ => False) hwA) hs9 (fun e => e)
             have tA := TX.out wA hrA
             have tA2 := run_text wA (bA + 1) (some ⟨bA, 0, none⟩) 256 256 dat (by
               have := holds_of_range (B := bA + 1) (range_of_heap hblA) (by omega)
               rwa [HL9.out] at this)
             have HDA := Lib.hid (HD9.out.turns (G := fun _ => False) (Turns.of_below hwA) (fun _ _ e => e))
             have HBA : Hid (Below W0.heap.size W2 wA) := Lib.hid (HB9.out.trans (hwA.mono (by have := HB9.out.size; have := HSW0.out; omega)))
             have HRA := Lib.hid hrA
             have HSA : Hid (W8.heap.size < wA.heap.size) := Lib.hid (by have := hwA.size; have e9 : W9.drew.heap.size = W9.heap.size := rfl; omega)
             have HWA := Lib.hid hwA
             clear hrA hwA hblA hbA hlA)
          | (go_at_call 20
             have hiB := image_d d4 p 0 F8 wA HDA.out (by omega)
             rw [HI9.out] at hiB
             refine hiB.mono ?_
             rintro e wB ⟨AB, cB, rfl, hoB, hwB⟩
             clear hiB
             have hsA : w.heap.size < wA.heap.size := by have := HBA.out.size; omega
             have m0 := (hwB.cell (p := ⟨w.heap.size, 0, none⟩) hsA).trans l0
             have m1 := (hwB.cell (p := ⟨w.heap.size, 1, none⟩) hsA).trans l1
             have m2 := (hwB.cell (p := ⟨w.heap.size, 2, none⟩) hsA).trans l2
             have m3 := (hwB.cell (p := ⟨w.heap.size, 3, none⟩) hsA).trans l3
             have m4 := (hwB.cell (p := ⟨w.heap.size, 4, none⟩) hsA).trans l4
             have hrB := range_turns HRA.out (Turns.of_below (F := fun _ => False) hwB) HSA.out (fun e => e)
             have tB := TX.out wB hrB
             have tB2 := run_text wB _ _ _ cB _ (owned_holds hoB)
             have HDB := Lib.hid (HDA.out.turns (G := fun _ => False) (Turns.of_below hwB) (fun _ _ e => e))
             have HBB : Hid (Below W0.heap.size W2 wB) := Lib.hid (HBA.out.trans (hwB.mono (by have := HBA.out.size; have := HSW0.out; omega)))
             have HRB := Lib.hid hrB
             have HSB : Hid (W8.heap.size < wB.heap.size) := Lib.hid (by have := hwB.size; have := HSA.out; omega)
             clear hrB hwB hoB hsA)
          | (go_at_call 22
             have hiC := stable_d d4 p 0 F8 wB HDB.out
             rw [HS9.out] at hiC
             refine hiC.mono ?_
             rintro e wC ⟨AC, cC, rfl, hoC, hwC⟩
             clear hiC
             have hsB : w.heap.size < wB.heap.size := by have := HBB.out.size; omega
             have n0 := (hwC.cell (p := ⟨w.heap.size, 0, none⟩) hsB).trans m0
             have n1 := (hwC.cell (p := ⟨w.heap.size, 1, none⟩) hsB).trans m1
             have n2 := (hwC.cell (p := ⟨w.heap.size, 2, none⟩) hsB).trans m2
             have n3 := (hwC.cell (p := ⟨w.heap.size, 3, none⟩) hsB).trans m3
             have n4 := (hwC.cell (p := ⟨w.heap.size, 4, none⟩) hsB).trans m4
             have hrC := range_turns HRB.out (Turns.of_below (F := fun _ => False) hwC) HSB.out (fun e => e)
             have tC := TX.out wC hrC
             have tC2 := run_text wC _ _ _ cC _ (owned_holds hoC)
             have HDC := Lib.hid (HDB.out.turns (G := fun _ => False) (Turns.of_below hwC) (fun _ _ e => e))
             have HBC : Hid (Below W0.heap.size W2 wC) := Lib.hid (HBB.out.trans (hwC.mono (by have := HBB.out.size; have := HSW0.out; omega)))
             clear hrC hwC hoC hsB)
          | (go_at_call 16
             have hiD := pending_d d4 p 0 F8 wC HDC.out
             rw [HPL.out] at hiD
             refine hiD.mono ?_
             rintro e wD ⟨rfl, rfl⟩
             clear hiD))
      all_goals
        go_wp2
        go_ret
        exact ⟨rfl, HBW2.out.trans (HBC.out.mono (by omega))⟩

theorem walks : Walks 5 Try.f5 All := by
  intro H enc W base args ds p hval hA hsz _
  rw [Try.params5] at hA hval
  obtain ⟨v0, vs0, d0, ds0, p0, q0, hargs, rfl, rfl, h0, r0⟩ := trodAll_cons hA
  obtain ⟨v1, vs1, d1, ds1, p1, q1, rfl, rfl, rfl, h1, r1⟩ := trodAll_cons r0
  obtain ⟨v2, vs2, d2, ds2, p2, q2, rfl, rfl, rfl, h2, r2⟩ := trodAll_cons r1
  obtain ⟨rfl, rfl, rfl⟩ := trodAll_nil r2
  obtain rfl : args = #[v0, v1, v2] := by cases args; simp_all
  obtain ⟨A, n, c, xs, rfl, hd, hn, hc⟩ := deeds_of (hval 0 _ v0 rfl rfl) h0
  obtain ⟨cs, op, blk, fill, short, A1, n1, c1, bs1, rfl, hy⟩ := deed_by_value (hval 1 _ v1 rfl rfl) h1
  obtain ⟨A2, n2, c2, rfl⟩ := okWide_slice Try.underlying33 (hval 2 _ v2 rfl rfl)
  obtain ⟨fuel2, hf2⟩ := h2
  obtain ⟨A3, n3, c3, bs, hv, hb, hn2, hc2⟩ := bytes_part hf2
  injection hv with e1 e2 e3
  subst e1 e2 e3
  have hcs := hy.cells
  subst hcs
  exact walk A n c xs ⟨op, blk, fill, short, A1, n1, c1, bs1⟩ A2 n2 c2 bs W hd hn hc hy hb (by omega)

set_option maxRecDepth 100000 in
theorem proved : Rows.DiskKeepsSaid :=
  OpenClaim.holds_of_wide 5 Try.f5 rfl rfl rfl rfl rfl rfl rfl ⟨rfl, rfl, rfl, rfl, rfl⟩ rfl rfl rfl rfl rfl (by kernel_rfl) Try.func5 (by kernel_rfl)
    (of_decide_eq_true (by kernel_rfl)) (by unfold Func.isWrapper; first | (rw [if_pos (by decide +kernel)]; kernel_rfl) | (rw [if_neg (by decide +kernel)]; exact ⟨rfl, rfl⟩))
    (fun os started H enc _ => lifted (s := Rows.diskKeepsSpec) walks (by kernel_rfl) rfl rfl (fun H ds hl => by match ds, hl with | [d1, d2, d3], _ => rfl) (by kernel_rfl) Try.func5 os started H enc
      (ChangeSpec.witness6 (enc := enc) (C := Try.checked) false ⟨#[], #[.slice none 0 0, .agg #[.int .i64 0, .int .i64 0, .int .u8 0, .bool false, .slice none 0 0], .slice none 0 0], []⟩ 8 (by kernel_rfl) (by kernel_rfl) (by kernel_rfl) (by kernel_rfl)))
#print axioms proved
end Go.Proofs.Ythhfebfabombjaa.DiskKeeps
