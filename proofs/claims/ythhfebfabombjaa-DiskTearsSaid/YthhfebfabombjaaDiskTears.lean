/- Behind a crash each sector is one that was written there, or the old one; with all bits a crash is a flush: proved for every two deeds and every list of bits. -/
import Derived.Test.YthhfebfabombjaaDeeds
import Derived.Deep.RegionWith
namespace Go.Proofs.Ythhfebfabombjaa.DiskTears
open Go.ChangeShapes Go.WideShapes Go.ChangeAt Go.RowKit
open Go.Proofs.Ythhfebfabombjaa.Mem Go.Proofs.Ythhfebfabombjaa.Disk Go.Proofs.Ythhfebfabombjaa.Lift
attribute [local go_sem ↓] Go.wp_at_zero Go.wp_at_succ

theorem sec_slice (W : World) (g cap s : Nat) (i j : Int) (hi : i = ((64 * s : Nat) : Int)) (hj : j = ((64 * s + 64 : Nat) : Int)) (hs : s < 4) (hc : 256 ≤ cap) :
    (Instr.slice 33 (.slice (some ⟨g, 0, none⟩) 256 cap) (some (.int .i64 i)) (some (.int .i64 j)) none).run Try.prog W = .ok (.slice (some ⟨g, 64 * s, none⟩) 64 (cap - 64 * s)) W := by
  subst hi hj
  have h := run_slice_lh (P := Try.prog) W 33 (some ⟨g, 0, none⟩) 256 cap (by rw [Try.underlying33]; rfl) .i64 .i64 ((64 * s : Nat) : Int) ((64 * s + 64 : Nat) : Int) (by omega) (by omega) (by omega)
  rw [h]
  have hz : (sizeOf (Try.prog.elem 33)).run Try.prog W = .ok 1 W := by rfl
  rw [hz]
  simp only [Result.andThen, sliced, Int.toNat_natCast]
  rw [if_neg (by omega)]
  simp [Addr.add_mid]
theorem sec_sliceAt (W : World) (g cap s : Nat) (i j : Int) (hi : i = ((64 * s : Nat) : Int)) (hj : j = ((64 * s + 64 : Nat) : Int)) (hs : s < 4) (hc : 256 ≤ cap) :
    (Instr.sliceAt 33 (.slice (some ⟨g, 0, none⟩) 256 cap) (some (.int .i64 i)) (some (.int .i64 j)) none).run Try.prog W = .ok (.slice (some ⟨g, 64 * s, none⟩) 64 (cap - 64 * s)) W := by
  rw [run_sliceAt_slice (P := Try.prog) W 33 _ _ _ _ (by rw [Try.underlying33]; rfl)]
  exact sec_slice W g cap s i j hi hj hs hc
theorem sec_text (W : World) (g k s : Nat) (X : List UInt8) (hX : X.length = 256) (hr : W.rangeAt g 0 (X.map byteV)) (hs : s < 4) :
    (convert 33 9 (.slice (some ⟨g, 64 * s, none⟩) 64 k)).run Try.prog W = .ok (.string ⟨(Dk.secOf X s).toArray⟩) W := by
  have hl : (Dk.secOf X s).length = 64 := by unfold Dk.secOf; simp; omega
  refine run_text W (g + 1) _ 64 k _ ⟨hl, fun _ => ⟨g, 64 * s, rfl, by omega, fun j hj => ?_⟩⟩
  have := hr (64 * s + j) (byteV (Dk.secOf X s)[j]) (by
    rw [List.getElem?_map]
    have e : (Dk.secOf X s)[j]? = X[64 * s + j]? := by
      unfold Dk.secOf
      rw [List.getElem?_take, if_pos (by omega), List.getElem?_drop]
    rw [← e, List.getElem?_eq_getElem hj]; rfl)
  rwa [Nat.zero_add] at this

theorem new_read (a b : List UInt8) (bits : List UInt8) : ((((Dk.Dk.new 1).write 0 a).write 0 b).crash bits).stable = [Dk.tear bits 1 b 4 (Dk.tear bits 0 a 4 Dk.zeros)] := rfl
theorem bits_all (k : Nat) (hk : k < 8) : Dk.bit [255] k = true := by
  have : ∀ k : Fin 8, Dk.bit [255] k.val = true := by decide
  exact this ⟨k, hk⟩
theorem crash_all (a b : List UInt8) (ha : a.length = 256) (hb : b.length = 256) : ((((Dk.Dk.new 1).write 0 a).write 0 b).crash [255]).stable.flatten = b := by
  rw [new_read]
  have hz : (Dk.zeros).length = 256 := List.length_replicate
  rw [Dk.tear_whole [255] 1 b _ hb (Dk.tear_len [255] 0 a ha 4 _ (by omega) hz) (fun t ht => bits_all _ (by omega))]
  simp

set_option maxRecDepth 100000 in
set_option maxHeartbeats 4000000 in
theorem walk (y z : DeedR) (Ab : Option Addr) (nb cb : Nat) (bits : List UInt8) (w : World) (hbi : Holds w w.heap.size Ab nb bits) (hnb : nb ≤ maxLen) :
    Calls Try.prog 6 #[.agg y.cells, .agg z.cells, .slice Ab nb cb] w fun e w' => e = .returned (.bool true) ∧ Below w.heap.size w w' := by
  unfold DeedR.cells deedV
  go_enter Try.func6, Try.ntmps6
  go_wp2_with fail
  have hb0 : Below w.heap.size w ((w.alloc (.cells #[.int .i64 y.op, .int .i64 y.blk, .int .u8 (y.fill.toNat : Int), .bool y.short, .slice y.A y.n y.c] 35)).alloc (.cells #[.int .i64 z.op, .int .i64 z.blk, .int .u8 (z.fill.toNat : Int), .bool z.short, .slice z.A z.n z.c] 35)) := ((Below.refl _ _).alloc (Nat.le_refl _) _).alloc (by simp) _
  have hx1 : ((w.alloc (.cells #[.int .i64 y.op, .int .i64 y.blk, .int .u8 (y.fill.toNat : Int), .bool y.short, .slice y.A y.n y.c] 35)).alloc (.cells #[.int .i64 z.op, .int .i64 z.blk, .int .u8 (z.fill.toNat : Int), .bool z.short, .slice z.A z.n z.c] 35)).heap[w.heap.size]? = some (.cells #[.int .i64 y.op, .int .i64 y.blk, .int .u8 (y.fill.toNat : Int), .bool y.short, .slice y.A y.n y.c] 35 (0, 0)) := heap_alloc2_old w _ _
  have hx2 : ((w.alloc (.cells #[.int .i64 y.op, .int .i64 y.blk, .int .u8 (y.fill.toNat : Int), .bool y.short, .slice y.A y.n y.c] 35)).alloc (.cells #[.int .i64 z.op, .int .i64 z.blk, .int .u8 (z.fill.toNat : Int), .bool z.short, .slice z.A z.n z.c] 35)).heap[w.heap.size + 1]? = some (.cells #[.int .i64 z.op, .int .i64 z.blk, .int .u8 (z.fill.toNat : Int), .bool z.short, .slice z.A z.n z.c] 35 (0, 0)) := heap_alloc2_new w _ _
  have hs0 : ((w.alloc (.cells #[.int .i64 y.op, .int .i64 y.blk, .int .u8 (y.fill.toNat : Int), .bool y.short, .slice y.A y.n y.c] 35)).alloc (.cells #[.int .i64 z.op, .int .i64 z.blk, .int .u8 (z.fill.toNat : Int), .bool z.short, .slice z.A z.n z.c] 35)).heap.size = w.heap.size + 2 := by simp
  generalize (w.alloc (.cells #[.int .i64 y.op, .int .i64 y.blk, .int .u8 (y.fill.toNat : Int), .bool y.short, .slice y.A y.n y.c] 35)).alloc (.cells #[.int .i64 z.op, .int .i64 z.blk, .int .u8 (z.fill.toNat : Int), .bool z.short, .slice z.A z.n z.c] 35) = W0 at hb0 hx1 hx2 hs0 ⊢
  have HB0 := Lib.hid hb0; clear hb0
  have HX1 := Lib.hid hx1; clear hx1
  have HX2 := Lib.hid hx2; clear hx2
  have HS0 := Lib.hid hs0; clear hs0
  refine (alive_any _).mono ?_
  rintro e w1 ⟨rfl, hb1⟩
  go_wp2_with fail
  refine (new_d 1 1 0 _ rfl (by omega) (by omega)).mono ?_
  rintro e w2 ⟨p1, F1, rfl, hD1, hF1, hb2⟩
  have HB1 := Lib.hid hb1; clear hb1
  have HD1 := Lib.hid hD1; clear hD1
  have HF1 := Lib.hid hF1; clear hF1
  have HB2 := Lib.hid hb2; clear hb2
  go_wp2_with fail
  refine (new_d 1 1 0 _ rfl (by omega) (by omega)).mono ?_
  rintro e w3 ⟨p2, F2, rfl, hD2, hF2, hb3⟩
  have HD2 := Lib.hid hD2; clear hD2
  have HF2 := Lib.hid hF2; clear hF2
  have HB3 := Lib.hid hb3; clear hb3
  have n1 : w.heap.size + 2 ≤ w1.heap.size := by have := HB1.out.size; have := HS0.out; omega
  have n2 : w1.heap.size ≤ w2.heap.size := HB2.out.size
  have n3 : w2.heap.size ≤ w3.heap.size := HB3.out.size
  have hx13 : w3.heap[w.heap.size]? = some (.cells #[.int .i64 y.op, .int .i64 y.blk, .int .u8 (y.fill.toNat : Int), .bool y.short, .slice y.A y.n y.c] 35 (0, 0)) := (HB3.out.block _ (by omega)).trans ((HB2.out.block _ (by omega)).trans ((HB1.out.block _ (by have := HS0.out; omega)).trans HX1.out))
  have hx23 : w3.heap[w.heap.size + 1]? = some (.cells #[.int .i64 z.op, .int .i64 z.blk, .int .u8 (z.fill.toNat : Int), .bool z.short, .slice z.A z.n z.c] 35 (0, 0)) := (HB3.out.block _ (by omega)).trans ((HB2.out.block _ (by omega)).trans ((HB1.out.block _ (by have := HS0.out; omega)).trans HX2.out))
  have y3 : w3.cell? ⟨w.heap.size, 3, none⟩ = some (.bool y.short) := cell_of_row _ _ _ _ _ _ hx13
  have z3 : w3.cell? ⟨w.heap.size + 1, 3, none⟩ = some (.bool z.short) := cell_of_row _ _ _ _ _ _ hx23
  have y3f : w3.frozen? ⟨w.heap.size, 3, none⟩ = false := frozen_of_row _ _ _ _ _ hx13
  have z3f : w3.frozen? ⟨w.heap.size + 1, 3, none⟩ = false := frozen_of_row _ _ _ _ _ hx23
  have HX13 := Lib.hid hx13; clear hx13
  have HX23 := Lib.hid hx23; clear hx23
  go_wp2_with fail
  have ht4 : Turns (fun q => q < w.heap.size + 2 ∧ w.heap.size ≤ q) w3 ((w3.setCell ⟨w.heap.size, 3, none⟩ (.bool false)).setCell ⟨w.heap.size + 1, 3, none⟩ (.bool false)) :=
    ((Turns.refl (fun q => q < w.heap.size + 2 ∧ w.heap.size ≤ q) w3).setCell (p := ⟨w.heap.size, 3, none⟩) (fun _ => ⟨by show w.heap.size < _; omega, Nat.le_refl _⟩) _).setCell (p := ⟨w.heap.size + 1, 3, none⟩) (fun _ => ⟨by show w.heap.size + 1 < _; omega, by show w.heap.size ≤ w.heap.size + 1; omega⟩) _
  have hx14 : ((w3.setCell ⟨w.heap.size, 3, none⟩ (.bool false)).setCell ⟨w.heap.size + 1, 3, none⟩ (.bool false)).heap[w.heap.size]? = some (.cells #[.int .i64 y.op, .int .i64 y.blk, .int .u8 (y.fill.toNat : Int), .bool false, .slice y.A y.n y.c] 35 (0, 0)) := by
    rw [Below.heap_setCell _ _ _ _ (by show w.heap.size ≠ w.heap.size + 1; omega), heap_setCell_same _ _ _ _ _ _ HX13.out]; rfl
  have hx24 : ((w3.setCell ⟨w.heap.size, 3, none⟩ (.bool false)).setCell ⟨w.heap.size + 1, 3, none⟩ (.bool false)).heap[w.heap.size + 1]? = some (.cells #[.int .i64 z.op, .int .i64 z.blk, .int .u8 (z.fill.toNat : Int), .bool false, .slice z.A z.n z.c] 35 (0, 0)) := by
    rw [heap_setCell_same _ _ _ _ _ _ ((Below.heap_setCell _ _ _ _ (by show w.heap.size + 1 ≠ w.heap.size; omega)).trans HX23.out)]; rfl
  have hs4 : ((w3.setCell ⟨w.heap.size, 3, none⟩ (.bool false)).setCell ⟨w.heap.size + 1, 3, none⟩ (.bool false)).heap.size = w3.heap.size := by simp [World.setCell]
  generalize (w3.setCell ⟨w.heap.size, 3, none⟩ (.bool false)).setCell ⟨w.heap.size + 1, 3, none⟩ (.bool false) = W4 at ht4 hx14 hx24 hs4 ⊢
  clear y3 z3 y3f z3f
  have hB4 : Below w.heap.size w W4 := (((HB0.out.trans (HB1.out.mono (by have := HS0.out; omega))).trans (HB2.out.mono (by omega))).trans (HB3.out.mono (by omega))).trans (ht4.below (fun q e => e.2) (by omega))
  have hD14 : DiskAt W4 p1 (Dk.Dk.new 1) 0 F1 := (HD1.out.turns (G := fun _ => False) (Turns.of_below HB3.out) (fun _ _ e => e)).turns ht4 (fun q hq e => by have := HF1.out q hq; omega)
  have hD24 : DiskAt W4 p2 (Dk.Dk.new 1) 0 F2 := HD2.out.turns ht4 (fun q hq e => by have := HF2.out q hq; omega)
  have hdis : ∀ q, F1 q → ¬ F2 q := fun q h1 h2 => by have := HD1.out.lt q h1; have := HF2.out q h2; omega
  have hq1 : w.heap.size < W4.drew.heap.size := by show w.heap.size < W4.heap.size; omega
  have hq2 : w.heap.size + 1 < W4.drew.heap.size := by show w.heap.size + 1 < W4.heap.size; omega
  have hX1 : W4.drew.heap[w.heap.size]? = some (.cells #[.int .i64 y.op, .int .i64 y.blk, .int .u8 (y.fill.toNat : Int), .bool false, .slice y.A y.n y.c] 35 (0, 0)) := hx14
  have hX2 : W4.drew.heap[w.heap.size + 1]? = some (.cells #[.int .i64 z.op, .int .i64 z.blk, .int .u8 (z.fill.toNat : Int), .bool false, .slice z.A z.n z.c] 35 (0, 0)) := hx24
  have g0 : W4.cell? ⟨w.heap.size, 0, none⟩ = some (.int .i64 y.op) := cell_of_row _ _ _ _ _ _ hX1
  have g1 : W4.cell? ⟨w.heap.size, 1, none⟩ = some (.int .i64 y.blk) := cell_of_row _ _ _ _ _ _ hX1
  have g2 : W4.cell? ⟨w.heap.size, 2, none⟩ = some (.int .u8 (y.fill.toNat : Int)) := cell_of_row _ _ _ _ _ _ hX1
  have g3 : W4.cell? ⟨w.heap.size, 3, none⟩ = some (.bool false) := cell_of_row _ _ _ _ _ _ hX1
  have g4 : W4.cell? ⟨w.heap.size, 4, none⟩ = some (.slice y.A y.n y.c) := cell_of_row _ _ _ _ _ _ hX1
  have k0 : W4.cell? ⟨(w.heap.size + 1), 0, none⟩ = some (.int .i64 z.op) := cell_of_row _ _ _ _ _ _ hX2
  have k1 : W4.cell? ⟨(w.heap.size + 1), 1, none⟩ = some (.int .i64 z.blk) := cell_of_row _ _ _ _ _ _ hX2
  have k2 : W4.cell? ⟨(w.heap.size + 1), 2, none⟩ = some (.int .u8 (z.fill.toNat : Int)) := cell_of_row _ _ _ _ _ _ hX2
  have k3 : W4.cell? ⟨(w.heap.size + 1), 3, none⟩ = some (.bool false) := cell_of_row _ _ _ _ _ _ hX2
  have k4 : W4.cell? ⟨(w.heap.size + 1), 4, none⟩ = some (.slice z.A z.n z.c) := cell_of_row _ _ _ _ _ _ hX2
  have HD14 := Lib.hid hD14; clear hD14
  have HD24 := Lib.hid hD24; clear hD24
  have HB4 := Lib.hid hB4; clear hB4
  have HDIS := Lib.hid hdis; clear hdis
  have HX1' := Lib.hid hX1; clear hX1
  have HX2' := Lib.hid hX2; clear hX2
  have HS4 := Lib.hid hs4; clear hs4
  clear ht4 hx14 hx24
  go_region_held3 (fun w' => w'.cell? ⟨w.heap.size, 0, none⟩ = some (.int .i64 y.op) ∧ w'.cell? ⟨w.heap.size, 1, none⟩ = some (.int .i64 y.blk) ∧ w'.cell? ⟨w.heap.size, 2, none⟩ = some (.int .u8 (y.fill.toNat : Int)) ∧ w'.cell? ⟨w.heap.size, 3, none⟩ = some (.bool false) ∧ w'.cell? ⟨w.heap.size, 4, none⟩ = some (.slice y.A y.n y.c) ∧ w'.cell? ⟨(w.heap.size + 1), 0, none⟩ = some (.int .i64 z.op) ∧ w'.cell? ⟨(w.heap.size + 1), 1, none⟩ = some (.int .i64 z.blk) ∧ w'.cell? ⟨(w.heap.size + 1), 2, none⟩ = some (.int .u8 (z.fill.toNat : Int)) ∧ w'.cell? ⟨(w.heap.size + 1), 3, none⟩ = some (.bool false) ∧ w'.cell? ⟨(w.heap.size + 1), 4, none⟩ = some (.slice z.A z.n z.c)) (go_keep)
    (first
      | ((with_reducible refine (data_long y.op y.blk y.fill y.A y.n y.c _).mono ?_)
         rintro e wa ⟨ba, rfl, hla, hba, hbla, hwa⟩
         have x1 := (hwa.block w.heap.size (by first | exact hq1 | (have := HWB.out.size; omega))).trans (by first | exact HX1'.out | exact HX1B.out)
         have x2 := (hwa.block (w.heap.size + 1) (by first | exact hq2 | (have := HWB.out.size; omega))).trans (by first | exact HX2'.out | exact HX2B.out)
         have ga0 : wa.cell? ⟨w.heap.size, 0, none⟩ = some (.int .i64 y.op) := cell_of_row _ _ _ _ _ _ x1
         have ga1 : wa.cell? ⟨w.heap.size, 1, none⟩ = some (.int .i64 y.blk) := cell_of_row _ _ _ _ _ _ x1
         have ga2 : wa.cell? ⟨w.heap.size, 2, none⟩ = some (.int .u8 (y.fill.toNat : Int)) := cell_of_row _ _ _ _ _ _ x1
         have ga3 : wa.cell? ⟨w.heap.size, 3, none⟩ = some (.bool false) := cell_of_row _ _ _ _ _ _ x1
         have ga4 : wa.cell? ⟨w.heap.size, 4, none⟩ = some (.slice y.A y.n y.c) := cell_of_row _ _ _ _ _ _ x1
         have ka0 : wa.cell? ⟨(w.heap.size + 1), 0, none⟩ = some (.int .i64 z.op) := cell_of_row _ _ _ _ _ _ x2
         have ka1 : wa.cell? ⟨(w.heap.size + 1), 1, none⟩ = some (.int .i64 z.blk) := cell_of_row _ _ _ _ _ _ x2
         have ka2 : wa.cell? ⟨(w.heap.size + 1), 2, none⟩ = some (.int .u8 (z.fill.toNat : Int)) := cell_of_row _ _ _ _ _ _ x2
         have ka3 : wa.cell? ⟨(w.heap.size + 1), 3, none⟩ = some (.bool false) := cell_of_row _ _ _ _ _ _ x2
         have ka4 : wa.cell? ⟨(w.heap.size + 1), 4, none⟩ = some (.slice z.A z.n z.c) := cell_of_row _ _ _ _ _ _ x2
         have HX1A := Lib.hid x1
         have HX2A := Lib.hid x2
         have HLA := Lib.hid hla
         have HBA := Lib.hid hba
         have HBLA := Lib.hid hbla
         have HWA := Lib.hid hwa
         clear hla hba hbla hwa x1 x2)
      | ((with_reducible refine (data_long z.op z.blk z.fill z.A z.n z.c _).mono ?_)
         rintro e wb ⟨bb, rfl, hlb, hbb, hblb, hwb⟩
         have x1 := (hwb.block w.heap.size (by first | exact hq1 | (have := HWA.out.size; omega))).trans (by first | exact HX1'.out | exact HX1A.out)
         have x2 := (hwb.block (w.heap.size + 1) (by first | exact hq2 | (have := HWA.out.size; omega))).trans (by first | exact HX2'.out | exact HX2A.out)
         have gb0 : wb.cell? ⟨w.heap.size, 0, none⟩ = some (.int .i64 y.op) := cell_of_row _ _ _ _ _ _ x1
         have gb1 : wb.cell? ⟨w.heap.size, 1, none⟩ = some (.int .i64 y.blk) := cell_of_row _ _ _ _ _ _ x1
         have gb2 : wb.cell? ⟨w.heap.size, 2, none⟩ = some (.int .u8 (y.fill.toNat : Int)) := cell_of_row _ _ _ _ _ _ x1
         have gb3 : wb.cell? ⟨w.heap.size, 3, none⟩ = some (.bool false) := cell_of_row _ _ _ _ _ _ x1
         have gb4 : wb.cell? ⟨w.heap.size, 4, none⟩ = some (.slice y.A y.n y.c) := cell_of_row _ _ _ _ _ _ x1
         have kb0 : wb.cell? ⟨(w.heap.size + 1), 0, none⟩ = some (.int .i64 z.op) := cell_of_row _ _ _ _ _ _ x2
         have kb1 : wb.cell? ⟨(w.heap.size + 1), 1, none⟩ = some (.int .i64 z.blk) := cell_of_row _ _ _ _ _ _ x2
         have kb2 : wb.cell? ⟨(w.heap.size + 1), 2, none⟩ = some (.int .u8 (z.fill.toNat : Int)) := cell_of_row _ _ _ _ _ _ x2
         have kb3 : wb.cell? ⟨(w.heap.size + 1), 3, none⟩ = some (.bool false) := cell_of_row _ _ _ _ _ _ x2
         have kb4 : wb.cell? ⟨(w.heap.size + 1), 4, none⟩ = some (.slice z.A z.n z.c) := cell_of_row _ _ _ _ _ _ x2
         have HX1B := Lib.hid x1
         have HX2B := Lib.hid x2
         have HLB := Lib.hid hlb
         have HBB := Lib.hid hbb
         have HBLB := Lib.hid hblb
         have HWB := Lib.hid hwb
         clear hlb hbb hblb hwb x1 x2))
  have hsA : W4.heap.size ≤ ba := HBA.out
  have hbaL : ba < wa.heap.size := (Array.getElem?_eq_some_iff.1 HBLA.out).1
  have hsB : wa.heap.size ≤ bb := HBB.out
  have hwA : W4.heap.size ≤ wa.heap.size := HWA.out.size
  have hwB : wa.heap.size ≤ wb.heap.size := HWB.out.size
  have hbbL : bb < wb.heap.size := (Array.getElem?_eq_some_iff.1 HBLB.out).1
  have hT : Turns (fun _ => False) W4 wb := ((Turns.refl (fun _ => False) W4).drew.trans (Turns.of_below (F := fun _ => False) HWA.out) (fun _ _ e => e)).trans (Turns.of_below (F := fun _ => False) HWB.out) (fun _ _ e => e)
  obtain ⟨da, hda⟩ : ∃ da, da = dataL y.fill false := ⟨_, rfl⟩
  obtain ⟨db, hdb⟩ : ∃ db, db = dataL z.fill false := ⟨_, rfl⟩
  have hla : da.length = 256 := by rw [hda]; exact HLA.out
  have hlb : db.length = 256 := by rw [hdb]; exact HLB.out
  have h0 : Two w wb p1 (Dk.Dk.new 1) 0 F1 p2 (Dk.Dk.new 1) 0 F2 ba bb da db := by
    have l1 := HD14.out.lt
    have l2 := HD24.out.lt
    refine ⟨HD14.out.turns hT (fun _ _ e => e), HD24.out.turns hT (fun _ _ e => e), HDIS.out, fun q hq => ?_, fun q hq => ?_, ?_, ?_, ⟨by omega, fun e => ?_, fun e => ?_⟩, ⟨hbbL, fun e => ?_, fun e => ?_⟩, HB4.out.trans (hT.below (fun _ e => e.elim) HB4.out.size)⟩
    · have := HF1.out q hq; omega
    · have := HF2.out q hq; omega
    · rw [hda]; exact range_of_heap ((HWB.out.block ba hbaL).trans HBLA.out)
    · rw [hdb]; exact range_of_heap HBLB.out
    · have := l1 _ e; omega
    · have := l2 _ e; omega
    · have := l1 _ e; omega
    · have := l2 _ e; omega
  have HBI := Lib.hid hbi; clear hbi
  have H0 := Lib.hid h0; clear h0
  clear hsA hbaL hsB hwA hwB hbbL hT hda hdb hq1 hq2 n1 n2 n3 HX1' HX2' HX1A HX2A HX1B HX2B HLA HLB HBA HBB HBLA HBLB HWA HWB HD14 HD24 HB4 HDIS HS4 HX13 HX23 HD1 HD2 HF1 HF2 HB1 HB2 HB3 HX1 HX2
  clear g0 g1 g2 g3 g4 k0 k1 k2 k3 k4 ga0 ga1 ga2 ga3 ga4 ka0 ka1 ka2 ka3 ka4 gb0 gb1 gb2 gb3 gb4 kb0 kb1 kb2 kb3 kb4
  go_wp2_with fail
  refine (write_d 0 0 rfl ba 0 256 da _ p1 0 F1 wb H0.out.one rfl (by simp [Dk.Dk.new]) hla H0.out.ra (by omega)).mono ?_
  rintro e W5 ⟨F1a, rfl, hD, hF, hT⟩
  have H5 := Lib.hid (H0.out.first hD hF hT)
  clear hD hF hT
  go_wp2_with fail
  refine (write_d 0 0 rfl bb 0 256 db _ p1 1 F1a W5 H5.out.one rfl (by simp [Dk.Dk.new, Dk.Dk.write, Dk.Dk.blown]) hlb H5.out.rb (by omega)).mono ?_
  rintro e W6 ⟨F1b, rfl, hD, hF, hT⟩
  have H6 := Lib.hid (H5.out.first hD hF hT)
  clear hD hF hT
  go_wp2_with fail
  refine (write_d 0 0 rfl ba 0 256 da _ p2 0 F2 W6 H6.out.two rfl (by simp [Dk.Dk.new]) hla H6.out.ra (by omega)).mono ?_
  rintro e W7 ⟨F2a, rfl, hD, hF, hT⟩
  have H7 := Lib.hid (H6.out.second hD hF hT)
  clear hD hF hT
  go_wp2_with fail
  refine (write_d 0 0 rfl bb 0 256 db _ p2 1 F2a W7 H7.out.two rfl (by simp [Dk.Dk.new, Dk.Dk.write, Dk.Dk.blown]) hlb H7.out.rb (by omega)).mono ?_
  rintro e W8 ⟨F2b, rfl, hD, hF, hT⟩
  have H8 := Lib.hid (H7.out.second hD hF hT)
  clear hD hF hT
  go_wp2_with fail
  have hBI8 : ∀ w', Turns F1b W8 w' → Holds w' w.heap.size Ab nb bits := fun w' ht => HBI.out.below (H8.out.below.trans (ht.below H8.out.low1 H8.out.below.size))
  refine (crash_d Ab nb cb w.heap.size bits _ p1 _ F1b W8 H8.out.one (by omega) hBI8 hnb).mono ?_
  rintro e W9 ⟨F1c, rfl, hD, hF, hT⟩
  have H9 := Lib.hid (H8.out.first hD hF hT)
  clear hD hF hT hBI8
  go_wp2_with fail
  obtain ⟨X, hX⟩ : ∃ X, X = Dk.tear bits 1 db 4 (Dk.tear bits 0 da 4 Dk.zeros) := ⟨_, rfl⟩
  have hst := stable_d _ p1 _ F1c W9 H9.out.one
  have hXf : ((((Dk.Dk.new 1).write 0 da).write 0 db).crash bits).stable.flatten = X := by rw [new_read, hX]; simp
  rw [hXf] at hst
  have hXl : X.length = 256 := by rw [hX]; exact Dk.tear_len bits 1 db hlb 4 _ (by omega) (Dk.tear_len bits 0 da hla 4 _ (by omega) List.length_replicate)
  have HX := Lib.hid hX; clear hX
  clear hXf
  refine hst.mono ?_
  rintro e W10 ⟨A10, c10, rfl, ho, hb⟩
  clear hst
  rw [hXl]
  rw [hXl] at ho
  obtain ⟨g, cg, hv, hg1, hg2, hgc, hrow⟩ := Owned.row ho (by omega)
  rw [hXl] at hv hgc
  injection hv with e1 _ e2
  subst e1 e2
  have hrX : W10.rangeAt g 0 (X.map byteV) := by
    intro j v hj
    have hjl : j < X.length := by have := (List.getElem?_eq_some_iff.1 hj).1; simpa using this
    rw [List.getElem?_map, List.getElem?_eq_getElem hjl] at hj
    rw [Nat.zero_add, (hrow j hjl).1]; exact hj
  have H10 := Lib.hid (H9.out.next (Turns.of_below hb))
  have HRX := Lib.hid hrX; clear hrX
  clear ho hrow hb
  go_wp2
  go_loopw [14] (fun i wr => ∃ s : Nat, s ≤ 4 ∧ i = .int .i64 s ∧ Turns (fun _ => False) W10 wr) (fun i _ => 4 - (intOf i).toNat)
  case atStart => exact ⟨0, by omega, rfl, Turns.refl _ _⟩
  case round =>
    obtain ⟨s, hs, rfl, hT⟩ := hrel
    by_cases hs4 : s < 4
    · have h11 := H10.out.next hT
      have hrX := range_turns HRX.out hT hg2 (fun e => e)
      have i1 : (64 : Int) * (s : Int) = ((64 * s : Nat) : Int) := by omega
      have q1 := fun W => sec_slice W g c10 s (64 * (s : Int)) (64 * (s : Int) + 64) (by omega) (by omega) hs4 hgc
      have q2 := fun W => sec_sliceAt W g c10 s (64 * (s : Int)) (64 * (s : Int) + 64) (by omega) (by omega) hs4 hgc
      have q3 := fun W => sec_slice W ba 256 s (64 * (s : Int)) (64 * (s : Int) + 64) (by omega) (by omega) hs4 (by omega)
      have q4 := fun W => sec_sliceAt W ba 256 s (64 * (s : Int)) (64 * (s : Int) + 64) (by omega) (by omega) hs4 (by omega)
      have q5 := fun W => sec_slice W bb 256 s (64 * (s : Int)) (64 * (s : Int) + 64) (by omega) (by omega) hs4 (by omega)
      have q6 := fun W => sec_sliceAt W bb 256 s (64 * (s : Int)) (64 * (s : Int) + 64) (by omega) (by omega) hs4 (by omega)
      have tX := sec_text wr g (c10 - 64 * s) s X hXl hrX hs4
      have tA := sec_text wr ba (256 - 64 * s) s da hla h11.ra hs4
      have tB := sec_text wr bb (256 - 64 * s) s db hlb h11.rb hs4
      clear i1
      have htr := Dk.tears bits Dk.zeros da db List.length_replicate hla hlb s hs4
      rw [← HX.out] at htr
      generalize Dk.secOf X s = sX at tX htr
      generalize Dk.secOf da s = sA at tA htr
      generalize Dk.secOf db s = sB at tB htr
      clear h11 hrX
      have HT := Lib.hid hT; clear hT
      by_cases e1 : sX = sA
      · subst e1
        clear htr
        go_wp2
        go_roundw
        case rel => exact ⟨s + 1, by omega, by go_num, HT.out⟩
        case measure => simp [intOf]; omega
      · by_cases e2 : sX = sB
        · subst e2
          clear htr
          go_wp2
          go_roundw
          case rel => exact ⟨s + 1, by omega, by go_num, HT.out⟩
          case measure => simp [intOf]; omega
        · have e3 : sX = List.replicate 64 0 := by
            rcases htr with e | e | e
            · exact absurd e e1
            · exact absurd e e2
            · rw [e]
              unfold Dk.secOf Dk.zeros
              rw [List.drop_replicate, List.take_replicate]
              congr 1
              omega
          have hmk : ∀ W, (Instr.makeSlice 33 (.int .i64 64) (.int .i64 64)).run Try.prog W = .ok (.slice (some ⟨W.heap.size, 0, none⟩) 64 64) (W.alloc (.cells ((List.replicate 64 (0 : UInt8)).map byteV).toArray 5)) := fun W => by
            have h := run_makeN 64 (by omega) (fun _ => byteV 0) W
            rw [← partly_zero] at h
            have e : ((List.replicate 64 (0 : UInt8)).map byteV).toArray = Array.replicate 64 (byteV 0) := by rw [List.map_replicate]; exact List.toArray_replicate _ _
            rw [e]; exact h
          have hz := run_text (wr.alloc (.cells ((List.replicate 64 (0 : UInt8)).map byteV).toArray 5)) (wr.heap.size + 1) (some ⟨wr.heap.size, 0, none⟩) 64 64 (List.replicate 64 0) (by
            have := holds_of_range (B := wr.heap.size + 1) (range_new wr ((List.replicate 64 (0 : UInt8)).map byteV) 5) (by omega)
            rwa [List.length_replicate] at this)
          rw [← e3] at hz hmk
          have hT2 : Turns (fun _ => False) W10 (wr.alloc (.cells (sX.map byteV).toArray 5)) := HT.out.alloc _
          have HT2 := Lib.hid hT2; clear hT2
          have HE3 := Lib.hid e3; clear e3
          clear htr
          go_wp2
          go_roundw
          case rel => exact ⟨s + 1, by omega, by go_num, HT2.out⟩
          case measure => simp [intOf]; omega
    · obtain rfl : s = 4 := by omega
      have H11 := Lib.hid (H10.out.next hT)
      clear hT
      go_wp2_with fail
      have ht12 : Turns (fun _ => False) wr (wr.alloc (.cells ([255].map byteV).toArray 5)) := (Turns.refl _ wr).alloc _
      have hr12 := range_new wr ([255].map byteV) 5
      have hs12 : wr.heap.size < (wr.alloc (.cells ([255].map byteV).toArray 5)).heap.size := by simp
      have e12 : wr.alloc (.cells #[.int .u8 255] 5) = wr.alloc (.cells ([255].map byteV).toArray 5) := rfl
      rw [e12]
      clear e12
      generalize wr.alloc (.cells ([255].map byteV).toArray 5) = W12 at ht12 hr12 hs12 ⊢
      have H12 := Lib.hid (H11.out.next ht12)
      have hl12 := H11.out.two.lt
      refine (crash_d _ 1 1 (wr.heap.size + 1) [255] _ p2 _ F2b W12 H12.out.two (by omega) (fun w' ht => holds_of_range (range_turns hr12 ht hs12 (fun e => by have := hl12 _ e; omega)) (by omega)) (by unfold maxLen; omega)).mono ?_
      rintro e W13 ⟨F2c, rfl, hD, hF, hT⟩
      have H13 := Lib.hid (H12.out.second hD hF hT)
      clear hD hF hT hl12 ht12 hr12 hs12
      have hst := stable_d _ p2 _ F2c W13.drew (H13.out.two.turns (G := fun _ => False) (Turns.refl _ W13).drew (fun _ _ e => e))
      rw [crash_all da db hla hlb] at hst
      have tb13 := run_text W13.drew (bb + 1) (some ⟨bb, 0, none⟩) 256 256 db (by
        have := holds_of_range (w := W13.drew) (B := bb + 1) H13.out.rb (by omega)
        rwa [hlb] at this)
      have HST := Lib.hid hst; clear hst
      go_wp2_with fail
      go_region_with
        (refine HST.out.mono ?_
         rintro e W14 ⟨A14, c14, rfl, ho14, hb14⟩
         rw [hlb]
         rw [hlb] at ho14
         have t14 := run_text W14 _ _ _ c14 _ (by have h := owned_holds (bs := db) (A := A14) (c := c14) (w := W14) (base := W13.drew.heap.size) (by rw [hlb]; exact ho14); rwa [hlb] at h)
         have tb14 := run_text W14 (bb + 1) (some ⟨bb, 0, none⟩) 256 256 db (by
           have := holds_of_range (B := bb + 1) (range_turns (w := W13.drew) H13.out.rb (Turns.of_below (F := fun _ => False) hb14) H13.out.nb.1 (fun e => e)) (by omega)
           rwa [hlb] at this)
         have HB14 := Lib.hid hb14
         clear ho14 hb14)
      all_goals
        go_wp2
        go_ret
        exact ⟨rfl, H13.out.below.drew.trans (HB14.out.mono H13.out.below.size)⟩

theorem walks : Walks 6 Try.f6 All := by
  intro H enc W base args ds p hval hA hsz _
  rw [Try.params6] at hA hval
  obtain ⟨v0, vs0, d0, ds0, p0, q0, hargs, rfl, rfl, h0, r0⟩ := trodAll_cons hA
  obtain ⟨v1, vs1, d1, ds1, p1, q1, rfl, rfl, rfl, h1, r1⟩ := trodAll_cons r0
  obtain ⟨v2, vs2, d2, ds2, p2, q2, rfl, rfl, rfl, h2, r2⟩ := trodAll_cons r1
  obtain ⟨rfl, rfl, rfl⟩ := trodAll_nil r2
  obtain rfl : args = #[v0, v1, v2] := by cases args; simp_all
  obtain ⟨cs, op, blk, fill, short, A1, n1, c1, bs1, rfl, hy⟩ := deed_by_value (hval 0 _ v0 rfl rfl) h0
  obtain ⟨cs', op', blk', fill', short', A1', n1', c1', bs1', rfl, hz⟩ := deed_by_value (hval 1 _ v1 rfl rfl) h1
  obtain ⟨A2, n2, c2, rfl⟩ := okWide_slice Try.underlying33 (hval 2 _ v2 rfl rfl)
  obtain ⟨fuel2, hf2⟩ := h2
  obtain ⟨A3, n3, c3, bs, hv, hb, hn2, hc2⟩ := bytes_part hf2
  injection hv with e1 e2 e3
  subst e1 e2 e3
  have hcs := hy.cells
  have hcs' := hz.cells
  subst hcs hcs'
  exact walk ⟨op, blk, fill, short, A1, n1, c1, bs1⟩ ⟨op', blk', fill', short', A1', n1', c1', bs1'⟩ A2 n2 c2 bs W hb (by omega)

set_option maxRecDepth 100000 in
theorem proved : Rows.DiskTearsSaid :=
  OpenClaim.holds_of_wide 6 Try.f6 rfl rfl rfl rfl rfl rfl rfl ⟨rfl, rfl, rfl, rfl, rfl⟩ rfl rfl rfl rfl rfl (by kernel_rfl) Try.func6 (by kernel_rfl)
    (of_decide_eq_true (by kernel_rfl)) (by unfold Func.isWrapper; first | (rw [if_pos (by decide +kernel)]; kernel_rfl) | (rw [if_neg (by decide +kernel)]; exact ⟨rfl, rfl⟩))
    (fun os started H enc _ => lifted (s := Rows.diskTearsSpec) walks (by kernel_rfl) rfl rfl (fun H ds hl => by match ds, hl with | [d1, d2, d3], _ => rfl) (by kernel_rfl) Try.func6 os started H enc
      (ChangeSpec.witness6 (enc := enc) (C := Try.checked) false ⟨#[], #[.agg #[.int .i64 0, .int .i64 0, .int .u8 0, .bool false, .slice none 0 0], .agg #[.int .i64 0, .int .i64 0, .int .u8 0, .bool false, .slice none 0 0], .slice none 0 0], []⟩ 8 (by kernel_rfl) (by kernel_rfl) (by kernel_rfl) (by kernel_rfl)))
#print axioms proved
end Go.Proofs.Ythhfebfabombjaa.DiskTears
