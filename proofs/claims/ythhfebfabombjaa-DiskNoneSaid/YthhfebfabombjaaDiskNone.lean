/- A disk that is none has no blocks, and no call of it panics: proved for every deed. -/
import Derived.Test.YthhfebfabombjaaDeed
namespace Go.Proofs.Ythhfebfabombjaa.DiskNone
open Go.ChangeShapes Go.WideShapes Go.ChangeAt Go.RowKit
open Go.Proofs.Ythhfebfabombjaa.Mem Go.Proofs.Ythhfebfabombjaa.Disk Go.Proofs.Ythhfebfabombjaa.Lift
attribute [local go_sem ↓] Go.wp_at_zero Go.wp_at_succ

set_option maxRecDepth 100000 in
set_option maxHeartbeats 1000000 in
theorem walk (cs : Array Value) (op blk : Int) (fill : UInt8) (short : Bool) (A : Option Addr) (n c : Nat) (bs : List UInt8) (w : World) (h : IsDeed w w.heap.size cs op blk fill short A n c bs) :
    Calls Try.prog 7 #[.agg cs] w fun e w' => e = .returned (.bool true) ∧ Below w.heap.size w w' := by
  obtain ⟨rfl, -, -, -, -⟩ := h
  unfold deedV
  go_enter Try.func7, Try.ntmps7
  go_wp2_with fail
  have hb0 : Below w.heap.size w (w.alloc (.cells #[.int .i64 op, .int .i64 blk, .int .u8 (fill.toNat : Int), .bool short, .slice A n c] 35)) := (Below.refl _ _).alloc (Nat.le_refl _) _
  have hB : (w.alloc (.cells #[.int .i64 op, .int .i64 blk, .int .u8 (fill.toNat : Int), .bool short, .slice A n c] 35)).heap[w.heap.size]? = some (.cells #[.int .i64 op, .int .i64 blk, .int .u8 (fill.toNat : Int), .bool short, .slice A n c] 35 (0, 0)) := heap_alloc_new w _
  have hs0 : w.heap.size < (w.alloc (.cells #[.int .i64 op, .int .i64 blk, .int .u8 (fill.toNat : Int), .bool short, .slice A n c] 35)).heap.size := by simp
  generalize w.alloc (.cells #[.int .i64 op, .int .i64 blk, .int .u8 (fill.toNat : Int), .bool short, .slice A n c] 35) = W at hb0 hB hs0 ⊢
  refine (alive_any _).mono ?_
  rintro e w1 ⟨rfl, hb1⟩
  have hB1 := (hb1.block _ hs0).trans hB
  have k0 : w1.cell? ⟨w.heap.size, 0, none⟩ = some (.int .i64 op) := cell_of_row _ _ _ _ _ _ hB1
  have k1 : w1.cell? ⟨w.heap.size, 1, none⟩ = some (.int .i64 blk) := cell_of_row _ _ _ _ _ _ hB1
  have k2 : w1.cell? ⟨w.heap.size, 2, none⟩ = some (.int .u8 (fill.toNat : Int)) := cell_of_row _ _ _ _ _ _ hB1
  have k3 : w1.cell? ⟨w.heap.size, 3, none⟩ = some (.bool short) := cell_of_row _ _ _ _ _ _ hB1
  have k4 : w1.cell? ⟨w.heap.size, 4, none⟩ = some (.slice A n c) := cell_of_row _ _ _ _ _ _ hB1
  have HB1 := Lib.hid hB1; clear hB1 hB
  have HB0 := Lib.hid hb0; clear hb0
  have hs1 : w.heap.size < w1.heap.size := by have := hb1.size; omega
  have HBB := Lib.hid hb1; clear hb1
  go_wp2_with fail
  refine (read_nil _ _).mono ?_
  rintro e w' ⟨rfl, rfl⟩
  go_wp2_with fail
  go_region_held3 (fun w' => w'.cell? ⟨w.heap.size, 0, none⟩ = some (.int .i64 op) ∧ w'.cell? ⟨w.heap.size, 1, none⟩ = some (.int .i64 blk) ∧ w'.cell? ⟨w.heap.size, 2, none⟩ = some (.int .u8 (fill.toNat : Int)) ∧ w'.cell? ⟨w.heap.size, 3, none⟩ = some (.bool short) ∧ w'.cell? ⟨w.heap.size, 4, none⟩ = some (.slice A n c)) (go_keep)
    (first
      | (go_at_call 24
         refine (data_any op blk fill short A n c _).mono ?_
         rintro e w2 ⟨b, rfl, hb, hbl, hw2⟩
         have l0 := (hw2.cell (p := ⟨w.heap.size, 0, none⟩) hs1).trans k0
         have l1 := (hw2.cell (p := ⟨w.heap.size, 1, none⟩) hs1).trans k1
         have l2 := (hw2.cell (p := ⟨w.heap.size, 2, none⟩) hs1).trans k2
         have l3 := (hw2.cell (p := ⟨w.heap.size, 3, none⟩) hs1).trans k3
         have l4 := (hw2.cell (p := ⟨w.heap.size, 4, none⟩) hs1).trans k4
         have HW2 := Lib.hid hw2
         clear hw2 hbl)
      | (go_at_call 23
         refine (write_nil _ _ _ _ _).mono ?_
         rintro e w3 ⟨rfl, rfl⟩))
  go_wp2_with fail
  refine (flush_nil _).mono ?_
  rintro e w' ⟨rfl, rfl⟩
  go_wp2_with fail
  refine (settle_nil _ _ _ _).mono ?_
  rintro e w' ⟨rfl, rfl⟩
  go_wp2_with fail
  refine (crash_nil _ _ _ _).mono ?_
  rintro e w' ⟨rfl, rfl⟩
  go_wp2_with fail
  refine (fuse_nil _ _).mono ?_
  rintro e w' ⟨rfl, rfl⟩
  go_wp2_with fail
  refine (copy_nil _).mono ?_
  rintro e w' ⟨rfl, rfl⟩
  go_wp2_with fail
  refine (size_nil _).mono ?_
  rintro e w' ⟨rfl, rfl⟩
  go_wp2_with fail
  refine (pending_nil _).mono ?_
  rintro e w' ⟨rfl, rfl⟩
  go_wp2_with fail
  refine (image_nil _).mono ?_
  rintro e w' ⟨rfl, rfl⟩
  go_wp2_with fail
  refine (stable_nil _).mono ?_
  rintro e w' ⟨rfl, rfl⟩
  go_wp2
  go_ret
  have h1 := HB0.out.trans (HBB.out.mono HB0.out.size)
  exact ⟨rfl, h1.drew.trans (HW2.out.mono h1.size)⟩

theorem walks : Walks 7 Try.f7 All := by
  intro H enc W base args ds p hval hA hsz _
  rw [Try.params7] at hA hval
  obtain ⟨v0, vs0, d0, ds0, p0, q0, hargs, rfl, rfl, h0, r0⟩ := trodAll_cons hA
  obtain ⟨rfl, rfl, rfl⟩ := trodAll_nil r0
  obtain rfl : args = #[v0] := by cases args; simp_all
  obtain ⟨cs, op, blk, fill, short, A, n, c, bs, rfl, hd⟩ := deed_by_value (hval 0 _ v0 rfl rfl) h0
  exact walk cs op blk fill short A n c bs W hd

set_option maxRecDepth 100000 in
theorem proved : Rows.DiskNoneSaid :=
  OpenClaim.holds_of_wide 7 Try.f7 rfl rfl rfl rfl rfl rfl rfl ⟨rfl, rfl, rfl, rfl, rfl⟩ rfl rfl rfl rfl rfl (by kernel_rfl) Try.func7 (by kernel_rfl)
    (of_decide_eq_true (by kernel_rfl)) (by unfold Func.isWrapper; first | (rw [if_pos (by decide +kernel)]; kernel_rfl) | (rw [if_neg (by decide +kernel)]; exact ⟨rfl, rfl⟩))
    (fun os started H enc _ => lifted (s := Rows.diskNoneSpec) walks (by kernel_rfl) rfl rfl (fun H ds hl => by match ds, hl with | [d1], _ => rfl) (by kernel_rfl) Try.func7 os started H enc
      (ChangeSpec.witness6 (enc := enc) (C := Try.checked) false ⟨#[], #[.agg #[.int .i64 0, .int .i64 0, .int .u8 0, .bool false, .slice none 0 0]], []⟩ 8 (by kernel_rfl) (by kernel_rfl) (by kernel_rfl) (by kernel_rfl)))
#print axioms proved
end Go.Proofs.Ythhfebfabombjaa.DiskNone
