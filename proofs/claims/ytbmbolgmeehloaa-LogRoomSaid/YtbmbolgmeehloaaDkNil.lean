/- Contracts of the calls of a disk that is none, and of the bytes that a deed writes. -/
import Derived.Test.YtbmbolgmeehloaaDkAlive
namespace Go.Proofs.Ytbmbolgmeehloaa.Disk
set_option maxRecDepth 20000
open Go.RowKit
open Go.Proofs.Ytbmbolgmeehloaa.Mem

theorem flush_nil (w : World) : Calls Try.prog 26 #[.pointer none] w fun e w' => e = .returned (.tuple #[]) ∧ w = w' := by
  go_enter Try.func26, Try.ntmps26
  go_wp2
  refine bodyPost_ret (results_none rfl _ _ _) rfl ?_
  exact ⟨rfl, rfl⟩
theorem settle_nil (A : Option Addr) (n c : Nat) (w : World) : Calls Try.prog 49 #[.pointer none, .slice A n c] w fun e w' => e = .returned (.tuple #[]) ∧ w = w' := by
  go_enter Try.func49, Try.ntmps49
  go_wp2
  refine bodyPost_ret (results_none rfl _ _ _) rfl ?_
  exact ⟨rfl, rfl⟩
theorem crash_nil (A : Option Addr) (n c : Nat) (w : World) : Calls Try.prog 27 #[.pointer none, .slice A n c] w fun e w' => e = .returned (.tuple #[]) ∧ w = w' := by
  go_enter Try.func27, Try.ntmps27
  go_wp2
  refine bodyPost_ret (results_none rfl _ _ _) rfl ?_
  exact ⟨rfl, rfl⟩
theorem fuse_nil (i : Int) (w : World) : Calls Try.prog 51 #[.pointer none, .int .i64 i] w fun e w' => e = .returned (.tuple #[]) ∧ w = w' := by
  go_enter Try.func51, Try.ntmps51
  go_wp2
  refine bodyPost_ret (results_none rfl _ _ _) rfl ?_
  exact ⟨rfl, rfl⟩
theorem copy_nil (w : World) : Calls Try.prog 20 #[.pointer none] w fun e w' => e = .returned (.pointer none) ∧ w = w' := by
  go_enter Try.func20, Try.ntmps20
  go_wp2
  go_ret
  exact ⟨rfl, rfl⟩
theorem image_nil (w : World) : Calls Try.prog 21 #[.pointer none] w fun e w' => e = .returned (.slice none 0 0) ∧ w = w' := by
  go_enter Try.func21, Try.ntmps21
  go_wp2
  go_ret
  exact ⟨rfl, rfl⟩
theorem stable_nil (w : World) : Calls Try.prog 23 #[.pointer none] w fun e w' => e = .returned (.slice none 0 0) ∧ w = w' := by
  go_enter Try.func23, Try.ntmps23
  go_wp2
  go_ret
  exact ⟨rfl, rfl⟩

/-- What a deed writes. -/
def dataAt (fill : UInt8) (i : Nat) : UInt8 := fill + UInt8.ofNat (i / 64)
def dataN (short : Bool) : Nat := if short then 255 else 256
def dataL (fill : UInt8) (short : Bool) : List UInt8 := (List.range (dataN short)).map (dataAt fill)
def dataV (fill : UInt8) (i : Nat) : Value := byteV (dataAt fill i)
theorem dataL_len (fill : UInt8) (short : Bool) : (dataL fill short).length = dataN short := by simp [dataL]
theorem dataN_le (short : Bool) : 0 < dataN short ∧ dataN short ≤ 256 := by unfold dataN; split <;> omega
theorem data_full (fill : UInt8) (short : Bool) : partly (dataV fill) (byteV 0) (dataN short) (dataN short) = ((dataL fill short).map byteV).toArray := by
  apply Array.ext_getElem?
  intro j
  by_cases hj : j < dataN short
  · rw [partly_get _ _ _ _ _ hj hj]; simp [dataL, hj, dataV]
  · rw [Array.getElem?_eq_none (by rw [partly_size]; omega)]; rw [List.getElem?_toArray, List.getElem?_eq_none (by simp [dataL]; omega)]
theorem add_u8 (f : UInt8) (k : Nat) : ((f.toNat : Int) + (k : Int) / 64) % 256 = ((dataAt f k).toNat : Int) := by
  unfold dataAt
  rw [UInt8.toNat_add, UInt8.toNat_ofNat']
  omega

def deedV (op blk : Int) (fill : UInt8) (short : Bool) (A : Option Addr) (n c : Nat) : Array Value := #[.int .i64 op, .int .i64 blk, .int .u8 (fill.toNat : Int), .bool short, .slice A n c]

/-- New bytes in a block of their own. -/
def Fresh (w : World) (bs : List UInt8) (e : Ending) (w' : World) : Prop := ∃ b, e = .returned (.slice (some ⟨b, 0, none⟩) bs.length bs.length) ∧ w.heap.size ≤ b ∧ w'.heap[b]? = some (.cells (bs.map byteV).toArray 5 (0, 0)) ∧ Below w.heap.size w w'

theorem run_makeN (n : Nat) (hn : n ≤ 256) (f : Nat → Value) (w : World) : (Instr.makeSlice 33 (.int .i64 (n : Int)) (.int .i64 (n : Int))).run Try.prog w = .ok (.slice (some ⟨w.heap.size, 0, none⟩) n n) (w.alloc (.cells (partly f (byteV 0) n 0) 5)) := by
  rw [run_make_row' 33 5 (.int .u8 0) 1 Try.underlying33 info_u8 rfl .i64 .i64 n (by omega) (by omega) w, ← partly_zero]
  congr 3
  apply Array.ext_getElem?
  intro j
  simp only [madeCells, Array.getElem?_map, Array.getElem?_replicate]
  by_cases hj : j < n
  · have : j % 1 = 0 := by omega
    simp [hj, this, byteV]
  · simp [hj]

set_option maxHeartbeats 1000000 in
theorem data_any (op blk : Int) (fill : UInt8) (short : Bool) (A : Option Addr) (nb c : Nat) (w : World) :
    Calls Try.prog 25 #[.agg (deedV op blk fill short A nb c)] w (Fresh w (dataL fill short)) := by
  unfold deedV
  have hfb := fill.toNat_lt
  cases short
  · have hmk : ∀ W, (Instr.makeSlice 33 (.int .i64 256) (.int .i64 256)).run Try.prog W = .ok (.slice (some ⟨W.heap.size, 0, none⟩) 256 256) (W.alloc (.cells (partly (dataV fill) (byteV 0) 256 0) 5)) := run_makeN 256 (by omega) (dataV fill)
    have HMK := Lib.hid hmk; clear hmk
    go_enter Try.func25, Try.ntmps25
    go_wp2_with fail
    rw [HMK.out]
    simp only [Result.andThen]
    rw [Oper.upon_value]
    obtain ⟨w1, hw1⟩ : ∃ w1, w1 = w.alloc (.cells #[.int .i64 op, .int .i64 blk, .int .u8 (fill.toNat : Int), .bool false, .slice A nb c] 35) := ⟨_, rfl⟩
    rw [← hw1]
    have hc : w1.cell? ⟨w.heap.size, 2, none⟩ = some (.int .u8 (fill.toNat : Int)) := by rw [hw1, cell_of_row _ _ _ _ _ _ (heap_alloc_new w _)]; rfl
    have hs : w1.heap.size = w.heap.size + 1 := by rw [hw1]; simp
    have hb : Below w.heap.size w w1 := by rw [hw1]; exact (Below.refl _ _).alloc (Nat.le_refl _) _
    clear hw1
    have HS := Lib.hid hs; clear hs
    have HB := Lib.hid hb; clear hb
    have HC := Lib.hid hc; clear hc
    go_wp2
    go_loopw [5] (fun i wr => ∃ k : Nat, k ≤ 256 ∧ i = .int .i64 k ∧ wr = w1.alloc (.cells (partly (dataV fill) (byteV 0) 256 k) 5)) (fun i _ => 256 - (intOf i).toNat)
    case atStart => exact ⟨0, by omega, rfl, rfl⟩
    case round =>
      obtain ⟨k, hk, rfl, rfl⟩ := hrel
      by_cases hlt : k < 256
      · have hcw : (w1.alloc (.cells (partly (dataV fill) (byteV 0) 256 k) 5)).cell? ⟨w.heap.size, 2, none⟩ = some (.int .u8 (fill.toNat : Int)) := by
          rw [World.cell?_of_block (Below.heap_alloc w1 _ w.heap.size (by have := HS.out; omega))]; exact HC.out
        have hk1 : (0 : Int) ≤ (k : Int) := by omega
        have hk2 : (k : Int) < 256 := by omega
        have hsz := partly_size (dataV fill) (byteV 0) 256 k
        have hset := partly_set (dataV fill) (byteV 0) 256 k hlt
        have HST := Lib.hid hset; clear hset
        go_wp2
        go_roundw
        case rel =>
          refine ⟨k + 1, by omega, by go_num, ?_⟩
          rw [add_u8 fill k, ← HST.out]
          rfl
        case measure => simp [intOf]; omega
      · obtain rfl : k = 256 := by omega
        have hfull := data_full fill false
        rw [show dataN false = 256 from rfl] at hfull
        rw [hfull]
        clear hfull
        go_wp2
        go_ret
        refine ⟨w1.heap.size, by rw [dataL_len]; rfl, by have := HS.out; omega, heap_alloc_new w1 _, HB.out.alloc (by have := HS.out; omega) _⟩
  · have hmk : ∀ W, (Instr.makeSlice 33 (.int .i64 255) (.int .i64 255)).run Try.prog W = .ok (.slice (some ⟨W.heap.size, 0, none⟩) 255 255) (W.alloc (.cells (partly (dataV fill) (byteV 0) 255 0) 5)) := run_makeN 255 (by omega) (dataV fill)
    have HMK := Lib.hid hmk; clear hmk
    go_enter Try.func25, Try.ntmps25
    go_wp2_with fail
    rw [HMK.out]
    simp only [Result.andThen]
    rw [Oper.upon_value]
    obtain ⟨w1, hw1⟩ : ∃ w1, w1 = w.alloc (.cells #[.int .i64 op, .int .i64 blk, .int .u8 (fill.toNat : Int), .bool true, .slice A nb c] 35) := ⟨_, rfl⟩
    rw [← hw1]
    have hc : w1.cell? ⟨w.heap.size, 2, none⟩ = some (.int .u8 (fill.toNat : Int)) := by rw [hw1, cell_of_row _ _ _ _ _ _ (heap_alloc_new w _)]; rfl
    have hs : w1.heap.size = w.heap.size + 1 := by rw [hw1]; simp
    have hb : Below w.heap.size w w1 := by rw [hw1]; exact (Below.refl _ _).alloc (Nat.le_refl _) _
    clear hw1
    have HS := Lib.hid hs; clear hs
    have HB := Lib.hid hb; clear hb
    have HC := Lib.hid hc; clear hc
    go_wp2
    go_loopw [5] (fun i wr => ∃ k : Nat, k ≤ 255 ∧ i = .int .i64 k ∧ wr = w1.alloc (.cells (partly (dataV fill) (byteV 0) 255 k) 5)) (fun i _ => 255 - (intOf i).toNat)
    case atStart => exact ⟨0, by omega, rfl, rfl⟩
    case round =>
      obtain ⟨k, hk, rfl, rfl⟩ := hrel
      by_cases hlt : k < 255
      · have hcw : (w1.alloc (.cells (partly (dataV fill) (byteV 0) 255 k) 5)).cell? ⟨w.heap.size, 2, none⟩ = some (.int .u8 (fill.toNat : Int)) := by
          rw [World.cell?_of_block (Below.heap_alloc w1 _ w.heap.size (by have := HS.out; omega))]; exact HC.out
        have hk1 : (0 : Int) ≤ (k : Int) := by omega
        have hk2 : (k : Int) < 255 := by omega
        have hsz := partly_size (dataV fill) (byteV 0) 255 k
        have hset := partly_set (dataV fill) (byteV 0) 255 k hlt
        have HST := Lib.hid hset; clear hset
        go_wp2
        go_roundw
        case rel =>
          refine ⟨k + 1, by omega, by go_num, ?_⟩
          rw [add_u8 fill k, ← HST.out]
          rfl
        case measure => simp [intOf]; omega
      · obtain rfl : k = 255 := by omega
        have hfull := data_full fill true
        rw [show dataN true = 255 from rfl] at hfull
        rw [hfull]
        clear hfull
        go_wp2
        go_ret
        refine ⟨w1.heap.size, by rw [dataL_len]; rfl, by have := HS.out; omega, heap_alloc_new w1 _, HB.out.alloc (by have := HS.out; omega) _⟩

/-- The same for a whole block. -/
def Fresh256 (w : World) (bs : List UInt8) (e : Ending) (w' : World) : Prop := ∃ b, e = .returned (.slice (some ⟨b, 0, none⟩) 256 256) ∧ bs.length = 256 ∧ w.heap.size ≤ b ∧ w'.heap[b]? = some (.cells (bs.map byteV).toArray 5 (0, 0)) ∧ Below w.heap.size w w'
theorem data_long (op blk : Int) (fill : UInt8) (A : Option Addr) (nb c : Nat) (w : World) :
    Calls Try.prog 25 #[.agg #[.int .i64 op, .int .i64 blk, .int .u8 (fill.toNat : Int), .bool false, .slice A nb c]] w (Fresh256 w (dataL fill false)) := by
  refine (data_any op blk fill false A nb c w).mono ?_
  rintro e w' ⟨b, rfl, h⟩
  have hl : (dataL fill false).length = 256 := by rw [dataL_len]; rfl
  rw [hl]
  exact ⟨b, rfl, hl, h⟩
theorem range_of_heap {w : World} {b : Nat} {cs : List Value} {t : TypeId} {fr : Nat × Nat} (h : w.heap[b]? = some (.cells cs.toArray t fr)) : w.rangeAt b 0 cs := fun j v hv => by
  rw [Nat.zero_add, cell_of_row _ _ _ _ _ _ h]; simpa using hv
end Go.Proofs.Ytbmbolgmeehloaa.Disk
