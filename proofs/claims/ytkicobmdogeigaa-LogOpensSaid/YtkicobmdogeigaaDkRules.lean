/- The operations on a whole write of the program's disk (a number and 256 bytes by value) as words that the walk leaves standing, and what each does in a world. -/
import Derived.Test.YtkicobmdogeigaaDkLow
import Derived.Deep.WholeRow
import Derived.Great.BuildSlice
import Derived.Deep.DrawnRows
namespace Go.Proofs.Ytkicobmdogeigaa.Disk
set_option maxRecDepth 20000
open Go.RowKit
open Go.Proofs.Ytkicobmdogeigaa.Mem

def ldW (x : Value) : Sem Value := Instr.loadAt 96 x
def stW (x v : Value) : Sem Unit := Instr.storeAt 96 x v
def newW (b : Bool) (v : Value) : Sem Value := Instr.alloc 96 b v
def mkW (parts : Array (Nat × Value)) : Sem Value := Instr.build 96 parts
def oneW (n : Nat) (parts : Array (Nat × Value)) : Sem Value := Instr.buildSlice 89 n parts
theorem ldW_eq (x : Value) : Instr.loadAt 96 x = ldW x := rfl
theorem stW_eq (x v : Value) : Instr.storeAt 96 x v = stW x v := rfl
theorem newW_eq (b : Bool) (v : Value) : Instr.alloc 96 b v = newW b v := rfl
theorem mkW_eq (parts : Array (Nat × Value)) : Instr.build 96 parts = mkW parts := rfl
theorem oneW_eq (n : Nat) (parts : Array (Nat × Value)) : Instr.buildSlice 89 n parts = oneW n parts := rfl

def zeroWr : List Value := wcells (0, List.replicate 256 0)
theorem zeroWr_len : zeroWr.length = 257 := wcells_len _ (List.length_replicate ..)
theorem info_wr : (Try.prog.info? 96).map (fun i => (i.zero, i.size, i.bytes)) = some (some (.agg zeroWr.toArray), 257, 264) := by kernel_rfl
theorem size_wr : (Try.prog.info? 96).map (·.size) = some 257 := by kernel_rfl
theorem zeroSz_wr : (Try.prog.info? 96).map (fun i => (i.zero, i.size)) = some (some (.agg zeroWr.toArray), 257) := by kernel_rfl

theorem run_ldW (W : World) (b o : Nat) (cs : List Value) (hr : W.rangeAt b o cs) (hl : cs.length = 257) : (ldW (.pointer (some ⟨b, o, none⟩))).run Try.prog W = .ok (.agg cs.toArray) W :=
  run_loadAt_mid W b o _ cs _ hr Try.underlying96 rfl (by rw [size_wr, hl])
theorem run_stW (W : World) (b o : Nat) (cs : List Value) (ht : W.there b o 257) (hl : cs.length = 257) (h1 : ∀ v ∈ cs, v.oneCell' = true) : (stW (.pointer (some ⟨b, o, none⟩)) (.agg cs.toArray)).run Try.prog W = .ok () (W.setCells b o cs) := by
  have h := run_storeAt_mid (P := Try.prog) W b o 96 cs.toArray (by rw [List.size_toArray, hl]; exact ht) (by rw [size_wr, List.size_toArray, hl]) (all_oneCell_toArray h1)
  rw [← stW_eq]
  simpa using h
/-- A variable of a write, made and at once laid. -/
theorem run_newW (W : World) : (newW true (.tuple #[])).run Try.prog W = .ok (.pointer (some ⟨W.heap.size, 0, none⟩)) (W.alloc (.cells zeroWr.toArray 96)) := by
  have hz := (zero_of_info zeroSz_wr).1
  unfold newW Instr.alloc
  simp [hz, Sem.run_bind, Result.andThen, go_sem]
theorem run_stW_new (W : World) (cs : List Value) (hl : cs.length = 257) (h1 : ∀ v ∈ cs, v.oneCell' = true) :
    (stW (.pointer (some ⟨W.heap.size, 0, none⟩)) (.agg cs.toArray)).run Try.prog (W.alloc (.cells zeroWr.toArray 96)) = .ok () (W.alloc (.cells cs.toArray 96)) :=
  run_storeAt_new W 96 zeroWr.toArray cs.toArray (by rw [size_wr, List.size_toArray, hl]) (by rw [List.size_toArray, List.size_toArray, hl, zeroWr_len]) (all_oneCell_toArray h1)
theorem run_oneW (cs : List Value) (hC : cs.length = 257) (W : World) :
    (oneW 1 #[(0, Value.agg cs.toArray)]).run Try.prog W = .ok (.slice (some ⟨W.heap.size, 0, none⟩) 1 1) (W.alloc (.cells cs.toArray 96)) := by
  obtain ⟨i0, hi, hz0, hz1, hz2⟩ := info_parts info_wr
  refine run_buildSlice W 89 96 1 _ cs.toArray i0 (.agg zeroWr.toArray) Try.underlying89 hi hz0 (by rw [hz1]; omega) (by rw [hz1]; omega) ?_
  rw [hz1]
  have h := Great.fill_whole (s := 257) (by omega) [Value.agg cs.toArray] ((Array.range (1 * 257)).map ((Value.agg zeroWr.toArray).cells[· % (Value.agg zeroWr.toArray).cells.size]!)) (by intro v hv; simp at hv; subst hv; simpa [Value.cells] using hC) (by simp)
  simpa [Value.cells] using h
theorem run_mkW (b : Int) (W : World) : (mkW #[(0, .int .i64 b)]).run Try.prog W = .ok (.agg (Value.int .i64 b :: (List.replicate 256 (0 : UInt8)).map byteV).toArray) W :=
  run_build W 96 _ _ (by kernel_rfl)
end Go.Proofs.Ytkicobmdogeigaa.Disk
