/- A log's opening by the program and by the document, on disks beside each other. -/
import Derived.Test.YtelnoibfamcnmaaLgRef
import Derived.Test.YtelnoibfamcnmaaLgAlive
namespace Go.Proofs.Ytelnoibfamcnmaa.Log
set_option maxRecDepth 20000
open Go.RowKit
open Go.Proofs.Ytelnoibfamcnmaa.Mem Go.Proofs.Ytelnoibfamcnmaa.Crc Go.Proofs.Ytelnoibfamcnmaa.Disk
open Go.Proofs.Ytelnoibfamcnmaa.Rec (eqB)

/-- A log of the document's at m. -/
def RefLog (w : World) (m r : Nat) (s l : Int) (seq pl : Nat) : Prop := w.heap[m]? = some (.cells #[.pointer (some ⟨r, 0, none⟩), .int .i64 s, .int .i64 l, .int .u64 (seq : Int), .int .i64 (pl : Int), .slice none 0 0] 72 (0, 0))

end Go.Proofs.Ytelnoibfamcnmaa.Log

namespace Go.Proofs.Ytelnoibfamcnmaa.Log
set_option maxRecDepth 20000
open Go.RowKit
open Go.Proofs.Ytelnoibfamcnmaa.Mem Go.Proofs.Ytelnoibfamcnmaa.Crc Go.Proofs.Ytelnoibfamcnmaa.Disk

/-- What the two openings answer, one behind the other. -/
def Opens (p r : Nat) (S L : Int) (w : World) : Prop :=
  (∃ code : Int, (code = 1 ∨ code = 13) ∧ Calls Try.prog 33 #[.pointer (some ⟨p, 0, none⟩), .int .i64 S, .int .i64 L] w fun e w7 => e = .returned (.tuple #[.pointer none, .int .i64 code]) ∧ Below w.heap.size w w7 ∧
    Calls Try.prog 40 #[.pointer (some ⟨r, 0, none⟩), .int .i64 S, .int .i64 L] w7 fun e w8 => e = .returned (.tuple #[.pointer none, .int .i64 code]) ∧ Below w7.heap.size w7 w8) ∨
  (∃ s l seq pl : Nat, L = (l : Int) ∧ 8 ≤ l ∧ l ≤ 1024 ∧ Calls Try.prog 33 #[.pointer (some ⟨p, 0, none⟩), .int .i64 S, .int .i64 L] w fun e w7 => ∃ lp, e = .returned (.tuple #[.pointer (some ⟨lp, 0, none⟩), .int .i64 0]) ∧ LogAt w7 lp p (s : Int) ((l : Int) - 1) seq pl 0 (.slice none 0 0) ∧ Below w.heap.size w w7 ∧
    Calls Try.prog 40 #[.pointer (some ⟨r, 0, none⟩), .int .i64 S, .int .i64 L] w7 fun e w8 => ∃ m, e = .returned (.tuple #[.pointer (some ⟨m, 0, none⟩), .int .i64 0]) ∧ RefLog w8 m r (s : Int) (l : Int) seq pl ∧ Below w7.heap.size w7 w8)

/-- A block is written to both, and both are opened. -/
def Wrote2 (p r : Nat) (S L : Int) (v : Value) (B : Nat) (w : World) : Prop :=
  Calls Try.prog 26 #[.pointer (some ⟨p, 0, none⟩), .int .i64 S, v] w fun e w5 => (∃ u, e = .returned u) ∧ Below B w w5 ∧
    Calls Try.prog 39 #[.pointer (some ⟨r, 0, none⟩), .int .i64 S, v] w5 fun e w6 => (∃ u, e = .returned u) ∧ Below B w5 w6 ∧ Opens p r S L w6

end Go.Proofs.Ytelnoibfamcnmaa.Log

