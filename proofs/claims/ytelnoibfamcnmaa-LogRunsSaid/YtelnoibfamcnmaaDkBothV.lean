/- A write done to both: op & 7 = 0, 4, 5; and any deed. -/
import Derived.Test.YtelnoibfamcnmaaDkBothW
namespace Go.Proofs.Ytelnoibfamcnmaa.Disk
set_option maxRecDepth 20000
open Go.RowKit
open Go.Proofs.Ytelnoibfamcnmaa.Mem

/-- What a deed makes of a disk. -/
def bothD (d : Dk.Dk) (op blk : Int) (fill : UInt8) (short : Bool) (bs : List UInt8) : Dk.Dk :=
  if bits .and .i64 op 7 = 1 then d.flush else if bits .and .i64 op 7 = 2 then d.settle bs else if bits .and .i64 op 7 = 6 then d.setFuse blk
  else if bits .and .i64 op 7 = 3 ∨ bits .and .i64 op 7 = 7 then d.crash bs else wdk d blk fill short
end Go.Proofs.Ytelnoibfamcnmaa.Disk
