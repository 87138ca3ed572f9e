/- The document's disk: a block read, the image. -/
import Derived.Test.YtelnoibfamcnmaaDkRefF
import Derived.Test.YtelnoibfamcnmaaDkCrash
import Derived.Test.YtelnoibfamcnmaaDkRead
namespace Go.Proofs.Ytelnoibfamcnmaa.Disk
set_option maxRecDepth 20000
open Go.RowKit
open Go.Proofs.Ytelnoibfamcnmaa.Mem Go.Proofs.Ytelnoibfamcnmaa.Reg

def RefLow.torn (R : RefLow) (bits : List UInt8) (k s : Nat) : RefLow := { R with st := tearL bits k ((R.ws.map WrAt.plain).getD k (0, [])) (crashL bits (R.ws.map WrAt.plain) R.st k) s }
def RefLow.crashed (R : RefLow) (bits : List UInt8) (k : Nat) : RefLow := { R with st := crashL bits (R.ws.map WrAt.plain) R.st k }
end Go.Proofs.Ytelnoibfamcnmaa.Disk

namespace Go.Proofs.Ytelnoibfamcnmaa.Disk
set_option maxRecDepth 20000
open Go.RowKit
open Go.Proofs.Ytelnoibfamcnmaa.Mem Go.Proofs.Ytelnoibfamcnmaa.Reg

/-- What is read of a block. -/
def readR (R : RefLow) (i : Nat) : List UInt8 := Dk.last (Dk.last ((R.st.drop (i * 256)).take 256) (R.ws.map WrAt.plain) i) (R.gs.map WrAt.plain) i

/-- The block's bytes so far: where they lie. -/
def Lies (w : World) (v : Value) (bs : List UInt8) : Prop := ∃ b o c, v = .slice (some ⟨b, o, none⟩) 256 c ∧ b < w.heap.size ∧ w.rangeAt b o (bs.map byteV) ∧ bs.length = 256 ∧ 256 ≤ c ∧ c ≤ maxLen

def imageR (R : RefLow) (k : Nat) : List UInt8 := (List.range k).flatMap (readR R)
end Go.Proofs.Ytelnoibfamcnmaa.Disk
