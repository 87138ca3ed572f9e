/- A record among the arguments, once more: the data of each Write is bounded, too. -/
import Derived.Test.YtelnoibfamcnmaaGreatRcHeld
namespace Go.Proofs.YtelnoibfamcnmaaGreat.Rec
set_option maxRecDepth 20000
open Go.ChangeShapes Go.WideShapes Go.ChangeAt Go.RowKit Go.Deep
open Go.Proofs.YtelnoibfamcnmaaGreat.Mem Go.Proofs.YtelnoibfamcnmaaGreat.Lift Go.Proofs.YtelnoibfamcnmaaGreat.Crc

/-- The data of each Write is of a length that Go can reach. -/
def Wides (ws : List Wt) : Prop := ∀ x ∈ ws, x.2.length ≤ 140737488351232
/-- All parts of a record are of lengths that Go can reach. -/
structure Wide (t : Tx) : Prop where
  data : Wides t.ws
  nw : t.ws.length ≤ 4398046510976
  nr : t.rs.length ≤ 17592186043904

end Go.Proofs.YtelnoibfamcnmaaGreat.Rec
