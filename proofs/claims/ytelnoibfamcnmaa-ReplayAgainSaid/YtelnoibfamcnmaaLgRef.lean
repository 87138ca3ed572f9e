/- Contracts of the document's making, reading and opening a log. -/
import Derived.Test.YtelnoibfamcnmaaLgLog
import Derived.Test.YtelnoibfamcnmaaRfLow
import Derived.Test.YtelnoibfamcnmaaDkRefE
import Derived.Deep.RegionWith
import Derived.Deep.RegionHeld
namespace Go.Proofs.Ytelnoibfamcnmaa.Log
set_option maxRecDepth 20000
open Go.RowKit
open Go.Proofs.Ytelnoibfamcnmaa.Mem Go.Proofs.Ytelnoibfamcnmaa.Crc Go.Proofs.Ytelnoibfamcnmaa.Disk
open Go.Proofs.Ytelnoibfamcnmaa.Rec (numFrom numFrom_lt at_ref eqB)

end Go.Proofs.Ytelnoibfamcnmaa.Log
