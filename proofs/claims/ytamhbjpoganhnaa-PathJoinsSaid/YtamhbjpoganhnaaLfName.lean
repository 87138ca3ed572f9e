/- Which name may be. -/
import Derived.Test.YtamhbjpoganhnaaMem
namespace Go.Proofs.Ytamhbjpoganhnaa.Lf
def may (t : List UInt8) : Bool := decide (1 ≤ t.length ∧ t.length ≤ 32) && (decide (t ≠ [46]) && (decide (t ≠ [46, 46]) && (!t.contains 0 && !t.contains 47)))
end Go.Proofs.Ytamhbjpoganhnaa.Lf
