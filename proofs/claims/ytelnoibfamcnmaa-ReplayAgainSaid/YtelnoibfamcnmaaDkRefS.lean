/- The document's disk: Settle. -/
import Derived.Test.YtelnoibfamcnmaaDkRefR
import Derived.Test.YtelnoibfamcnmaaDkSettle
namespace Go.Proofs.Ytelnoibfamcnmaa.Disk
set_option maxRecDepth 20000
open Go.RowKit
open Go.Proofs.Ytelnoibfamcnmaa.Mem Go.Proofs.Ytelnoibfamcnmaa.Reg

/-- Which of the Writes are gone behind k rounds. -/
def goneF (bits : List UInt8) (bl : Nat → Nat) : Nat → Nat → Bool
  | 0, _ => false
  | k + 1, i => goneF bits bl k i || (Dk.bit bits k && (decide (i ≤ k) && bl i == bl k))
def inG (bits : List UInt8) (bl : Nat → Nat) (k j i : Nat) : Bool := goneF bits bl k i || (decide (i < j) && bl i == bl k)
def flags (g : Nat → Bool) (n : Nat) : Array Value := ((List.range n).map (fun i => Value.bool (g i))).toArray
def blkOf (R : RefLow) (i : Nat) : Nat := ((R.ws.map WrAt.plain).getD i (0, [])).1
def RefLow.settled (R : RefLow) (bits : List UInt8) (k : Nat) : RefLow := { R with st := settleL bits (R.ws.map WrAt.plain) R.st k }
def keptR (g : Nat → Bool) (ws : List WrAt) : Nat → List WrAt
  | 0 => []
  | k + 1 => keptR g ws k ++ (match ws[k]? with
    | some x => if g k then [] else [x]
    | none => [])
theorem keptR_len (g : Nat → Bool) (ws : List WrAt) : ∀ k, (keptR g ws k).length ≤ k
  | 0 => Nat.le_refl _
  | k + 1 => by
    unfold keptR
    rw [List.length_append]
    have := keptR_len g ws k
    split
    · split <;> simp <;> omega
    · simp; omega
theorem keptR_gone {g : Nat → Bool} {ws : List WrAt} {k : Nat} (h : g k = true) : keptR g ws (k + 1) = keptR g ws k := by
  show keptR g ws k ++ _ = _
  cases ws[k]? <;> simp [h]
theorem keptR_stays {g : Nat → Bool} {ws : List WrAt} {k : Nat} {x : WrAt} (h : g k = false) (hx : ws[k]? = some x) : keptR g ws (k + 1) = keptR g ws k ++ [x] := by
  show keptR g ws k ++ _ = _
  rw [hx]; simp [h]

end Go.Proofs.Ytelnoibfamcnmaa.Disk
