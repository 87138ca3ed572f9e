/-
  No cell of these rows narrows 'for every input' (looked for: loops, veiled, ifaces, maps, wideKeys, modest, calm, conditions, laid).
  DERIVED. THE GIVEN ROWS OF THIS SEAT. 6 by the template 'for every input the law returns true; each argument reads behind the call as it read before'; 0 by the template 'total and deterministic' (their statements: YtbagocghlijleaaGreatTotals.lean).
  GIVEN WITH THE SEED: the statements are not yours to turn. If you find one false, say at which input.
  Laid BY PROGRAM, IN A SANDBOX (cutbox-rows.mjs): the forced cells as the released guide's own fill.sh prints them over the translation fef43f30cb26891f… (all of the seat's roots in one cut). By AI agents, Wed Nov 11 2026. No macro, syntax, notation, axiom, sorry.
-/
import Derived.Test.YtbagocghlijleaaGreatChecked
import GoSem.Claim
import GoSem.ClaimJoined
import GoSem.ClaimMapViews
import Derived.JoinedTies
import Derived.KernelRfl
namespace Go.Proofs.YtbagocghlijleaaGreat
/- THE CELL 'sum', in the pinned program and in every row, IS THE sha256 OF THE DUMP (.gsa) THAT YtbagocghlijleaaGreatProg.lean LOADS. Nothing in Lean hashes anything: it is a label: what it is worth is what the hold of that sum in a sandbox is worth. -/
noncomputable def Tryz.pinned : Pinned := { name := "ytbagocghlijleaagreat", sum := "fef43f30cb26891fcb97bd06c95e44d64f62d898bb92a17682773711c6bd8fdb", checked := Tryz.checked }
namespace Rows
def none {H : Type} : Left H := { results := [], args := [] }

/-- 'undercroftlaw12.HtreeRuns': WHATEVER THE INPUT: true; the input reads as it did. -/
def htreeRunsSpec : ChangeSpec := { name := "htreeRuns", fn := fun _ => fun
  | [d] => { results := [.lit (.bool true)], args := [d] }
  | _ => none }
def htreeRunsRow : OpenClaim := { program := "ytbagocghlijleaagreat", sum := "fef43f30cb26891fcb97bd06c95e44d64f62d898bb92a17682773711c6bd8fdb", func := "undercroft/undercroftlaw12.HtreeRuns", spec := "htreeRuns", inPlace := ["internal/bytealg.IndexByteString", "internal/bytealg.IndexString", "slices.overlaps[undercroft/htree.entry]", "slices.overlaps[undercroft/htree.row]"], unfollowed := true, recurses := true, named := ["internal/bytealg.MaxLen"], apart := false }
def HtreeRunsSaid : Prop := htreeRunsRow.holds Tryz.pinned (OpenSpec.ofChange htreeRunsSpec)

/-- ITS FALSE NEIGHBOUR: 'it returns false'. Refute it at one input. -/
def htreeRunsWrong : ChangeSpec := { name := "htreeRuns", fn := fun _ => fun
  | [d] => { results := [.lit (.bool false)], args := [d] }
  | _ => none }
def HtreeRunsWrongFalsely : Prop := htreeRunsRow.holds Tryz.pinned (OpenSpec.ofChange htreeRunsWrong)

/-- 'undercroftlaw12.HtreeBlocks': WHATEVER THE INPUT: true; the input reads as it did. -/
def htreeBlocksSpec : ChangeSpec := { name := "htreeBlocks", fn := fun _ => fun
  | [d1, d2] => { results := [.lit (.bool true)], args := [d1, d2] }
  | _ => none }
def htreeBlocksRow : OpenClaim := { program := "ytbagocghlijleaagreat", sum := "fef43f30cb26891fcb97bd06c95e44d64f62d898bb92a17682773711c6bd8fdb", func := "undercroft/undercroftlaw12.HtreeBlocks", spec := "htreeBlocks", inPlace := ["internal/bytealg.IndexByteString", "internal/bytealg.IndexString", "slices.overlaps[undercroft/htree.entry]", "slices.overlaps[undercroft/htree.row]"], unfollowed := true, recurses := true, named := ["internal/bytealg.MaxLen"], apart := false }
def HtreeBlocksSaid : Prop := htreeBlocksRow.holds Tryz.pinned (OpenSpec.ofChange htreeBlocksSpec)

/-- ITS FALSE NEIGHBOUR: 'it returns false'. Refute it at one input. -/
def htreeBlocksWrong : ChangeSpec := { name := "htreeBlocks", fn := fun _ => fun
  | [d1, d2] => { results := [.lit (.bool false)], args := [d1, d2] }
  | _ => none }
def HtreeBlocksWrongFalsely : Prop := htreeBlocksRow.holds Tryz.pinned (OpenSpec.ofChange htreeBlocksWrong)

/-- 'undercroftlaw12.HtreeFinds': WHATEVER THE INPUT: true; the input reads as it did. -/
def htreeFindsSpec : ChangeSpec := { name := "htreeFinds", fn := fun _ => fun
  | [d] => { results := [.lit (.bool true)], args := [d] }
  | _ => none }
def htreeFindsRow : OpenClaim := { program := "ytbagocghlijleaagreat", sum := "fef43f30cb26891fcb97bd06c95e44d64f62d898bb92a17682773711c6bd8fdb", func := "undercroft/undercroftlaw12.HtreeFinds", spec := "htreeFinds", inPlace := ["internal/bytealg.IndexByteString", "internal/bytealg.IndexString", "slices.overlaps[undercroft/htree.entry]", "slices.overlaps[undercroft/htree.row]"], unfollowed := true, recurses := true, named := ["internal/bytealg.MaxLen"], apart := false }
def HtreeFindsSaid : Prop := htreeFindsRow.holds Tryz.pinned (OpenSpec.ofChange htreeFindsSpec)

/-- ITS FALSE NEIGHBOUR: 'it returns false'. Refute it at one input. -/
def htreeFindsWrong : ChangeSpec := { name := "htreeFinds", fn := fun _ => fun
  | [d] => { results := [.lit (.bool false)], args := [d] }
  | _ => none }
def HtreeFindsWrongFalsely : Prop := htreeFindsRow.holds Tryz.pinned (OpenSpec.ofChange htreeFindsWrong)

/-- 'undercroftlaw12.HtreeAfter': WHATEVER THE INPUT: true; the input reads as it did. -/
def htreeAfterSpec : ChangeSpec := { name := "htreeAfter", fn := fun _ => fun
  | [d1, d2] => { results := [.lit (.bool true)], args := [d1, d2] }
  | _ => none }
def htreeAfterRow : OpenClaim := { program := "ytbagocghlijleaagreat", sum := "fef43f30cb26891fcb97bd06c95e44d64f62d898bb92a17682773711c6bd8fdb", func := "undercroft/undercroftlaw12.HtreeAfter", spec := "htreeAfter", inPlace := ["internal/bytealg.IndexByteString", "internal/bytealg.IndexString", "slices.overlaps[undercroft/htree.entry]", "slices.overlaps[undercroft/htree.row]"], unfollowed := true, recurses := true, named := ["internal/bytealg.MaxLen"], apart := false }
def HtreeAfterSaid : Prop := htreeAfterRow.holds Tryz.pinned (OpenSpec.ofChange htreeAfterSpec)

/-- ITS FALSE NEIGHBOUR: 'it returns false'. Refute it at one input. -/
def htreeAfterWrong : ChangeSpec := { name := "htreeAfter", fn := fun _ => fun
  | [d1, d2] => { results := [.lit (.bool false)], args := [d1, d2] }
  | _ => none }
def HtreeAfterWrongFalsely : Prop := htreeAfterRow.holds Tryz.pinned (OpenSpec.ofChange htreeAfterWrong)

/-- 'undercroftlaw12.HtreeMeanwhile': WHATEVER THE INPUT: true; the input reads as it did. -/
def htreeMeanwhileSpec : ChangeSpec := { name := "htreeMeanwhile", fn := fun _ => fun
  | [d1, d2, d3] => { results := [.lit (.bool true)], args := [d1, d2, d3] }
  | _ => none }
def htreeMeanwhileRow : OpenClaim := { program := "ytbagocghlijleaagreat", sum := "fef43f30cb26891fcb97bd06c95e44d64f62d898bb92a17682773711c6bd8fdb", func := "undercroft/undercroftlaw12.HtreeMeanwhile", spec := "htreeMeanwhile", inPlace := ["internal/bytealg.IndexByteString", "internal/bytealg.IndexString", "slices.overlaps[undercroft/htree.entry]", "slices.overlaps[undercroft/htree.row]"], unfollowed := true, recurses := true, named := ["internal/bytealg.MaxLen"], apart := false }
def HtreeMeanwhileSaid : Prop := htreeMeanwhileRow.holds Tryz.pinned (OpenSpec.ofChange htreeMeanwhileSpec)

/-- ITS FALSE NEIGHBOUR: 'it returns false'. Refute it at one input. -/
def htreeMeanwhileWrong : ChangeSpec := { name := "htreeMeanwhile", fn := fun _ => fun
  | [d1, d2, d3] => { results := [.lit (.bool false)], args := [d1, d2, d3] }
  | _ => none }
def HtreeMeanwhileWrongFalsely : Prop := htreeMeanwhileRow.holds Tryz.pinned (OpenSpec.ofChange htreeMeanwhileWrong)

/-- 'undercroftlaw12.HtreeSame': WHATEVER THE INPUT: true; the input reads as it did. -/
def htreeSameSpec : ChangeSpec := { name := "htreeSame", fn := fun _ => fun
  | [d1, d2] => { results := [.lit (.bool true)], args := [d1, d2] }
  | _ => none }
def htreeSameRow : OpenClaim := { program := "ytbagocghlijleaagreat", sum := "fef43f30cb26891fcb97bd06c95e44d64f62d898bb92a17682773711c6bd8fdb", func := "undercroft/undercroftlaw12.HtreeSame", spec := "htreeSame", inPlace := ["internal/bytealg.IndexByteString", "internal/bytealg.IndexString", "slices.overlaps[undercroft/htree.entry]", "slices.overlaps[undercroft/htree.row]"], unfollowed := true, recurses := true, named := ["internal/bytealg.MaxLen"], apart := false }
def HtreeSameSaid : Prop := htreeSameRow.holds Tryz.pinned (OpenSpec.ofChange htreeSameSpec)

/-- ITS FALSE NEIGHBOUR: 'it returns false'. Refute it at one input. -/
def htreeSameWrong : ChangeSpec := { name := "htreeSame", fn := fun _ => fun
  | [d1, d2] => { results := [.lit (.bool false)], args := [d1, d2] }
  | _ => none }
def HtreeSameWrongFalsely : Prop := htreeSameRow.holds Tryz.pinned (OpenSpec.ofChange htreeSameWrong)

/- THE SECOND FORM. 'bulk': how many values and letters a reading holds, each counted each time it is reached (what is shared counts as often as it is met; a slice's spare places count too). A statement '..UptoSaid' is the law's where the arguments, and the package variables that the reading takes, are together of bulk at most 1048576: NARROWER than '..Said'. Prove '..Said' where nothing that the law and all that it calls make is longer than what came in: it says more and counts as full. Else prove '..UptoSaid'. A law counts once. -/
mutual
def uptoBulk {H : Type} : DataW H → Nat
  | .lit (.string bytes) => bytes.length + 1
  | .lit _ => 1
  | .nil => 1
  | .ptr d => uptoBulk d + 1
  | .slice elems spare => uptoBulkAll elems + uptoBulkAll spare + 1
  | .agg parts => uptoBulkAll parts + 1
  | .iface _ d => uptoBulk d + 1
  | .map entries => uptoBulkEntries entries + 1
  | .held _ => 1
def uptoBulkAll {H : Type} : List (DataW H) → Nat
  | [] => 0
  | d :: r => uptoBulk d + uptoBulkAll r
def uptoBulkEntries {H : Type} : List (Lit × DataW H) → Nat
  | [] => 0
  | x :: r => uptoBulkEntry x + uptoBulkEntries r
def uptoBulkEntry {H : Type} : Lit × DataW H → Nat
  | (.string bytes, d) => bytes.length + uptoBulk d + 1
  | (_, d) => uptoBulk d + 1
 end
def uptoSmall : (H : Type) → List (DataW H) → Bool := fun _ ds => decide (uptoBulkAll ds ≤ 1048576)
def OpenSpec.upto (s : _root_.Go.ChangeSpec) : _root_.Go.OpenSpec := { _root_.Go.OpenSpec.ofChange s with cond := some uptoSmall }

/-- 'undercroftlaw12.HtreeRuns', WHERE WHAT IT READS IS OF BULK AT MOST 1048576: true; the input reads as it did. -/
def htreeRunsUptoRow : OpenClaim := { program := "ytbagocghlijleaagreat", sum := "fef43f30cb26891fcb97bd06c95e44d64f62d898bb92a17682773711c6bd8fdb", func := "undercroft/undercroftlaw12.HtreeRuns", spec := "htreeRuns", inPlace := ["internal/bytealg.IndexByteString", "internal/bytealg.IndexString", "slices.overlaps[undercroft/htree.entry]", "slices.overlaps[undercroft/htree.row]"], unfollowed := true, recurses := true, named := ["internal/bytealg.MaxLen"], apart := false, narrowed := true }
def HtreeRunsUptoSaid : Prop := htreeRunsUptoRow.holds Tryz.pinned (OpenSpec.upto htreeRunsSpec)

/-- 'undercroftlaw12.HtreeBlocks', WHERE WHAT IT READS IS OF BULK AT MOST 1048576: true; the input reads as it did. -/
def htreeBlocksUptoRow : OpenClaim := { program := "ytbagocghlijleaagreat", sum := "fef43f30cb26891fcb97bd06c95e44d64f62d898bb92a17682773711c6bd8fdb", func := "undercroft/undercroftlaw12.HtreeBlocks", spec := "htreeBlocks", inPlace := ["internal/bytealg.IndexByteString", "internal/bytealg.IndexString", "slices.overlaps[undercroft/htree.entry]", "slices.overlaps[undercroft/htree.row]"], unfollowed := true, recurses := true, named := ["internal/bytealg.MaxLen"], apart := false, narrowed := true }
def HtreeBlocksUptoSaid : Prop := htreeBlocksUptoRow.holds Tryz.pinned (OpenSpec.upto htreeBlocksSpec)

/-- 'undercroftlaw12.HtreeFinds', WHERE WHAT IT READS IS OF BULK AT MOST 1048576: true; the input reads as it did. -/
def htreeFindsUptoRow : OpenClaim := { program := "ytbagocghlijleaagreat", sum := "fef43f30cb26891fcb97bd06c95e44d64f62d898bb92a17682773711c6bd8fdb", func := "undercroft/undercroftlaw12.HtreeFinds", spec := "htreeFinds", inPlace := ["internal/bytealg.IndexByteString", "internal/bytealg.IndexString", "slices.overlaps[undercroft/htree.entry]", "slices.overlaps[undercroft/htree.row]"], unfollowed := true, recurses := true, named := ["internal/bytealg.MaxLen"], apart := false, narrowed := true }
def HtreeFindsUptoSaid : Prop := htreeFindsUptoRow.holds Tryz.pinned (OpenSpec.upto htreeFindsSpec)

/-- 'undercroftlaw12.HtreeAfter', WHERE WHAT IT READS IS OF BULK AT MOST 1048576: true; the input reads as it did. -/
def htreeAfterUptoRow : OpenClaim := { program := "ytbagocghlijleaagreat", sum := "fef43f30cb26891fcb97bd06c95e44d64f62d898bb92a17682773711c6bd8fdb", func := "undercroft/undercroftlaw12.HtreeAfter", spec := "htreeAfter", inPlace := ["internal/bytealg.IndexByteString", "internal/bytealg.IndexString", "slices.overlaps[undercroft/htree.entry]", "slices.overlaps[undercroft/htree.row]"], unfollowed := true, recurses := true, named := ["internal/bytealg.MaxLen"], apart := false, narrowed := true }
def HtreeAfterUptoSaid : Prop := htreeAfterUptoRow.holds Tryz.pinned (OpenSpec.upto htreeAfterSpec)

/-- 'undercroftlaw12.HtreeMeanwhile', WHERE WHAT IT READS IS OF BULK AT MOST 1048576: true; the input reads as it did. -/
def htreeMeanwhileUptoRow : OpenClaim := { program := "ytbagocghlijleaagreat", sum := "fef43f30cb26891fcb97bd06c95e44d64f62d898bb92a17682773711c6bd8fdb", func := "undercroft/undercroftlaw12.HtreeMeanwhile", spec := "htreeMeanwhile", inPlace := ["internal/bytealg.IndexByteString", "internal/bytealg.IndexString", "slices.overlaps[undercroft/htree.entry]", "slices.overlaps[undercroft/htree.row]"], unfollowed := true, recurses := true, named := ["internal/bytealg.MaxLen"], apart := false, narrowed := true }
def HtreeMeanwhileUptoSaid : Prop := htreeMeanwhileUptoRow.holds Tryz.pinned (OpenSpec.upto htreeMeanwhileSpec)

/-- 'undercroftlaw12.HtreeSame', WHERE WHAT IT READS IS OF BULK AT MOST 1048576: true; the input reads as it did. -/
def htreeSameUptoRow : OpenClaim := { program := "ytbagocghlijleaagreat", sum := "fef43f30cb26891fcb97bd06c95e44d64f62d898bb92a17682773711c6bd8fdb", func := "undercroft/undercroftlaw12.HtreeSame", spec := "htreeSame", inPlace := ["internal/bytealg.IndexByteString", "internal/bytealg.IndexString", "slices.overlaps[undercroft/htree.entry]", "slices.overlaps[undercroft/htree.row]"], unfollowed := true, recurses := true, named := ["internal/bytealg.MaxLen"], apart := false, narrowed := true }
def HtreeSameUptoSaid : Prop := htreeSameUptoRow.holds Tryz.pinned (OpenSpec.upto htreeSameSpec)

end Rows
end Go.Proofs.YtbagocghlijleaaGreat
