/-
  No cell of these rows narrows 'for every input' (looked for: loops, veiled, ifaces, maps, wideKeys, modest, calm, conditions, laid).
  DERIVED. THE GIVEN ROWS OF THIS SEAT. 5 by the template 'for every input the law returns true; each argument reads behind the call as it read before'; 0 by the template 'total and deterministic' (their statements: YtbagocghlijleaaTotals.lean).
  GIVEN WITH THE SEED: the statements are not yours to turn. If you find one false, say at which input.
  Laid BY PROGRAM, IN A SANDBOX (cutbox-rows.mjs): the forced cells as the released guide's own fill.sh prints them over the translation a7aa0727589dfc2a… (all of the seat's roots in one cut). By AI agents, Wed Nov 11 2026. No macro, syntax, notation, axiom, sorry.
-/
import Derived.Test.YtbagocghlijleaaChecked
import GoSem.Claim
import GoSem.ClaimJoined
import GoSem.ClaimMapViews
import Derived.JoinedTies
import Derived.KernelRfl
namespace Go.Proofs.Ytbagocghlijleaa
/- THE CELL 'sum', in the pinned program and in every row, IS THE sha256 OF THE DUMP (.gsa) THAT YtbagocghlijleaaProg.lean LOADS. Nothing in Lean hashes anything: it is a label: what it is worth is what the hold of that sum in a sandbox is worth. -/
noncomputable def Try.pinned : Pinned := { name := "ytbagocghlijleaa", sum := "a7aa0727589dfc2a0917ec79fe1445ea3da81129a9dc8ebcd9cef8b7c430e8aa", checked := Try.checked }
namespace Rows
def none {H : Type} : Left H := { results := [], args := [] }

/-- 'undercroftlaw13.AttrTurns': WHATEVER THE INPUT: true; the input reads as it did. -/
def attrTurnsSpec : ChangeSpec := { name := "attrTurns", fn := fun _ => fun
  | [d1, d2] => { results := [.lit (.bool true)], args := [d1, d2] }
  | _ => none }
def attrTurnsRow : OpenClaim := { program := "ytbagocghlijleaa", sum := "a7aa0727589dfc2a0917ec79fe1445ea3da81129a9dc8ebcd9cef8b7c430e8aa", func := "undercroft/undercroftlaw13.AttrTurns", spec := "attrTurns", inPlace := ["internal/bytealg.abigen_runtime_cmpstring", "slices.overlaps[undercroft/api.Pair]"], unfollowed := true, recurses := true, apart := false }
def AttrTurnsSaid : Prop := attrTurnsRow.holds Try.pinned (OpenSpec.ofChange attrTurnsSpec)

/-- ITS FALSE NEIGHBOUR: 'it returns false'. Refute it at one input. -/
def attrTurnsWrong : ChangeSpec := { name := "attrTurns", fn := fun _ => fun
  | [d1, d2] => { results := [.lit (.bool false)], args := [d1, d2] }
  | _ => none }
def AttrTurnsWrongFalsely : Prop := attrTurnsRow.holds Try.pinned (OpenSpec.ofChange attrTurnsWrong)

/-- 'undercroftlaw13.AttrBlocks': WHATEVER THE INPUT: true; the input reads as it did. -/
def attrBlocksSpec : ChangeSpec := { name := "attrBlocks", fn := fun _ => fun
  | [d1, d2] => { results := [.lit (.bool true)], args := [d1, d2] }
  | _ => none }
def attrBlocksRow : OpenClaim := { program := "ytbagocghlijleaa", sum := "a7aa0727589dfc2a0917ec79fe1445ea3da81129a9dc8ebcd9cef8b7c430e8aa", func := "undercroft/undercroftlaw13.AttrBlocks", spec := "attrBlocks", inPlace := ["internal/bytealg.abigen_runtime_cmpstring", "slices.overlaps[undercroft/api.Pair]"], unfollowed := true, recurses := true, apart := false }
def AttrBlocksSaid : Prop := attrBlocksRow.holds Try.pinned (OpenSpec.ofChange attrBlocksSpec)

/-- ITS FALSE NEIGHBOUR: 'it returns false'. Refute it at one input. -/
def attrBlocksWrong : ChangeSpec := { name := "attrBlocks", fn := fun _ => fun
  | [d1, d2] => { results := [.lit (.bool false)], args := [d1, d2] }
  | _ => none }
def AttrBlocksWrongFalsely : Prop := attrBlocksRow.holds Try.pinned (OpenSpec.ofChange attrBlocksWrong)

/-- 'undercroftlaw13.AttrBack': WHATEVER THE INPUT: true; the input reads as it did. -/
def attrBackSpec : ChangeSpec := { name := "attrBack", fn := fun _ => fun
  | [d1, d2, d3] => { results := [.lit (.bool true)], args := [d1, d2, d3] }
  | _ => none }
def attrBackRow : OpenClaim := { program := "ytbagocghlijleaa", sum := "a7aa0727589dfc2a0917ec79fe1445ea3da81129a9dc8ebcd9cef8b7c430e8aa", func := "undercroft/undercroftlaw13.AttrBack", spec := "attrBack", inPlace := ["internal/bytealg.abigen_runtime_cmpstring", "slices.overlaps[undercroft/api.Pair]"], unfollowed := true, recurses := true, apart := false }
def AttrBackSaid : Prop := attrBackRow.holds Try.pinned (OpenSpec.ofChange attrBackSpec)

/-- ITS FALSE NEIGHBOUR: 'it returns false'. Refute it at one input. -/
def attrBackWrong : ChangeSpec := { name := "attrBack", fn := fun _ => fun
  | [d1, d2, d3] => { results := [.lit (.bool false)], args := [d1, d2, d3] }
  | _ => none }
def AttrBackWrongFalsely : Prop := attrBackRow.holds Try.pinned (OpenSpec.ofChange attrBackWrong)

/-- 'undercroftlaw13.AttrGets': WHATEVER THE INPUT: true; the input reads as it did. -/
def attrGetsSpec : ChangeSpec := { name := "attrGets", fn := fun _ => fun
  | [d1, d2, d3] => { results := [.lit (.bool true)], args := [d1, d2, d3] }
  | _ => none }
def attrGetsRow : OpenClaim := { program := "ytbagocghlijleaa", sum := "a7aa0727589dfc2a0917ec79fe1445ea3da81129a9dc8ebcd9cef8b7c430e8aa", func := "undercroft/undercroftlaw13.AttrGets", spec := "attrGets", inPlace := ["internal/bytealg.abigen_runtime_cmpstring", "slices.overlaps[undercroft/api.Pair]"], unfollowed := true, recurses := true, apart := false }
def AttrGetsSaid : Prop := attrGetsRow.holds Try.pinned (OpenSpec.ofChange attrGetsSpec)

/-- ITS FALSE NEIGHBOUR: 'it returns false'. Refute it at one input. -/
def attrGetsWrong : ChangeSpec := { name := "attrGets", fn := fun _ => fun
  | [d1, d2, d3] => { results := [.lit (.bool false)], args := [d1, d2, d3] }
  | _ => none }
def AttrGetsWrongFalsely : Prop := attrGetsRow.holds Try.pinned (OpenSpec.ofChange attrGetsWrong)

/-- 'undercroftlaw13.AttrOrder': WHATEVER THE INPUT: true; the input reads as it did. -/
def attrOrderSpec : ChangeSpec := { name := "attrOrder", fn := fun _ => fun
  | [d1, d2] => { results := [.lit (.bool true)], args := [d1, d2] }
  | _ => none }
def attrOrderRow : OpenClaim := { program := "ytbagocghlijleaa", sum := "a7aa0727589dfc2a0917ec79fe1445ea3da81129a9dc8ebcd9cef8b7c430e8aa", func := "undercroft/undercroftlaw13.AttrOrder", spec := "attrOrder", inPlace := ["internal/bytealg.abigen_runtime_cmpstring", "slices.overlaps[undercroft/api.Pair]"], unfollowed := true, recurses := true, apart := false }
def AttrOrderSaid : Prop := attrOrderRow.holds Try.pinned (OpenSpec.ofChange attrOrderSpec)

/-- ITS FALSE NEIGHBOUR: 'it returns false'. Refute it at one input. -/
def attrOrderWrong : ChangeSpec := { name := "attrOrder", fn := fun _ => fun
  | [d1, d2] => { results := [.lit (.bool false)], args := [d1, d2] }
  | _ => none }
def AttrOrderWrongFalsely : Prop := attrOrderRow.holds Try.pinned (OpenSpec.ofChange attrOrderWrong)

/- THE SECOND FORM. 'bulk': how many values and letters a reading holds, each counted each time it is reached (what is shared counts as often as it is met; a slice's spare places count too). A statement '..UptoSaid' is the law's where the arguments, and the package variables that the reading takes, are together of bulk at most 1048576: NARROWER than '..Said'. Prove '..Said' where nothing that the law and all that it calls make is longer than what came in: it says more and counts as full. Else prove '..UptoSaid'. A law counts once. -/
mutual
def uptoBulk {H : Type} : DataW H → Nat
  | .lit (.string bytes) => bytes.length + 1
  | .lit _ => 1
  | .nil => 1
  | .ptr d => uptoBulk d + 1
  | .slice elems spare => uptoBulkAll elems + uptoBulkAll spare + 1
  | .agg parts => uptoBulkAll parts + 1
  | .iface _ d => uptoBulk d + 1
  | .map entries => uptoBulkEntries entries + 1
  | .held _ => 1
def uptoBulkAll {H : Type} : List (DataW H) → Nat
  | [] => 0
  | d :: r => uptoBulk d + uptoBulkAll r
def uptoBulkEntries {H : Type} : List (Lit × DataW H) → Nat
  | [] => 0
  | x :: r => uptoBulkEntry x + uptoBulkEntries r
def uptoBulkEntry {H : Type} : Lit × DataW H → Nat
  | (.string bytes, d) => bytes.length + uptoBulk d + 1
  | (_, d) => uptoBulk d + 1
 end
def uptoSmall : (H : Type) → List (DataW H) → Bool := fun _ ds => decide (uptoBulkAll ds ≤ 1048576)
def OpenSpec.upto (s : _root_.Go.ChangeSpec) : _root_.Go.OpenSpec := { _root_.Go.OpenSpec.ofChange s with cond := some uptoSmall }

/-- 'undercroftlaw13.AttrTurns', WHERE WHAT IT READS IS OF BULK AT MOST 1048576: true; the input reads as it did. -/
def attrTurnsUptoRow : OpenClaim := { program := "ytbagocghlijleaa", sum := "a7aa0727589dfc2a0917ec79fe1445ea3da81129a9dc8ebcd9cef8b7c430e8aa", func := "undercroft/undercroftlaw13.AttrTurns", spec := "attrTurns", inPlace := ["internal/bytealg.abigen_runtime_cmpstring", "slices.overlaps[undercroft/api.Pair]"], unfollowed := true, recurses := true, apart := false, narrowed := true }
def AttrTurnsUptoSaid : Prop := attrTurnsUptoRow.holds Try.pinned (OpenSpec.upto attrTurnsSpec)

/-- 'undercroftlaw13.AttrBlocks', WHERE WHAT IT READS IS OF BULK AT MOST 1048576: true; the input reads as it did. -/
def attrBlocksUptoRow : OpenClaim := { program := "ytbagocghlijleaa", sum := "a7aa0727589dfc2a0917ec79fe1445ea3da81129a9dc8ebcd9cef8b7c430e8aa", func := "undercroft/undercroftlaw13.AttrBlocks", spec := "attrBlocks", inPlace := ["internal/bytealg.abigen_runtime_cmpstring", "slices.overlaps[undercroft/api.Pair]"], unfollowed := true, recurses := true, apart := false, narrowed := true }
def AttrBlocksUptoSaid : Prop := attrBlocksUptoRow.holds Try.pinned (OpenSpec.upto attrBlocksSpec)

/-- 'undercroftlaw13.AttrBack', WHERE WHAT IT READS IS OF BULK AT MOST 1048576: true; the input reads as it did. -/
def attrBackUptoRow : OpenClaim := { program := "ytbagocghlijleaa", sum := "a7aa0727589dfc2a0917ec79fe1445ea3da81129a9dc8ebcd9cef8b7c430e8aa", func := "undercroft/undercroftlaw13.AttrBack", spec := "attrBack", inPlace := ["internal/bytealg.abigen_runtime_cmpstring", "slices.overlaps[undercroft/api.Pair]"], unfollowed := true, recurses := true, apart := false, narrowed := true }
def AttrBackUptoSaid : Prop := attrBackUptoRow.holds Try.pinned (OpenSpec.upto attrBackSpec)

/-- 'undercroftlaw13.AttrGets', WHERE WHAT IT READS IS OF BULK AT MOST 1048576: true; the input reads as it did. -/
def attrGetsUptoRow : OpenClaim := { program := "ytbagocghlijleaa", sum := "a7aa0727589dfc2a0917ec79fe1445ea3da81129a9dc8ebcd9cef8b7c430e8aa", func := "undercroft/undercroftlaw13.AttrGets", spec := "attrGets", inPlace := ["internal/bytealg.abigen_runtime_cmpstring", "slices.overlaps[undercroft/api.Pair]"], unfollowed := true, recurses := true, apart := false, narrowed := true }
def AttrGetsUptoSaid : Prop := attrGetsUptoRow.holds Try.pinned (OpenSpec.upto attrGetsSpec)

/-- 'undercroftlaw13.AttrOrder', WHERE WHAT IT READS IS OF BULK AT MOST 1048576: true; the input reads as it did. -/
def attrOrderUptoRow : OpenClaim := { program := "ytbagocghlijleaa", sum := "a7aa0727589dfc2a0917ec79fe1445ea3da81129a9dc8ebcd9cef8b7c430e8aa", func := "undercroft/undercroftlaw13.AttrOrder", spec := "attrOrder", inPlace := ["internal/bytealg.abigen_runtime_cmpstring", "slices.overlaps[undercroft/api.Pair]"], unfollowed := true, recurses := true, apart := false, narrowed := true }
def AttrOrderUptoSaid : Prop := attrOrderUptoRow.holds Try.pinned (OpenSpec.upto attrOrderSpec)

end Rows
end Go.Proofs.Ytbagocghlijleaa
