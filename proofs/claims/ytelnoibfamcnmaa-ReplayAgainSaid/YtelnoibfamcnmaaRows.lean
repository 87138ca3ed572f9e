/-
  No cell of these rows narrows 'for every input' (looked for: loops, veiled, ifaces, maps, wideKeys, modest, calm, conditions, laid).
  DERIVED. THE GIVEN ROWS OF THIS SEAT. 11 by the template 'for every input the law returns true; each argument reads behind the call as it read before'; 0 by the template 'total and deterministic' (their statements: YtelnoibfamcnmaaTotals.lean).
  GIVEN WITH THE SEED: the statements are not yours to turn. If you find one false, say at which input.
  Laid BY PROGRAM, IN A SANDBOX (cutbox-rows.mjs): the forced cells as the released guide's own fill.sh prints them over the translation 79f0fee8e46aa48e… (all of the seat's roots in one cut). By AI agents, Wed Nov 11 2026. No macro, syntax, notation, axiom, sorry.
-/
import Derived.Test.YtelnoibfamcnmaaChecked
import GoSem.Claim
import GoSem.ClaimJoined
import GoSem.ClaimMapViews
import Derived.JoinedTies
import Derived.KernelRfl
namespace Go.Proofs.Ytelnoibfamcnmaa
/- THE CELL 'sum', in the pinned program and in every row, IS THE sha256 OF THE DUMP (.gsa) THAT YtelnoibfamcnmaaProg.lean LOADS. Nothing in Lean hashes anything: it is a label: what it is worth is what the hold of that sum in a sandbox is worth. -/
noncomputable def Try.pinned : Pinned := { name := "ytelnoibfamcnmaa", sum := "79f0fee8e46aa48e7cc0e0f1c280a3414124701f8f102b932aaeea0708a62368", checked := Try.checked }
namespace Rows
def none {H : Type} : Left H := { results := [], args := [] }

/-- 'undercroftlaw02.DiskRuns': WHATEVER THE INPUT: true; the input reads as it did. -/
def diskRunsSpec : ChangeSpec := { name := "diskRuns", fn := fun _ => fun
  | [d1, d2] => { results := [.lit (.bool true)], args := [d1, d2] }
  | _ => none }
def diskRunsRow : OpenClaim := { program := "ytelnoibfamcnmaa", sum := "79f0fee8e46aa48e7cc0e0f1c280a3414124701f8f102b932aaeea0708a62368", func := "undercroft/undercroftlaw02.DiskRuns", spec := "diskRuns", inPlace := ["maps.clone"], apart := false }
def DiskRunsSaid : Prop := diskRunsRow.holds Try.pinned (OpenSpec.ofChange diskRunsSpec)

/-- ITS FALSE NEIGHBOUR: 'it returns false'. Refute it at one input. -/
def diskRunsWrong : ChangeSpec := { name := "diskRuns", fn := fun _ => fun
  | [d1, d2] => { results := [.lit (.bool false)], args := [d1, d2] }
  | _ => none }
def DiskRunsWrongFalsely : Prop := diskRunsRow.holds Try.pinned (OpenSpec.ofChange diskRunsWrong)

/-- 'undercroftlaw02.DiskTwins': WHATEVER THE INPUT: true; the input reads as it did. -/
def diskTwinsSpec : ChangeSpec := { name := "diskTwins", fn := fun _ => fun
  | [d1, d2] => { results := [.lit (.bool true)], args := [d1, d2] }
  | _ => none }
def diskTwinsRow : OpenClaim := { program := "ytelnoibfamcnmaa", sum := "79f0fee8e46aa48e7cc0e0f1c280a3414124701f8f102b932aaeea0708a62368", func := "undercroft/undercroftlaw02.DiskTwins", spec := "diskTwins", inPlace := ["maps.clone"], apart := false }
def DiskTwinsSaid : Prop := diskTwinsRow.holds Try.pinned (OpenSpec.ofChange diskTwinsSpec)

/-- ITS FALSE NEIGHBOUR: 'it returns false'. Refute it at one input. -/
def diskTwinsWrong : ChangeSpec := { name := "diskTwins", fn := fun _ => fun
  | [d1, d2] => { results := [.lit (.bool false)], args := [d1, d2] }
  | _ => none }
def DiskTwinsWrongFalsely : Prop := diskTwinsRow.holds Try.pinned (OpenSpec.ofChange diskTwinsWrong)

/-- 'undercroftlaw04.LogRuns': WHATEVER THE INPUT: true; the input reads as it did. -/
def logRunsSpec : ChangeSpec := { name := "logRuns", fn := fun _ => fun
  | [d1, d2] => { results := [.lit (.bool true)], args := [d1, d2] }
  | _ => none }
def logRunsRow : OpenClaim := { program := "ytelnoibfamcnmaa", sum := "79f0fee8e46aa48e7cc0e0f1c280a3414124701f8f102b932aaeea0708a62368", func := "undercroft/undercroftlaw04.LogRuns", spec := "logRuns", unfollowed := true, recurses := true, apart := false }
def LogRunsSaid : Prop := logRunsRow.holds Try.pinned (OpenSpec.ofChange logRunsSpec)

/-- ITS FALSE NEIGHBOUR: 'it returns false'. Refute it at one input. -/
def logRunsWrong : ChangeSpec := { name := "logRuns", fn := fun _ => fun
  | [d1, d2] => { results := [.lit (.bool false)], args := [d1, d2] }
  | _ => none }
def LogRunsWrongFalsely : Prop := logRunsRow.holds Try.pinned (OpenSpec.ofChange logRunsWrong)

/-- 'undercroftlaw04.LogOpens': WHATEVER THE INPUT: true; the input reads as it did. -/
def logOpensSpec : ChangeSpec := { name := "logOpens", fn := fun _ => fun
  | [d1, d2] => { results := [.lit (.bool true)], args := [d1, d2] }
  | _ => none }
def logOpensRow : OpenClaim := { program := "ytelnoibfamcnmaa", sum := "79f0fee8e46aa48e7cc0e0f1c280a3414124701f8f102b932aaeea0708a62368", func := "undercroft/undercroftlaw04.LogOpens", spec := "logOpens", unfollowed := true, recurses := true, apart := false }
def LogOpensSaid : Prop := logOpensRow.holds Try.pinned (OpenSpec.ofChange logOpensSpec)

/-- ITS FALSE NEIGHBOUR: 'it returns false'. Refute it at one input. -/
def logOpensWrong : ChangeSpec := { name := "logOpens", fn := fun _ => fun
  | [d1, d2] => { results := [.lit (.bool false)], args := [d1, d2] }
  | _ => none }
def LogOpensWrongFalsely : Prop := logOpensRow.holds Try.pinned (OpenSpec.ofChange logOpensWrong)

/-- 'undercroftlaw04.LogHome': WHATEVER THE INPUT: true; the input reads as it did. -/
def logHomeSpec : ChangeSpec := { name := "logHome", fn := fun _ => fun
  | [d1, d2] => { results := [.lit (.bool true)], args := [d1, d2] }
  | _ => none }
def logHomeRow : OpenClaim := { program := "ytelnoibfamcnmaa", sum := "79f0fee8e46aa48e7cc0e0f1c280a3414124701f8f102b932aaeea0708a62368", func := "undercroft/undercroftlaw04.LogHome", spec := "logHome", unfollowed := true, recurses := true, apart := false }
def LogHomeSaid : Prop := logHomeRow.holds Try.pinned (OpenSpec.ofChange logHomeSpec)

/-- ITS FALSE NEIGHBOUR: 'it returns false'. Refute it at one input. -/
def logHomeWrong : ChangeSpec := { name := "logHome", fn := fun _ => fun
  | [d1, d2] => { results := [.lit (.bool false)], args := [d1, d2] }
  | _ => none }
def LogHomeWrongFalsely : Prop := logHomeRow.holds Try.pinned (OpenSpec.ofChange logHomeWrong)

/-- 'undercroftlaw04.LogReopens': WHATEVER THE INPUT: true; the input reads as it did. -/
def logReopensSpec : ChangeSpec := { name := "logReopens", fn := fun _ => fun
  | [d1, d2] => { results := [.lit (.bool true)], args := [d1, d2] }
  | _ => none }
def logReopensRow : OpenClaim := { program := "ytelnoibfamcnmaa", sum := "79f0fee8e46aa48e7cc0e0f1c280a3414124701f8f102b932aaeea0708a62368", func := "undercroft/undercroftlaw04.LogReopens", spec := "logReopens", unfollowed := true, recurses := true, apart := false }
def LogReopensSaid : Prop := logReopensRow.holds Try.pinned (OpenSpec.ofChange logReopensSpec)

/-- ITS FALSE NEIGHBOUR: 'it returns false'. Refute it at one input. -/
def logReopensWrong : ChangeSpec := { name := "logReopens", fn := fun _ => fun
  | [d1, d2] => { results := [.lit (.bool false)], args := [d1, d2] }
  | _ => none }
def LogReopensWrongFalsely : Prop := logReopensRow.holds Try.pinned (OpenSpec.ofChange logReopensWrong)

/-- 'undercroftlaw05.ReplayCrash': WHATEVER THE INPUT: true; the input reads as it did. -/
def replayCrashSpec : ChangeSpec := { name := "replayCrash", fn := fun _ => fun
  | [d1, d2, d3] => { results := [.lit (.bool true)], args := [d1, d2, d3] }
  | _ => none }
def replayCrashRow : OpenClaim := { program := "ytelnoibfamcnmaa", sum := "79f0fee8e46aa48e7cc0e0f1c280a3414124701f8f102b932aaeea0708a62368", func := "undercroft/undercroftlaw05.ReplayCrash", spec := "replayCrash", unfollowed := true, recurses := true, apart := false }
def ReplayCrashSaid : Prop := replayCrashRow.holds Try.pinned (OpenSpec.ofChange replayCrashSpec)

/-- ITS FALSE NEIGHBOUR: 'it returns false'. Refute it at one input. -/
def replayCrashWrong : ChangeSpec := { name := "replayCrash", fn := fun _ => fun
  | [d1, d2, d3] => { results := [.lit (.bool false)], args := [d1, d2, d3] }
  | _ => none }
def ReplayCrashWrongFalsely : Prop := replayCrashRow.holds Try.pinned (OpenSpec.ofChange replayCrashWrong)

/-- 'undercroftlaw05.ReplayAgain': WHATEVER THE INPUT: true; the input reads as it did. -/
def replayAgainSpec : ChangeSpec := { name := "replayAgain", fn := fun _ => fun
  | [d1, d2, d3] => { results := [.lit (.bool true)], args := [d1, d2, d3] }
  | _ => none }
def replayAgainRow : OpenClaim := { program := "ytelnoibfamcnmaa", sum := "79f0fee8e46aa48e7cc0e0f1c280a3414124701f8f102b932aaeea0708a62368", func := "undercroft/undercroftlaw05.ReplayAgain", spec := "replayAgain", unfollowed := true, recurses := true, apart := false }
def ReplayAgainSaid : Prop := replayAgainRow.holds Try.pinned (OpenSpec.ofChange replayAgainSpec)

/-- ITS FALSE NEIGHBOUR: 'it returns false'. Refute it at one input. -/
def replayAgainWrong : ChangeSpec := { name := "replayAgain", fn := fun _ => fun
  | [d1, d2, d3] => { results := [.lit (.bool false)], args := [d1, d2, d3] }
  | _ => none }
def ReplayAgainWrongFalsely : Prop := replayAgainRow.holds Try.pinned (OpenSpec.ofChange replayAgainWrong)

/-- 'undercroftlaw05.ReplayOld': WHATEVER THE INPUT: true; the input reads as it did. -/
def replayOldSpec : ChangeSpec := { name := "replayOld", fn := fun _ => fun
  | [d1, d2, d3] => { results := [.lit (.bool true)], args := [d1, d2, d3] }
  | _ => none }
def replayOldRow : OpenClaim := { program := "ytelnoibfamcnmaa", sum := "79f0fee8e46aa48e7cc0e0f1c280a3414124701f8f102b932aaeea0708a62368", func := "undercroft/undercroftlaw05.ReplayOld", spec := "replayOld", unfollowed := true, recurses := true, apart := false }
def ReplayOldSaid : Prop := replayOldRow.holds Try.pinned (OpenSpec.ofChange replayOldSpec)

/-- ITS FALSE NEIGHBOUR: 'it returns false'. Refute it at one input. -/
def replayOldWrong : ChangeSpec := { name := "replayOld", fn := fun _ => fun
  | [d1, d2, d3] => { results := [.lit (.bool false)], args := [d1, d2, d3] }
  | _ => none }
def ReplayOldWrongFalsely : Prop := replayOldRow.holds Try.pinned (OpenSpec.ofChange replayOldWrong)

/-- 'undercroftlaw05.ReplayFlushed': WHATEVER THE INPUT: true; the input reads as it did. -/
def replayFlushedSpec : ChangeSpec := { name := "replayFlushed", fn := fun _ => fun
  | [d1, d2, d3] => { results := [.lit (.bool true)], args := [d1, d2, d3] }
  | _ => none }
def replayFlushedRow : OpenClaim := { program := "ytelnoibfamcnmaa", sum := "79f0fee8e46aa48e7cc0e0f1c280a3414124701f8f102b932aaeea0708a62368", func := "undercroft/undercroftlaw05.ReplayFlushed", spec := "replayFlushed", unfollowed := true, recurses := true, apart := false }
def ReplayFlushedSaid : Prop := replayFlushedRow.holds Try.pinned (OpenSpec.ofChange replayFlushedSpec)

/-- ITS FALSE NEIGHBOUR: 'it returns false'. Refute it at one input. -/
def replayFlushedWrong : ChangeSpec := { name := "replayFlushed", fn := fun _ => fun
  | [d1, d2, d3] => { results := [.lit (.bool false)], args := [d1, d2, d3] }
  | _ => none }
def ReplayFlushedWrongFalsely : Prop := replayFlushedRow.holds Try.pinned (OpenSpec.ofChange replayFlushedWrong)

/-- 'undercroftlaw05.ReplayOnce': WHATEVER THE INPUT: true; the input reads as it did. -/
def replayOnceSpec : ChangeSpec := { name := "replayOnce", fn := fun _ => fun
  | [d1, d2, d3] => { results := [.lit (.bool true)], args := [d1, d2, d3] }
  | _ => none }
def replayOnceRow : OpenClaim := { program := "ytelnoibfamcnmaa", sum := "79f0fee8e46aa48e7cc0e0f1c280a3414124701f8f102b932aaeea0708a62368", func := "undercroft/undercroftlaw05.ReplayOnce", spec := "replayOnce", unfollowed := true, recurses := true, apart := false }
def ReplayOnceSaid : Prop := replayOnceRow.holds Try.pinned (OpenSpec.ofChange replayOnceSpec)

/-- ITS FALSE NEIGHBOUR: 'it returns false'. Refute it at one input. -/
def replayOnceWrong : ChangeSpec := { name := "replayOnce", fn := fun _ => fun
  | [d1, d2, d3] => { results := [.lit (.bool false)], args := [d1, d2, d3] }
  | _ => none }
def ReplayOnceWrongFalsely : Prop := replayOnceRow.holds Try.pinned (OpenSpec.ofChange replayOnceWrong)

/- THE SECOND FORM. 'bulk': how many values and letters a reading holds, each counted each time it is reached (what is shared counts as often as it is met; a slice's spare places count too). A statement '..UptoSaid' is the law's where the arguments, and the package variables that the reading takes, are together of bulk at most 1048576: NARROWER than '..Said'. Prove '..Said' where nothing that the law and all that it calls make is longer than what came in: it says more and counts as full. Else prove '..UptoSaid'. A law counts once. -/
mutual
def uptoBulk {H : Type} : DataW H → Nat
  | .lit (.string bytes) => bytes.length + 1
  | .lit _ => 1
  | .nil => 1
  | .ptr d => uptoBulk d + 1
  | .slice elems spare => uptoBulkAll elems + uptoBulkAll spare + 1
  | .agg parts => uptoBulkAll parts + 1
  | .iface _ d => uptoBulk d + 1
  | .map entries => uptoBulkEntries entries + 1
  | .held _ => 1
def uptoBulkAll {H : Type} : List (DataW H) → Nat
  | [] => 0
  | d :: r => uptoBulk d + uptoBulkAll r
def uptoBulkEntries {H : Type} : List (Lit × DataW H) → Nat
  | [] => 0
  | x :: r => uptoBulkEntry x + uptoBulkEntries r
def uptoBulkEntry {H : Type} : Lit × DataW H → Nat
  | (.string bytes, d) => bytes.length + uptoBulk d + 1
  | (_, d) => uptoBulk d + 1
 end
def uptoSmall : (H : Type) → List (DataW H) → Bool := fun _ ds => decide (uptoBulkAll ds ≤ 1048576)
def OpenSpec.upto (s : _root_.Go.ChangeSpec) : _root_.Go.OpenSpec := { _root_.Go.OpenSpec.ofChange s with cond := some uptoSmall }

/-- 'undercroftlaw02.DiskRuns', WHERE WHAT IT READS IS OF BULK AT MOST 1048576: true; the input reads as it did. -/
def diskRunsUptoRow : OpenClaim := { program := "ytelnoibfamcnmaa", sum := "79f0fee8e46aa48e7cc0e0f1c280a3414124701f8f102b932aaeea0708a62368", func := "undercroft/undercroftlaw02.DiskRuns", spec := "diskRuns", inPlace := ["maps.clone"], apart := false, narrowed := true }
def DiskRunsUptoSaid : Prop := diskRunsUptoRow.holds Try.pinned (OpenSpec.upto diskRunsSpec)

/-- 'undercroftlaw02.DiskTwins', WHERE WHAT IT READS IS OF BULK AT MOST 1048576: true; the input reads as it did. -/
def diskTwinsUptoRow : OpenClaim := { program := "ytelnoibfamcnmaa", sum := "79f0fee8e46aa48e7cc0e0f1c280a3414124701f8f102b932aaeea0708a62368", func := "undercroft/undercroftlaw02.DiskTwins", spec := "diskTwins", inPlace := ["maps.clone"], apart := false, narrowed := true }
def DiskTwinsUptoSaid : Prop := diskTwinsUptoRow.holds Try.pinned (OpenSpec.upto diskTwinsSpec)

/-- 'undercroftlaw04.LogRuns', WHERE WHAT IT READS IS OF BULK AT MOST 1048576: true; the input reads as it did. -/
def logRunsUptoRow : OpenClaim := { program := "ytelnoibfamcnmaa", sum := "79f0fee8e46aa48e7cc0e0f1c280a3414124701f8f102b932aaeea0708a62368", func := "undercroft/undercroftlaw04.LogRuns", spec := "logRuns", unfollowed := true, recurses := true, apart := false, narrowed := true }
def LogRunsUptoSaid : Prop := logRunsUptoRow.holds Try.pinned (OpenSpec.upto logRunsSpec)

/-- 'undercroftlaw04.LogOpens', WHERE WHAT IT READS IS OF BULK AT MOST 1048576: true; the input reads as it did. -/
def logOpensUptoRow : OpenClaim := { program := "ytelnoibfamcnmaa", sum := "79f0fee8e46aa48e7cc0e0f1c280a3414124701f8f102b932aaeea0708a62368", func := "undercroft/undercroftlaw04.LogOpens", spec := "logOpens", unfollowed := true, recurses := true, apart := false, narrowed := true }
def LogOpensUptoSaid : Prop := logOpensUptoRow.holds Try.pinned (OpenSpec.upto logOpensSpec)

/-- 'undercroftlaw04.LogHome', WHERE WHAT IT READS IS OF BULK AT MOST 1048576: true; the input reads as it did. -/
def logHomeUptoRow : OpenClaim := { program := "ytelnoibfamcnmaa", sum := "79f0fee8e46aa48e7cc0e0f1c280a3414124701f8f102b932aaeea0708a62368", func := "undercroft/undercroftlaw04.LogHome", spec := "logHome", unfollowed := true, recurses := true, apart := false, narrowed := true }
def LogHomeUptoSaid : Prop := logHomeUptoRow.holds Try.pinned (OpenSpec.upto logHomeSpec)

/-- 'undercroftlaw04.LogReopens', WHERE WHAT IT READS IS OF BULK AT MOST 1048576: true; the input reads as it did. -/
def logReopensUptoRow : OpenClaim := { program := "ytelnoibfamcnmaa", sum := "79f0fee8e46aa48e7cc0e0f1c280a3414124701f8f102b932aaeea0708a62368", func := "undercroft/undercroftlaw04.LogReopens", spec := "logReopens", unfollowed := true, recurses := true, apart := false, narrowed := true }
def LogReopensUptoSaid : Prop := logReopensUptoRow.holds Try.pinned (OpenSpec.upto logReopensSpec)

/-- 'undercroftlaw05.ReplayCrash', WHERE WHAT IT READS IS OF BULK AT MOST 1048576: true; the input reads as it did. -/
def replayCrashUptoRow : OpenClaim := { program := "ytelnoibfamcnmaa", sum := "79f0fee8e46aa48e7cc0e0f1c280a3414124701f8f102b932aaeea0708a62368", func := "undercroft/undercroftlaw05.ReplayCrash", spec := "replayCrash", unfollowed := true, recurses := true, apart := false, narrowed := true }
def ReplayCrashUptoSaid : Prop := replayCrashUptoRow.holds Try.pinned (OpenSpec.upto replayCrashSpec)

/-- 'undercroftlaw05.ReplayAgain', WHERE WHAT IT READS IS OF BULK AT MOST 1048576: true; the input reads as it did. -/
def replayAgainUptoRow : OpenClaim := { program := "ytelnoibfamcnmaa", sum := "79f0fee8e46aa48e7cc0e0f1c280a3414124701f8f102b932aaeea0708a62368", func := "undercroft/undercroftlaw05.ReplayAgain", spec := "replayAgain", unfollowed := true, recurses := true, apart := false, narrowed := true }
def ReplayAgainUptoSaid : Prop := replayAgainUptoRow.holds Try.pinned (OpenSpec.upto replayAgainSpec)

/-- 'undercroftlaw05.ReplayOld', WHERE WHAT IT READS IS OF BULK AT MOST 1048576: true; the input reads as it did. -/
def replayOldUptoRow : OpenClaim := { program := "ytelnoibfamcnmaa", sum := "79f0fee8e46aa48e7cc0e0f1c280a3414124701f8f102b932aaeea0708a62368", func := "undercroft/undercroftlaw05.ReplayOld", spec := "replayOld", unfollowed := true, recurses := true, apart := false, narrowed := true }
def ReplayOldUptoSaid : Prop := replayOldUptoRow.holds Try.pinned (OpenSpec.upto replayOldSpec)

/-- 'undercroftlaw05.ReplayFlushed', WHERE WHAT IT READS IS OF BULK AT MOST 1048576: true; the input reads as it did. -/
def replayFlushedUptoRow : OpenClaim := { program := "ytelnoibfamcnmaa", sum := "79f0fee8e46aa48e7cc0e0f1c280a3414124701f8f102b932aaeea0708a62368", func := "undercroft/undercroftlaw05.ReplayFlushed", spec := "replayFlushed", unfollowed := true, recurses := true, apart := false, narrowed := true }
def ReplayFlushedUptoSaid : Prop := replayFlushedUptoRow.holds Try.pinned (OpenSpec.upto replayFlushedSpec)

/-- 'undercroftlaw05.ReplayOnce', WHERE WHAT IT READS IS OF BULK AT MOST 1048576: true; the input reads as it did. -/
def replayOnceUptoRow : OpenClaim := { program := "ytelnoibfamcnmaa", sum := "79f0fee8e46aa48e7cc0e0f1c280a3414124701f8f102b932aaeea0708a62368", func := "undercroft/undercroftlaw05.ReplayOnce", spec := "replayOnce", unfollowed := true, recurses := true, apart := false, narrowed := true }
def ReplayOnceUptoSaid : Prop := replayOnceUptoRow.holds Try.pinned (OpenSpec.upto replayOnceSpec)

end Rows
end Go.Proofs.Ytelnoibfamcnmaa
