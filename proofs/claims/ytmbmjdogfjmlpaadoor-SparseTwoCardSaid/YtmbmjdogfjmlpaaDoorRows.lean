/-
  NARROWER THAN 'FOR EVERY INPUT', by the rows' own cells (each row's printed sentence says how): SparsePuts: laid · SparseReads: laid · SparseStays: laid · SparseOnce: laid · SparseTwo: laid · SparseHoles: laid.
  DERIVED. THE GIVEN ROWS OF THIS SEAT. 6 by the template 'for every input the law returns true; each argument reads behind the call as it read before'; 0 by the template 'total and deterministic' (their statements: YtmbmjdogfjmlpaaDoorTotals.lean).
  GIVEN WITH THE SEED: the statements are not yours to turn. If you find one false, say at which input.
  Laid BY PROGRAM, IN A SANDBOX (cutbox-rows.mjs): the forced cells as the released guide's own fill.sh prints them over the translation 8f14ea916cd6b953… (all of the seat's roots in one cut). By AI agents, Wed Nov 11 2026. No macro, syntax, notation, axiom, sorry.
-/
import Derived.Test.YtmbmjdogfjmlpaaDoorChecked
import GoSem.PinnedTables
import GoSem.Claim
import GoSem.ClaimJoined
import GoSem.ClaimMapViews
import Derived.JoinedTies
import Derived.KernelRfl
namespace Go.Proofs.YtmbmjdogfjmlpaaDoor
/- THE CELL 'sum', in the pinned program and in every row, IS THE sha256 OF THE DUMP (.gsa) THAT YtmbmjdogfjmlpaaDoorProg.lean LOADS. Nothing in Lean hashes anything: it is a label: what it is worth is what the hold of that sum in a sandbox is worth. -/
noncomputable def Tryd.pinned : Pinned := { name := "ytmbmjdogfjmlpaadoor", sum := "8f14ea916cd6b953c10f782af4d2363aac28c0e69967919e0f95fd20df039c01", checked := Tryd.checked }
namespace Rows
def none {H : Type} : Left H := { results := [], args := [] }

/- WHAT THE LISTED PACKAGE-LEVEL VARIABLES READ AS WHEN THE CALL BEGINS. Each datum BY PROGRAM (the guide's laid-datum.mjs) off the statement by which the dump's own 'gosem.cut.vars' lays the variable. In a bare row this is a premise. The card (YtmbmjdogfjmlpaaDoorCards.lean) ties it to the program's text. -/
def laid_unicode_utf8_acceptRanges {H : Type} : DataW H := .agg [.agg [.lit (.int .u8 128), .lit (.int .u8 191)], .agg [.lit (.int .u8 160), .lit (.int .u8 191)], .agg [.lit (.int .u8 128), .lit (.int .u8 159)], .agg [.lit (.int .u8 144), .lit (.int .u8 191)], .agg [.lit (.int .u8 128), .lit (.int .u8 143)], .agg [.lit (.int .u8 0), .lit (.int .u8 0)], .agg [.lit (.int .u8 0), .lit (.int .u8 0)], .agg [.lit (.int .u8 0), .lit (.int .u8 0)], .agg [.lit (.int .u8 0), .lit (.int .u8 0)], .agg [.lit (.int .u8 0), .lit (.int .u8 0)], .agg [.lit (.int .u8 0), .lit (.int .u8 0)], .agg [.lit (.int .u8 0), .lit (.int .u8 0)], .agg [.lit (.int .u8 0), .lit (.int .u8 0)], .agg [.lit (.int .u8 0), .lit (.int .u8 0)], .agg [.lit (.int .u8 0), .lit (.int .u8 0)], .agg [.lit (.int .u8 0), .lit (.int .u8 0)]]
/-- One of Go's own tables, pinned by name: the form's constant. -/
def laid_unicode_utf8_first : DataW Unit := Go.Pinned.utf8First

/-- 'undercroftlaw15.SparsePuts': WHATEVER THE INPUT: true; the input reads as it did. -/
def sparsePutsSpec : ChangeSpec := { name := "sparsePuts", fn := fun _ => fun
  | [d1, d2, d3] => { results := [.lit (.bool true)], args := [d1, d2, d3] }
  | _ => none }
def sparsePutsRow : OpenClaim := { program := "ytmbmjdogfjmlpaadoor", sum := "8f14ea916cd6b953c10f782af4d2363aac28c0e69967919e0f95fd20df039c01", func := "undercroft/undercroftlaw15.SparsePuts", spec := "sparsePuts", inPlace := ["internal/bytealg.IndexByteString", "internal/bytealg.IndexString"], named := ["unicode/utf8.first", "unicode/utf8.acceptRanges", "internal/bytealg.MaxLen"], apart := false, laid := [("unicode/utf8.acceptRanges", laid_unicode_utf8_acceptRanges), ("unicode/utf8.first", laid_unicode_utf8_first)] }
def SparsePutsSaid : Prop := sparsePutsRow.holds Tryd.pinned (OpenSpec.ofChange sparsePutsSpec)

/-- ITS FALSE NEIGHBOUR: 'it returns false'. Refute it at one input. -/
def sparsePutsWrong : ChangeSpec := { name := "sparsePuts", fn := fun _ => fun
  | [d1, d2, d3] => { results := [.lit (.bool false)], args := [d1, d2, d3] }
  | _ => none }
def SparsePutsWrongFalsely : Prop := sparsePutsRow.holds Tryd.pinned (OpenSpec.ofChange sparsePutsWrong)

/-- 'undercroftlaw15.SparseReads': WHATEVER THE INPUT: true; the input reads as it did. -/
def sparseReadsSpec : ChangeSpec := { name := "sparseReads", fn := fun _ => fun
  | [d1, d2, d3] => { results := [.lit (.bool true)], args := [d1, d2, d3] }
  | _ => none }
def sparseReadsRow : OpenClaim := { program := "ytmbmjdogfjmlpaadoor", sum := "8f14ea916cd6b953c10f782af4d2363aac28c0e69967919e0f95fd20df039c01", func := "undercroft/undercroftlaw15.SparseReads", spec := "sparseReads", inPlace := ["internal/bytealg.IndexByteString", "internal/bytealg.IndexString"], named := ["unicode/utf8.first", "unicode/utf8.acceptRanges", "internal/bytealg.MaxLen"], apart := false, laid := [("unicode/utf8.acceptRanges", laid_unicode_utf8_acceptRanges), ("unicode/utf8.first", laid_unicode_utf8_first)] }
def SparseReadsSaid : Prop := sparseReadsRow.holds Tryd.pinned (OpenSpec.ofChange sparseReadsSpec)

/-- ITS FALSE NEIGHBOUR: 'it returns false'. Refute it at one input. -/
def sparseReadsWrong : ChangeSpec := { name := "sparseReads", fn := fun _ => fun
  | [d1, d2, d3] => { results := [.lit (.bool false)], args := [d1, d2, d3] }
  | _ => none }
def SparseReadsWrongFalsely : Prop := sparseReadsRow.holds Tryd.pinned (OpenSpec.ofChange sparseReadsWrong)

/-- 'undercroftlaw15.SparseStays': WHATEVER THE INPUT: true; the input reads as it did. -/
def sparseStaysSpec : ChangeSpec := { name := "sparseStays", fn := fun _ => fun
  | [d1, d2, d3] => { results := [.lit (.bool true)], args := [d1, d2, d3] }
  | _ => none }
def sparseStaysRow : OpenClaim := { program := "ytmbmjdogfjmlpaadoor", sum := "8f14ea916cd6b953c10f782af4d2363aac28c0e69967919e0f95fd20df039c01", func := "undercroft/undercroftlaw15.SparseStays", spec := "sparseStays", inPlace := ["internal/bytealg.IndexByteString", "internal/bytealg.IndexString"], named := ["unicode/utf8.first", "unicode/utf8.acceptRanges", "internal/bytealg.MaxLen"], apart := false, laid := [("unicode/utf8.acceptRanges", laid_unicode_utf8_acceptRanges), ("unicode/utf8.first", laid_unicode_utf8_first)] }
def SparseStaysSaid : Prop := sparseStaysRow.holds Tryd.pinned (OpenSpec.ofChange sparseStaysSpec)

/-- ITS FALSE NEIGHBOUR: 'it returns false'. Refute it at one input. -/
def sparseStaysWrong : ChangeSpec := { name := "sparseStays", fn := fun _ => fun
  | [d1, d2, d3] => { results := [.lit (.bool false)], args := [d1, d2, d3] }
  | _ => none }
def SparseStaysWrongFalsely : Prop := sparseStaysRow.holds Tryd.pinned (OpenSpec.ofChange sparseStaysWrong)

/-- 'undercroftlaw15.SparseOnce': WHATEVER THE INPUT: true; the input reads as it did. -/
def sparseOnceSpec : ChangeSpec := { name := "sparseOnce", fn := fun _ => fun
  | [d1, d2] => { results := [.lit (.bool true)], args := [d1, d2] }
  | _ => none }
def sparseOnceRow : OpenClaim := { program := "ytmbmjdogfjmlpaadoor", sum := "8f14ea916cd6b953c10f782af4d2363aac28c0e69967919e0f95fd20df039c01", func := "undercroft/undercroftlaw15.SparseOnce", spec := "sparseOnce", inPlace := ["internal/bytealg.IndexByteString", "internal/bytealg.IndexString"], named := ["unicode/utf8.first", "unicode/utf8.acceptRanges", "internal/bytealg.MaxLen"], apart := false, laid := [("unicode/utf8.acceptRanges", laid_unicode_utf8_acceptRanges), ("unicode/utf8.first", laid_unicode_utf8_first)] }
def SparseOnceSaid : Prop := sparseOnceRow.holds Tryd.pinned (OpenSpec.ofChange sparseOnceSpec)

/-- ITS FALSE NEIGHBOUR: 'it returns false'. Refute it at one input. -/
def sparseOnceWrong : ChangeSpec := { name := "sparseOnce", fn := fun _ => fun
  | [d1, d2] => { results := [.lit (.bool false)], args := [d1, d2] }
  | _ => none }
def SparseOnceWrongFalsely : Prop := sparseOnceRow.holds Tryd.pinned (OpenSpec.ofChange sparseOnceWrong)

/-- 'undercroftlaw15.SparseTwo': WHATEVER THE INPUT: true; the input reads as it did. -/
def sparseTwoSpec : ChangeSpec := { name := "sparseTwo", fn := fun _ => fun
  | [d1, d2, d3] => { results := [.lit (.bool true)], args := [d1, d2, d3] }
  | _ => none }
def sparseTwoRow : OpenClaim := { program := "ytmbmjdogfjmlpaadoor", sum := "8f14ea916cd6b953c10f782af4d2363aac28c0e69967919e0f95fd20df039c01", func := "undercroft/undercroftlaw15.SparseTwo", spec := "sparseTwo", inPlace := ["internal/bytealg.IndexByteString", "internal/bytealg.IndexString"], named := ["unicode/utf8.first", "unicode/utf8.acceptRanges", "internal/bytealg.MaxLen"], apart := false, laid := [("unicode/utf8.acceptRanges", laid_unicode_utf8_acceptRanges), ("unicode/utf8.first", laid_unicode_utf8_first)] }
def SparseTwoSaid : Prop := sparseTwoRow.holds Tryd.pinned (OpenSpec.ofChange sparseTwoSpec)

/-- ITS FALSE NEIGHBOUR: 'it returns false'. Refute it at one input. -/
def sparseTwoWrong : ChangeSpec := { name := "sparseTwo", fn := fun _ => fun
  | [d1, d2, d3] => { results := [.lit (.bool false)], args := [d1, d2, d3] }
  | _ => none }
def SparseTwoWrongFalsely : Prop := sparseTwoRow.holds Tryd.pinned (OpenSpec.ofChange sparseTwoWrong)

/-- 'undercroftlaw15.SparseHoles': WHATEVER THE INPUT: true; the input reads as it did. -/
def sparseHolesSpec : ChangeSpec := { name := "sparseHoles", fn := fun _ => fun
  | [d1, d2, d3] => { results := [.lit (.bool true)], args := [d1, d2, d3] }
  | _ => none }
def sparseHolesRow : OpenClaim := { program := "ytmbmjdogfjmlpaadoor", sum := "8f14ea916cd6b953c10f782af4d2363aac28c0e69967919e0f95fd20df039c01", func := "undercroft/undercroftlaw15.SparseHoles", spec := "sparseHoles", inPlace := ["internal/bytealg.IndexByteString", "internal/bytealg.IndexString"], named := ["unicode/utf8.first", "unicode/utf8.acceptRanges", "internal/bytealg.MaxLen"], apart := false, laid := [("unicode/utf8.acceptRanges", laid_unicode_utf8_acceptRanges), ("unicode/utf8.first", laid_unicode_utf8_first)] }
def SparseHolesSaid : Prop := sparseHolesRow.holds Tryd.pinned (OpenSpec.ofChange sparseHolesSpec)

/-- ITS FALSE NEIGHBOUR: 'it returns false'. Refute it at one input. -/
def sparseHolesWrong : ChangeSpec := { name := "sparseHoles", fn := fun _ => fun
  | [d1, d2, d3] => { results := [.lit (.bool false)], args := [d1, d2, d3] }
  | _ => none }
def SparseHolesWrongFalsely : Prop := sparseHolesRow.holds Tryd.pinned (OpenSpec.ofChange sparseHolesWrong)

/- THE SECOND FORM. 'bulk': how many values and letters a reading holds, each counted each time it is reached (what is shared counts as often as it is met; a slice's spare places count too). A statement '..UptoSaid' is the law's where the arguments, and the package variables that the reading takes, are together of bulk at most 1048576: NARROWER than '..Said'. Prove '..Said' where nothing that the law and all that it calls make is longer than what came in: it says more and counts as full. Else prove '..UptoSaid'. A law counts once. -/
mutual
def uptoBulk {H : Type} : DataW H → Nat
  | .lit (.string bytes) => bytes.length + 1
  | .lit _ => 1
  | .nil => 1
  | .ptr d => uptoBulk d + 1
  | .slice elems spare => uptoBulkAll elems + uptoBulkAll spare + 1
  | .agg parts => uptoBulkAll parts + 1
  | .iface _ d => uptoBulk d + 1
  | .map entries => uptoBulkEntries entries + 1
  | .held _ => 1
def uptoBulkAll {H : Type} : List (DataW H) → Nat
  | [] => 0
  | d :: r => uptoBulk d + uptoBulkAll r
def uptoBulkEntries {H : Type} : List (Lit × DataW H) → Nat
  | [] => 0
  | x :: r => uptoBulkEntry x + uptoBulkEntries r
def uptoBulkEntry {H : Type} : Lit × DataW H → Nat
  | (.string bytes, d) => bytes.length + uptoBulk d + 1
  | (_, d) => uptoBulk d + 1
 end
def uptoSmall : (H : Type) → List (DataW H) → Bool := fun _ ds => decide (uptoBulkAll ds ≤ 1048576)
def OpenSpec.upto (s : _root_.Go.ChangeSpec) : _root_.Go.OpenSpec := { _root_.Go.OpenSpec.ofChange s with cond := some uptoSmall }

/-- 'undercroftlaw15.SparsePuts', WHERE WHAT IT READS IS OF BULK AT MOST 1048576: true; the input reads as it did. -/
def sparsePutsUptoRow : OpenClaim := { program := "ytmbmjdogfjmlpaadoor", sum := "8f14ea916cd6b953c10f782af4d2363aac28c0e69967919e0f95fd20df039c01", func := "undercroft/undercroftlaw15.SparsePuts", spec := "sparsePuts", inPlace := ["internal/bytealg.IndexByteString", "internal/bytealg.IndexString"], named := ["unicode/utf8.first", "unicode/utf8.acceptRanges", "internal/bytealg.MaxLen"], apart := false, laid := [("unicode/utf8.acceptRanges", laid_unicode_utf8_acceptRanges), ("unicode/utf8.first", laid_unicode_utf8_first)], narrowed := true }
def SparsePutsUptoSaid : Prop := sparsePutsUptoRow.holds Tryd.pinned (OpenSpec.upto sparsePutsSpec)

/-- 'undercroftlaw15.SparseReads', WHERE WHAT IT READS IS OF BULK AT MOST 1048576: true; the input reads as it did. -/
def sparseReadsUptoRow : OpenClaim := { program := "ytmbmjdogfjmlpaadoor", sum := "8f14ea916cd6b953c10f782af4d2363aac28c0e69967919e0f95fd20df039c01", func := "undercroft/undercroftlaw15.SparseReads", spec := "sparseReads", inPlace := ["internal/bytealg.IndexByteString", "internal/bytealg.IndexString"], named := ["unicode/utf8.first", "unicode/utf8.acceptRanges", "internal/bytealg.MaxLen"], apart := false, laid := [("unicode/utf8.acceptRanges", laid_unicode_utf8_acceptRanges), ("unicode/utf8.first", laid_unicode_utf8_first)], narrowed := true }
def SparseReadsUptoSaid : Prop := sparseReadsUptoRow.holds Tryd.pinned (OpenSpec.upto sparseReadsSpec)

/-- 'undercroftlaw15.SparseStays', WHERE WHAT IT READS IS OF BULK AT MOST 1048576: true; the input reads as it did. -/
def sparseStaysUptoRow : OpenClaim := { program := "ytmbmjdogfjmlpaadoor", sum := "8f14ea916cd6b953c10f782af4d2363aac28c0e69967919e0f95fd20df039c01", func := "undercroft/undercroftlaw15.SparseStays", spec := "sparseStays", inPlace := ["internal/bytealg.IndexByteString", "internal/bytealg.IndexString"], named := ["unicode/utf8.first", "unicode/utf8.acceptRanges", "internal/bytealg.MaxLen"], apart := false, laid := [("unicode/utf8.acceptRanges", laid_unicode_utf8_acceptRanges), ("unicode/utf8.first", laid_unicode_utf8_first)], narrowed := true }
def SparseStaysUptoSaid : Prop := sparseStaysUptoRow.holds Tryd.pinned (OpenSpec.upto sparseStaysSpec)

/-- 'undercroftlaw15.SparseOnce', WHERE WHAT IT READS IS OF BULK AT MOST 1048576: true; the input reads as it did. -/
def sparseOnceUptoRow : OpenClaim := { program := "ytmbmjdogfjmlpaadoor", sum := "8f14ea916cd6b953c10f782af4d2363aac28c0e69967919e0f95fd20df039c01", func := "undercroft/undercroftlaw15.SparseOnce", spec := "sparseOnce", inPlace := ["internal/bytealg.IndexByteString", "internal/bytealg.IndexString"], named := ["unicode/utf8.first", "unicode/utf8.acceptRanges", "internal/bytealg.MaxLen"], apart := false, laid := [("unicode/utf8.acceptRanges", laid_unicode_utf8_acceptRanges), ("unicode/utf8.first", laid_unicode_utf8_first)], narrowed := true }
def SparseOnceUptoSaid : Prop := sparseOnceUptoRow.holds Tryd.pinned (OpenSpec.upto sparseOnceSpec)

/-- 'undercroftlaw15.SparseTwo', WHERE WHAT IT READS IS OF BULK AT MOST 1048576: true; the input reads as it did. -/
def sparseTwoUptoRow : OpenClaim := { program := "ytmbmjdogfjmlpaadoor", sum := "8f14ea916cd6b953c10f782af4d2363aac28c0e69967919e0f95fd20df039c01", func := "undercroft/undercroftlaw15.SparseTwo", spec := "sparseTwo", inPlace := ["internal/bytealg.IndexByteString", "internal/bytealg.IndexString"], named := ["unicode/utf8.first", "unicode/utf8.acceptRanges", "internal/bytealg.MaxLen"], apart := false, laid := [("unicode/utf8.acceptRanges", laid_unicode_utf8_acceptRanges), ("unicode/utf8.first", laid_unicode_utf8_first)], narrowed := true }
def SparseTwoUptoSaid : Prop := sparseTwoUptoRow.holds Tryd.pinned (OpenSpec.upto sparseTwoSpec)

/-- 'undercroftlaw15.SparseHoles', WHERE WHAT IT READS IS OF BULK AT MOST 1048576: true; the input reads as it did. -/
def sparseHolesUptoRow : OpenClaim := { program := "ytmbmjdogfjmlpaadoor", sum := "8f14ea916cd6b953c10f782af4d2363aac28c0e69967919e0f95fd20df039c01", func := "undercroft/undercroftlaw15.SparseHoles", spec := "sparseHoles", inPlace := ["internal/bytealg.IndexByteString", "internal/bytealg.IndexString"], named := ["unicode/utf8.first", "unicode/utf8.acceptRanges", "internal/bytealg.MaxLen"], apart := false, laid := [("unicode/utf8.acceptRanges", laid_unicode_utf8_acceptRanges), ("unicode/utf8.first", laid_unicode_utf8_first)], narrowed := true }
def SparseHolesUptoSaid : Prop := sparseHolesUptoRow.holds Tryd.pinned (OpenSpec.upto sparseHolesSpec)

end Rows
end Go.Proofs.YtmbmjdogfjmlpaaDoor
