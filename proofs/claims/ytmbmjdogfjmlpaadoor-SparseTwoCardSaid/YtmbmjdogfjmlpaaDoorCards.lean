/-
  DERIVED. GIVEN WITH THE SEED: THE CARDS: each row of YtmbmjdogfjmlpaaDoorRows.lean that lists a variable, with what it lists TIED to the program's text (the seventh form; the later family's looks); each row that meets fmt, with fmt's text TOLD by the authors' own Lean function (tested against real Go, not proved from fmt's source: count such statements apart). THE CARD IS WHAT COUNTS. Prove the row's statement (the work); the ties are given (YtmbmjdogfjmlpaaDoorTie.lean); close each card by the builder's one call (the guide's Derived/Test/ToyasCard.lean, 'card_holds'). Laid BY PROGRAM, IN A SANDBOX (cutbox-door.mjs). By AI agents, Wed Nov 11 2026. No macro, syntax, notation, axiom, sorry.
-/
import Derived.Test.YtmbmjdogfjmlpaaDoorRows
import GoSem.ClaimSeven
namespace Go.Proofs.YtmbmjdogfjmlpaaDoor
namespace Rows

/-- THE TIED CARD OF 'undercroftlaw15.SparsePuts'. -/
def sparsePutsCard : Claim7 := { stood := { row := sparsePutsRow, standIns := [], harness := (true, "9a60252b18759aa4c0cca85852b8138389bde49218e3a6b6256a4d3ed4dd1f40"), looks := false }, kinds := [], alts := [], laidByText := true, laidKinds := [.data, .pinned], laidTests := true, laidLooks := .later }
def SparsePutsCardSaid : Prop := Claim7.holds Tryd.pinned (.plain (OpenSpec.ofChange sparsePutsSpec)) sparsePutsCard

/-- THE TIED CARD OF 'undercroftlaw15.SparseReads'. -/
def sparseReadsCard : Claim7 := { stood := { row := sparseReadsRow, standIns := [], harness := (true, "9a60252b18759aa4c0cca85852b8138389bde49218e3a6b6256a4d3ed4dd1f40"), looks := false }, kinds := [], alts := [], laidByText := true, laidKinds := [.data, .pinned], laidTests := true, laidLooks := .later }
def SparseReadsCardSaid : Prop := Claim7.holds Tryd.pinned (.plain (OpenSpec.ofChange sparseReadsSpec)) sparseReadsCard

/-- THE TIED CARD OF 'undercroftlaw15.SparseStays'. -/
def sparseStaysCard : Claim7 := { stood := { row := sparseStaysRow, standIns := [], harness := (true, "9a60252b18759aa4c0cca85852b8138389bde49218e3a6b6256a4d3ed4dd1f40"), looks := false }, kinds := [], alts := [], laidByText := true, laidKinds := [.data, .pinned], laidTests := true, laidLooks := .later }
def SparseStaysCardSaid : Prop := Claim7.holds Tryd.pinned (.plain (OpenSpec.ofChange sparseStaysSpec)) sparseStaysCard

/-- THE TIED CARD OF 'undercroftlaw15.SparseOnce'. -/
def sparseOnceCard : Claim7 := { stood := { row := sparseOnceRow, standIns := [], harness := (true, "9a60252b18759aa4c0cca85852b8138389bde49218e3a6b6256a4d3ed4dd1f40"), looks := false }, kinds := [], alts := [], laidByText := true, laidKinds := [.data, .pinned], laidTests := true, laidLooks := .later }
def SparseOnceCardSaid : Prop := Claim7.holds Tryd.pinned (.plain (OpenSpec.ofChange sparseOnceSpec)) sparseOnceCard

/-- THE TIED CARD OF 'undercroftlaw15.SparseTwo'. -/
def sparseTwoCard : Claim7 := { stood := { row := sparseTwoRow, standIns := [], harness := (true, "9a60252b18759aa4c0cca85852b8138389bde49218e3a6b6256a4d3ed4dd1f40"), looks := false }, kinds := [], alts := [], laidByText := true, laidKinds := [.data, .pinned], laidTests := true, laidLooks := .later }
def SparseTwoCardSaid : Prop := Claim7.holds Tryd.pinned (.plain (OpenSpec.ofChange sparseTwoSpec)) sparseTwoCard

/-- THE TIED CARD OF 'undercroftlaw15.SparseHoles'. -/
def sparseHolesCard : Claim7 := { stood := { row := sparseHolesRow, standIns := [], harness := (true, "9a60252b18759aa4c0cca85852b8138389bde49218e3a6b6256a4d3ed4dd1f40"), looks := false }, kinds := [], alts := [], laidByText := true, laidKinds := [.data, .pinned], laidTests := true, laidLooks := .later }
def SparseHolesCardSaid : Prop := Claim7.holds Tryd.pinned (.plain (OpenSpec.ofChange sparseHolesSpec)) sparseHolesCard

/-- THE SECOND FORM's CARD OF 'undercroftlaw15.SparsePuts'. -/
def sparsePutsUptoCard : Claim7 := { stood := { row := sparsePutsUptoRow, standIns := [], harness := (true, "9a60252b18759aa4c0cca85852b8138389bde49218e3a6b6256a4d3ed4dd1f40"), looks := false }, kinds := [], alts := [], laidByText := true, laidKinds := [.data, .pinned], laidTests := true, laidLooks := .later }
def SparsePutsUptoCardSaid : Prop := Claim7.holds Tryd.pinned (.plain (OpenSpec.upto sparsePutsSpec)) sparsePutsUptoCard

/-- THE SECOND FORM's CARD OF 'undercroftlaw15.SparseReads'. -/
def sparseReadsUptoCard : Claim7 := { stood := { row := sparseReadsUptoRow, standIns := [], harness := (true, "9a60252b18759aa4c0cca85852b8138389bde49218e3a6b6256a4d3ed4dd1f40"), looks := false }, kinds := [], alts := [], laidByText := true, laidKinds := [.data, .pinned], laidTests := true, laidLooks := .later }
def SparseReadsUptoCardSaid : Prop := Claim7.holds Tryd.pinned (.plain (OpenSpec.upto sparseReadsSpec)) sparseReadsUptoCard

/-- THE SECOND FORM's CARD OF 'undercroftlaw15.SparseStays'. -/
def sparseStaysUptoCard : Claim7 := { stood := { row := sparseStaysUptoRow, standIns := [], harness := (true, "9a60252b18759aa4c0cca85852b8138389bde49218e3a6b6256a4d3ed4dd1f40"), looks := false }, kinds := [], alts := [], laidByText := true, laidKinds := [.data, .pinned], laidTests := true, laidLooks := .later }
def SparseStaysUptoCardSaid : Prop := Claim7.holds Tryd.pinned (.plain (OpenSpec.upto sparseStaysSpec)) sparseStaysUptoCard

/-- THE SECOND FORM's CARD OF 'undercroftlaw15.SparseOnce'. -/
def sparseOnceUptoCard : Claim7 := { stood := { row := sparseOnceUptoRow, standIns := [], harness := (true, "9a60252b18759aa4c0cca85852b8138389bde49218e3a6b6256a4d3ed4dd1f40"), looks := false }, kinds := [], alts := [], laidByText := true, laidKinds := [.data, .pinned], laidTests := true, laidLooks := .later }
def SparseOnceUptoCardSaid : Prop := Claim7.holds Tryd.pinned (.plain (OpenSpec.upto sparseOnceSpec)) sparseOnceUptoCard

/-- THE SECOND FORM's CARD OF 'undercroftlaw15.SparseTwo'. -/
def sparseTwoUptoCard : Claim7 := { stood := { row := sparseTwoUptoRow, standIns := [], harness := (true, "9a60252b18759aa4c0cca85852b8138389bde49218e3a6b6256a4d3ed4dd1f40"), looks := false }, kinds := [], alts := [], laidByText := true, laidKinds := [.data, .pinned], laidTests := true, laidLooks := .later }
def SparseTwoUptoCardSaid : Prop := Claim7.holds Tryd.pinned (.plain (OpenSpec.upto sparseTwoSpec)) sparseTwoUptoCard

/-- THE SECOND FORM's CARD OF 'undercroftlaw15.SparseHoles'. -/
def sparseHolesUptoCard : Claim7 := { stood := { row := sparseHolesUptoRow, standIns := [], harness := (true, "9a60252b18759aa4c0cca85852b8138389bde49218e3a6b6256a4d3ed4dd1f40"), looks := false }, kinds := [], alts := [], laidByText := true, laidKinds := [.data, .pinned], laidTests := true, laidLooks := .later }
def SparseHolesUptoCardSaid : Prop := Claim7.holds Tryd.pinned (.plain (OpenSpec.upto sparseHolesSpec)) sparseHolesUptoCard
end Rows
end Go.Proofs.YtmbmjdogfjmlpaaDoor
