/- What Home leaves on the disk, block by block, in plain words; the document's Revoked; a list of records that a law keeps beside a log. -/
import Derived.Test.YtelnoibfamcnmaaLgKnown
namespace Go.Proofs.Ytelnoibfamcnmaa.Log
set_option maxRecDepth 20000
open Go.RowKit
open Go.Proofs.Ytelnoibfamcnmaa.Mem Go.Proofs.Ytelnoibfamcnmaa.Crc Go.Proofs.Ytelnoibfamcnmaa.Disk
open Go.Proofs.Ytelnoibfamcnmaa.Rec (Tx Wt TxAt HoldsW HoldsI IsInt enc_any Told enc_len mayB_iff OwnsT)

/-! ### A calm log -/
theorem write_free (d : Dk.Dk) (h : d.fuse = none) (i : Nat) (b : List UInt8) : (d.write i b).fuse = none := Dk.deed_free d h (some (i, b))
theorem homeT_free (ps : List (Int × Nat)) (t : Tx) (d : Dk.Dk) (h : d.fuse = none) : (homeT ps d t).fuse = none := by
  unfold homeT
  generalize t.ws = l
  induction l generalizing d with
  | nil => exact h
  | cons x r ih =>
    rw [List.foldl_cons]
    refine ih _ ?_
    unfold homeW; split
    · exact write_free d h _ _
    · exact h
theorem homeL_free (ps : List (Int × Nat)) (ts : List Tx) (d : Dk.Dk) (h : d.fuse = none) : (homeL ps d ts).fuse = none := by
  unfold homeL
  induction ts generalizing d with
  | nil => exact h
  | cons x r ih => rw [List.foldl_cons]; exact ih _ (homeT_free ps x d h)
def Lg.calm (g : Lg) : Prop := g.d.fuse = none ∧ (g.ts = [] → g.d.pend = [])
theorem Known.roomy {W0 wr : World} {lp p s r n nb cb : Nat} {F0 X : Nat → Prop} {g : Lg} (h : Known W0 wr lp p s r n F0 X g nb cb) : g.ts = [] → g.used = 0 := by
  obtain ⟨v, c, F, m, L, a1, a2, a3, aX, a4, a5, -⟩ := h
  exact a5
/-- The numbers of the live records rise by one up to the next. -/
def Lg.rising (g : Lg) : Prop := ∀ i t, g.ts[i]? = some t → t.seq + (g.ts.length - i) = g.seq
/-! ### Block by block -/
def revokesB (b : Int) (t : Tx) : Bool := t.rs.any (fun x => x == b)
def writesB (b : Int) (t : Tx) : Bool := t.ws.any (fun x => x.1 == b)
/-- Does a record behind number i revoke a block? Does one write it? -/
def revokedB (ts : List Tx) (i : Nat) (b : Int) : Bool := (ts.drop (i + 1)).any (revokesB b)
def laterB (ts : List Tx) (i : Nat) (b : Int) : Bool := (ts.drop (i + 1)).any (writesB b)

/-! ### The document's Revoked -/
end Go.Proofs.Ytelnoibfamcnmaa.Log
