/- A copy of a record as the statements use it; and both ways of making a record's blocks, in one form. -/
import Derived.Test.YthildbbfccipoaaRfCopy
import Derived.Test.YthildbbfccipoaaRfEnc
import Derived.Test.YthildbbfccipoaaRcLaws
namespace Go.Proofs.Ythildbbfccipoaa.Rec
open Go.RowKit
open Go.Proofs.Ythildbbfccipoaa.Mem Go.Proofs.Ythildbbfccipoaa.Crc

theorem row_cap {w : World} {base : Nat} {e : TypeId} {size n c : Nat} {A : Option Addr} {xs : List Value} (h : w.ownsRow base e size (.slice A n c) n xs) : n ≤ c := by
  rcases h.2 with ⟨hv, h0⟩ | ⟨g, cap, cur, hv, _, _, hc, _⟩
  · omega
  · injection hv with _ _ e3; omega
/-- A record of the call's own reads as a record. -/
theorem OwnsT.txat {w : World} {base : Nat} {t : Tx} {Aw Ar : Option Addr} {cw cr : Nat} {vs : List Value} (h : OwnsT w base t Aw cw Ar cr vs) (hs : t.seq < 18446744073709551616) (hw : t.ws.length ≤ 140737488355328) (hr : t.rs.length ≤ 140737488355328)
    (iw : ∀ x ∈ t.ws, IsInt x.1) (ir : ∀ x ∈ t.rs, IsInt x) : TxAt w w.heap.size t Aw t.ws.length cw Ar t.rs.length cr :=
  ⟨h.ws.holds, row_ints h.rs rfl, hs, ⟨row_cap h.ws.row, hw, row_cap h.rs, hr⟩, iw, ir⟩

/-- A copy lies in memory of its own. -/
theorem copy_owns (t : Tx) (Aw Ar : Option Addr) (nw cw nr cr B : Nat) (w : World) (h : TxAt w B t Aw nw cw Ar nr cr) (hW : Wide t) (hB : B ≤ w.heap.size) :
    Calls Try.prog 28 #[.agg #[.int .u64 (t.seq : Int), .slice Aw nw cw, .slice Ar nr cr]] w fun e w' =>
      ∃ Bw dw Br dr vs, e = .returned (.agg #[.int .u64 (t.seq : Int), .slice Bw nw dw, .slice Br nr dr]) ∧ OwnsT w' w.heap.size t Bw dw Br dr vs ∧
        (∀ v, Kept w.heap.size w' v → w'.heap.size = v.heap.size → TxAt v v.heap.size t Bw nw dw Br nr dr) ∧ Below w.heap.size w w' := by
  refine (copy_any t Aw Ar nw cw nr cr B w h hW hB).mono ?_
  rintro e w' ⟨Bw, dw, Br, dr, vs, rfl, ho, hb⟩
  refine ⟨Bw, dw, Br, dr, vs, rfl, ho, fun v hk hz => ?_, hb⟩
  have h1 := hW.nw
  have h2 := hW.nr
  have ht := (ho.kept hk).txat h.seq (by omega) (by omega) h.intW h.intR
  rw [h.ws.1, h.rs.1] at ht
  exact ht

/-- What a record's blocks are, and what the answer is if there are none. -/
def blocksOf (t : Tx) : List UInt8 := if t.mayB = true then t.enc else []
def errOf (t : Tx) : Int := if t.mayB = true then 0 else 17
def Both (w : World) (t : Tx) (e : Ending) (w' : World) : Prop := ∃ A n c, e = .returned (.tuple #[.slice A n c, .int .i64 (errOf t)]) ∧ n = (blocksOf t).length ∧ Holds w' w'.heap.size A n (blocksOf t) ∧ n ≤ c ∧ Below w.heap.size w w'
theorem both_of {w w' : World} {t : Tx} {e : Ending} (h : Told w t e w') : Both w t e w' := by
  rcases h with ⟨hm, rfl, hb⟩ | ⟨hm, A, c, rfl, ho, hb⟩
  · exact ⟨none, 0, 0, by simp [errOf, hm], by simp [blocksOf, hm], by simp [blocksOf, hm, Holds], Nat.le_refl _, hb⟩
  · refine ⟨A, t.enc.length, c, by simp [errOf, hm], by simp [blocksOf, hm], ?_, (Owned.fits ho).1, hb⟩
    simp only [blocksOf, hm, if_true]
    exact Owned.reads ho
theorem enc_both (t : Tx) (Aw Ar : Option Addr) (nw cw nr cr B : Nat) (w : World) (h : TxAt w B t Aw nw cw Ar nr cr) (hB : B ≤ w.heap.size) :
    Calls Try.prog 29 #[.agg #[.int .u64 (t.seq : Int), .slice Aw nw cw, .slice Ar nr cr]] w (Both w t) :=
  (enc_any t Aw Ar nw cw nr cr B w h hB).mono fun _ _ h => both_of h
theorem encr_both (t : Tx) (Aw Ar : Option Addr) (nw cw nr cr B : Nat) (w : World) (h : TxAt w B t Aw nw cw Ar nr cr) (hB : B ≤ w.heap.size) :
    Calls Try.prog 30 #[.agg #[.int .u64 (t.seq : Int), .slice Aw nw cw, .slice Ar nr cr]] w (Both w t) :=
  (encr_any t Aw Ar nw cw nr cr B w h hB).mono fun _ _ h => both_of h
end Go.Proofs.Ythildbbfccipoaa.Rec
