/- The document's disk: writes laid over the stable bytes, and Flush. -/
import Derived.Test.YtelnoibfamcnmaaDkRef
import Derived.Test.YtelnoibfamcnmaaReg
import Derived.Deep.AppendLies
import Derived.Test.YtelnoibfamcnmaaDkFlush
import Derived.Deep.RegionHeldLaw
namespace Go.Proofs.Ytelnoibfamcnmaa.Disk
set_option maxRecDepth 20000
open Go.RowKit
open Go.Proofs.Ytelnoibfamcnmaa.Mem Go.Proofs.Ytelnoibfamcnmaa.Reg

theorem WrAt.cells_len (l : List WrAt) : (l.flatMap WrAt.cells).length = l.length * 2 := by
  induction l with
  | nil => rfl
  | cons x r ih => simp only [List.flatMap_cons, List.length_append, List.length_cons, ih]; simp only [WrAt.cells, List.length_cons, List.length_nil]; omega

/-- Of the blocks of bytes none is a row of Writes, or the struct. -/
theorem RefAt.bytes {w : World} {r : Nat} {R : RefLow} {vb vw vg : Value} {D : Nat → Prop} (h : RefAt w r R vb vw vg D) : ∀ x ∈ R.ws ++ R.gs, ∃ b off, x.A = some ⟨b, off, none⟩ ∧ D b ∧ b < w.heap.size ∧ BytesAt w b off (x.data.map byteV) ∧ x.data.length = 256 := fun x hx => by
  obtain ⟨hl, b, off, e, hD, hb, hr⟩ := h.data x hx
  exact ⟨b, off, e, hD, hb, hr, hl.1⟩

/-- What a write has made of the document's disk: one of its two rows is longer, or lies in another block. -/
structure Wrote (w w' : World) (r : Nat) (R' : RefLow) (vb vw vg vw' vg' : Value) (D D' : Nat → Prop) : Prop where
  at_ : RefAt w' r R' vb vw' vg' D'
  turns : Turns (fun k => k = r ∨ vw.ownBlock = some k ∨ vg.ownBlock = some k) w w'
  rowW : ∀ k, vw'.ownBlock = some k → vw.ownBlock = some k ∨ w.heap.size ≤ k
  rowG : ∀ k, vg'.ownBlock = some k → vg.ownBlock = some k ∨ w.heap.size ≤ k
  more : ∀ k, D' k → D k ∨ w.heap.size ≤ k

def RefLow.addW (R : RefLow) (x : WrAt) : RefLow := { R with ws := R.ws ++ [x] }
def RefLow.addG (R : RefLow) (x : WrAt) : RefLow := { R with gs := R.gs ++ [x] }

end Go.Proofs.Ytelnoibfamcnmaa.Disk

namespace Go.Proofs.Ytelnoibfamcnmaa.Disk
set_option maxRecDepth 20000
open Go.RowKit
open Go.Proofs.Ytelnoibfamcnmaa.Mem Go.Proofs.Ytelnoibfamcnmaa.Reg

theorem flat_cells (l : List WrAt) (k : Nat) (x : WrAt) (h : l[k]? = some x) : (l.flatMap WrAt.cells)[k * 2]? = some (.int .i64 (x.blk : Int)) ∧ (l.flatMap WrAt.cells)[k * 2 + 1]? = some (.slice x.A 256 x.c) := by
  induction l generalizing k with
  | nil => simp at h
  | cons y r ih =>
    rw [List.flatMap_cons]
    cases k with
    | zero =>
      simp at h
      subst h
      exact ⟨rfl, rfl⟩
    | succ k =>
      simp only [List.getElem?_cons_succ] at h
      have := ih k h
      rw [show (k + 1) * 2 = k * 2 + 1 + 1 by omega]
      exact this

/-- What lies where, of one of the Writes. -/
structure Spot (w : World) (r : Nat) (R : RefLow) (vb vw : Value) (n k : Nat) (x : WrAt) (g cap bw cw a off : Nat) (cur : Array Value) : Prop where
  eb : vb = .slice (some ⟨g, 0, none⟩) (256 * n) cap
  ew : vw = .slice (some ⟨bw, 0, none⟩) R.ws.length cw
  fit : 256 * n ≤ cap ∧ cap ≤ maxLen ∧ cur.size = cap
  ad : x.A = some ⟨a, off, none⟩
  num : w.cell? ⟨bw, k * 2, none⟩ = some (.int .i64 (x.blk : Int))
  slc : w.cell? ⟨bw, k * 2 + 1, none⟩ = some (.slice (some ⟨a, off, none⟩) 256 x.c)
  h0 : w.cell? ⟨r, 0, none⟩ = some vb
  h1 : w.cell? ⟨r, 1, none⟩ = some vw
  row : w.heap[g]? = some (.cells cur 5 (0, 0))
  bwl : bw < w.heap.size
  ne1 : bw ≠ g
  ne2 : r ≠ g
  src : w.rangeAt a off (x.data.map byteV)
  len : x.data.length = 256
  room : 256 ≤ x.c ∧ x.c ≤ maxLen
  took : cur.toList.take (256 * n) = R.st.map byteV
theorem RefAt.spot {w : World} {r : Nat} {R : RefLow} {vb vw vg : Value} {D : Nat → Prop} (h : RefAt w r R vb vw vg D) {n k : Nat} {x : WrAt} (hn : R.st.length = 256 * n) (h0 : 0 < n) (hx : R.ws[k]? = some x) :
    ∃ g cap bw cw a off cur, Spot w r R vb vw n k x g cap bw cw a off cur := by
  obtain ⟨g, cap, cur, hvb, hg, hc1, hc2, hc3, hc4⟩ := h.st.cut (by omega)
  have hk := (List.getElem?_eq_some_iff.1 hx).1
  obtain ⟨bw, cw, curw, hvw, hgw, hw1, hw2, hw3, hw4⟩ := h.ws.cut (by omega)
  obtain ⟨⟨hl, hroom⟩, a, off, ha, hD, hal, hsrc⟩ := h.data x (by simp [List.mem_of_getElem? hx])
  obtain ⟨q1, q2⟩ := flat_cells R.ws k x hx
  have hlen := WrAt.cells_len R.ws
  have hcell : ∀ j u, (R.ws.flatMap WrAt.cells)[j]? = some u → w.cell? ⟨bw, j, none⟩ = some u := fun j u hu => by
    rw [cell_of_row _ _ _ _ _ _ hgw]
    have hj := (List.getElem?_eq_some_iff.1 hu).1
    rw [← hw4, List.getElem?_take, if_pos (by omega)] at hu
    simpa using hu
  refine ⟨g, cap, bw, cw, a, off, cur, by rw [hvb, hn], hvw, ⟨by omega, hc2, by omega⟩, ha, hcell _ _ q1, ?_, h.f0, cell_of_row w r 1 _ _ _ h.head, hg, (Array.getElem?_eq_some_iff.1 hgw).1, ?_, ?_, hsrc.1, hl, hroom, by rw [← hn]; rwa [Nat.mul_one] at hc4⟩
  · rw [← ha]; exact hcell _ _ q2
  · intro e
    subst e
    rw [hgw] at hg
    injection hg with hg
    injection hg with _ hg
    exact absurd hg (by decide)
  · intro e
    have := h.head
    rw [e, hg] at this
    injection this with this
    injection this with _ this
    exact absurd this (by decide)

def RefLow.lay (R : RefLow) (x : WrAt) (f t : Nat) : RefLow := { R with st := laid R.st x.plain f t }
def piece (x : WrAt) (f t : Nat) : List Value := ((x.data.drop (f * 64)).take (t * 64 - f * 64)).map byteV
theorem piece_len (x : WrAt) (f t : Nat) (hl : x.data.length = 256) (ht : t ≤ 4) (hf : f < t) : (piece x f t).length = t * 64 - f * 64 := by
  unfold piece; simp; omega
/-- Sectors of a Write laid over the stable bytes. -/
theorem RefAt.laid {w : World} {r : Nat} {R : RefLow} {vb vw vg : Value} {D : Nat → Prop} (h : RefAt w r R vb vw vg D) {n k g cap bw cw a off f t : Nat} {x : WrAt} {cur : Array Value} (hn : R.st.length = 256 * n) (hs : Spot w r R vb vw n k x g cap bw cw a off cur)
    (hx : x.blk < n) (hf : f < t) (ht : t ≤ 4) (hD : ∀ k, D k → vb.ownBlock ≠ some k) :
    RefAt (w.drew.setRow g (splice cur.toList (x.blk * 256 + f * 64) (piece x f t)).toArray) r (R.lay x f t) vb vw vg D ∧ Turns (fun k => vb.ownBlock = some k) w (w.drew.setRow g (splice cur.toList (x.blk * 256 + f * 64) (piece x f t)).toArray) := by
  have hvb := hs.eb
  have hW : Turns (fun k => vb.ownBlock = some k) w (w.drew.setRow g (splice cur.toList (x.blk * 256 + f * 64) (piece x f t)).toArray) := (Turns.refl _ w).drew.setRow g _ (fun _ => by rw [hvb]; rfl)
  have hpl := piece_len x f t hs.len ht hf
  have hrow : (w.drew.setRow g (splice cur.toList (x.blk * 256 + f * 64) (piece x f t)).toArray).heap[g]? = some (.cells (splice cur.toList (x.blk * 256 + f * 64) (piece x f t)).toArray 5 (0, 0)) := setRow_heap _ _ _ _ _ _ hs.row
  have hap := h.apart
  have hlaid : (Disk.laid R.st x.plain f t).length = R.st.length := by
    unfold Disk.laid
    rw [length_splice _ _ _ ?_]
    have : ((x.plain.2.drop (f * 64)).take (t * 64 - f * 64)).length = t * 64 - f * 64 := by have := hs.len; simp [WrAt.plain]; omega
    rw [this]
    show x.blk * 256 + f * 64 + (t * 64 - f * 64) ≤ _
    omega
  refine ⟨⟨?_, ?_, h.ws.turns hW (fun k hk e => ?_), h.gs.turns hW (fun k hk e => ?_), h.far, fun y hy => ?_⟩, hW⟩
  · exact (hW.block r h.lt (fun e => hap.1 e)).trans h.head
  · show Row _ _ _ _ (Disk.laid R.st x.plain f t).length ((Disk.laid R.st x.plain f t).map byteV)
    rw [hlaid, hn, hvb]
    have hr := Row.laid (n := 256 * n) (xs := R.st.map byteV) hs.fit.1 hs.fit.2.1 (by have := hs.fit.2.2; omega) hs.took hrow (by omega)
    have e : (Disk.laid R.st x.plain f t).map byteV = splice (R.st.map byteV) (x.blk * 256 + f * 64) (piece x f t) := by
      simp [Disk.laid, splice, piece, WrAt.plain, List.map_take, List.map_drop]
    rw [e]
    exact hr
  · obtain ⟨c1, h1⟩ := row_type h.ws hk
    obtain ⟨c2, h2⟩ := row_type h.st e
    rw [h1] at h2
    injection h2 with h2
    injection h2 with _ h2
    exact absurd h2 (by decide)
  · obtain ⟨c1, h1⟩ := row_type h.gs hk
    obtain ⟨c2, h2⟩ := row_type h.st e
    rw [h1] at h2
    injection h2 with h2
    injection h2 with _ h2
    exact absurd h2 (by decide)
  · obtain ⟨hl, b, o, e, hDb, hb, hr⟩ := h.data y hy
    exact ⟨hl, b, o, e, hDb, by have := hW.size; omega, bytes_turns hr hW hb (hD b hDb)⟩

def RefLow.flushed (R : RefLow) (k : Nat) : RefLow := { R with st := flushL (R.ws.map WrAt.plain) R.st k }
end Go.Proofs.Ytelnoibfamcnmaa.Disk
