/- The document's disk in memory, and its small calls: the bit of a list, whether there are so many blocks, whether the fuse is blown, the fuse. -/
import Derived.Test.YtelnoibfamcnmaaGreatDkGhost
namespace Go.Proofs.YtelnoibfamcnmaaGreat.Disk
set_option maxRecDepth 20000
open Go.RowKit
open Go.Proofs.YtelnoibfamcnmaaGreat.Mem
attribute [local go_sem ↓] Go.wp_at_zero Go.wp_at_succ


/-- Bytes in a block of bytes. -/
def BytesAt (w : World) (b o : Nat) (cs : List Value) : Prop := w.rangeAt b o cs ∧ ∃ cur, w.heap[b]? = some (.cells cur 5 (0, 0))
theorem bytes_turns {w w' : World} {b o : Nat} {cs : List Value} (h : BytesAt w b o cs) {F : Nat → Prop} (ht : Turns F w w') (hb : b < w.heap.size) (hF : ¬ F b) : BytesAt w' b o cs :=
  ⟨range_turns h.1 ht hb hF, by obtain ⟨cur, hc⟩ := h.2; exact ⟨cur, (ht.block b hb hF).trans hc⟩⟩

/-- A write of the document's: its number, and where its bytes lie. -/
structure WrAt where
  blk : Nat
  A : Option Addr
  c : Nat
  data : List UInt8
def WrAt.cells (x : WrAt) : List Value := [.int .i64 (x.blk : Int), .slice x.A 256 x.c]
def WrAt.plain (x : WrAt) : Wr := (x.blk, x.data)
/-- The device's struct, its bytes, its writes and its ghosts; each write's bytes below block B. -/
structure RefLow where
  st : List UInt8
  ws : List WrAt
  gs : List WrAt
  set : Bool
  left : Nat
def refHead (vb vw vg : Value) (R : RefLow) : Array Value := #[vb, vw, vg, .bool R.set, .int .i64 (R.left : Int)]
def RefLow.blown (R : RefLow) : Bool := R.set && decide (R.left = 0)
structure RefAt (w : World) (r : Nat) (R : RefLow) (vb vw vg : Value) (D : Nat → Prop) : Prop where
  head : w.heap[r]? = some (.cells (refHead vb vw vg R) 87 (0, 0))
  st : Row w 5 1 vb R.st.length (R.st.map byteV)
  ws : Row w 56 2 vw R.ws.length (R.ws.flatMap WrAt.cells)
  gs : Row w 56 2 vg R.gs.length (R.gs.flatMap WrAt.cells)
  far : ¬ D r
  data : ∀ x ∈ R.ws ++ R.gs, (x.data.length = 256 ∧ 256 ≤ x.c ∧ x.c ≤ maxLen) ∧ ∃ b off, x.A = some ⟨b, off, none⟩ ∧ D b ∧ b < w.heap.size ∧ BytesAt w b off (x.data.map byteV)

theorem RefAt.f3 {w : World} {r : Nat} {R : RefLow} {vb vw vg : Value} {D : Nat → Prop} (h : RefAt w r R vb vw vg D) : w.cell? ⟨r, 3, none⟩ = some (.bool R.set) := cell_of_row w r 3 _ _ _ h.head
theorem RefAt.f4 {w : World} {r : Nat} {R : RefLow} {vb vw vg : Value} {D : Nat → Prop} (h : RefAt w r R vb vw vg D) : w.cell? ⟨r, 4, none⟩ = some (.int .i64 (R.left : Int)) := cell_of_row w r 4 _ _ _ h.head
theorem RefAt.f0 {w : World} {r : Nat} {R : RefLow} {vb vw vg : Value} {D : Nat → Prop} (h : RefAt w r R vb vw vg D) : w.cell? ⟨r, 0, none⟩ = some vb := cell_of_row w r 0 _ _ _ h.head

theorem refSize_any (R : RefLow) (r n : Nat) (vb vw vg : Value) (D : Nat → Prop) (w : World) (h : RefAt w r R vb vw vg D) (hn : R.st.length = 256 * n) (hm : n ≤ 1024) :
    Calls Tryz.prog 45 #[.pointer (some ⟨r, 0, none⟩)] w fun e w' => e = .returned (.int .i64 (n : Int)) ∧ w = w' := by
  have h0 := h.f0
  obtain ⟨A, c, rfl, hh⟩ := h.st.holds
  have hq : (R.st.length : Int) / 256 = (n : Int) := by omega
  have HN := Lib.hid hn; clear hn
  have H := Lib.hid h; clear h
  clear hh
  go_enter Tryz.func45, Tryz.ntmps45
  go_wp2
  go_ret
  exact ⟨rfl, rfl⟩

theorem RefAt.lt {w : World} {r : Nat} {R : RefLow} {vb vw vg : Value} {D : Nat → Prop} (h : RefAt w r R vb vw vg D) : r < w.heap.size := (Array.getElem?_eq_some_iff.1 h.head).1
theorem RefAt.apart {w : World} {r : Nat} {R : RefLow} {vb vw vg : Value} {D : Nat → Prop} (h : RefAt w r R vb vw vg D) : vb.ownBlock ≠ some r ∧ vw.ownBlock ≠ some r ∧ vg.ownBlock ≠ some r := by
  have hh := h.head
  refine ⟨fun e => ?_, fun e => ?_, fun e => ?_⟩
  · obtain ⟨cur, hc⟩ := row_type h.st e
    rw [hh] at hc; cases hc
  · obtain ⟨cur, hc⟩ := row_type h.ws e
    rw [hh] at hc; cases hc
  · obtain ⟨cur, hc⟩ := row_type h.gs e
    rw [hh] at hc; cases hc
theorem RefAt.turns {w w' : World} {r : Nat} {R : RefLow} {vb vw vg : Value} {D F : Nat → Prop} (h : RefAt w r R vb vw vg D) (ht : Turns F w w') (hr : ¬ F r) (h1 : ∀ k, vb.ownBlock = some k → ¬ F k) (h2 : ∀ k, vw.ownBlock = some k → ¬ F k) (h3 : ∀ k, vg.ownBlock = some k → ¬ F k) (h4 : ∀ k, D k → ¬ F k) : RefAt w' r R vb vw vg D :=
  ⟨(ht.block r h.lt hr).trans h.head, h.st.turns ht h1, h.ws.turns ht h2, h.gs.turns ht h3, h.far, fun x hx => by
    obtain ⟨hl, b, off, e, hD, hb, hra⟩ := h.data x hx
    exact ⟨hl, b, off, e, hD, by have := ht.size; omega, bytes_turns hra ht hb (h4 b hD)⟩⟩
/-- Only the struct's own words have changed. -/
theorem RefAt.again {w w' : World} {r : Nat} {R R' : RefLow} {vb vw vg : Value} {D : Nat → Prop} (h : RefAt w r R vb vw vg D) (ht : Turns (fun k => k = r) w w') (hh : w'.heap[r]? = some (.cells (refHead vb vw vg R') 87 (0, 0)))
    (h1 : R'.st = R.st) (h2 : R'.ws = R.ws) (h3 : R'.gs = R.gs) : RefAt w' r R' vb vw vg D := by
  have ha := h.apart
  refine ⟨hh, ?_, ?_, ?_, h.far, fun x hx => ?_⟩
  · rw [h1]; exact h.st.turns ht (fun k hk e => ha.1 (by rw [hk, e]))
  · rw [h2]; exact h.ws.turns ht (fun k hk e => ha.2.1 (by rw [hk, e]))
  · rw [h3]; exact h.gs.turns ht (fun k hk e => ha.2.2 (by rw [hk, e]))
  · rw [h2, h3] at hx
    obtain ⟨hl, b, off, e, hD, hb, hra⟩ := h.data x hx
    exact ⟨hl, b, off, e, hD, by have := ht.size; omega, bytes_turns hra ht hb (fun e => h.far (by rw [← e]; exact hD))⟩

/-- An operation taken off the fuse. -/
def RefLow.tick (R : RefLow) : RefLow := { R with left := if R.set then R.left - 1 else R.left }
theorem refBlown_true (R : RefLow) (r : Nat) (vb vw vg : Value) (D : Nat → Prop) (w : World) (h : RefAt w r R vb vw vg D) (hb : R.blown = true) :
    Calls Tryz.prog 71 #[.pointer (some ⟨r, 0, none⟩)] w fun e w' => e = .returned (.bool true) ∧ w = w' := by
  have h3 := h.f3
  have h4 := h.f4
  have hs : R.set = true := by unfold RefLow.blown at hb; simp at hb; exact hb.1
  have hl : R.left = 0 := by unfold RefLow.blown at hb; simp at hb; exact hb.2
  rw [hs] at h3
  rw [hl] at h4
  have H := Lib.hid h; clear h
  go_enter Tryz.func71, Tryz.ntmps71
  go_wp2
  go_ret
  exact ⟨rfl, rfl⟩
theorem refBlown_false (R : RefLow) (r : Nat) (vb vw vg : Value) (D : Nat → Prop) (w : World) (h : RefAt w r R vb vw vg D) (hb : R.blown = false) (hf : R.left ≤ 9223372036854775807) :
    Calls Tryz.prog 71 #[.pointer (some ⟨r, 0, none⟩)] w fun e w' => e = .returned (.bool false) ∧ RefAt w' r R.tick vb vw vg D ∧ Turns (fun k => k = r) w w' := by
  have h3 := h.f3
  have h4 := h.f4
  have f4 := frozen_of_row w r 4 _ _ h.head
  have H := Lib.hid h; clear h
  cases hs : R.set
  · rw [hs] at h3
    go_enter Tryz.func71, Tryz.ntmps71
    go_wp2
    go_ret
    have e : R.tick = R := by
      obtain ⟨st, ws, gs, set, left⟩ := R
      subst hs
      rfl
    exact ⟨rfl, by rw [e]; exact H.out, Turns.refl _ _⟩
  · rw [hs] at h3
    have hl : 0 < R.left := by
      unfold RefLow.blown at hb; rw [hs] at hb; simp at hb; omega
    have hz : ((R.left : Int) == 0) = false := by simp; omega
    have hw : IntKind.i64.wrap ((R.left : Int) - 1) = ((R.left - 1 : Nat) : Int) := by rw [IntWalk.i64_in _ (by omega)]; omega
    go_enter Tryz.func71, Tryz.ntmps71
    go_wp2
    go_ret
    have ht : Turns (fun k => k = r) w (w.setCell ⟨r, 4, none⟩ (.int .i64 ((R.left - 1 : Nat) : Int))) := turns_cell w r 4 _
    refine ⟨rfl, H.out.again ht ?_ rfl rfl rfl, ht⟩
    rw [heap_setCell_same w r 4 _ _ _ H.out.head]
    simp [refHead, RefLow.tick, hs]

def RefLow.fuse (R : RefLow) (n : Int) : RefLow := if R.blown then R else { R with set := decide (0 ≤ n), left := n.toNat }

end Go.Proofs.YtelnoibfamcnmaaGreat.Disk
