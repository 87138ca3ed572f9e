/- A deed done to a disk and to the document's. -/
import Derived.Test.YtelnoibfamcnmaaDkRefE
import Derived.Test.YtelnoibfamcnmaaDeeds
import Derived.Test.YtelnoibfamcnmaaDkGhost
namespace Go.Proofs.Ytelnoibfamcnmaa.Disk
set_option maxRecDepth 20000
open Go.RowKit
open Go.Proofs.Ytelnoibfamcnmaa.Mem

theorem Owned.turns {w w' : World} {base : Nat} {v : Value} {bs : List UInt8} (h : Owned w base v bs) {F : Nat → Prop} (ht : Turns F w w') (hF : ∀ k, base ≤ k → ¬ F k) : Owned w' base v bs := by
  obtain ⟨h1, h2⟩ := h
  refine ⟨h1, ?_⟩
  rcases h2 with h2 | ⟨g, cap, cur, e, hg, hh, rr⟩
  · exact .inl h2
  · exact .inr ⟨g, cap, cur, e, hg, (ht.block g (Array.getElem?_eq_some_iff.1 hh).1 (hF g hg)).trans hh, rr⟩
theorem Holds.turns {w w' : World} {B : Nat} {A : Option Addr} {n : Nat} {bs : List UInt8} (h : Holds w B A n bs) {F : Nat → Prop} (ht : Turns F w w') (hF : ∀ k, F k → B ≤ k) (hB : B ≤ w.heap.size) : Holds w' B A n bs :=
  h.below (ht.below hF hB)
theorem RefDisk.more {w : World} {r c c' : Nat} {d : Dk.Dk} {F : Nat → Prop} (h : RefDisk w r d c F) (hc : c ≤ c') : RefDisk w r d c' F := by
  obtain ⟨R, vb, vw, vg, hA, hR, h1, h2, hF⟩ := h
  exact ⟨R, vb, vw, vg, hA, { hR with few := Nat.le_trans hR.few hc }, h1, h2, hF⟩
theorem Owned.held {W : World} {base n c : Nat} {A : Option Addr} {bs : List UInt8} (h : Owned W base (.slice A n c) bs) {F : Nat → Prop} (hF : ∀ k, base ≤ k → ¬ F k) : ∀ w', Turns F W w' → Holds w' W.heap.size A n bs := fun w' ht => by
  obtain ⟨A1, c1, e1, g1⟩ := h.holds
  injection e1 with a1 a2 _
  subst a1 a2
  obtain ⟨A2, c2, e2, g2⟩ := Owned.holds (Owned.turns h ht hF)
  injection e2 with b1 _ _
  subst b1
  refine ⟨g2.1, fun hn => ?_⟩
  obtain ⟨b, off, e, _, hc⟩ := g2.2 hn
  obtain ⟨b0, off0, e0, hb0, _⟩ := g1.2 hn
  rw [e] at e0
  injection e0 with e0
  injection e0 with e0 _
  exact ⟨b, off, e, by rw [e0]; exact hb0, hc⟩
/-- What both leaves: the two disks, what is behind B apart from them. -/
structure Both (w w' : World) (p r : Nat) (d' : Dk.Dk) (c : Nat) (B : Nat) (F G F' G' : Nat → Prop) : Prop where
  one : DiskAt w' p d' c F'
  two : RefDisk w' r d' c G'
  apart : ∀ k, F' k → ¬ G' k
  lowF : ∀ k, F' k → B ≤ k
  lowG : ∀ k, G' k → B ≤ k
  turns : Turns (fun k => F k ∨ G k) w w'

end Go.Proofs.Ytelnoibfamcnmaa.Disk
