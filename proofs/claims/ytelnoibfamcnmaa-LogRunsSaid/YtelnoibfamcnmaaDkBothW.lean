/- A write done to a disk and to the document's. -/
import Derived.Test.YtelnoibfamcnmaaDkBoth
import Derived.Deep.RegionHeld
namespace Go.Proofs.Ytelnoibfamcnmaa.Disk
set_option maxRecDepth 20000
open Go.RowKit
open Go.Proofs.Ytelnoibfamcnmaa.Mem

def wret (n : Nat) (blk : Int) (short : Bool) : Int := if hasB n blk then (if short then 1 else 0) else 16
def wdk (d : Dk.Dk) (blk : Int) (fill : UInt8) (short : Bool) : Dk.Dk := if hasB d.stable.length blk && !short then d.write blk.toNat (dataL fill false) else d

theorem DiskAt.same {w : World} {p c : Nat} {d : Dk.Dk} {F : Nat → Prop} (h : DiskAt w p d c F) (v : Value) : Now w p d (c + 1) F v (.returned v) w := ⟨F, rfl, h.more (by omega), fun _ h => .inl h, Turns.refl _ _⟩
theorem RefDisk.same {w : World} {p c : Nat} {d : Dk.Dk} {F : Nat → Prop} (h : RefDisk w p d c F) (v : Value) : RNow w p d (c + 1) F v (.returned v) w := ⟨F, rfl, h.more (by omega), fun _ h => .inl h, Turns.refl _ _⟩
theorem Both.next {w W W' : World} {p r c B b : Nat} {d : Dk.Dk} {F G F' G' : Nat → Prop} (h : Both w W p r d c B F G F' G') (ht : Turns (fun q => q = b) W W') (hF : ¬ F' b) (hG : ¬ G' b) (hb : w.heap.size ≤ b) : Both w W' p r d c B F G F' G' :=
  ⟨h.one.turns ht (fun k e e' => hF (e' ▸ e)), h.two.turns ht (fun k e e' => hG (e' ▸ e)), h.apart, h.lowF, h.lowG, h.turns.trans ht (fun i hi e => by omega)⟩

end Go.Proofs.Ytelnoibfamcnmaa.Disk
