/- A write done to a disk and to the document's. -/
import Derived.Test.YtkgpdpmdkkmifaaDkBoth
import Derived.Deep.RegionHeld
namespace Go.Proofs.Ytkgpdpmdkkmifaa.Disk
set_option maxRecDepth 20000
open Go.RowKit
open Go.Proofs.Ytkgpdpmdkkmifaa.Mem

def wret (n : Nat) (blk : Int) (short : Bool) : Int := if hasB n blk then (if short then 1 else 0) else 16
def wdk (d : Dk.Dk) (blk : Int) (fill : UInt8) (short : Bool) : Dk.Dk := if hasB d.stable.length blk && !short then d.write blk.toNat (dataL fill false) else d

theorem hasB_nat {n : Nat} {blk : Int} (h : hasB n blk = true) : blk = (blk.toNat : Int) ∧ blk.toNat < n := by
  simp [hasB] at h; omega
theorem DiskAt.same {w : World} {p c : Nat} {d : Dk.Dk} {F : Nat → Prop} (h : DiskAt w p d c F) (v : Value) : Now w p d (c + 1) F v (.returned v) w := ⟨F, rfl, h.more (by omega), fun _ h => .inl h, Turns.refl _ _⟩
theorem RefDisk.same {w : World} {p c : Nat} {d : Dk.Dk} {F : Nat → Prop} (h : RefDisk w p d c F) (v : Value) : RNow w p d (c + 1) F v (.returned v) w := ⟨F, rfl, h.more (by omega), fun _ h => .inl h, Turns.refl _ _⟩
theorem short_len (fill : UInt8) : ¬ (dataL fill true).length = 256 := by rw [dataL_len]; decide
theorem full_len (fill : UInt8) : (dataL fill false).length = 256 := by rw [dataL_len]; rfl

theorem writeB_d (blk : Int) (b : Nat) (fill : UInt8) (short : Bool) (d : Dk.Dk) (p c : Nat) (F : Nat → Prop) (w : World) (h : DiskAt w p d c F) (hd : w.rangeAt b 0 ((dataL fill short).map byteV)) (hc : c ≤ 1048576) :
    Calls Try.prog 17 #[ptr p, .int .i64 blk, .slice (some ⟨b, 0, none⟩) (dataL fill short).length (dataL fill short).length] w (Now w p (wdk d blk fill short) (c + 1) F (.int .i64 (wret d.stable.length blk short))) := by
  cases hh : hasB d.stable.length blk
  · have e1 : wdk d blk fill short = d := by unfold wdk; rw [hh]; rfl
    have e2 : wret d.stable.length blk short = 16 := by unfold wret; rw [hh]; rfl
    rw [e1, e2]
    refine (write_hasnt_d blk _ _ _ d p c F w h hh).mono ?_
    rintro e w' ⟨rfl, rfl⟩
    exact h.same _
  · obtain ⟨h1, h2⟩ := hasB_nat hh
    cases short
    · have e1 : wdk d blk fill false = d.write blk.toNat (dataL fill false) := by unfold wdk; rw [hh]; rfl
      have e2 : wret d.stable.length blk false = 0 := by unfold wret; rw [hh]; rfl
      rw [e1, e2]
      have := writes_d blk blk.toNat h1 b 0 (dataL fill false).length (dataL fill false) d p c F w h h2 (full_len fill) hd hc
      rw [← full_len fill] at this
      exact this
    · have e1 : wdk d blk fill true = d := by unfold wdk; rw [hh]; rfl
      have e2 : wret d.stable.length blk true = 1 := by unfold wret; rw [hh]; rfl
      rw [e1, e2]
      refine (write_short_d blk blk.toNat h1 _ _ _ d p c F w h h2 (short_len fill)).mono ?_
      rintro e w' ⟨rfl, rfl⟩
      exact h.same _
theorem rwriteB_d (blk : Int) (b : Nat) (fill : UInt8) (short : Bool) (d : Dk.Dk) (r c : Nat) (F : Nat → Prop) (w : World) (h : RefDisk w r d c F) (hd : w.rangeAt b 0 ((dataL fill short).map byteV)) (hb : b < w.heap.size) (hc : c ≤ 1048576) :
    Calls Try.prog 25 #[ptr r, .int .i64 blk, .slice (some ⟨b, 0, none⟩) (dataL fill short).length (dataL fill short).length] w (RNow w r (wdk d blk fill short) (c + 1) F (.int .i64 (wret d.stable.length blk short))) := by
  have h0 := h
  obtain ⟨R, vb, vw, vg, hA, hR, _, _, _⟩ := h0
  cases hh : hasB d.stable.length blk
  · have e1 : wdk d blk fill short = d := by unfold wdk; rw [hh]; rfl
    have e2 : wret d.stable.length blk short = 16 := by unfold wret; rw [hh]; rfl
    rw [e1, e2]
    refine (refWrite_hasnt blk _ _ _ d.stable.length R r vb vw vg _ w hA hR.size hR.big.2 hh).mono ?_
    rintro e w' ⟨rfl, rfl⟩
    exact h.same _
  · obtain ⟨h1, h2⟩ := hasB_nat hh
    cases short
    · have e1 : wdk d blk fill false = d.write blk.toNat (dataL fill false) := by unfold wdk; rw [hh]; rfl
      have e2 : wret d.stable.length blk false = 0 := by unfold wret; rw [hh]; rfl
      rw [e1, e2]
      have hho : Holds w w.heap.size (some ⟨b, 0, none⟩) 256 (dataL fill false) := ⟨full_len fill, fun _ => ⟨b, 0, rfl, hb, fun j hj => by
        have := hd j (byteV ((dataL fill false)[j]'hj)) (by rw [List.getElem?_map, List.getElem?_eq_getElem hj]; rfl)
        exact this⟩⟩
      have := rwrite_d blk.toNat (some ⟨b, 0, none⟩) (dataL fill false).length w.heap.size (dataL fill false) d r c F w h hc h2 hho (Nat.le_refl _)
      rw [← h1] at this
      rw [← full_len fill] at this
      exact this
    · have e1 : wdk d blk fill true = d := by unfold wdk; rw [hh]; rfl
      have e2 : wret d.stable.length blk true = 1 := by unfold wret; rw [hh]; rfl
      rw [e1, e2]
      refine (refWrite_short blk _ _ _ d.stable.length R r vb vw vg _ w hA hR.size hR.big.2 hh (short_len fill)).mono ?_
      rintro e w' ⟨rfl, rfl⟩
      exact h.same _
theorem Both.next {w W W' : World} {p r c B b : Nat} {d : Dk.Dk} {F G F' G' : Nat → Prop} (h : Both w W p r d c B F G F' G') (ht : Turns (fun q => q = b) W W') (hF : ¬ F' b) (hG : ¬ G' b) (hb : w.heap.size ≤ b) : Both w W' p r d c B F G F' G' :=
  ⟨h.one.turns ht (fun k e e' => hF (e' ▸ e)), h.two.turns ht (fun k e e' => hG (e' ▸ e)), h.apart, h.lowF, h.lowG, h.turns.trans ht (fun i hi e => by omega)⟩

end Go.Proofs.Ytkgpdpmdkkmifaa.Disk
