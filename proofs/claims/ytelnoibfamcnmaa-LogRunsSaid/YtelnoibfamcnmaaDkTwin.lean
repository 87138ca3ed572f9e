/- Two disks beside each other, the program's and the document's, through deeds: what each round of a law leaves. -/
import Derived.Test.YtelnoibfamcnmaaDkBothV
import Derived.Test.YtelnoibfamcnmaaDkCopy
import Derived.Test.YtelnoibfamcnmaaDkWide
namespace Go.Proofs.Ytelnoibfamcnmaa.Disk
set_option maxRecDepth 20000
open Go.ChangeShapes Go.WideShapes Go.ChangeAt Go.RowKit Go.Deep
open Go.Proofs.Ytelnoibfamcnmaa.Mem Go.Proofs.Ytelnoibfamcnmaa.Lift

/-- The stable bytes of the document's disk, as its field holds them. -/
theorem RefDisk.bytes {w : World} {r c : Nat} {d : Dk.Dk} {F : Nat → Prop} (h : RefDisk w r d c F) : ∃ A n cp, w.cell? ⟨r, 0, none⟩ = some (.slice A n cp) ∧ Holds w w.heap.size A n d.stable.flatten := by
  obtain ⟨R, vb, vw, vg, hA, hR, _, _, _⟩ := h
  have h0 := hA.f0
  obtain ⟨A, cp, rfl, hh⟩ := hA.st.holds
  exact ⟨A, _, cp, h0, by rw [← hR.st]; exact hh⟩
/-- As many Writes as are pending. -/
theorem RefDisk.count {w : World} {r c : Nat} {d : Dk.Dk} {F : Nat → Prop} (h : RefDisk w r d c F) : ∃ A cp, w.cell? ⟨r, 1, none⟩ = some (.slice A d.pend.length cp) := by
  obtain ⟨R, vb, vw, vg, hA, hR, _, _, _⟩ := h
  have h1 : w.cell? ⟨r, 1, none⟩ = some vw := cell_of_row w r 1 _ _ _ hA.head
  obtain ⟨A, cp, rfl⟩ := hA.ws.shape
  have e : R.ws.length = d.pend.length := by rw [← hR.ws, List.length_map]
  exact ⟨A, cp, by rw [← e]; exact h1⟩

theorem Duo.step {w W W' : World} {p r c c' : Nat} {d d' : Dk.Dk} {F G F' G' : Nat → Prop} (h : Duo w W p r d c F G) (hb : Both W W' p r d' c' w.heap.size F G F' G') : Duo w W' p r d' c' F' G' :=
  ⟨hb.one, hb.two, hb.apart, hb.lowF, hb.lowG, h.below.trans (hb.turns.below (fun k e => e.elim (h.lowF k) (h.lowG k)) h.below.size)⟩

/-- What Read answers for whatever number of a block. -/
def rdBy (d : Dk.Dk) (i : Int) : List UInt8 := if hasB d.stable.length i then d.read i.toNat else []
def rdErr (d : Dk.Dk) (i : Int) : Int := if hasB d.stable.length i then 0 else 16
def RdAt (w : World) (bs : List UInt8) (er : Int) (e : Ending) (w' : World) : Prop := ∃ A n cp, e = .returned (.tuple #[.slice A n cp, .int .i64 er]) ∧ Holds w' w'.heap.size A n bs ∧ Below w.heap.size w w'
theorem Duo.beside {w W W' : World} {p r c : Nat} {d : Dk.Dk} {F G H : Nat → Prop} (h : Duo w W p r d c F G) (ht : Turns H W W') (hF : ∀ k, F k → ¬ H k) (hG : ∀ k, G k → ¬ H k) (hH : ∀ k, H k → w.heap.size ≤ k) : Duo w W' p r d c F G :=
  ⟨h.one.turns ht hF, h.two.turns ht hG, h.apart, h.lowF, h.lowG, h.below.trans (ht.below hH h.below.size)⟩
/-- Bytes that a call makes, and the text of them whatever comes then. -/
def Texts (V : World) (S : ByteArray) (e : Ending) (V' : World) : Prop := ∃ A n c, e = .returned (.slice A n c) ∧ Below V.heap.size V V' ∧ ∀ V2, Below V'.heap.size V' V2 → (convert 33 9 (.slice A n c)).run Try.prog V2 = .ok (.string S) V2
def txt (bs : List UInt8) : ByteArray := ⟨bs.toArray⟩
theorem image_t {d : Dk.Dk} {p c : Nat} {F : Nat → Prop} {w : World} (h : DiskAt w p d c F) (hc : c ≤ 1048576) : ∀ V, Below w.heap.size w V → Calls Try.prog 23 #[.pointer (some ⟨p, 0, none⟩)] V (Texts V (txt d.image.flatten)) := fun V hV => by
  refine (image_d d p c F V (h.later hV) hc).mono ?_
  rintro e V' ⟨A, cp, rfl, ho, hb⟩
  exact ⟨A, _, cp, rfl, hb, fun V2 h2 => run_text V2 _ A _ cp _ ((owned_holds ho).below h2)⟩
theorem stable_t {d : Dk.Dk} {p c : Nat} {F : Nat → Prop} {w : World} (h : DiskAt w p d c F) : ∀ V, Below w.heap.size w V → Calls Try.prog 25 #[.pointer (some ⟨p, 0, none⟩)] V (Texts V (txt d.stable.flatten)) := fun V hV => by
  refine (stable_d d p c F V (h.later hV)).mono ?_
  rintro e V' ⟨A, cp, rfl, ho, hb⟩
  exact ⟨A, _, cp, rfl, hb, fun V2 h2 => run_text V2 _ A _ cp _ ((owned_holds ho).below h2)⟩
theorem rimage_t {d : Dk.Dk} {p c : Nat} {F : Nat → Prop} {w : World} (h : RefDisk w p d c F) (hc : c ≤ 1048576) : ∀ V, Below w.heap.size w V → Calls Try.prog 24 #[.pointer (some ⟨p, 0, none⟩)] V (Texts V (txt d.image.flatten)) := fun V hV => by
  refine (rimage_d d p c F V (h.later hV) hc).mono ?_
  rintro e V' ⟨v, rfl, ho, hb⟩
  obtain ⟨A, cp, rfl, hh⟩ := ho.holds
  exact ⟨A, _, cp, rfl, hb, fun V2 h2 => run_text V2 _ A _ cp _ (hh.below h2)⟩
/-- What is read of the fields of the document's disk. -/
theorem RefDisk.fields {w : World} {r c : Nat} {d : Dk.Dk} {F : Nat → Prop} (h : RefDisk w r d c F) : ∃ A0 n0 c0 A1 c1, ∀ V, Below w.heap.size w V → (V.cell? ⟨r, 0, none⟩ = some (.slice A0 n0 c0) ∧ V.cell? ⟨r, 1, none⟩ = some (.slice A1 d.pend.length c1) ∧ (convert 33 9 (.slice A0 n0 c0)).run Try.prog V = .ok (.string (txt d.stable.flatten)) V) := by
  obtain ⟨A0, n0, c0, hy0, hh0⟩ := h.bytes
  obtain ⟨A1, c1, hy1⟩ := h.count
  refine ⟨A0, n0, c0, A1, c1, fun V hV => ?_⟩
  have hr : r < w.heap.size := block_lt_of_cell hy0
  exact ⟨(hV.cell (p := ⟨r, 0, none⟩) hr).trans hy0, (hV.cell (p := ⟨r, 1, none⟩) hr).trans hy1, run_text V w.heap.size A0 n0 c0 _ (hh0.below hV)⟩
end Go.Proofs.Ytelnoibfamcnmaa.Disk
