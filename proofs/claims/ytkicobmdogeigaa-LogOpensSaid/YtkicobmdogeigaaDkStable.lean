/- Contracts of the library's clone of bytes, and of the program's telling the stable bytes. -/
import Derived.Test.YtkicobmdogeigaaDkNil
import Derived.Laws.Cover3
namespace Go.Proofs.Ytkicobmdogeigaa.Disk
set_option maxRecDepth 20000
open Go.RowKit
open Go.Proofs.Ytkicobmdogeigaa.Mem

/-- New memory that reads as these bytes. -/
def Made (w : World) (bs : List UInt8) (e : Ending) (w' : World) : Prop := ∃ A c, e = .returned (.slice A bs.length c) ∧ Owned w' w.heap.size (.slice A bs.length c) bs ∧ Below w.heap.size w w'

set_option maxRecDepth 100000 in
theorem clone_any (a : Addr) (n c B : Nat) (bs : List UInt8) (w : World) (h : Holds w B (some a) n bs) (hn : n ≤ 140737488355328) (hB : B ≤ w.heap.size) :
    Calls Try.prog 55 #[.slice (some a) n c] w (Made w bs) := by
  obtain rfl : bs.length = n := h.1
  have hq : ∀ W, (binOp .eql 33 (.slice (some a) bs.length c) (.slice none 0 0)).run Try.prog W = .ok (.bool false) W := fun W => by
    simp [binOp, Op.equal, run_equalIn_slice_nil (P := Try.prog) W 9999 33 5 (some a) bs.length c Try.underlying33, show Op.maxDepth = 9999 + 1 from rfl, Result.andThen]
  have ho := owned_made w [] w.heap.size (Nat.le_refl _) (by unfold maxLen; simp)
  go_enter Try.func55, Try.ntmps55
  go_wp2_with (at_builtin; refine wpList_addall rfl _ _ rfl w.heap.size _ [] rfl ho B (some a) bs.length c bs rfl ?c1 ?c2 ?c3 ?_)
  case c1 => exact h.below (((Below.refl w.heap.size w).alloc (Nat.le_refl _) _).mono hB)
  case c2 => simp; omega
  case c3 => simp
  intro g w2 ho2 hb2
  obtain ⟨A2, c2, rfl, -⟩ := Owned.holds ho2
  have HO := Lib.hid ho2; clear ho2
  have HB := Lib.hid hb2; clear hb2
  clear ho
  go_wp2
  go_ret
  exact ⟨A2, c2, rfl, HO.out, ((Below.refl w.heap.size w).alloc (Nat.le_refl _) _).trans HB.out⟩

theorem stable_any (L : Low) (p m n : Nat) (vs vw : Value) (w : World) (h : LowAt w p L vs vw m) (hn : L.st.length = 256 * n) (h1 : 1 ≤ n) (hm : n ≤ 1024) :
    Calls Try.prog 23 #[.pointer (some ⟨p, 0, none⟩)] w (Made w L.st) := by
  have c0 := h.f0
  obtain ⟨A, c, rfl, hh⟩ := h.st.holds
  rcases A with _ | a
  · obtain ⟨b, off, e, _⟩ := hh.2 (by omega)
    cases e
  have HN := Lib.hid hn; clear hn
  have H := Lib.hid h; clear h
  go_enter Try.func23, Try.ntmps23
  go_wp2_with fail
  refine (clone_any a L.st.length c w.heap.size L.st w hh (by have := HN.out; omega) (Nat.le_refl _)).mono ?_
  rintro e w' ⟨A', c', rfl, ho, hb⟩
  go_wp2
  go_ret
  exact ⟨A', c', rfl, ho, hb⟩
theorem owned_holds {w : World} {base : Nat} {A : Option Addr} {c : Nat} {bs : List UInt8} (h : Owned w base (.slice A bs.length c) bs) : Holds w w.heap.size A bs.length bs := by
  obtain ⟨A', c', hv, hh⟩ := Owned.holds h
  injection hv with e1 _ _
  rw [e1]; exact hh
end Go.Proofs.Ytkicobmdogeigaa.Disk
