/- What a deed among the arguments is: by value, and as an element of a slice of deeds; and what a slice of bytes is that was read as a part of something. -/
import Derived.Test.YtelnoibfamcnmaaLift
import Derived.Test.YtelnoibfamcnmaaDkNil
import Derived.Deep.Fields
import Derived.Deep.Slices
namespace Go.Proofs.Ytelnoibfamcnmaa.Disk
set_option maxRecDepth 20000
open Go.ChangeShapes Go.WideShapes Go.ChangeAt Go.RowKit Go.Deep
open Go.Proofs.Ytelnoibfamcnmaa.Mem Go.Proofs.Ytelnoibfamcnmaa.Lift

section
variable {H : Type} {enc : TypeId × Value → H} {P : Program} {w : World} {base : Nat} {spare : Nat → Bool} {held : Bool}
/-- A struct whose fields have one cell each, field by field. -/
theorem fields_of {t : TypeId} {fs : Array Field} {fuel : Nat} {cs : List Value} {x : DataW H × List MemPlace} (hs : P.underlying t = some (.struct fs)) (hone : oneCellFields P fs = true) (hC : P.cellsOf t = fs.size)
    (h : DataW.trod enc P w base spare held fuel t cs = some x) : cs.length = fs.size ∧ ∃ n, ∀ (j : Nat) (f : Field) (v : Value), fs[j]? = some f → cs[j]? = some v → ∃ y, DataW.trod enc P w base spare held n f.type [v] = some y := by
  obtain ⟨ys, n, _, _, hl, hyl, hf⟩ := DataW.trod_struct hs h
  refine ⟨hl.trans hC, n, fun j f v hj hv => ?_⟩
  obtain ⟨ho, hk⟩ := hone_of hone j f hj
  have hlt : j < cs.length := (List.getElem?_eq_some_iff.1 hv).1
  have h1 := hf j f hj
  rw [ho, hk, List.drop_eq_getElem_cons hlt] at h1
  have hcv : cs[j] = v := Option.some.inj ((List.getElem?_eq_getElem hlt).symm.trans hv)
  rw [hcv] at h1
  have hjl : j < ys.length := by have := (Array.getElem?_eq_some_iff.1 hj).1; omega
  exact ⟨ys[j], h1.trans (List.getElem?_eq_getElem hjl)⟩
end

/-- A slice of bytes that was read as a part of something. -/
theorem bytes_part {H : Type} {enc : TypeId × Value → H} {W : World} {fuel : Nat} {v : Value} {y : DataW H × List MemPlace} (h : DataW.trod enc Try.prog W 0 (fun _ => true) true fuel 33 [v] = some y) :
    ∃ A n c bs, v = .slice A n c ∧ Holds W W.heap.size A n bs ∧ n ≤ c ∧ c ≤ maxLen := by
  rcases open_ints Try.underlying33 Try.underlying5 (by kernel_rfl) h with ⟨hcs, _⟩ | ⟨x, l, c', zs, hcs, _, hl, hm, hz, _, hcell, hwz⟩
  · simp at hcs
    subst hcs
    exact ⟨none, 0, 0, [], rfl, ⟨rfl, fun h => absurd h (by omega)⟩, Nat.le_refl _, Nat.zero_le _⟩
  · simp at hcs
    subst hcs
    have hzl : zs.length = c' := by simpa using hz
    refine ⟨_, _, _, (zs.take l).map fun z => UInt8.ofNat z.toNat, rfl, ⟨by simp; omega, fun hn => ?_⟩, hl, hm⟩
    obtain ⟨b, off, spot⟩ := x
    have hc0 := hcell 0 (by omega)
    have hspot : spot = none := by simpa [Addr.add] using World.cell?_spot hc0
    subst hspot
    refine ⟨b, off, rfl, by simpa [Addr.add] using block_lt_of_cell hc0, fun j hj => ?_⟩
    have hjz : j < zs.length := by simp at hj; omega
    have hadd : (⟨b, off, none⟩ : Addr).add j = ⟨b, off + j, none⟩ := by unfold Addr.add; split <;> simp_all
    rw [← hadd, hcell j hjz]
    have hw := bounds_u8 (hwz zs[j] (List.getElem_mem hjz))
    have e : zs.getD j 0 = zs[j] := by simp [List.getD, hjz]
    rw [e]
    simp only [List.getElem_map, List.getElem_take]
    congr 2
    simp
    omega

/-- A deed's cells. -/
structure IsDeed (W : World) (B : Nat) (cs : Array Value) (op blk : Int) (fill : UInt8) (short : Bool) (A : Option Addr) (n c : Nat) (bs : List UInt8) : Prop where
  cells : cs = deedV op blk fill short A n c
  op : -9223372036854775808 ≤ op ∧ op ≤ 9223372036854775807
  blk : -9223372036854775808 ≤ blk ∧ blk ≤ 9223372036854775807
  bits : Holds W B A n bs
  fits : n ≤ c ∧ c ≤ maxLen

theorem wf_i64 {x : Int} (h : (Lit.int .i64 x).wf = true) : -9223372036854775808 ≤ x ∧ x ≤ 9223372036854775807 := by
  simp [Lit.wf, show IntKind.i64.min = -9223372036854775808 from rfl, show IntKind.i64.max = 9223372036854775807 from rfl] at h
  omega
end Go.Proofs.Ytelnoibfamcnmaa.Disk
