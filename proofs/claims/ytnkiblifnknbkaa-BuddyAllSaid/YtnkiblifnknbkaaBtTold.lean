/- The map that a Fill and a Put make, as one list; what they hand back reads as its text in every later world. -/
import Derived.Test.YtnkiblifnknbkaaBtRefW
namespace Go.Proofs.Ytnkiblifnknbkaa.Bits
set_option maxRecDepth 20000
open Go Go.RowKit
open Go.Proofs.Ytnkiblifnknbkaa.Mem Go.Proofs.Ytnkiblifnknbkaa.Bt Go.Proofs.Ytnkiblifnknbkaa.Rec

def fillL (bs : List UInt8) (fr to : Int) (v : Bool) : List UInt8 := turnedAll fr.toNat (hiN bs.length to) v bs (List.range (rounds fr.toNat (hiN bs.length to)))
theorem fillL_ok (bs : List UInt8) (fr to : Int) (v : Bool) : Filled bs fr.toNat (hiN bs.length to) v (fillL bs fr to v) := turnedAll_filled _ _ _ _ (hiN_le _ _)
def putL (bs : List UInt8) (i : Int) (v : Bool) : List UInt8 := fillL bs i (IntKind.i64.wrap (i + 1)) v
theorem putL_ok (bs : List UInt8) (i : Int) (v : Bool) (hn : bs.length ≤ 140737488355328) (h1 : -9223372036854775808 ≤ i) (h2 : i ≤ 9223372036854775807) : IsPut bs i v (putL bs i v) := put_of_filled rfl hn h1 h2 (fillL_ok bs i _ v)

def Text (V : World) (u : Value) (ys : List UInt8) : Prop := ∀ W, Below V.heap.size V W → (convert 22 9 u).run Try.prog W = .ok (.string ⟨ys.toArray⟩) W
/-- New memory, and its text. -/
def Told (V : World) (n : Nat) (ys : List UInt8) (e : Ending) (V' : World) : Prop := ∃ A c, e = .returned (.slice A n c) ∧ Below V.heap.size V V' ∧ Owned V' V.heap.size (.slice A n c) ys ∧ Text V' (.slice A n c) ys
theorem Made.told {V V' : World} {n : Nat} {ys : List UInt8} {e : Ending} (h : Made V ys e V') (hn : ys.length = n) : Told V n ys e V' := by
  obtain ⟨A, c, he, ho, hb⟩ := h
  rw [hn] at he ho
  exact ⟨A, c, he, hb, ho, fun W hW => run_text W V'.heap.size A n c ys ((Owned.reads ho).below hW)⟩

variable (A : Option Addr) (n c B : Nat) (bs : List UInt8) (v : Bool) (w : World)
theorem fill_told (fr to : Int) (h : Holds w B A n bs) (hB : B ≤ w.heap.size) (hn : n ≤ 140737488351232) :
    Calls Try.prog 24 #[.slice A n c, .int .i64 fr, .int .i64 to, .bool v] w (Told w n (fillL bs fr to v)) :=
  (fill_any A n c B bs fr to v w h hB hn).mono fun e w' ⟨ys, hf, hm⟩ => by
    have hl := h.1
    subst hl
    rw [Filled.one hf (fillL_ok bs fr to v)] at hm
    exact Made.told hm (fillL_ok bs fr to v).1
theorem rfill_told (fr to : Int) (h : Holds w B A n bs) (hB : B ≤ w.heap.size) (hn : n ≤ 140737488351232) :
    Calls Try.prog 27 #[.slice A n c, .int .i64 fr, .int .i64 to, .bool v] w (Told w n (fillL bs fr to v)) :=
  (rfill_any A n c B bs fr to v w h hB hn).mono fun e w' ⟨ys, hf, hm⟩ => by
    have hl := h.1
    subst hl
    rw [Filled.one hf (fillL_ok bs fr to v)] at hm
    exact Made.told hm (fillL_ok bs fr to v).1
theorem rput_told (i : Int) (h : Holds w B A n bs) (hB : B ≤ w.heap.size) (hn : n ≤ 140737488351232) (h1 : -9223372036854775808 ≤ i) (h2 : i ≤ 9223372036854775807) :
    Calls Try.prog 36 #[.slice A n c, .int .i64 i, .bool v] w (Told w n (putL bs i v)) :=
  (rput_any A n c B bs i v w h hB hn (by omega)).mono fun e w' ⟨ys, hf, hm⟩ => by
    have hl := h.1
    subst hl
    have hp := putL_ok bs i v (by omega) h1 h2
    rw [IsPut.one hf hp] at hm
    exact Made.told hm hp.1
end Go.Proofs.Ytnkiblifnknbkaa.Bits
