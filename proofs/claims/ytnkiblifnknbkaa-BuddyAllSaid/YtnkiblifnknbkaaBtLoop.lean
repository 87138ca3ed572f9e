/- A loop over the bytes of a part that turns one block alone: what is kept between its rounds. -/
import Derived.Test.YtnkiblifnknbkaaReg
import Derived.Test.YtnkiblifnknbkaaBtPart
namespace Go.Proofs.Ytnkiblifnknbkaa.Bits
set_option maxRecDepth 20000
open Go Go.RowKit Go.Shelf
open Go.Proofs.Ytnkiblifnknbkaa.Mem Go.Proofs.Ytnkiblifnknbkaa.Bt Go.Proofs.Ytnkiblifnknbkaa.Reg

/-- Since the loop began, at W0, block T alone was turned, and holds what O says. -/
def Lp {β : Type} (W0 : World) (T : Nat) (O : β → Obj → Prop) (s : β) (W : World) : Prop := W0.grownBy W (some T) ∧ ∃ o, W.heap[T]? = some o ∧ O s o
theorem lp_own {β : Type} (W0 : World) (T : Nat) (hT : T < W0.heap.size) (O : β → Obj → Prop) : OwnFrom W0.heap.size (Lp W0 T O) := by
  intro s A B row hs hg hr
  obtain ⟨h1, o, h2, h3⟩ := hs
  exact ⟨h1.andThen hg (fun j hj => .inl (hr j hj).1), o, (hg.block T (by have := h1.size; omega) (fun e => by have := (hr T e.symm).1; omega)).trans h2, h3⟩
/-- What a round's body owes beside. -/
theorem lp_kept {W V V' : World} {T Bs Bn : Nat} (hg : V.grownBy V' (some T)) (hT : T < W.heap.size) (h1 : Bs < V.heap.size) (h2 : Bn < V.heap.size) (n1 : Bs ≠ T) (n2 : Bn ≠ T) : KeepsFrom W.heap.size V V' ∧ KpBox Bs Bn V V' :=
  ⟨KeepsFrom.of_grownBy hg (fun j hj => by cases hj; exact hT), hg.block _ h1 (fun e => n1 (by cases e; rfl)), hg.block _ h2 (fun e => n2 (by cases e; rfl))⟩
theorem noOut {B : Nat} {α : Type} {Kp : World → World → Prop} {I : List α → World → Prop} {Ix : Code → List α → World → Prop} {xs : List α} {W : World} {K : Act → World → Prop} {i : Nat} : ¬ LetsOut (Exit.then K (Exit.inBlock i (ownPostG B Kp I Ix xs W))) := by
  rintro ⟨a, w, h⟩
  exact h
theorem noOut1 {B : Nat} {α : Type} {Kp : World → World → Prop} {I : List α → World → Prop} {Ix : Code → List α → World → Prop} {xs : List α} {W : World} {i : Nat} : ¬ LetsOut (Exit.inBlock i (ownPostG B Kp I Ix xs W)) := by
  rintro ⟨a, w, h⟩
  exact h
theorem grown_drew {a w : World} {row : Option Nat} (h : a.grownBy w row) : a.grownBy w.drew row := ⟨h.os, h.tape, h.output, h.size, h.block⟩
theorem grown_set {a w : World} {T : Nat} (h : a.grownBy w (some T)) (p : Addr) (hp : p.block = T) (v : Value) : a.grownBy (w.setCell p v) (some T) :=
  ⟨h.os, h.tape, h.output, by have := h.size; simpa [World.setCell] using this, fun i hi hn => (Below.heap_setCell _ _ _ _ (fun e => hn (by rw [e, hp]))).trans (h.block i hi hn)⟩
theorem below_grown {w W0 W : World} {T : Nat} (hb : Below w.heap.size w W0) (hT : w.heap.size ≤ T) (hg : W0.grownBy W (some T)) : Below w.heap.size w W :=
  hb.grown hg hb.size (fun k hk => by cases hk; exact hT)
/-- The bytes of a map stand where they stood. -/
theorem holds_grown {w W : World} {B : Nat} {A : Option Addr} {n : Nat} {bs : List UInt8} (h : Holds w B A n bs) (hB : B ≤ w.heap.size) (hb : Below w.heap.size w W) : Holds W B A n bs :=
  h.below (hb.mono hB)
end Go.Proofs.Ytnkiblifnknbkaa.Bits
