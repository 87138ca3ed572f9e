/- Layer 4's 'opened', where it gives a log of each. -/
import Derived.Test.YtelnoibfamcnmaaGreatLgBeside
namespace Go.Proofs.YtelnoibfamcnmaaGreat.Log
set_option maxRecDepth 20000
open Go.RowKit
open Go.Proofs.YtelnoibfamcnmaaGreat.Mem Go.Proofs.YtelnoibfamcnmaaGreat.Crc Go.Proofs.YtelnoibfamcnmaaGreat.Disk


end Go.Proofs.YtelnoibfamcnmaaGreat.Log

namespace Go.Proofs.YtelnoibfamcnmaaGreat.Log
set_option maxRecDepth 20000
open Go.RowKit
open Go.Proofs.YtelnoibfamcnmaaGreat.Mem Go.Proofs.YtelnoibfamcnmaaGreat.Crc Go.Proofs.YtelnoibfamcnmaaGreat.Disk

def noPair : Array Value := #[.pointer none, .pointer none, .pointer none]

theorem results_pair {fn : Func} {p u : Tmp} {ty : TypeId} (h : fn.results = #[.cell p ty, .tmp u]) (tmps : Array Value) (w : World) (g : Nat) (cs : Array Value) (v : Value)
    (hp : tmps.getD p undef = .pointer (some ⟨g, 0, none⟩)) (hv : tmps.getD u undef = v) (hl : (loadVar ty ⟨g, 0, none⟩).run Tryz.prog w = .ok (.agg cs) w) :
    (results fn tmps).run Tryz.prog w = .ok (.tuple #[.agg cs, v]) w := by
  rw [results_cell_tmp h, hp, hv]
  simp [asAddr, hl, Result.andThen]


end Go.Proofs.YtelnoibfamcnmaaGreat.Log

namespace Go.Proofs.YtelnoibfamcnmaaGreat.Log
set_option maxRecDepth 20000
open Go.RowKit
open Go.Proofs.YtelnoibfamcnmaaGreat.Mem Go.Proofs.YtelnoibfamcnmaaGreat.Crc Go.Proofs.YtelnoibfamcnmaaGreat.Disk

/-- A fresh log of the program's at lp, of the document's at m, each on a disk that was just made. -/
structure Fresh (w : World) (p r lp m n s l B : Nat) (F G : Nat → Prop) : Prop where
  one : DiskAt w p (freshD n s) 1 F
  two : RefDisk w r (freshD n s) 1 G
  apart : ∀ k, F k → ¬ G k
  lowF : ∀ k, F k → B ≤ k ∧ k ≠ lp ∧ k ≠ m
  lowG : ∀ k, G k → B ≤ k ∧ k ≠ lp ∧ k ≠ m
  log : LogAt w lp p (s : Int) ((l : Int) - 1) 1 0 0 (.slice none 0 0)
  doc : RefLog w m r (s : Int) (l : Int) 1 0
  low : B ≤ lp ∧ B ≤ m ∧ lp ≠ m

theorem Fresh.keep {w w' : World} {p r lp m n s l B b : Nat} {F G : Nat → Prop} (h : Fresh w p r lp m n s l B F G) (ht : Turns (fun q => q = b) w w') (hb : b < B) : Fresh w' p r lp m n s l B F G :=
  ⟨h.one.turns ht (fun k e e' => by have := (h.lowF k e).1; omega), h.two.turns ht (fun k e e' => by have := (h.lowG k e).1; omega), h.apart, h.lowF, h.lowG,
    (ht.block lp (Array.getElem?_eq_some_iff.1 h.log).1 (by have := h.low.1; omega)).trans h.log, (ht.block m (Array.getElem?_eq_some_iff.1 h.doc).1 (by have := h.low.2.1; omega)).trans h.doc, h.low⟩

end Go.Proofs.YtelnoibfamcnmaaGreat.Log
