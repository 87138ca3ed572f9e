/- A record, done to both logs. -/
import Derived.Test.YtelnoibfamcnmaaLgDocP
import Derived.Test.YtelnoibfamcnmaaDkTwin
import Derived.Deep.RegionHeld
import Derived.Test.YtelnoibfamcnmaaRfSame
namespace Go.Proofs.Ytelnoibfamcnmaa.Log
set_option maxRecDepth 20000
open Go.RowKit
open Go.Proofs.Ytelnoibfamcnmaa.Mem Go.Proofs.Ytelnoibfamcnmaa.Crc Go.Proofs.Ytelnoibfamcnmaa.Disk Go.Proofs.Ytelnoibfamcnmaa.Reg
open Go.Proofs.Ytelnoibfamcnmaa.Rec (Tx Wt TxAt HoldsW HoldsI IsInt mayB_iff OwnsT Wide)

def Lg.disk (g : Lg) (d : Dk.Dk) : Lg := { g with d := d }

/-- What turns the disk alone. -/
theorem Known.disk {W0 w w' : World} {lp p s r n nb cb cb' : Nat} {F0 X : Nat → Prop} {g : Lg} (d' : Dk.Dk) (h : Known W0 w lp p s r n F0 X g nb cb) (hd : d'.stable.length = g.d.stable.length)
    (hc : ∀ c F, DiskAt w p g.d c F → c ≤ cb → ∃ c' F', c' ≤ cb' ∧ DiskAt w' p d' c' F' ∧ (∀ q, F' q → F q ∨ w.heap.size ≤ q) ∧ Turns F w w') : Known W0 w' lp p s r n F0 X (g.disk d') nb cb' := by
  obtain ⟨v, c, F, m, L, a1, a2, a3, aX, a4, a5, a6, a7, a8, a9, a10⟩ := h
  obtain ⟨c', F', h0, h1, h2, h3⟩ := hc c F a1.disk.at a6
  obtain ⟨m', hm, -⟩ := DiskAt.named h1
  have hlw : lp < w.heap.size := (Array.getElem?_eq_some_iff.1 a1.log).1
  have hFl : ¬ F' lp := fun e => by
    rcases h2 lp e with e | e
    · exact a1.apartL e
    · omega
  have hFv : ∀ q, v.ownBlock = some q → ¬ F' q := fun q e e2 => by
    rcases h2 q e2 with e2 | e2
    · exact (a1.apartV q e).1 e2
    · have := a3.row.lt e; omega
  refine ⟨v, c', F', m', L, ⟨hm, (h3.block lp hlw a1.apartL).trans a1.log, ?_, hFl, fun k hk => ⟨hFv k hk, (a1.apartV k hk).2⟩, by
    have := a1.ring
    show 7 ≤ r ∧ r ≤ 1023 ∧ g.pl < r ∧ s + 1 + r ≤ d'.stable.length ∧ g.used ≤ r
    rw [hd]; exact this⟩, by show d'.stable.length = n; rw [hd]; exact a2, ?_, (fun q e => Nat.lt_of_lt_of_le (aX q e) h3.size), a4, a5, h0, a7, fun q e => ?_, a9, a10.trans h3 (fun i hi e => ?_)⟩
  · obtain ⟨cs, hr, ho⟩ := a1.live
    exact ⟨cs, hr.turns h3 (fun k hk e => (a1.apartV k hk).1 e), ho⟩
  · refine a3.turns (h3.mono (fun q _ e => ⟨.inl e, fun e' => (a1.apartV q e').1 e⟩)) (fun i hi e => ?_)
    rcases e with e | e
    · rcases h2 i e with e | e
      · exact .inl e
      · omega
    · exact .inr e
  · rcases h2 q e with e | e
    · exact a8 q e
    · exact .inr (Nat.le_trans a10.size e)
  · rcases a8 i e with e' | e'
    · exact .inl e'
    · omega
theorem DKnown.disk {W0 w w' : World} {m r s l n nb cb cb' : Nat} {G0 X : Nat → Prop} {g : Lg} (d' : Dk.Dk) (h : DKnown W0 w m r s l n G0 X g nb cb) (hd : d'.stable.length = g.d.stable.length)
    (hc : ∀ c F, RefDisk w r g.d c F → c ≤ cb → ∃ c' F', c' ≤ cb' ∧ RefDisk w' r d' c' F' ∧ (∀ q, F' q → F q ∨ w.heap.size ≤ q) ∧ Turns F w w') : DKnown W0 w' m r s l n G0 X (g.disk d') nb cb' := by
  obtain ⟨A, c0, c, F, L, a1, a2, a3, a4, aX, a5, a6, a7, a8, a9, a10, a11, a12⟩ := h
  obtain ⟨c', F', h0, h1, h2, h3⟩ := hc c F a2 a6
  have hmw : m < w.heap.size := (Array.getElem?_eq_some_iff.1 a1).1
  have hFm : ¬ F' m := fun e => by
    rcases h2 m e with e | e
    · exact a8 e
    · omega
  refine ⟨A, c0, c', F', L, (h3.block m hmw a8).trans a1, h1, by show d'.stable.length = n; rw [hd]; exact a3, ?_, (fun q e => Nat.lt_of_lt_of_le (aX q e) h3.size), a5, h0, a7, hFm, fun q e => ⟨fun e2 => ?_, (a9 q e).2⟩, fun q e => ?_, a11, a12.trans h3 (fun i hi e => ?_)⟩
  · refine a4.turns (h3.mono (fun q _ e => ⟨.inl e, fun e' => (a9 q e').1 e⟩)) (fun i hi e => ?_)
    rcases e with e | e
    · rcases h2 i e with e | e
      · exact .inl e
      · omega
    · exact .inr e
  · rcases h2 q e2 with e2 | e2
    · exact (a9 q e).1 e2
    · have := a4.row.lt e; omega
  · rcases h2 q e with e | e
    · exact a10 q e
    · exact .inr (Nat.le_trans a12.size e)
  · rcases a10 i e with e' | e'
    · exact .inl e'
    · omega
theorem DKnown.turns {W0 wr : World} {m r s l n nb cb : Nat} {G0 X : Nat → Prop} {g : Lg} (h : DKnown W0 wr m r s l n G0 X g nb cb) : Turns (fun q => G0 q ∨ q = m) W0 wr := by
  obtain ⟨A, c0, c, F, L, a1, a2, a3, a4, aX, a5, a6, a7, a8, a9, a10, a11, a12⟩ := h
  exact a12
theorem DKnown.base {W0 wr : World} {m r s l n nb cb : Nat} {G0 X : Nat → Prop} {g : Lg} (h : DKnown W0 wr m r s l n G0 X g nb cb) :
    ∃ F1, DKnown wr wr m r s l n F1 X g nb cb ∧ (∀ q, F1 q → G0 q ∨ W0.heap.size ≤ q) ∧ (∀ q, F1 q → q < wr.heap.size) ∧ m < wr.heap.size := by
  obtain ⟨A, c0, c, F, L, a1, a2, a3, a4, aX, a5, a6, a7, a8, a9, a10, a11, a12⟩ := h
  refine ⟨fun q => F q ∨ (Value.slice A L.length c0).ownBlock = some q, ⟨A, c0, c, F, L, a1, a2, a3, a4, aX, a5, a6, a7, a8, a9, (fun q e => .inl (.inl e)), (fun q e => .inl (.inr e)), Turns.refl _ _⟩, fun q e => ?_, fun q e => ?_, (Array.getElem?_eq_some_iff.1 a1).1⟩
  · rcases e with e | e
    · exact a10 q e
    · exact a11 q e
  · rcases e with e | e
    · exact a2.lt q e
    · exact a4.row.lt e
theorem DKnown.aside {wr w' : World} {m r s l n nb cb : Nat} {G0 X X' : Nat → Prop} {g : Lg} (h : DKnown wr wr m r s l n G0 X g nb cb) (hT : Turns X wr w') (hF : ∀ q, G0 q → ¬ X q) (hm : ¬ X m) (hX' : ∀ q, X' q → (X q ∨ wr.heap.size ≤ q) ∧ q < w'.heap.size) : DKnown w' w' m r s l n G0 X' g nb cb := by
  obtain ⟨A, c0, c, F, L, a1, a2, a3, a4, aX, a5, a6, a7, a8, a9, a10, a11, a12⟩ := h
  have hlt : ∀ q, F q → ¬ X q := fun q e => (a10 q e).elim (hF q) (fun e' => by have := a2.lt q e; omega)
  have hvt : ∀ q, (Value.slice A L.length c0).ownBlock = some q → ¬ X q := fun q e => (a11 q e).elim (hF q) (fun e' => by have := a4.row.lt e; omega)
  refine ⟨A, c0, c, F, L, (hT.block m (Array.getElem?_eq_some_iff.1 a1).1 hm).trans a1, a2.turns hT hlt, a3, a4.turns (hT.mono (fun q _ e => ⟨.inr (.inr (.inr e)), fun e' => hvt q e' e⟩)) (fun i hi e => ?_), (fun q e => (hX' q e).2), a5, a6, a7, a8, a9, (fun q e => (a10 q e).imp id (fun e' => ?_)), (fun q e => (a11 q e).imp id (fun e' => ?_)), Turns.refl _ _⟩
  · rcases e with e | e | e | e
    · exact .inl e
    · exact .inr (.inl e)
    · exact .inr (.inr (.inl e))
    · rcases (hX' i e).1 with e | e
      · exact .inr (.inr (.inr e))
      · omega
  · have := a2.lt q e; omega
  · have := a4.row.lt e; omega

/-- Both logs, in the same state: since the world w3 their own blocks alone have turned; others may turn the blocks Z. -/
structure PairAt (w3 wr : World) (F0 G0 Z : Nat → Prop) (lp p m r s l n : Nat) (g : Lg) (k cb : Nat) : Prop where
  turns : Turns (fun q => F0 q ∨ q = lp ∨ G0 q ∨ q = m) w3 wr
  fit : g.Fit s l n
  logs : ∃ F1 G1, Known wr wr lp p s (l - 1) n F1 (fun q => G1 q ∨ q = m ∨ Z q) g k cb ∧ DKnown wr wr m r s l n G1 (fun q => F1 q ∨ q = lp ∨ Z q) g k cb ∧
    (∀ q, F1 q → ¬ G1 q ∧ q ≠ m ∧ q ≠ lp ∧ ¬ Z q) ∧ (∀ q, G1 q → q ≠ lp ∧ q ≠ m ∧ ¬ Z q) ∧ lp ≠ m ∧ ¬ Z lp ∧ ¬ Z m ∧
    (∀ q, F1 q → (F0 q ∨ w3.heap.size ≤ q) ∧ q < wr.heap.size) ∧ (∀ q, G1 q → (G0 q ∨ w3.heap.size ≤ q) ∧ q < wr.heap.size) ∧ lp < wr.heap.size ∧ m < wr.heap.size

/-- A call of the program's log, then one of the document's. -/
theorem PairAt.both {w3 wr : World} {F0 G0 Z : Nat → Prop} {lp p m r s l n k cb : Nat} {g : Lg} (h : PairAt w3 wr F0 G0 Z lp p m r s l n g k cb) :
    ∃ F1 X1, Known wr wr lp p s (l - 1) n F1 X1 g k cb ∧ (∀ q, F1 q → F0 q ∨ w3.heap.size ≤ q) ∧ ∀ w1 g' k' cb', Known wr w1 lp p s (l - 1) n F1 X1 g' k' cb' →
      ∃ G2 X2, DKnown w1 w1 m r s l n G2 X2 g k cb ∧ (∀ q, G2 q → G0 q ∨ w3.heap.size ≤ q) ∧ ∀ w2, g'.Fit s l n → DKnown w1 w2 m r s l n G2 X2 g' k' cb' → PairAt w3 w2 F0 G0 Z lp p m r s l n g' k' cb' := by
  obtain ⟨F1, G1, hK, hD, hF, hG, hlm, hzl, hzm, hF1, hG1, hlw, hmw⟩ := h.logs
  refine ⟨F1, _, hK, fun q e => (hF1 q e).1, fun w1 g' k' cb' hk => ?_⟩
  have hT1 := hk.turns
  obtain ⟨F2, hK2, hF2, hF2lt, -⟩ := hk.base
  have hD1 : DKnown w1 w1 m r s l n G1 (fun q => F2 q ∨ q = lp ∨ Z q) g k cb := hD.aside (hT1.mono (fun q _ e => e.imp id .inl)) (fun q e e' => by
    rcases e' with e' | e' | e'
    · exact (hF q e').1 e
    · exact (hG q e).1 e'
    · exact (hG q e).2.2 e') (fun e' => by
    rcases e' with e' | e' | e'
    · exact (hF m e').2.1 rfl
    · exact hlm e'.symm
    · exact hzm e') (fun q e => by
    rcases e with e | e | e
    · exact ⟨(hF2 q e).imp .inl id, hF2lt q e⟩
    · exact ⟨.inl (.inr (.inl e)), by have := hT1.size; omega⟩
    · refine ⟨.inl (.inr (.inr e)), ?_⟩
      obtain ⟨v, c, F, mm, L, a1, a2, a3, aX, -⟩ := hK
      exact Nat.lt_of_lt_of_le (aX q (.inr (.inr e))) hT1.size)
  refine ⟨G1, _, hD1, fun q e => (hG1 q e).1, fun w2 hfit hd => ?_⟩
  have hT2 := hd.turns
  obtain ⟨G2, hDK2, hG2, hG2lt, -⟩ := hd.base
  have hsz := hT1.size
  have hsz2 := hT2.size
  have hF2' : ∀ q, F2 q → ¬ G1 q ∧ q ≠ m ∧ q ≠ lp ∧ ¬ Z q := fun q e => by
    rcases hF2 q e with e' | e'
    · exact hF q e'
    · refine ⟨fun e2 => by have := (hG1 q e2).2; omega, by omega, by omega, fun e2 => ?_⟩
      obtain ⟨v, c, F, mm, L, a1, a2, a3, aX, -⟩ := hK
      have := aX q (.inr (.inr e2)); omega
  have hK3 : Known w2 w2 lp p s (l - 1) n F2 (fun q => G2 q ∨ q = m ∨ Z q) g' k' cb' := by
    refine (hK2.aside (X' := fun q => G1 q ∨ q = m ∨ Z q) (Turns.refl _ _) (fun q e e' => ?_) (fun e' => ?_) (fun q e => ⟨.inl e, ?_⟩)).aside (hT2.mono (fun q _ e => e.imp id .inl)) (fun q e e' => ?_) (fun e' => ?_) (fun q e => ?_)
    · rcases e' with e' | e' | e'
      · exact (hF2' q e).1 e'
      · exact (hF2' q e).2.1 e'
      · exact (hF2' q e).2.2.2 e'
    · rcases e' with e' | e' | e'
      · exact (hG lp e').1 rfl
      · exact hlm e'
      · exact hzl e'
    · rcases e with e | e | e
      · have := (hG1 q e).2; omega
      · omega
      · obtain ⟨v, c, F, mm, L, a1, a2, a3, aX, -⟩ := hK
        have := aX q (.inr (.inr e)); omega
    · rcases e' with e' | e' | e'
      · exact (hF2' q e).1 e'
      · exact (hF2' q e).2.1 e'
      · exact (hF2' q e).2.2.2 e'
    · rcases e' with e' | e' | e'
      · exact (hG lp e').1 rfl
      · exact hlm e'
      · exact hzl e'
    · rcases e with e | e | e
      · exact ⟨(hG2 q e).imp .inl id, hG2lt q e⟩
      · exact ⟨.inl (.inr (.inl e)), by omega⟩
      · refine ⟨.inl (.inr (.inr e)), ?_⟩
        obtain ⟨v, c, F, mm, L, a1, a2, a3, aX, -⟩ := hK
        have := aX q (.inr (.inr e)); omega
  refine ⟨(h.turns.trans hT1 (fun i hi e => ?_)).trans hT2 (fun i hi e => ?_), hfit, F2, G2, hK3, hDK2, fun q e => ⟨fun e2 => ?_, (hF2' q e).2⟩, fun q e => ?_, hlm, hzl, hzm, fun q e => ⟨?_, by have := hF2lt q e; omega⟩, fun q e => ⟨?_, hG2lt q e⟩, by omega, by omega⟩
  · rcases e with e | e
    · rcases (hF1 i e).1 with e | e
      · exact .inl e
      · omega
    · exact .inr (.inl e)
  · rcases e with e | e
    · rcases (hG1 i e).1 with e | e
      · exact .inr (.inr (.inl e))
      · omega
    · exact .inr (.inr (.inr e))
  · rcases hG2 q e2 with e2 | e2
    · exact (hF2' q e).1 e2
    · have := hF2lt q e; omega
  · rcases hG2 q e with e | e
    · exact hG q e
    · refine ⟨by omega, by omega, fun e2 => ?_⟩
      obtain ⟨v, c, F, mm, L, a1, a2, a3, aX, -⟩ := hK
      have := aX q (.inr (.inr e2)); omega
  · rcases hF2 q e with e | e
    · exact (hF1 q e).1
    · have := h.turns.size; exact .inr (by omega)
  · rcases hG2 q e with e | e
    · exact (hG1 q e).1
    · have := h.turns.size; exact .inr (by omega)
end Go.Proofs.Ytelnoibfamcnmaa.Log

namespace Go.Proofs.Ytelnoibfamcnmaa.Log
set_option maxRecDepth 20000
open Go.RowKit
open Go.Proofs.Ytelnoibfamcnmaa.Mem Go.Proofs.Ytelnoibfamcnmaa.Crc Go.Proofs.Ytelnoibfamcnmaa.Disk Go.Proofs.Ytelnoibfamcnmaa.Reg
open Go.Proofs.Ytelnoibfamcnmaa.Rec (Tx Wt TxAt HoldsW HoldsI IsInt mayB_iff OwnsT Wide)

theorem and3n (x : Int) : ∃ k : Nat, k < 4 ∧ bits .and .i64 x 3 = (k : Int) := by
  have e : (BitVec.ofInt 64 3).toNat = 3 := by decide
  have hk : (BitVec.ofInt 64 x &&& BitVec.ofInt 64 3).toNat < 2 ^ 2 := by
    rw [BitVec.toNat_and, e]
    exact Nat.and_lt_two_pow _ (by omega)
  refine ⟨_, hk, ?_⟩
  show IntKind.i64.wrap ((BitVec.ofInt 64 x &&& BitVec.ofInt 64 3).toNat : Int) = _
  exact IntWalk.i64_in _ (by omega)

/-- The same, since a later world, in which others have laid blocks of their own. -/
theorem PairAt.shift {w W : World} {F G Z : Nat → Prop} {lp p m r s l n k cb : Nat} {g : Lg} (h : PairAt w w F G Z lp p m r s l n g k cb) (hb : Below w.heap.size w W) (Z' : Nat → Prop) (hZ : ∀ q, Z' q → (Z q ∨ w.heap.size ≤ q) ∧ q < W.heap.size) :
    PairAt W W F G Z' lp p m r s l n g k cb := by
  obtain ⟨F1, G1, hK, hD, hF, hG, hlm, hzl, hzm, hF1, hG1, hlw, hmw⟩ := h.logs
  have hsz := hb.size
  have hZl : ∀ q, q < w.heap.size → Z' q → Z q := fun q hq e => ((hZ q e).1).elim id (fun e => by omega)
  refine ⟨Turns.refl _ _, h.fit, F1, G1, hK.aside (Turns.of_below hb) (fun q e e' => ?_) (fun e' => ?_) (fun q e => ?_), hD.aside (Turns.of_below hb) (fun q e e' => ?_) (fun e' => ?_) (fun q e => ?_), fun q e => ⟨(hF q e).1, (hF q e).2.1, (hF q e).2.2.1, fun e' => (hF q e).2.2.2 (hZl q (hF1 q e).2 e')⟩, fun q e => ⟨(hG q e).1, (hG q e).2.1, fun e' => (hG q e).2.2 (hZl q (hG1 q e).2 e')⟩, hlm, fun e => hzl (hZl lp hlw e), fun e => hzm (hZl m hmw e), fun q e => ⟨.inl ?_, by have := (hF1 q e).2; omega⟩, fun q e => ⟨.inl ?_, by have := (hG1 q e).2; omega⟩, by omega, by omega⟩
  · rcases e' with e' | e' | e'
    · exact (hF q e).1 e'
    · exact (hF q e).2.1 e'
    · exact (hF q e).2.2.2 e'
  · rcases e' with e' | e' | e'
    · exact (hG lp e').1 rfl
    · exact hlm e'
    · exact hzl e'
  · rcases e with e | e | e
    · exact ⟨.inl (.inl e), by have := (hG1 q e).2; omega⟩
    · exact ⟨.inl (.inr (.inl e)), by omega⟩
    · exact ⟨(hZ q e).1.imp (fun e => .inr (.inr e)) id, (hZ q e).2⟩
  · rcases e' with e' | e' | e'
    · exact (hF q e').1 e
    · exact (hG q e).1 e'
    · exact (hG q e).2.2 e'
  · rcases e' with e' | e' | e'
    · exact (hF m e').2.1 rfl
    · exact hlm e'.symm
    · exact hzm e'
  · rcases e with e | e | e
    · exact ⟨.inl (.inl e), by have := (hF1 q e).2; omega⟩
    · exact ⟨.inl (.inr (.inl e)), by omega⟩
    · exact ⟨(hZ q e).1.imp (fun e => .inr (.inr e)) id, (hZ q e).2⟩
  · rcases (hF1 q e).1 with e' | e'
    · exact e'
    · have := (hF1 q e).2; omega
  · rcases (hG1 q e).1 with e' | e'
    · exact e'
    · have := (hG1 q e).2; omega

/-- What both answer when they are asked. -/
theorem PairAt.tail {w3 V : World} {F0 G0 Z : Nat → Prop} {lp p m r s l n k cb : Nat} {g : Lg} (h : PairAt w3 V F0 G0 Z lp p m r s l n g k cb) : ∃ A1 c1, ∀ V', Below V.heap.size V V' →
    (V'.cell? ⟨m, 0, none⟩ = some (.pointer (some ⟨r, 0, none⟩)) ∧ V'.cell? ⟨m, 3, none⟩ = some (.int .u64 (g.seq : Int)) ∧ V'.cell? ⟨m, 4, none⟩ = some (.int .i64 (g.pl : Int)) ∧ V'.cell? ⟨r, 1, none⟩ = some (.slice A1 g.d.pend.length c1)) ∧
    Calls Try.prog 41 #[.pointer (some ⟨lp, 0, none⟩)] V' (fun e w' => e = .returned (.tuple #[.int .u64 (g.seq : Int), .int .i64 (g.pl : Int)]) ∧ Below V'.heap.size V' w') ∧
    Calls Try.prog 42 #[.pointer (some ⟨lp, 0, none⟩)] V' (fun e w' => e = .returned (.int .i64 ((l : Int) - 1 - (g.used : Int))) ∧ Below V'.heap.size V' w') ∧
    Calls Try.prog 82 #[.pointer (some ⟨m, 0, none⟩)] V' (fun e w' => e = .returned (.int .i64 ((l : Int) - 1 - (g.used : Int))) ∧ Below V'.heap.size V' w') ∧
    Calls Try.prog 19 #[.pointer (some ⟨p, 0, none⟩)] V' (fun e w' => e = .returned (.int .i64 (g.d.pend.length : Int)) ∧ V' = w') := by
  obtain ⟨F1, G1, hK, hD, -⟩ := h.logs
  have hf := h.fit
  obtain ⟨g1, g2, g3, g4⟩ := hf.area
  obtain ⟨A, c0, c, F, L, a1, a2, a3, a4, aX, a5, a6, a7, a8, a9, a10, a11, a12⟩ := hD
  obtain ⟨A1, c1, hy1⟩ := a2.count
  obtain ⟨cp, Fp, hDp, -⟩ := hK.at
  have hr : r < V.heap.size := block_lt_of_cell hy1
  have hus : usedOf (L.map (·.t)) = g.used := by rw [a5, hf.used]
  refine ⟨A1, c1, fun V' hV => ⟨⟨(a1.below hV).cells.1, (a1.below hV).cells.2.2.2.1, (a1.below hV).cells.2.2.2.2.1, (hV.cell (p := ⟨r, 1, none⟩) hr).trans hy1⟩, next_kn V V' lp p s (l - 1) n k cb F1 _ g (hK.later hV), ?_, ?_, pending_d g.d p cp Fp V' (hDp.later hV)⟩⟩
  · have := room_kn V V' lp p s (l - 1) n k cb F1 _ g (hK.later hV)
    rwa [show ((l - 1 : Nat) : Int) = (l : Int) - 1 by omega] at this
  · have hl4 := a4.turns (Turns.of_below (F := fun q => _ ∧ _) hV) (fun _ _ e => e)
    have hcnt : L.length * 2 ≤ usedOf (L.map (·.t)) := by
      clear a1 a2 a4 a5 a9 a11 hl4 hus
      induction L with
      | nil => simp [usedOf]
      | cons y r ih => simp only [usedOf, List.map_cons, List.sum_cons, List.length_cons] at ih ⊢; omega
    have hro := hf.room
    have := roomr_any m r l g.seq g.pl L.length c0 n s (l - 1) (s : Int) A V' _ L (a1.below hV) hl4 (by omega) g2 (by omega) (by omega)
    rwa [hus] at this

/-! ### Calls of the disks alone -/
theorem Known.now {W0 w : World} {lp p s r n nb cb : Nat} {F0 X : Nat → Prop} {g : Lg} {fn : Nat} {args : Array Value} {v : Value} (d' : Dk.Dk) (h : Known W0 w lp p s r n F0 X g nb cb) (hd : d'.stable.length = g.d.stable.length)
    (hcall : ∀ c F, DiskAt w p g.d c F → c ≤ cb → (∀ q, F q → F0 q ∨ W0.heap.size ≤ q) → Calls Try.prog fn args w (Now w p d' c F v)) : Calls Try.prog fn args w fun e w' => e = .returned v ∧ Known W0 w' lp p s r n F0 X (g.disk d') nb cb := by
  obtain ⟨v0, c, F, m, L, a1, a2, a3, aX, a4, a5, a6, a7, a8, a9, a10⟩ := h
  refine Calls.mono (hcall c F a1.disk.at a6 a8) (fun e w' hN => ?_)
  obtain ⟨F', he, h1, h2, h3⟩ := hN
  refine ⟨he, ?_⟩
  obtain ⟨m', hm, -⟩ := DiskAt.named h1
  have hlw : lp < w.heap.size := (Array.getElem?_eq_some_iff.1 a1.log).1
  have hFl : ¬ F' lp := fun e => by
    rcases h2 lp e with e | e
    · exact a1.apartL e
    · omega
  have hFv : ∀ q, v0.ownBlock = some q → ¬ F' q := fun q e e2 => by
    rcases h2 q e2 with e2 | e2
    · exact (a1.apartV q e).1 e2
    · have := a3.row.lt e; omega
  refine ⟨v0, c, F', m', L, ⟨hm, (h3.block lp hlw a1.apartL).trans a1.log, ?_, hFl, fun k hk => ⟨hFv k hk, (a1.apartV k hk).2⟩, by
    have := a1.ring
    show 7 ≤ r ∧ r ≤ 1023 ∧ g.pl < r ∧ s + 1 + r ≤ d'.stable.length ∧ g.used ≤ r
    rw [hd]; exact this⟩, by show d'.stable.length = n; rw [hd]; exact a2, ?_, (fun q e => Nat.lt_of_lt_of_le (aX q e) h3.size), a4, a5, a6, a7, fun q e => ?_, a9, a10.trans h3 (fun i hi e => ?_)⟩
  · obtain ⟨cs, hr, ho⟩ := a1.live
    exact ⟨cs, hr.turns h3 (fun k hk e => (a1.apartV k hk).1 e), ho⟩
  · refine a3.turns (h3.mono (fun q _ e => ⟨.inl e, fun e' => (a1.apartV q e').1 e⟩)) (fun i hi e => ?_)
    rcases e with e | e
    · rcases h2 i e with e | e
      · exact .inl e
      · omega
    · exact .inr e
  · rcases h2 q e with e | e
    · exact a8 q e
    · exact .inr (Nat.le_trans a10.size e)
  · rcases a8 i e with e' | e'
    · exact .inl e'
    · omega
theorem DKnown.now {W0 w : World} {m r s l n nb cb : Nat} {G0 X : Nat → Prop} {g : Lg} {fn : Nat} {args : Array Value} {v : Value} (d' : Dk.Dk) (h : DKnown W0 w m r s l n G0 X g nb cb) (hd : d'.stable.length = g.d.stable.length)
    (hcall : ∀ c F, RefDisk w r g.d c F → c ≤ cb → (∀ q, F q → G0 q ∨ W0.heap.size ≤ q) → Calls Try.prog fn args w (RNow w r d' c F v)) : Calls Try.prog fn args w fun e w' => e = .returned v ∧ DKnown W0 w' m r s l n G0 X (g.disk d') nb cb := by
  obtain ⟨A, c0, c, F, L, a1, a2, a3, a4, aX, a5, a6, a7, a8, a9, a10, a11, a12⟩ := h
  refine Calls.mono (hcall c F a2 a6 a10) (fun e w' hN => ?_)
  obtain ⟨F', he, h1, h2, h3⟩ := hN
  refine ⟨he, ?_⟩
  have hmw : m < w.heap.size := (Array.getElem?_eq_some_iff.1 a1).1
  have hFm : ¬ F' m := fun e => by
    rcases h2 m e with e | e
    · exact a8 e
    · omega
  refine ⟨A, c0, c, F', L, (h3.block m hmw a8).trans a1, h1, by show d'.stable.length = n; rw [hd]; exact a3, ?_, (fun q e => Nat.lt_of_lt_of_le (aX q e) h3.size), a5, a6, a7, hFm, fun q e => ⟨fun e2 => ?_, (a9 q e).2⟩, fun q e => ?_, a11, a12.trans h3 (fun i hi e => ?_)⟩
  · refine a4.turns (h3.mono (fun q _ e => ⟨.inl e, fun e' => (a9 q e').1 e⟩)) (fun i hi e => ?_)
    rcases e with e | e
    · rcases h2 i e with e | e
      · exact .inl e
      · omega
    · exact .inr e
  · rcases h2 q e2 with e2 | e2
    · exact (a9 q e).1 e2
    · have := a4.row.lt e; omega
  · rcases h2 q e with e | e
    · exact a10 q e
    · exact .inr (Nat.le_trans a12.size e)
  · rcases a10 i e with e' | e'
    · exact .inl e'
    · omega
theorem sync_kn (W0 w : World) (lp p s r n nb cb : Nat) (F0 X : Nat → Prop) (g : Lg) (h : Known W0 w lp p s r n F0 X g nb cb) (hcb : cb ≤ 1048576) :
    Calls Try.prog 81 #[.pointer (some ⟨lp, 0, none⟩)] w fun e w' => e = .returned (.tuple #[]) ∧ Known W0 w' lp p s r n F0 X (g.disk g.d.flush) nb cb := by
  obtain ⟨v0, c, F, m, L, a1, a2, a3, aX, a4, a5, a6, a7, a8, a9, a10⟩ := h
  refine (sync_any lp p s r g.seq g.pl g.used L.length m c v0 g.d F w a1 (by omega)).mono ?_
  rintro e w' ⟨he, F', m', hL', h2, h3⟩
  refine ⟨he, v0, c, F', m', L, hL', (Dk.size_flush _).trans a2, ?_, (fun q e => Nat.lt_of_lt_of_le (aX q e) h3.size), a4, a5, a6, a7, fun q e => ?_, a9, a10.trans h3 (fun i hi e => ?_)⟩
  · refine a3.turns (h3.mono (fun q _ e => ⟨.inl e, fun e' => (a1.apartV q e').1 e⟩)) (fun i hi e => ?_)
    rcases e with e | e
    · rcases h2 i e with e | e
      · exact .inl e
      · omega
    · exact .inr e
  · rcases h2 q e with e | e
    · exact a8 q e
    · exact .inr (Nat.le_trans a10.size e)
  · rcases a8 i e with e' | e'
    · exact .inl e'
    · omega
end Go.Proofs.Ytelnoibfamcnmaa.Log

namespace Go.Proofs.Ytelnoibfamcnmaa.Log
set_option maxRecDepth 20000
open Go.RowKit
open Go.Proofs.Ytelnoibfamcnmaa.Mem Go.Proofs.Ytelnoibfamcnmaa.Crc Go.Proofs.Ytelnoibfamcnmaa.Disk Go.Proofs.Ytelnoibfamcnmaa.Reg
open Go.Proofs.Ytelnoibfamcnmaa.Rec (Tx Wt TxAt HoldsW HoldsI IsInt mayB_iff OwnsT Wide)

def pairV (p lp m : Nat) : Value := .agg #[.pointer (some ⟨p, 0, none⟩), .pointer (some ⟨lp, 0, none⟩), .pointer (some ⟨m, 0, none⟩)]
def deedV (x : DeedL) : Value := .agg #[.int .i64 x.op, .int .u64 (x.t.seq : Int), .slice x.Aw x.nw x.cw, .slice x.Ar x.nr x.cr, .slice x.Ab x.nb x.cb]
/-- What a deed leaves. -/
def Did (w : World) (F G : Nat → Prop) (lp p m r s l n k cb : Nat) (g : Lg) (e : Ending) (w' : World) : Prop :=
  e = .returned (.bool true) ∧ ∃ g', g'.seq ≤ g.seq + 1 ∧ PairAt w w' F G NoX lp p m r s l n g' (k + 1) (cb + 58 * k + 61)

theorem PairAt.from {w W V : World} {F G Z' : Nat → Prop} {lp p m r s l n k' cb' : Nat} {g' : Lg} (hb : Below w.heap.size w W) (h : PairAt W V F G Z' lp p m r s l n g' k' cb') : PairAt w V F G Z' lp p m r s l n g' k' cb' := by
  obtain ⟨F1, G1, hK, hD, h1, h2, h3, h4, h5, h6, h7, h8, h9⟩ := h.logs
  have := hb.size
  exact ⟨(Turns.of_below hb).trans h.turns (fun i _ e => e), h.fit, F1, G1, hK, hD, h1, h2, h3, h4, h5, fun q e => ⟨(h6 q e).1.imp id (fun e => by omega), (h6 q e).2⟩, fun q e => ⟨(h7 q e).1.imp id (fun e => by omega), (h7 q e).2⟩, h8, h9⟩
theorem PairAt.more {w3 wr : World} {F G Z : Nat → Prop} {lp p m r s l n k cb k' cb' : Nat} {g : Lg} (h : PairAt w3 wr F G Z lp p m r s l n g k cb) (h1 : k ≤ k') (h2 : cb ≤ cb') : PairAt w3 wr F G Z lp p m r s l n g k' cb' := by
  obtain ⟨F1, G1, hK, hD, h3⟩ := h.logs
  exact ⟨h.turns, h.fit, F1, G1, hK.more h1 h2, hD.more h1 h2, h3⟩

theorem DKnown.head {W0 wr : World} {m r s l n nb cb : Nat} {G0 X : Nat → Prop} {g : Lg} (h : DKnown W0 wr m r s l n G0 X g nb cb) : wr.cell? ⟨m, 0, none⟩ = some (.pointer (some ⟨r, 0, none⟩)) := by
  obtain ⟨A, c0, c, F, L, a1, -⟩ := h
  exact a1.cells.1
theorem PairAt.later {w3 wr w' : World} {F G Z : Nat → Prop} {lp p m r s l n k cb : Nat} {g : Lg} (h : PairAt w3 wr F G Z lp p m r s l n g k cb) (hb : Below wr.heap.size wr w') : PairAt w3 w' F G Z lp p m r s l n g k cb := by
  obtain ⟨F1, X1, hK, -, hnext⟩ := h.both
  obtain ⟨G2, X2, hD, -, hfin⟩ := hnext w' g k cb (hK.later hb)
  exact hfin w' h.fit hD

set_option maxRecDepth 100000 in
set_option maxHeartbeats 4000000 in
theorem do_rest (w : World) (F G : Nat → Prop) (lp p m r s l n k cb kk : Nat) (g : Lg) (hP : PairAt w w F G NoX lp p m r s l n g k cb) (x : DeedL) (B : Nat) (hx : x.Is w B) (hB : B ≤ w.heap.size) (hFB : ∀ q, F q → B ≤ q ∧ q < w.heap.size) (hGB : ∀ q, G q → B ≤ q ∧ q < w.heap.size) (hlB : B ≤ lp ∧ lp < w.heap.size) (hmB : B ≤ m ∧ m < w.heap.size)
    (hkk : kk = 1 ∨ kk = 2 ∨ kk = 3) (hop : bits .and .i64 x.op 3 = (kk : Int)) (hcb : cb + 58 * k + 61 < 1048576) :
    Calls Try.prog 38 #[pairV p lp m, deedV x] w (Did w F G lp p m r s l n k cb g) := by
  unfold pairV deedV
  obtain ⟨W, hW⟩ : ∃ W, W = (w.alloc (.cells #[.pointer (some ⟨p, 0, none⟩), .pointer (some ⟨lp, 0, none⟩), .pointer (some ⟨m, 0, none⟩)] 59)).alloc (.cells #[.int .i64 x.op, .int .u64 (x.t.seq : Int), .slice x.Aw x.nw x.cw, .slice x.Ar x.nr x.cr, .slice x.Ab x.nb x.cb] 69) := ⟨_, rfl⟩
  have hb : Below w.heap.size w W := hW ▸ ((Below.refl _ w).alloc (Nat.le_refl _) _).alloc (by simp) _
  have hx0 : W.heap[w.heap.size]? = some (.cells #[.pointer (some ⟨p, 0, none⟩), .pointer (some ⟨lp, 0, none⟩), .pointer (some ⟨m, 0, none⟩)] 59 (0, 0)) := by
    rw [hW]; exact (Below.heap_alloc _ _ _ (by simp)).trans (heap_alloc_new w _)
  have hx1 : W.heap[w.heap.size + 1]? = some (.cells #[.int .i64 x.op, .int .u64 (x.t.seq : Int), .slice x.Aw x.nw x.cw, .slice x.Ar x.nr x.cr, .slice x.Ab x.nb x.cb] 69 (0, 0)) := by
    rw [hW]
    have := heap_alloc_new (w.alloc (.cells #[.pointer (some ⟨p, 0, none⟩), .pointer (some ⟨lp, 0, none⟩), .pointer (some ⟨m, 0, none⟩)] 59)) (.cells #[.int .i64 x.op, .int .u64 (x.t.seq : Int), .slice x.Aw x.nw x.cw, .slice x.Ar x.nr x.cr, .slice x.Ab x.nb x.cb] 69)
    simpa using this
  have hPW : PairAt W W F G NoX lp p m r s l n g k cb := hP.shift hb NoX (fun q e => e.elim)
  -- what no call of the logs turns
  have hbox : ∀ V, Turns (fun q => F q ∨ q = lp ∨ G q ∨ q = m) W V → (V.cell? ⟨w.heap.size, 0, none⟩ = some (.pointer (some ⟨p, 0, none⟩)) ∧ V.cell? ⟨w.heap.size, 1, none⟩ = some (.pointer (some ⟨lp, 0, none⟩)) ∧ V.cell? ⟨w.heap.size, 2, none⟩ = some (.pointer (some ⟨m, 0, none⟩))) ∧ V.cell? ⟨w.heap.size + 1, 0, none⟩ = some (.int .i64 x.op) ∧ V.cell? ⟨w.heap.size + 1, 4, none⟩ = some (.slice x.Ab x.nb x.cb) := fun V hV => by
    have hn : ∀ q, w.heap.size ≤ q → ¬ (F q ∨ q = lp ∨ G q ∨ q = m) := fun q hq e => by
      rcases e with e | e | e | e
      · have := (hFB q e).2; omega
      · omega
      · have := (hGB q e).2; omega
      · omega
    have e0 := (hV.block _ (Array.getElem?_eq_some_iff.1 hx0).1 (hn _ (Nat.le_refl _))).trans hx0
    have e1 := (hV.block _ (Array.getElem?_eq_some_iff.1 hx1).1 (hn _ (by omega))).trans hx1
    exact ⟨⟨cell_of_row V _ 0 _ _ _ e0, cell_of_row V _ 1 _ _ _ e0, cell_of_row V _ 2 _ _ _ e0⟩, cell_of_row V _ 0 _ _ _ e1, cell_of_row V _ 4 _ _ _ e1⟩
  have HBOX := Lib.hid hbox; clear hbox
  have hbits : ∀ V, Below B w V → Holds V B x.Ab x.nb x.bs := fun V hV => hx.bits.below hV
  have HBITS := Lib.hid hbits; clear hbits
  have hnbm : x.nb ≤ maxLen := Nat.le_trans hx.fits.1 hx.fits.2
  have hP' := Lib.hid hP
  have hFin : ∀ V g' k' cb', PairAt W V F G NoX lp p m r s l n g' k' cb' → k' ≤ k + 1 → cb' ≤ cb + 58 * k + 61 → PairAt w V F G NoX lp p m r s l n g' (k + 1) (cb + 58 * k + 61) := fun V g' k' cb' h h1 h2 =>
    (PairAt.from hb h).more h1 h2
  have HFIN := Lib.hid hFin; clear hFin
  have hTB : ∀ V, Turns (fun q => F q ∨ q = lp ∨ G q ∨ q = m) W V → Below B w V := fun V hV => (hb.mono hB).trans (hV.below (fun q e => by
    rcases e with e | e | e | e
    · exact (hFB q e).1
    · omega
    · exact (hGB q e).1
    · omega) (by have := hb.size; omega))
  have HTB := Lib.hid hTB; clear hTB
  have HPW := Lib.hid hPW; clear hPW hP hx0 hx1 hx
  obtain ⟨⟨y0, y1, y2⟩, z0, z4⟩ := HBOX.out W (Turns.refl _ _)
  have hbW := Lib.hid hb; clear hb
  -- the questions at the end
  have htail : ∀ V g' k' cb', PairAt W V F G NoX lp p m r s l n g' k' cb' → g'.seq ≤ g.seq + 1 → k' ≤ k + 1 → cb' ≤ cb + 58 * k + 61 → True := fun _ _ _ _ _ _ _ _ => trivial
  clear htail
  go_enter Try.func38, Try.ntmps38
  rcases hkk with rfl | rfl | rfl
  · obtain ⟨F1, X1, hK, hF1, hnext⟩ := HPW.out.both
    have hho := home_kn W W lp p s (l - 1) n k cb F1 X1 g hK (by omega)
    have HHO := Lib.hid hho; clear hho hK
    have HNEXT := Lib.hid hnext; clear hnext
    rw [hW] at y0 y1 y2 z0 z4
    go_wp2_with fail
    rw [← hW]
    clear y0 y1 y2 z0 z4
    with_reducible refine HHO.out.mono ?_
    rintro e w1 ⟨rfl, hk1⟩
    obtain ⟨G2, X2, hD, hG2, hfin⟩ := HNEXT.out w1 _ _ _ hk1
    have hhr := homer_any w1 w1 m r s l n k cb G2 X2 g hD HPW.out.fit (by omega)
    have HHR := Lib.hid hhr; clear hhr hD
    have HFN := Lib.hid hfin; clear hfin
    have hT1 : Turns (fun q => F q ∨ q = lp ∨ G q ∨ q = m) W w1 := hk1.turns.mono (fun q hq e => by
      rcases e with e | e
      · rcases hF1 q e with e | e
        · exact .inl e
        · omega
      · exact .inr (.inl e))
    obtain ⟨⟨y0, y1, y2⟩, -, -⟩ := HBOX.out w1 hT1
    clear HHO HNEXT hT1 hk1
    go_wp2_with fail
    with_reducible refine HHR.out.mono ?_
    rintro e w2 ⟨rfl, hd2⟩
    have hP2 : PairAt W w2 F G NoX lp p m r s l n (g.home s) k (cb + 58 * k + 1) := HFN.out w2 HPW.out.fit.home hd2
    have HSEQ : Hid ((g.home s).seq ≤ g.seq + 1) := Lib.hid (by rw [(Lg.home_seq s g).1]; omega)
    clear HHR HFN hd2 y0 y1 y2
    generalize g.home s = GG at hP2 HSEQ
    have hT2 := hP2.turns
    obtain ⟨⟨y0, y1, y2⟩, -, -⟩ := HBOX.out w2 hT2
    obtain ⟨A1, c1, htail⟩ := hP2.tail
    have HTAIL := Lib.hid htail; clear htail
    have HNX := Lib.hid (HTAIL.out w2 (Below.refl _ _)).2.1
    have HP2 := Lib.hid hP2; clear hP2
    clear y0 y2
    go_wp2_with fail
    with_reducible refine HNX.out.mono ?_
    rintro e w3 ⟨rfl, hb3⟩
    have hT3 : Turns (fun q => F q ∨ q = lp ∨ G q ∨ q = m) W w3.drew := (HP2.out.turns.trans (Turns.of_below (F := fun q => F q ∨ q = lp ∨ G q ∨ q = m) hb3) (fun _ _ e => e)).drew
    have hb3d : Below w2.heap.size w2 w3.drew := hb3.drew
    obtain ⟨hcl, -, hrm, -, -⟩ := HTAIL.out w3.drew hb3d
    have HRM := Lib.hid hrm; clear hrm
    have hS : (w3.drew.cell? ⟨w.heap.size, 0, none⟩ = some (.pointer (some ⟨p, 0, none⟩)) ∧ w3.drew.cell? ⟨w.heap.size, 1, none⟩ = some (.pointer (some ⟨lp, 0, none⟩)) ∧ w3.drew.cell? ⟨w.heap.size, 2, none⟩ = some (.pointer (some ⟨m, 0, none⟩))) ∧ w3.drew.cell? ⟨m, 0, none⟩ = some (.pointer (some ⟨r, 0, none⟩)) ∧ w3.drew.cell? ⟨m, 3, none⟩ = some (.int .u64 (GG.seq : Int)) ∧ w3.drew.cell? ⟨m, 4, none⟩ = some (.int .i64 (GG.pl : Int)) ∧ w3.drew.cell? ⟨r, 1, none⟩ = some (.slice A1 GG.d.pend.length c1) := ⟨(HBOX.out w3.drew hT3).1, hcl⟩
    have hkeepT : ∀ V, Below w2.heap.size w2 V → (V.cell? ⟨w.heap.size, 0, none⟩ = some (.pointer (some ⟨p, 0, none⟩)) ∧ V.cell? ⟨w.heap.size, 1, none⟩ = some (.pointer (some ⟨lp, 0, none⟩)) ∧ V.cell? ⟨w.heap.size, 2, none⟩ = some (.pointer (some ⟨m, 0, none⟩))) ∧ V.cell? ⟨m, 0, none⟩ = some (.pointer (some ⟨r, 0, none⟩)) ∧ V.cell? ⟨m, 3, none⟩ = some (.int .u64 (GG.seq : Int)) ∧ V.cell? ⟨m, 4, none⟩ = some (.int .i64 (GG.pl : Int)) ∧ V.cell? ⟨r, 1, none⟩ = some (.slice A1 GG.d.pend.length c1) := fun V hV =>
      ⟨(HBOX.out V (HP2.out.turns.trans (Turns.of_below (F := fun q => F q ∨ q = lp ∨ G q ∨ q = m) hV) (fun _ _ e => e))).1, (HTAIL.out V hV).1⟩
    have HKT := Lib.hid hkeepT; clear hkeepT hcl hT3 hT2 hb3 HNX
    go_wp2_with fail
    go_region_held (fun V : World => (V.cell? ⟨w.heap.size, 0, none⟩ = some (.pointer (some ⟨p, 0, none⟩)) ∧ V.cell? ⟨w.heap.size, 1, none⟩ = some (.pointer (some ⟨lp, 0, none⟩)) ∧ V.cell? ⟨w.heap.size, 2, none⟩ = some (.pointer (some ⟨m, 0, none⟩))) ∧ V.cell? ⟨m, 0, none⟩ = some (.pointer (some ⟨r, 0, none⟩)) ∧ V.cell? ⟨m, 3, none⟩ = some (.int .u64 (GG.seq : Int)) ∧ V.cell? ⟨m, 4, none⟩ = some (.int .i64 (GG.pl : Int)) ∧ V.cell? ⟨r, 1, none⟩ = some (.slice A1 GG.d.pend.length c1)) (assumption)
      (first
        | (go_at_call 42
           with_reducible refine HRM.out.mono ?_
           rintro e V5 ⟨rfl, hb5⟩
           clear hS
           have hd5 := hb3d.trans (hb5.mono hb3d.size)
           have hS5 := HKT.out V5 hd5
           have hrr := (HTAIL.out V5 hd5).2.2.2.1
           clear hb5)
        | (go_at_call 82
           with_reducible refine hrr.mono ?_
           rintro e V6 ⟨rfl, hb6⟩
           clear hS5 hrr
           have hd6 := hd5.trans (hb6.mono hd5.size)
           have hS6 := HKT.out V6 hd6
           have hpp := (HTAIL.out V6 hd6).2.2.2.2
           clear hb6)
        | (go_at_call 19
           with_reducible refine hpp.mono ?_
           rintro e V7 ⟨rfl, rfl⟩
           clear hpp
           have HD7 := Lib.hid hd6
           have hS7 := hS6))
    all_goals
      clear HRM HKT HTAIL
      have hfin := HFIN.out _ _ _ _ ((HP2.out).later HD7.out) (by omega) (by omega)
      have HE := Lib.hid hfin; clear hfin
      go_wp2
      go_ret
      exact ⟨rfl, _, HSEQ.out, HE.out⟩
  · obtain ⟨F1, X1, hK, hF1, hnext⟩ := HPW.out.both
    have hho := sync_kn W W lp p s (l - 1) n k cb F1 X1 g hK (by omega)
    have HHO := Lib.hid hho; clear hho hK
    have HNEXT := Lib.hid hnext; clear hnext
    rw [hW] at y0 y1 y2 z0 z4
    go_wp2_with fail
    rw [← hW]
    clear y0 y1 y2 z0 z4
    with_reducible refine HHO.out.mono ?_
    rintro e w1 ⟨rfl, hk1⟩
    obtain ⟨G2, X2, hD, hG2, hfin⟩ := HNEXT.out w1 _ _ _ hk1
    have hhr : Calls Try.prog 58 #[.pointer (some ⟨r, 0, none⟩)] w1 fun e w' => e = .returned (.tuple #[]) ∧ DKnown w1 w' m r s l n G2 X2 (g.disk g.d.flush) k cb :=
      DKnown.now g.d.flush hD (Dk.size_flush _) (fun c F hr hc _ => rflush_d g.d r c F w1 hr (by omega))
    have y9 := hD.head
    have HHR := Lib.hid hhr; clear hhr hD
    have HFN := Lib.hid hfin; clear hfin
    have hT1 : Turns (fun q => F q ∨ q = lp ∨ G q ∨ q = m) W w1 := hk1.turns.mono (fun q hq e => by
      rcases e with e | e
      · rcases hF1 q e with e | e
        · exact .inl e
        · omega
      · exact .inr (.inl e))
    obtain ⟨⟨y0, y1, y2⟩, -, -⟩ := HBOX.out w1 hT1
    clear HHO HNEXT hT1 hk1
    go_wp2_with fail
    with_reducible refine HHR.out.mono ?_
    rintro e w2 ⟨rfl, hd2⟩
    have hP2 : PairAt W w2 F G NoX lp p m r s l n (g.disk g.d.flush) k cb := HFN.out w2 (HPW.out.fit.disk _ (Dk.size_flush _)) hd2
    have HSEQ : Hid ((g.disk g.d.flush).seq ≤ g.seq + 1) := Lib.hid (Nat.le_succ _)
    clear HHR HFN hd2 y0 y1 y2 y9
    generalize g.disk g.d.flush = GG at hP2 HSEQ
    have hT2 := hP2.turns
    obtain ⟨⟨y0, y1, y2⟩, -, -⟩ := HBOX.out w2 hT2
    obtain ⟨A1, c1, htail⟩ := hP2.tail
    have HTAIL := Lib.hid htail; clear htail
    have HNX := Lib.hid (HTAIL.out w2 (Below.refl _ _)).2.1
    have HP2 := Lib.hid hP2; clear hP2
    clear y0 y2
    go_wp2_with fail
    with_reducible refine HNX.out.mono ?_
    rintro e w3 ⟨rfl, hb3⟩
    have hT3 : Turns (fun q => F q ∨ q = lp ∨ G q ∨ q = m) W w3.drew := (HP2.out.turns.trans (Turns.of_below (F := fun q => F q ∨ q = lp ∨ G q ∨ q = m) hb3) (fun _ _ e => e)).drew
    have hb3d : Below w2.heap.size w2 w3.drew := hb3.drew
    obtain ⟨hcl, -, hrm, -, -⟩ := HTAIL.out w3.drew hb3d
    have HRM := Lib.hid hrm; clear hrm
    have hS : (w3.drew.cell? ⟨w.heap.size, 0, none⟩ = some (.pointer (some ⟨p, 0, none⟩)) ∧ w3.drew.cell? ⟨w.heap.size, 1, none⟩ = some (.pointer (some ⟨lp, 0, none⟩)) ∧ w3.drew.cell? ⟨w.heap.size, 2, none⟩ = some (.pointer (some ⟨m, 0, none⟩))) ∧ w3.drew.cell? ⟨m, 0, none⟩ = some (.pointer (some ⟨r, 0, none⟩)) ∧ w3.drew.cell? ⟨m, 3, none⟩ = some (.int .u64 (GG.seq : Int)) ∧ w3.drew.cell? ⟨m, 4, none⟩ = some (.int .i64 (GG.pl : Int)) ∧ w3.drew.cell? ⟨r, 1, none⟩ = some (.slice A1 GG.d.pend.length c1) := ⟨(HBOX.out w3.drew hT3).1, hcl⟩
    have hkeepT : ∀ V, Below w2.heap.size w2 V → (V.cell? ⟨w.heap.size, 0, none⟩ = some (.pointer (some ⟨p, 0, none⟩)) ∧ V.cell? ⟨w.heap.size, 1, none⟩ = some (.pointer (some ⟨lp, 0, none⟩)) ∧ V.cell? ⟨w.heap.size, 2, none⟩ = some (.pointer (some ⟨m, 0, none⟩))) ∧ V.cell? ⟨m, 0, none⟩ = some (.pointer (some ⟨r, 0, none⟩)) ∧ V.cell? ⟨m, 3, none⟩ = some (.int .u64 (GG.seq : Int)) ∧ V.cell? ⟨m, 4, none⟩ = some (.int .i64 (GG.pl : Int)) ∧ V.cell? ⟨r, 1, none⟩ = some (.slice A1 GG.d.pend.length c1) := fun V hV =>
      ⟨(HBOX.out V (HP2.out.turns.trans (Turns.of_below (F := fun q => F q ∨ q = lp ∨ G q ∨ q = m) hV) (fun _ _ e => e))).1, (HTAIL.out V hV).1⟩
    have HKT := Lib.hid hkeepT; clear hkeepT hcl hT3 hT2 hb3 HNX
    go_wp2_with fail
    go_region_held (fun V : World => (V.cell? ⟨w.heap.size, 0, none⟩ = some (.pointer (some ⟨p, 0, none⟩)) ∧ V.cell? ⟨w.heap.size, 1, none⟩ = some (.pointer (some ⟨lp, 0, none⟩)) ∧ V.cell? ⟨w.heap.size, 2, none⟩ = some (.pointer (some ⟨m, 0, none⟩))) ∧ V.cell? ⟨m, 0, none⟩ = some (.pointer (some ⟨r, 0, none⟩)) ∧ V.cell? ⟨m, 3, none⟩ = some (.int .u64 (GG.seq : Int)) ∧ V.cell? ⟨m, 4, none⟩ = some (.int .i64 (GG.pl : Int)) ∧ V.cell? ⟨r, 1, none⟩ = some (.slice A1 GG.d.pend.length c1)) (assumption)
      (first
        | (go_at_call 42
           with_reducible refine HRM.out.mono ?_
           rintro e V5 ⟨rfl, hb5⟩
           clear hS
           have hd5 := hb3d.trans (hb5.mono hb3d.size)
           have hS5 := HKT.out V5 hd5
           have hrr := (HTAIL.out V5 hd5).2.2.2.1
           clear hb5)
        | (go_at_call 82
           with_reducible refine hrr.mono ?_
           rintro e V6 ⟨rfl, hb6⟩
           clear hS5 hrr
           have hd6 := hd5.trans (hb6.mono hd5.size)
           have hS6 := HKT.out V6 hd6
           have hpp := (HTAIL.out V6 hd6).2.2.2.2
           clear hb6)
        | (go_at_call 19
           with_reducible refine hpp.mono ?_
           rintro e V7 ⟨rfl, rfl⟩
           clear hpp
           have HD7 := Lib.hid hd6
           have hS7 := hS6))
    all_goals
      clear HRM HKT HTAIL
      have hfin := HFIN.out _ _ _ _ ((HP2.out).later HD7.out) (by omega) (by omega)
      have HE := Lib.hid hfin; clear hfin
      go_wp2
      go_ret
      exact ⟨rfl, _, HSEQ.out, HE.out⟩
  · obtain ⟨F1, X1, hK, hF1, hnext⟩ := HPW.out.both
    have hho : Calls Try.prog 49 #[.pointer (some ⟨p, 0, none⟩), .slice x.Ab x.nb x.cb] W fun e w' => e = .returned (.tuple #[]) ∧ Known W w' lp p s (l - 1) n F1 X1 (g.disk (g.d.settle x.bs)) k cb :=
      Known.now (g.d.settle x.bs) hK (Dk.size_settle _ _) (fun c Fc hr hc hsub => settle_d x.Ab x.nb x.cb B x.bs g.d p c Fc W hr (by omega) (fun V hV => HBITS.out V (HTB.out V (hV.mono (fun q hq e => by
        rcases hsub q e with e | e
        · rcases hF1 q e with e | e
          · exact .inl e
          · omega
        · omega)))) hnbm)
    have HHO := Lib.hid hho; clear hho hK
    have HNEXT := Lib.hid hnext; clear hnext
    rw [hW] at y0 y1 y2 z0 z4
    go_wp2_with fail
    rw [← hW]
    clear y0 y1 y2 z0 z4
    with_reducible refine HHO.out.mono ?_
    rintro e w1 ⟨rfl, hk1⟩
    obtain ⟨G2, X2, hD, hG2, hfin⟩ := HNEXT.out w1 _ _ _ hk1
    have hT1 : Turns (fun q => F q ∨ q = lp ∨ G q ∨ q = m) W w1 := hk1.turns.mono (fun q hq e => by
      rcases e with e | e
      · rcases hF1 q e with e | e
        · exact .inl e
        · omega
      · exact .inr (.inl e))
    have hDd : DKnown w1 w1.drew m r s l n G2 X2 g k cb := hD.later (Below.refl _ w1).drew
    have hhr : Calls Try.prog 59 #[.pointer (some ⟨r, 0, none⟩), .slice x.Ab x.nb x.cb] w1.drew fun e w' => e = .returned (.tuple #[]) ∧ DKnown w1 w' m r s l n G2 X2 (g.disk (g.d.settle x.bs)) k cb :=
      DKnown.now (g.d.settle x.bs) hDd (Dk.size_settle _ _) (fun c Fc hr hc hsub => rsettle_d x.Ab x.nb x.cb B x.bs g.d r c Fc w1.drew hr (by omega) (fun V hV => HBITS.out V (HTB.out V ((hT1.drew.trans hV (fun q hq e => by
        rcases hsub q e with e | e
        · rcases hG2 q e with e | e
          · exact .inr (.inr (.inl e))
          · omega
        · have := hT1.size; omega))))) hnbm)
    have y9 := hDd.head
    have HHR := Lib.hid hhr; clear hhr hD hDd
    have HFN := Lib.hid hfin; clear hfin
    obtain ⟨⟨-, -, y2⟩, -, z4⟩ := HBOX.out w1.drew hT1.drew
    have hS : w1.drew.cell? ⟨w.heap.size, 2, none⟩ = some (.pointer (some ⟨m, 0, none⟩)) ∧ w1.drew.cell? ⟨w.heap.size + 1, 4, none⟩ = some (.slice x.Ab x.nb x.cb) ∧ w1.drew.cell? ⟨m, 0, none⟩ = some (.pointer (some ⟨r, 0, none⟩)) := ⟨y2, z4, y9⟩
    clear HHO HNEXT hT1 hk1 y2 z4 y9
    go_wp2_with fail
    go_region_held (fun V : World => V.cell? ⟨w.heap.size, 2, none⟩ = some (.pointer (some ⟨m, 0, none⟩)) ∧ V.cell? ⟨w.heap.size + 1, 4, none⟩ = some (.slice x.Ab x.nb x.cb) ∧ V.cell? ⟨m, 0, none⟩ = some (.pointer (some ⟨r, 0, none⟩))) (assumption)
      (first
        | (go_at_call 59
           with_reducible refine HHR.out.mono ?_
           rintro e w2 ⟨rfl, hd2⟩
           have hP2 : PairAt W w2 F G NoX lp p m r s l n (g.disk (g.d.settle x.bs)) k cb := HFN.out w2 (HPW.out.fit.disk _ (Dk.size_settle _ _)) hd2
           have hSw : w2.cell? ⟨w.heap.size, 2, none⟩ = some (.pointer (some ⟨m, 0, none⟩)) ∧ w2.cell? ⟨w.heap.size + 1, 4, none⟩ = some (.slice x.Ab x.nb x.cb) ∧ w2.cell? ⟨m, 0, none⟩ = some (.pointer (some ⟨r, 0, none⟩)) := ⟨(HBOX.out w2 hP2.turns).1.2.2, (HBOX.out w2 hP2.turns).2.2, hd2.head⟩
           have HP2' := Lib.hid hP2
           clear hd2 hP2))
    all_goals
      have hP2 := HP2'.out
      have HSEQ : Hid ((g.disk (g.d.settle x.bs)).seq ≤ g.seq + 1) := Lib.hid (Nat.le_succ _)
      clear HHR HFN hSw hS HP2'
      generalize g.disk (g.d.settle x.bs) = GG at hP2 HSEQ
      have hT2 := hP2.turns
      obtain ⟨⟨y0, y1, y2⟩, -, -⟩ := HBOX.out w2 hT2
      obtain ⟨A1, c1, htail⟩ := hP2.tail
      have HTAIL := Lib.hid htail; clear htail
      have HNX := Lib.hid (HTAIL.out w2 (Below.refl _ _)).2.1
      have HP2 := Lib.hid hP2; clear hP2
      clear y0 y2
      go_wp2_with fail
      with_reducible refine HNX.out.mono ?_
      rintro e w3 ⟨rfl, hb3⟩
      have hT3 : Turns (fun q => F q ∨ q = lp ∨ G q ∨ q = m) W w3.drew := (HP2.out.turns.trans (Turns.of_below (F := fun q => F q ∨ q = lp ∨ G q ∨ q = m) hb3) (fun _ _ e => e)).drew
      have hb3d : Below w2.heap.size w2 w3.drew := hb3.drew
      obtain ⟨hcl, -, hrm, -, -⟩ := HTAIL.out w3.drew hb3d
      have HRM := Lib.hid hrm; clear hrm
      have hS : (w3.drew.cell? ⟨w.heap.size, 0, none⟩ = some (.pointer (some ⟨p, 0, none⟩)) ∧ w3.drew.cell? ⟨w.heap.size, 1, none⟩ = some (.pointer (some ⟨lp, 0, none⟩)) ∧ w3.drew.cell? ⟨w.heap.size, 2, none⟩ = some (.pointer (some ⟨m, 0, none⟩))) ∧ w3.drew.cell? ⟨m, 0, none⟩ = some (.pointer (some ⟨r, 0, none⟩)) ∧ w3.drew.cell? ⟨m, 3, none⟩ = some (.int .u64 (GG.seq : Int)) ∧ w3.drew.cell? ⟨m, 4, none⟩ = some (.int .i64 (GG.pl : Int)) ∧ w3.drew.cell? ⟨r, 1, none⟩ = some (.slice A1 GG.d.pend.length c1) := ⟨(HBOX.out w3.drew hT3).1, hcl⟩
      have hkeepT : ∀ V, Below w2.heap.size w2 V → (V.cell? ⟨w.heap.size, 0, none⟩ = some (.pointer (some ⟨p, 0, none⟩)) ∧ V.cell? ⟨w.heap.size, 1, none⟩ = some (.pointer (some ⟨lp, 0, none⟩)) ∧ V.cell? ⟨w.heap.size, 2, none⟩ = some (.pointer (some ⟨m, 0, none⟩))) ∧ V.cell? ⟨m, 0, none⟩ = some (.pointer (some ⟨r, 0, none⟩)) ∧ V.cell? ⟨m, 3, none⟩ = some (.int .u64 (GG.seq : Int)) ∧ V.cell? ⟨m, 4, none⟩ = some (.int .i64 (GG.pl : Int)) ∧ V.cell? ⟨r, 1, none⟩ = some (.slice A1 GG.d.pend.length c1) := fun V hV =>
        ⟨(HBOX.out V (HP2.out.turns.trans (Turns.of_below (F := fun q => F q ∨ q = lp ∨ G q ∨ q = m) hV) (fun _ _ e => e))).1, (HTAIL.out V hV).1⟩
      have HKT := Lib.hid hkeepT; clear hkeepT hcl hT3 hT2 hb3 HNX
      go_wp2_with fail
      go_region_held (fun V : World => (V.cell? ⟨w.heap.size, 0, none⟩ = some (.pointer (some ⟨p, 0, none⟩)) ∧ V.cell? ⟨w.heap.size, 1, none⟩ = some (.pointer (some ⟨lp, 0, none⟩)) ∧ V.cell? ⟨w.heap.size, 2, none⟩ = some (.pointer (some ⟨m, 0, none⟩))) ∧ V.cell? ⟨m, 0, none⟩ = some (.pointer (some ⟨r, 0, none⟩)) ∧ V.cell? ⟨m, 3, none⟩ = some (.int .u64 (GG.seq : Int)) ∧ V.cell? ⟨m, 4, none⟩ = some (.int .i64 (GG.pl : Int)) ∧ V.cell? ⟨r, 1, none⟩ = some (.slice A1 GG.d.pend.length c1)) (assumption)
        (first
          | (go_at_call 42
             with_reducible refine HRM.out.mono ?_
             rintro e V5 ⟨rfl, hb5⟩
             clear hS
             have hd5 := hb3d.trans (hb5.mono hb3d.size)
             have hS5 := HKT.out V5 hd5
             have hrr := (HTAIL.out V5 hd5).2.2.2.1
             clear hb5)
          | (go_at_call 82
             with_reducible refine hrr.mono ?_
             rintro e V6 ⟨rfl, hb6⟩
             clear hS5 hrr
             have hd6 := hd5.trans (hb6.mono hd5.size)
             have hS6 := HKT.out V6 hd6
             have hpp := (HTAIL.out V6 hd6).2.2.2.2
             clear hb6)
          | (go_at_call 19
             with_reducible refine hpp.mono ?_
             rintro e V7 ⟨rfl, rfl⟩
             clear hpp
             have HD7 := Lib.hid hd6
             have hS7 := hS6))
      all_goals
        clear HRM HKT HTAIL
        have hfin := HFIN.out _ _ _ _ ((HP2.out).later HD7.out) (by omega) (by omega)
        have HE := Lib.hid hfin; clear hfin
        go_wp2
        go_ret
        exact ⟨rfl, _, HSEQ.out, HE.out⟩
end Go.Proofs.Ytelnoibfamcnmaa.Log

namespace Go.Proofs.Ytelnoibfamcnmaa.Log
set_option maxRecDepth 20000
open Go.RowKit
open Go.Proofs.Ytelnoibfamcnmaa.Mem Go.Proofs.Ytelnoibfamcnmaa.Crc Go.Proofs.Ytelnoibfamcnmaa.Disk Go.Proofs.Ytelnoibfamcnmaa.Reg
open Go.Proofs.Ytelnoibfamcnmaa.Rec (Tx Wt TxAt HoldsW HoldsI IsInt mayB_iff OwnsT OwnsW Wide Kept copy_any row_ints)

set_option maxHeartbeats 1000000 in
theorem append_kx (w : World) (lp p s r n nb cb : Nat) (F0 X : Nat → Prop) (g : Lg) (h : Known w w lp p s r n F0 X g nb cb) (t : Tx) (Aw Ar : Option Addr) (nw cw nr cr : Nat) (ht : ∀ W, Turns (fun q => F0 q ∨ q = lp) w W → TxAt W w.heap.size t Aw nw cw Ar nr cr)
    (hsq : g.seq ≤ 1048576) (hcb : cb + 60 < 1048576) (hnb : nb + 1 ≤ 1048576) :
    Calls Try.prog 43 #[.pointer (some ⟨lp, 0, none⟩), .slice Aw nw cw, .slice Ar nr cr] w fun e w' =>
      e = .returned (.tuple #[.int .u64 ((g.app n s r t).1 : Int), .int .i64 ((g.app n s r t).2.1 : Int)]) ∧ Known w w' lp p s r n F0 X (g.app n s r t).2.2 (nb + 1) (cb + 60) := by
  have h' := h
  obtain ⟨v, c, F, m, L, hL, hn, hLive, hXlt, hts, h0, h2, h3, hFF, hv, hT⟩ := h
  subst hn
  have ht' : ∀ W, Turns (fun q => F q ∨ q = lp) w W → TxAt W w.heap.size (g.txn t) Aw nw cw Ar nr cr := fun W hW => by
    have h0 := ht W (hW.mono (fun q hq e => e.imp (fun e => (hFF q e).elim id (fun e' => by omega)) id))
    exact ⟨h0.ws, h0.rs, by show g.seq < 18446744073709551616; omega, h0.fits, h0.intW, h0.intR⟩
  have hnw : t.ws.length = nw := (ht w (Turns.refl _ _)).ws.1
  have happ : ∀ x, g.app g.d.stable.length s r t = x → x = g.app g.d.stable.length s r t := fun _ e => e.symm
  cases hm : Tx.mayB (g.txn t) with
  | false =>
    have e1 : g.app g.d.stable.length s r t = (0, 17, g) := by unfold Lg.app Lg.fair; rw [hm]; rfl
    rw [e1]
    exact (append_mayno lp p s r g.seq g.pl g.used L.length m c v g.d F w hL _ Aw Ar nw cw nr cr ht' rfl hm).mono fun e w' ⟨he, hb⟩ => ⟨he, (h'.later hb).more (Nat.le_succ _) (by omega)⟩
  | true =>
    cases hk : takesB g.d.stable.length s r (g.txn t) with
    | false =>
      have e1 : g.app g.d.stable.length s r t = (0, 17, g) := by unfold Lg.app Lg.fair; rw [hm, hk]; rfl
      rw [e1]
      exact (append_takesno lp p s r g.seq g.pl g.used L.length m c v g.d F w hL _ Aw Ar nw cw nr cr ht' rfl hm hk).mono fun e w' ⟨he, hb⟩ => ⟨he, (h'.later hb).more (Nat.le_succ _) (by omega)⟩
    | true =>
      have hf : g.fair g.d.stable.length s r t = true := by unfold Lg.fair; rw [hm, hk]; rfl
      have hmT := (mayB_iff _).1 hm
      have hhi := hmT.hi
      simp only [Lg.txn] at hhi
      by_cases hroom : g.used + (nw + 2) ≤ r
      · have e1 : g.app g.d.stable.length s r t = (g.seq, 0, g.add s r t) := by unfold Lg.app; rw [hf, if_pos rfl, if_pos (by rw [hnw]; exact hroom)]
        rw [e1]
        refine (append_livx lp p s r g.seq g.pl g.used L.length m c v g.d F w hL _ Aw Ar nw cw nr cr ht' rfl (by omega) hm hk hroom (by omega) (by rw [← hts, List.length_map] at h3; omega) L X hXlt hLive).mono ?_
        rintro e w' ⟨he, v', F', hL', hF', hv', hT', x, hx, hLive'⟩
        obtain ⟨r1, r2, r3, r4, r5⟩ := hL.ring
        have hsz := putL_size s r g.d g.pl (chunksOf (Tx.enc (g.txn t)) (nw + 2)) (by omega) hL.ring.2.2.1
        have hln : (L ++ [x]).length = L.length + 1 := by simp
        rw [← hln] at hL' hLive'
        subst hnw
        refine ⟨he, v', c + (t.ws.length + 2), F', m, L ++ [x], hL', hsz.1, hLive', (fun q e => Nat.lt_of_lt_of_le (hXlt q e) hT'.size), ?_, ?_, by omega, ?_, fun q hq => ?_, fun q hq => ?_, ?_⟩
        · show (L ++ [x]).map (·.t) = g.ts ++ [g.txn t]
          rw [List.map_append, hts, List.map_cons, List.map_nil, hx]
        · intro e; simp [Lg.add] at e
        · show (g.ts ++ [g.txn t]).length ≤ nb + 1
          rw [List.length_append]; simp; exact h3
        · rcases hF' q hq with e | e
          · exact hFF q e
          · exact .inr (Nat.le_trans hT.size e)
        · rcases hv' q hq with e | e
          · exact hv q e
          · exact .inr (Nat.le_trans hT.size e)
        · exact hT.trans hT' (fun i hi e => by
            rcases e with e | e | e
            · rcases hFF i e with e' | e'
              · exact .inl e'
              · omega
            · exact .inr e
            · rcases hv i e with e' | e'
              · exact .inl e'
              · omega)
      · have e1 : g.app g.d.stable.length s r t = (0, 9, g) := by unfold Lg.app; rw [hf, if_pos rfl, if_neg (by rw [hnw]; exact hroom)]
        rw [e1]
        exact (append_full lp p s r g.seq g.pl g.used L.length m c v g.d F w hL _ Aw Ar nw cw nr cr ht' rfl hm hk hroom).mono fun e w' ⟨he, hb⟩ => ⟨he, (h'.later hb).more (Nat.le_succ _) (by omega)⟩


theorem holdsW_kept {w V : World} {base n c : Nat} {A : Option Addr} {ws : List Wt} {vs : List Value} (h : OwnsW w base A n c ws vs) (hk : Kept base w V) : HoldsW V w.heap.size A n ws := by
  refine ⟨h.cnt, fun hn => ?_⟩
  obtain ⟨b, off, e, hl, hc⟩ := h.holds.2 hn
  obtain ⟨b', off', e', -, hc'⟩ := (h.kept hk).holds.2 hn
  rw [e] at e'
  injection e' with e'
  injection e' with e1 e2
  subst e1 e2
  have hbb : base ≤ b := (World.ownsRow.lt h.row b (by rw [e]; rfl)).1
  have hcell : ∀ k, V.cell? ⟨b, k, none⟩ = w.cell? ⟨b, k, none⟩ := fun k => by simp only [World.cell?, hk b hbb hl]
  refine ⟨b, off, e, hl, fun k x hx => ?_⟩
  obtain ⟨q1, A1, c1, q2, hh, f1, f2⟩ := hc k x hx
  obtain ⟨q1', A2, c2, q2', hh', -⟩ := hc' k x hx
  rw [hcell, q2] at q2'
  injection q2' with q2'
  injection q2' with a1 _ a3
  subst a1 a3
  refine ⟨q1', A1, c1, by rw [hcell]; exact q2, ⟨hh.1, fun h0 => ?_⟩, f1, f2⟩
  obtain ⟨d, o, e3, hl3, -⟩ := hh.2 h0
  obtain ⟨d', o', e3', -, hc3'⟩ := hh'.2 h0
  rw [e3] at e3'
  injection e3' with e3'
  injection e3' with e4 e5
  subst e4 e5
  exact ⟨d, o, e3, hl3, hc3'⟩
theorem holdsI_kept {w V : World} {base c : Nat} {A : Option Addr} {rs : List Int} (h : w.ownsRow base 3 1 (.slice A rs.length c) rs.length (rs.map (Value.int .i64))) (hk : Kept base w V) : HoldsI V w.heap.size A rs.length rs := by
  refine ⟨rfl, fun hn => ?_⟩
  obtain ⟨b, off, e, hl, hc⟩ := (row_ints h rfl).2 hn
  have hbb : base ≤ b := (World.ownsRow.lt h b (by rw [e]; rfl)).1
  exact ⟨b, off, e, hl, fun k x hx => by
    rw [← hc k x hx]
    simp only [World.cell?, hk b hbb hl]⟩
theorem txat_kept {w V : World} {base : Nat} {t : Tx} {Aw Ar : Option Addr} {cw cr nw nr : Nat} {vs : List Value} (h : OwnsT w base t Aw cw Ar cr vs) (hk : Kept base w V) (h0 : TxAt w w.heap.size t Aw nw cw Ar nr cr) : TxAt V w.heap.size t Aw nw cw Ar nr cr := by
  have e1 : t.ws.length = nw := h0.ws.1
  have e2 : t.rs.length = nr := h0.rs.1
  subst e1 e2
  exact ⟨holdsW_kept h.ws hk, holdsI_kept h.rs hk, h0.seq, h0.fits, h0.intW, h0.intR⟩
theorem owned_type {w : World} {base q : Nat} {v : Value} {bs : List UInt8} (h : Owned w base v bs) (hq : v.ownBlock = some q) : ∃ cur, w.heap[q]? = some (.cells cur 5 (0, 0)) := by
  rcases h.2 with ⟨e, _⟩ | ⟨g, cap, cur, e, _, hh, _⟩
  · rw [e] at hq; cases hq
  · rw [e] at hq; injection hq with hq; subst hq; exact ⟨cur, hh⟩
theorem owned_same {w w' : World} {base : Nat} {v : Value} {bs : List UInt8} (h : Owned w base v bs) (hs : ∀ q, v.ownBlock = some q → w'.heap[q]? = w.heap[q]?) : Owned w' base v bs := by
  obtain ⟨h1, h2⟩ := h
  refine ⟨h1, ?_⟩
  rcases h2 with h2 | ⟨g, cap, cur, e, hg, hh, r⟩
  · exact .inl h2
  · exact .inr ⟨g, cap, cur, e, hg, (hs g (by rw [e]; rfl)).trans hh, r⟩
/-- The blocks of the copy's data; what storing into them leaves. -/
def DataB (vs : List Value) (q : Nat) : Prop := ∃ (i : Nat) (v : Value), vs[i]? = some v ∧ v.ownBlock = some q
def Mut (w9 : World) (base : Nat) (ws : List Wt) (vs : List Value) (wr : World) : Prop :=
  Turns (DataB vs) w9 wr ∧ ∀ (i : Nat) (y : Wt) (v : Value), ws[i]? = some y → vs[i]? = some v → ∃ ys : List UInt8, ys.length = y.2.length ∧ Owned wr base v ys
theorem Mut.store {w9 wr : World} {base n c i g k : Nat} {A : Option Addr} {ws : List Wt} {vs : List Value} {y : Wt} {v : Value} (h9 : OwnsW w9 base A n c ws vs) (h : Mut w9 base ws vs wr) (hy : ws[i]? = some y) (hv : vs[i]? = some v) (hg : v.ownBlock = some g)
    (hst : ∀ ys : List UInt8, ys.length = y.2.length → Owned wr base v ys → ∃ zs : List UInt8, zs.length = y.2.length ∧ Owned (wr.setCell ⟨g, k, none⟩ (.int .u8 99)) base v zs) : Mut w9 base ws vs (wr.setCell ⟨g, k, none⟩ (.int .u8 99)) := by
  refine ⟨h.1.setCell (p := ⟨g, k, none⟩) (fun _ => ⟨i, v, hv, hg⟩) _, fun j y2 v2 hy2 hv2 => ?_⟩
  obtain ⟨ys, hl, ho⟩ := h.2 j y2 v2 hy2 hv2
  by_cases hij : i = j
  · subst hij
    rw [hy] at hy2; injection hy2 with hy2
    rw [hv] at hv2; injection hv2 with hv2
    subst hy2 hv2
    exact hst ys hl ho
  · exact ⟨ys, hl, owned_same ho (fun q hq => Below.heap_setCell _ _ _ _ (fun e => by subst e; exact h9.apart i j v v2 _ hv hv2 hij hg hq))⟩
theorem PairAt.zturn {w w6 wr w' : World} {F G Z : Nat → Prop} {lp p m r s l n k cb : Nat} {g : Lg} (hb : Below w.heap.size w w6) (h : PairAt w6 wr F G Z lp p m r s l n g k cb) (hZ : ∀ q, Z q → w.heap.size ≤ q) (hT : Turns Z wr w') : PairAt w w' F G NoX lp p m r s l n g k cb := by
  obtain ⟨F1, G1, hK, hD, hF, hG, hlm, hzl, hzm, hF1, hG1, hlw, hmw⟩ := h.logs
  have hsz := hb.size
  have hsz2 := hT.size
  refine ⟨((Turns.of_below hb).trans h.turns (fun i _ e => e)).trans hT (fun i hi e => by have := hZ i e; omega), h.fit, F1, G1, hK.aside (hT.mono (fun q _ e => .inr (.inr e))) (fun q e e' => ?_) (fun e' => ?_) (fun q e => ?_), hD.aside (hT.mono (fun q _ e => .inr (.inr e))) (fun q e e' => ?_) (fun e' => ?_) (fun q e => ?_), fun q e => ⟨(hF q e).1, (hF q e).2.1, (hF q e).2.2.1, fun e' => e'⟩, fun q e => ⟨(hG q e).1, (hG q e).2.1, fun e' => e'⟩, hlm, fun e => e, fun e => e, fun q e => ⟨(hF1 q e).1.imp id (fun e => by omega), by have := (hF1 q e).2; omega⟩, fun q e => ⟨(hG1 q e).1.imp id (fun e => by omega), by have := (hG1 q e).2; omega⟩, by omega, by omega⟩
  · rcases e' with e' | e' | e'
    · exact (hF q e).1 e'
    · exact (hF q e).2.1 e'
    · exact (hF q e).2.2.2 e'
  · rcases e' with e' | e' | e'
    · exact (hG lp e').1 rfl
    · exact hlm e'
    · exact hzl e'
  · rcases e with e | e | e
    · exact ⟨.inl (.inl e), by have := (hG1 q e).2; omega⟩
    · exact ⟨.inl (.inr (.inl e)), by omega⟩
    · exact e.elim
  · rcases e' with e' | e' | e'
    · exact (hF q e').1 e
    · exact (hG q e).1 e'
    · exact (hG q e).2.2 e'
  · rcases e' with e' | e' | e'
    · exact (hF m e').2.1 rfl
    · exact hlm e'.symm
    · exact hzm e'
  · rcases e with e | e | e
    · exact ⟨.inl (.inl e), by have := (hF1 q e).2; omega⟩
    · exact ⟨.inl (.inr (.inl e)), by omega⟩
    · exact e.elim

set_option maxRecDepth 100000 in
set_option maxHeartbeats 4000000 in
theorem do_append (w : World) (F G : Nat → Prop) (lp p m r s l n k cb : Nat) (g : Lg) (hP : PairAt w w F G NoX lp p m r s l n g k cb) (x : DeedL) (B : Nat) (hx : x.Is w B) (hB : B ≤ w.heap.size) (hFB : ∀ q, F q → B ≤ q ∧ q < w.heap.size) (hGB : ∀ q, G q → B ≤ q ∧ q < w.heap.size) (hlB : B ≤ lp ∧ lp < w.heap.size) (hmB : B ≤ m ∧ m < w.heap.size)
    (hWd : Wide x.t) (hsq : g.seq ≤ 1048576) (hkb : k + 1 ≤ 1048576) (hop : bits .and .i64 x.op 3 = ((0 : Nat) : Int)) (hcb : cb + 58 * k + 61 < 1048576) :
    Calls Try.prog 38 #[pairV p lp m, deedV x] w (Did w F G lp p m r s l n k cb g) := by
  unfold pairV deedV
  obtain ⟨W, hW⟩ : ∃ W, W = (w.alloc (.cells #[.pointer (some ⟨p, 0, none⟩), .pointer (some ⟨lp, 0, none⟩), .pointer (some ⟨m, 0, none⟩)] 59)).alloc (.cells #[.int .i64 x.op, .int .u64 (x.t.seq : Int), .slice x.Aw x.nw x.cw, .slice x.Ar x.nr x.cr, .slice x.Ab x.nb x.cb] 69) := ⟨_, rfl⟩
  have hb : Below w.heap.size w W := hW ▸ ((Below.refl _ w).alloc (Nat.le_refl _) _).alloc (by simp) _
  have hx0 : W.heap[w.heap.size]? = some (.cells #[.pointer (some ⟨p, 0, none⟩), .pointer (some ⟨lp, 0, none⟩), .pointer (some ⟨m, 0, none⟩)] 59 (0, 0)) := by
    rw [hW]; exact (Below.heap_alloc _ _ _ (by simp)).trans (heap_alloc_new w _)
  have hx1 : W.heap[w.heap.size + 1]? = some (.cells #[.int .i64 x.op, .int .u64 (x.t.seq : Int), .slice x.Aw x.nw x.cw, .slice x.Ar x.nr x.cr, .slice x.Ab x.nb x.cb] 69 (0, 0)) := by
    rw [hW]
    have := heap_alloc_new (w.alloc (.cells #[.pointer (some ⟨p, 0, none⟩), .pointer (some ⟨lp, 0, none⟩), .pointer (some ⟨m, 0, none⟩)] 59)) (.cells #[.int .i64 x.op, .int .u64 (x.t.seq : Int), .slice x.Aw x.nw x.cw, .slice x.Ar x.nr x.cr, .slice x.Ab x.nb x.cb] 69)
    simpa using this
  have hPW : PairAt W W F G NoX lp p m r s l n g k cb := hP.shift hb NoX (fun q e => e.elim)
  -- what no call of the logs turns
  have hbox : ∀ V, Turns (fun q => F q ∨ q = lp ∨ G q ∨ q = m) W V → (V.cell? ⟨w.heap.size, 0, none⟩ = some (.pointer (some ⟨p, 0, none⟩)) ∧ V.cell? ⟨w.heap.size, 1, none⟩ = some (.pointer (some ⟨lp, 0, none⟩)) ∧ V.cell? ⟨w.heap.size, 2, none⟩ = some (.pointer (some ⟨m, 0, none⟩))) ∧ V.cell? ⟨w.heap.size + 1, 0, none⟩ = some (.int .i64 x.op) ∧ V.cell? ⟨w.heap.size + 1, 1, none⟩ = some (.int .u64 (x.t.seq : Int)) ∧ V.cell? ⟨w.heap.size + 1, 2, none⟩ = some (.slice x.Aw x.nw x.cw) ∧ V.cell? ⟨w.heap.size + 1, 3, none⟩ = some (.slice x.Ar x.nr x.cr) := fun V hV => by
    have hn : ∀ q, w.heap.size ≤ q → ¬ (F q ∨ q = lp ∨ G q ∨ q = m) := fun q hq e => by
      rcases e with e | e | e | e
      · have := (hFB q e).2; omega
      · omega
      · have := (hGB q e).2; omega
      · omega
    have e0 := (hV.block _ (Array.getElem?_eq_some_iff.1 hx0).1 (hn _ (Nat.le_refl _))).trans hx0
    have e1 := (hV.block _ (Array.getElem?_eq_some_iff.1 hx1).1 (hn _ (by omega))).trans hx1
    exact ⟨⟨cell_of_row V _ 0 _ _ _ e0, cell_of_row V _ 1 _ _ _ e0, cell_of_row V _ 2 _ _ _ e0⟩, cell_of_row V _ 0 _ _ _ e1, cell_of_row V _ 1 _ _ _ e1, cell_of_row V _ 2 _ _ _ e1, cell_of_row V _ 3 _ _ _ e1⟩
  have HBOX := Lib.hid hbox; clear hbox
  have HTXN := Lib.hid hx.txn
  have hFin : ∀ V g' k' cb', PairAt W V F G NoX lp p m r s l n g' k' cb' → k' ≤ k + 1 → cb' ≤ cb + 58 * k + 61 → PairAt w V F G NoX lp p m r s l n g' (k + 1) (cb + 58 * k + 61) := fun V g' k' cb' h h1 h2 =>
    (PairAt.from hb h).more h1 h2
  have HFIN := Lib.hid hFin; clear hFin
  have hTB : ∀ V, Turns (fun q => F q ∨ q = lp ∨ G q ∨ q = m) W V → Below B w V := fun V hV => (hb.mono hB).trans (hV.below (fun q e => by
    rcases e with e | e | e | e
    · exact (hFB q e).1
    · omega
    · exact (hGB q e).1
    · omega) (by have := hb.size; omega))
  have HTB := Lib.hid hTB; clear hTB
  have HPW := Lib.hid hPW; clear hPW hP hx0 hx1 hx
  obtain ⟨⟨y0, y1, y2⟩, z0, z1, z2, z3⟩ := HBOX.out W (Turns.refl _ _)
  have hbW := Lib.hid hb; clear hb
  -- the questions at the end
  have htail : ∀ V g' k' cb', PairAt W V F G NoX lp p m r s l n g' k' cb' → g'.seq ≤ g.seq + 1 → k' ≤ k + 1 → cb' ≤ cb + 58 * k + 61 → True := fun _ _ _ _ _ _ _ _ => trivial
  clear htail
  go_enter Try.func38, Try.ntmps38
  have hFb : ∀ q, F q → q < w.heap.size := fun q e => (hFB q e).2
  have hGb : ∀ q, G q → q < w.heap.size := fun q e => (hGB q e).2
  have HSETS := Lib.hid (⟨hFb, hGb, hlB.2, hmB.2⟩ : (∀ q, F q → q < w.heap.size) ∧ (∀ q, G q → q < w.heap.size) ∧ lp < w.heap.size ∧ m < w.heap.size)
  have hcp := copy_any x.t x.Aw x.Ar x.nw x.cw x.nr x.cr B W (HTXN.out.below (hbW.out.mono hB)) hWd (Nat.le_trans hB hbW.out.size)
  have HCP := Lib.hid hcp; clear hcp hFb hGb
  rw [hW] at y0 y1 y2 z0 z1 z2 z3
  go_wp2_with fail
  rw [← hW]
  clear y0 y1 y2 z0 z1 z2 z3
  have HW := Lib.hid hW; clear hW
  with_reducible refine HCP.out.mono ?_
  rintro e w5 ⟨Bw, dw, Br, dr, vs, rfl, ho5, hb5⟩
  clear HCP
  obtain ⟨w6, hw6⟩ : ∃ w6, w6 = w5.alloc (.cells #[.int .u64 (x.t.seq : Int), .slice Bw x.nw dw, .slice Br x.nr dr] 67) := ⟨_, rfl⟩
  have hb56 : Below w5.heap.size w5 w6 := hw6 ▸ (Below.refl _ w5).alloc (Nat.le_refl _) _
  have hx6 : w6.heap[w5.heap.size]? = some (.cells #[.int .u64 (x.t.seq : Int), .slice Bw x.nw dw, .slice Br x.nr dr] 67 (0, 0)) := hw6 ▸ heap_alloc_new w5 _
  have hb6 : Below W.heap.size W w6 := hb5.trans (hb56.mono hb5.size)
  obtain ⟨Z, hZ⟩ : ∃ Z : Nat → Prop, Z = fun q => W.heap.size ≤ q ∧ q < w6.heap.size := ⟨_, rfl⟩
  have hP6 : PairAt w6 w6 F G Z lp p m r s l n g k cb := HPW.out.shift hb6 Z (fun q e => by rw [hZ] at e; exact ⟨.inr e.1, e.2⟩)
  have ho6 : OwnsT w6 W.heap.size x.t Bw dw Br dr vs := ho5.kept (fun q h1 h2 => hb56.block q h2)
  have hnw : x.t.ws.length = x.nw := HTXN.out.ws.1
  have hnr : x.t.rs.length = x.nr := HTXN.out.rs.1
  have htx6 : TxAt w6 w6.heap.size x.t Bw x.nw dw Br x.nr dr := by
    have := owns_txat ho6 HTXN.out.seq (by rw [hnw]; exact HTXN.out.fits.2.1) (by rw [hnr]; exact HTXN.out.fits.2.2.2) HTXN.out.intW HTXN.out.intR
    rwa [hnw, hnr] at this
  have hpb : W.heap.size ≤ w5.heap.size ∧ w5.heap.size < w6.heap.size := ⟨hb5.size, (Array.getElem?_eq_some_iff.1 hx6).1⟩
  -- what the calls of the logs leave of the copy
  have hkept : ∀ V, Turns (fun q => F q ∨ q = lp ∨ G q ∨ q = m) w6 V → Kept W.heap.size w6 V := fun V hV q h1 h2 => hV.block q h2 (fun e => by
    have hw := hbW.out.size
    rcases e with e | e | e | e
    · have := HSETS.out.1 q e; omega
    · have := HSETS.out.2.2.1; omega
    · have := HSETS.out.2.1 q e; omega
    · have := HSETS.out.2.2.2; omega)
  have hcopy : ∀ V, Turns (fun q => F q ∨ q = lp ∨ G q ∨ q = m) w6 V → TxAt V w6.heap.size x.t Bw x.nw dw Br x.nr dr ∧ (V.cell? ⟨w5.heap.size, 0, none⟩ = some (.int .u64 (x.t.seq : Int)) ∧ V.cell? ⟨w5.heap.size, 1, none⟩ = some (.slice Bw x.nw dw) ∧ V.cell? ⟨w5.heap.size, 2, none⟩ = some (.slice Br x.nr dr)) := fun V hV => by
    have hx := (hkept V hV w5.heap.size hpb.1 hpb.2).trans hx6
    exact ⟨txat_kept ho6 (hkept V hV) htx6, cell_of_row V _ 0 _ _ _ hx, cell_of_row V _ 1 _ _ _ hx, cell_of_row V _ 2 _ _ _ hx⟩
  have hWV : ∀ V, Turns (fun q => F q ∨ q = lp ∨ G q ∨ q = m) w6 V → Turns (fun q => F q ∨ q = lp ∨ G q ∨ q = m) W V := fun V hV => (Turns.of_below hb6).trans hV (fun _ _ e => e)
  have HWV := Lib.hid hWV; clear hWV
  have HCOPY := Lib.hid hcopy; clear hcopy
  have HKEPT := Lib.hid hkept; clear hkept
  obtain ⟨F1, X1, hK, hF1, hnext⟩ := hP6.both
  have hsub1 : ∀ V, Turns (fun q => F1 q ∨ q = lp) w6 V → Turns (fun q => F q ∨ q = lp ∨ G q ∨ q = m) w6 V := fun V hV => hV.mono (fun q hq e => by
    rcases e with e | e
    · rcases hF1 q e with e | e
      · exact .inl e
      · omega
    · exact .inr (.inl e))
  have hap := append_kx w6 lp p s (l - 1) n k cb F1 X1 g hK x.t Bw Br x.nw dw x.nr dr (fun V hV => (HCOPY.out V (hsub1 V hV)).1) hsq (by omega) hkb
  have HAP := Lib.hid hap; clear hap hK
  have HNEXT := Lib.hid hnext; clear hnext
  have HSUB1 := Lib.hid hsub1; clear hsub1
  have HP6 := Lib.hid hP6; clear hP6
  obtain ⟨q0, q1, q2⟩ := (HCOPY.out w6 (Turns.refl _ _)).2
  obtain ⟨⟨y0, y1, y2⟩, -⟩ := HBOX.out w6 (HWV.out w6 (Turns.refl _ _))
  have HX6 := Lib.hid hx6; clear hx6
  have HO6 := Lib.hid ho6; clear ho6 ho5
  have HZ := Lib.hid hZ; clear hZ
  have HB6 := Lib.hid hb6; clear hb6 hb5 hb56
  have HTX6 := Lib.hid htx6; clear htx6
  rw [hw6] at q0 q1 q2 y0 y1 y2
  go_wp2_with fail
  rw [← hw6]
  clear q0 q1 q2 y0 y1 y2
  have HW6 := Lib.hid hw6; clear hw6
  with_reducible refine HAP.out.mono ?_
  rintro e w7 ⟨rfl, hk7⟩
  have hT7 := HSUB1.out w7 hk7.turns
  obtain ⟨G2, X2, hD, hG2, hfin⟩ := HNEXT.out w7 _ _ _ hk7
  have hB7 := HTB.out w7 (HWV.out w7 hT7)
  have har := appendr_any w7 w7 m r s l n k cb G2 X2 g hD HPW.out.fit x.t x.Aw x.Ar x.nw x.cw x.nr x.cr B (HTXN.out.below hB7) hWd (Nat.le_trans hB hB7.size) hsq (by omega) hkb
  have HAR := Lib.hid har; clear har hD
  have HFN := Lib.hid hfin; clear hfin
  obtain ⟨⟨y0, y1, y2⟩, z0, z1, z2, z3⟩ := HBOX.out w7 (HWV.out w7 hT7)
  clear HAP HNEXT HSUB1 hk7 hT7 hB7
  obtain ⟨AP, hAP⟩ : ∃ AP, AP = g.app n s (l - 1) x.t := ⟨_, rfl⟩
  have hsq2 := Lg.app_seq n s (l - 1) g x.t
  have hfit2 := HPW.out.fit.app x.t
  rw [← hAP] at HAR HFN hsq2 hfit2
  rw [← hAP]
  clear hAP
  obtain ⟨a0, b0, GG⟩ := AP
  simp only at HAR HFN hsq2 hfit2 ⊢
  go_wp2_with fail
  with_reducible refine HAR.out.mono ?_
  rintro e w8 ⟨rfl, hd8⟩
  have hP8 : PairAt w6 w8 F G Z lp p m r s l n GG (k + 1) (cb + 60) := HFN.out w8 hfit2 hd8
  clear HAR HFN hd8 y0 y1 y2 z0 z1 z2 z3
  have hT8 := hP8.turns
  have hB8 := HTB.out w8 (HWV.out w8 hT8)
  have hsm := Go.Proofs.Ytelnoibfamcnmaa.Rec.same_any x.t x.t Bw Br x.nw dw x.nr dr w6.heap.size x.Aw x.Ar x.nw x.cw x.nr x.cr B w8 (HCOPY.out w8 hT8).1 hT8.size (HTXN.out.below hB8) (Nat.le_trans hB hB8.size) (by have := HTXN.out.fits; omega) (by have := HTXN.out.fits; omega)
  rw [(Go.Proofs.Ytelnoibfamcnmaa.Rec.sameB_iff x.t x.t).2 rfl] at hsm
  have HSM := Lib.hid hsm; clear hsm
  obtain ⟨q0, q1, q2⟩ := (HCOPY.out w8 hT8).2
  obtain ⟨-, z0, z1, z2, z3⟩ := HBOX.out w8 (HWV.out w8 hT8)
  have HP8 := Lib.hid hP8; clear hP8
  go_wp2_with fail
  with_reducible refine HSM.out.mono ?_
  rintro e w9 ⟨rfl, hb9⟩
  clear HSM q0 q1 q2 z0 z1 z2 z3
  have hT9 : Turns (fun q => F q ∨ q = lp ∨ G q ∨ q = m) w6 w9 := HP8.out.turns.trans (Turns.of_below (F := fun q => F q ∨ q = lp ∨ G q ∨ q = m) hb9) (fun _ _ e => e)
  have ho9 : OwnsT w9 W.heap.size x.t Bw dw Br dr vs := HO6.out.kept (HKEPT.out w9 hT9)
  have hP9 := HP8.out.later hb9
  have hlenv : vs.length = x.t.ws.length := ho9.ws.len
  have hdz : ∀ q, DataB vs q → W.heap.size ≤ q ∧ q < w6.heap.size := fun q e => by
    obtain ⟨i, v, hv, hq⟩ := e
    obtain ⟨y, hy⟩ : ∃ y, x.t.ws[i]? = some y := ⟨_, List.getElem?_eq_getElem (by have := (List.getElem?_eq_some_iff.1 hv).1; omega)⟩
    have ho := HO6.out.ws.data i y v hy hv
    exact ⟨Owned.base_le ho q hq, (World.ownsRow.lt ho q hq).2⟩
  have hnot : ∀ q cur ty, w9.heap[q]? = some (.cells cur ty (0, 0)) → ty ≠ 5 → ¬ DataB vs q := fun q cur ty hq hty e => by
    obtain ⟨i, v, hv, hqv⟩ := e
    obtain ⟨y, hy⟩ : ∃ y, x.t.ws[i]? = some y := ⟨_, List.getElem?_eq_getElem (by have := (List.getElem?_eq_some_iff.1 hv).1; omega)⟩
    obtain ⟨cur2, h2⟩ := owned_type (ho9.ws.data i y v hy hv) hqv
    rw [hq] at h2
    injection h2 with h2
    injection h2 with _ h3 _
    exact hty h3
  have hx9 : w9.heap[w5.heap.size]? = some (.cells #[.int .u64 (x.t.seq : Int), .slice Bw x.nw dw, .slice Br x.nr dr] 67 (0, 0)) := (HKEPT.out w9 hT9 _ hpb.1 hpb.2).trans HX6.out
  have hbox5 : ∀ V, Turns (DataB vs) w9 V → V.cell? ⟨w5.heap.size, 1, none⟩ = some (.slice Bw x.nw dw) := fun V hV =>
    cell_of_row V _ 1 _ _ _ ((hV.block _ (Array.getElem?_eq_some_iff.1 hx9).1 (hnot _ _ _ hx9 (by decide))).trans hx9)
  have hrowc : ∀ V, Turns (DataB vs) w9 V → ∀ (i : Nat) (y : Wt) (v : Value), x.t.ws[i]? = some y → vs[i]? = some v → ∃ gw, Bw = some ⟨gw, 0, none⟩ ∧ V.cell? ⟨gw, i * 2 + 1, none⟩ = some v := fun V hV i y v hy hv => by
    have hi := (List.getElem?_eq_some_iff.1 hy).1
    rcases ho9.ws.row.2 with ⟨_, h0⟩ | ⟨gw, cap, cur, e, hg, hh, hc, hm, hs, ht⟩
    · omega
    · injection e with e1 _ _
      refine ⟨gw, e1, ?_⟩
      obtain ⟨-, q2⟩ := Go.Proofs.Ytelnoibfamcnmaa.Rec.wcells_get x.t.ws vs i y v hy hv
      have hhV := (hV.block gw (Array.getElem?_eq_some_iff.1 hh).1 (hnot _ _ _ hh (by decide))).trans hh
      rw [cell_of_row _ _ _ _ _ _ hhV]
      have hj := (List.getElem?_eq_some_iff.1 q2).1
      have hlen : (Go.Proofs.Ytelnoibfamcnmaa.Rec.wcells x.t.ws vs).length = x.t.ws.length * 2 := by rw [Go.Proofs.Ytelnoibfamcnmaa.Rec.wcells_len _ _ hlenv]
      rw [← ht, List.getElem?_take, if_pos (by omega)] at q2
      simpa using q2
  have hm0 : Mut w9 W.heap.size x.t.ws vs w9 := ⟨Turns.refl _ _, fun i y v hy hv => ⟨y.2, rfl, ho9.ws.data i y v hy hv⟩⟩
  have hbw6 : Below w.heap.size w w6 := hbW.out.trans (HB6.out.mono hbW.out.size)
  have hfinal : ∀ V, Turns (DataB vs) w9 V → PairAt w V F G NoX lp p m r s l n GG (k + 1) (cb + 58 * k + 61) := fun V hV =>
    (PairAt.zturn hbw6 hP9 (fun q e => by rw [HZ.out] at e; have := hbW.out.size; omega) (hV.mono (fun q _ e => by rw [HZ.out]; exact hdz q e))).more (Nat.le_refl _) (by omega)
  have HFINAL := Lib.hid hfinal; clear hfinal
  have HM0 := Lib.hid hm0; clear hm0
  have HROWC := Lib.hid hrowc; clear hrowc
  have HBOX5 := Lib.hid hbox5; clear hbox5 hx9 hnot hdz
  have HO9 := Lib.hid ho9.ws; clear ho9 hP9 hb9
  have HLV := Lib.hid hlenv; clear hlenv
  have HNW := Lib.hid hnw; clear hnw hnr
  have hnwb : x.nw ≤ 140737488355328 := HTXN.out.fits.2.1
  have HPBB := Lib.hid hpb; clear hpb
  generalize w5.heap.size = pb at HBOX5 ⊢
  go_wp2
  go_loopw [11, 12] (fun iv _ wr => ∃ i : Nat, i ≤ x.nw ∧ iv = .int .i64 (i : Int) ∧ Mut w9 W.heap.size x.t.ws vs wr) (fun iv _ _ => x.nw - (intOf iv).toNat)
  case atStart => exact ⟨0, Nat.zero_le _, rfl, HM0.out⟩
  case round =>
    obtain ⟨i, hi, rfl, hmu⟩ := hrel
    have b1 := HBOX5.out wr hmu.1
    by_cases hlt : i < x.nw
    · obtain ⟨y, hy⟩ : ∃ y, x.t.ws[i]? = some y := ⟨_, List.getElem?_eq_getElem (by rw [HNW.out]; exact hlt)⟩
      obtain ⟨v, hv⟩ : ∃ v, vs[i]? = some v := ⟨_, List.getElem?_eq_getElem (by rw [HLV.out, HNW.out]; exact hlt)⟩
      have hd58 := hWd.data y (List.mem_of_getElem? hy)
      obtain ⟨NY, hNY⟩ : ∃ NY, NY = y.2.length := ⟨_, rfl⟩
      rw [← hNY] at hd58
      obtain ⟨Av, cv, rfl⟩ : ∃ Av cv, v = .slice Av NY cv := by
        obtain ⟨ys, hl, ho⟩ := hmu.2 i y v hy hv
        obtain ⟨Av, cv, e, -⟩ := Owned.holds ho
        exact ⟨Av, cv, by rw [e, hl, hNY]⟩
      obtain ⟨gw, rfl, -⟩ := HROWC.out wr hmu.1 i y _ hy hv
      have hrc : ∀ V, Turns (DataB vs) w9 V → V.cell? ⟨gw, i * 2 + 1, none⟩ = some (.slice Av NY cv) := fun V hV => by
        obtain ⟨gw2, e, h2⟩ := HROWC.out V hV i y _ hy hv
        injection e with e
        injection e with e
        subst e
        exact h2
      have HRC := Lib.hid hrc; clear hrc
      have HY := Lib.hid hy; clear hy
      have HV := Lib.hid hv; clear hv
      have HNY := Lib.hid hNY; clear hNY
      have HMU := Lib.hid hmu; clear hmu
      have hi0 : (0 : Int) ≤ (i : Int) := by omega
      have hin : (i : Int) < (x.nw : Int) := by omega
      clear b1
      have b1 := HBOX5.out wr HMU.out.1
      go_wp2
      go_loopw [12] (fun kv wr => ∃ kk : Nat, kk ≤ NY ∧ kv = .int .i64 (kk : Int) ∧ Mut w9 W.heap.size x.t.ws vs wr) (fun kv _ => NY - (intOf kv).toNat)
      case atStart => exact ⟨0, Nat.zero_le _, rfl, HMU.out⟩
      case round =>
        obtain ⟨kk, hkk, rfl, hmu⟩ := hrel
        have b1 := HBOX5.out wr hmu.1
        have b2 := HRC.out wr hmu.1
        by_cases hlk : kk < NY
        · obtain ⟨ys, hl, ho⟩ := hmu.2 i y _ HY.out HV.out
          rw [← HNY.out] at hl
          obtain ⟨gd, cap, hvv, -, -, -, hrow⟩ := Owned.row ho (by omega)
          obtain ⟨r1, r2, -⟩ := hrow kk (by omega)
          rw [hl] at hvv
          injection hvv with e1 _ e3
          subst e1 e3
          have hm2 : Mut w9 W.heap.size x.t.ws vs (wr.setCell ⟨gd, kk, none⟩ (.int .u8 99)) := Mut.store HO9.out hmu HY.out HV.out rfl (fun ys' hl' ho' => by
            obtain ⟨gd', cap', hv', -, -, -, hrow'⟩ := Owned.row ho' (by rw [hl', ← HNY.out]; omega)
            injection hv' with e1 _ _
            injection e1 with e1
            injection e1 with e1
            subst e1
            obtain ⟨-, -, r3⟩ := hrow' kk (by rw [hl', ← HNY.out]; omega)
            exact ⟨ys'.set kk 99, by rw [List.length_set, hl'], (r3 99).1⟩)
          obtain ⟨uu, r9⟩ : ∃ uu : UInt8, wr.cell? ⟨gd, kk, none⟩ = some (.int .u8 (uu.toNat : Int)) := ⟨_, r1⟩
          have HM2 := Lib.hid hm2; clear hm2 hmu hrow r1
          clear ho hl
          have hk0 : (0 : Int) ≤ (kk : Int) := by omega
          have hkn : (kk : Int) < (NY : Int) := by omega
          go_wp2
          go_roundw
          case rel => exact ⟨kk + 1, by omega, by go_num, HM2.out⟩
          case measure => simp [intOf]; omega
        · obtain rfl : kk = NY := by omega
          have HMU2 := Lib.hid hmu; clear hmu
          go_wp2
          go_roundw
          case rel => exact ⟨i + 1, by omega, by go_num, HMU2.out⟩
          case measure => simp [intOf]; omega
    · obtain rfl : i = x.nw := by omega
      have HE := Lib.hid (HFINAL.out wr hmu.1); clear hmu
      have HSQ2 := Lib.hid hsq2; clear hsq2
      go_wp2
      go_ret
      exact ⟨rfl, GG, HSQ2.out, HE.out⟩
end Go.Proofs.Ytelnoibfamcnmaa.Log

namespace Go.Proofs.Ytelnoibfamcnmaa.Log
set_option maxRecDepth 20000
open Go.ChangeShapes Go.WideShapes Go.ChangeAt Go.RowKit Go.Deep
open Go.Proofs.Ytelnoibfamcnmaa.Mem Go.Proofs.Ytelnoibfamcnmaa.Lift Go.Proofs.Ytelnoibfamcnmaa.Crc
open Go.Proofs.Ytelnoibfamcnmaa.Rec (Tx Wt TxAt HoldsW HoldsI IsInt txn_wide bytes_part exists_list Wide)

theorem deedL_wide {H : Type} {enc : TypeId × Value → H} {W : World} {fuel : Nat} {cs : List Value} {d : DataW H} {p : List MemPlace} (h : DataW.trod enc Try.prog W 0 (fun _ => true) true fuel 69 cs = some (d, p))
    (hw : (d.weights Try.prog 69).all (· ≤ reachBytes) = true) : ∃ x : DeedL, cs = x.cells ∧ x.Is W W.heap.size ∧ Wide x.t := by
  obtain ⟨y0, y1, y2, n, hx, hl, h0, h1, h2⟩ := trod_struct3 Try.underlying69 h
  rw [show Try.prog.cellsOf 69 = 5 by kernel_rfl] at hl
  match cs, hl with
  | [v0, v1, v2, v3, v4], _ =>
    have c0 : Try.prog.cellsOf 3 = 1 := by kernel_rfl
    have c1 : Try.prog.cellsOf 67 = 3 := by kernel_rfl
    have c2 : Try.prog.cellsOf 33 = 1 := by kernel_rfl
    rw [c0] at h0
    rw [c1] at h1
    rw [c2] at h2
    injection hx with hd hp
    have hs : (DataW.weightsEach Try.prog [3, 67, 33] [y0.1, y1.1, y2.1]).all (· ≤ reachBytes) = true := by
      rw [hd] at hw
      simpa [DataW.weights, Try.underlying69] using hw
    have hw1 : (y1.1.weights Try.prog 67).all (· ≤ reachBytes) = true := by
      simp only [DataW.weightsEach, List.all_append, Bool.and_eq_true] at hs
      exact hs.2.1
    obtain ⟨z, e0, _, w0⟩ := DataW.trod_int Try.underlying3 h0
    obtain ⟨t, Aw, nw, cw, Ar, nr, cr, e1, ht, hwide⟩ := txn_wide (d := y1.1) (p := y1.2) h1 hw1
    obtain ⟨Ab, nb, cb, bs, e2, hb, hk, hc⟩ := bytes_part h2
    simp at e0 e1 e2
    obtain ⟨e10, e11, e12⟩ := e1
    subst e0 e10 e11 e12 e2
    exact ⟨⟨z, t, Aw, nw, cw, Ar, nr, cr, Ab, nb, cb, bs⟩, rfl, ⟨ht, hb, ⟨hk, hc⟩, Go.Proofs.Ytelnoibfamcnmaa.Rec.wf_i64 w0⟩, hwide⟩

theorem deedsL_wide {H : Type} {enc : TypeId × Value → H} {W : World} {base : Nat} {v : Value} {d : DataW H} {p : List MemPlace} (hv : Value.okWide Try.prog W .any base 51 v)
    (h : DataW.Trod enc Try.prog W 0 (fun _ => true) true 51 v d p) (hw : (d.weights Try.prog 51).all (· ≤ reachBytes) = true) :
    ∃ A n c xs, v = .slice A n c ∧ DeedsL W W.heap.size A n xs ∧ (n ≤ c ∧ c ≤ maxLen) ∧ ∀ x ∈ xs, Wide x.t := by
  obtain ⟨A, n, c, rfl⟩ := okWide_slice Try.underlying51 hv
  obtain ⟨fuel, hf⟩ := h
  rcases open_slice Try.underlying51 hf with ⟨hcs, _⟩ | ⟨a, len, cap, m, k, D, Pl, hcs, _, hl, hm, hmm, hx, hel⟩
  · simp [Value.cells] at hcs
    obtain ⟨rfl, rfl, rfl⟩ := hcs
    exact ⟨none, 0, 0, [], rfl, ⟨rfl, fun h => absurd h (by omega), fun x hx => by cases hx⟩, ⟨Nat.le_refl _, Nat.zero_le _⟩, fun x hx => by cases hx⟩
  · simp [Value.cells] at hcs
    obtain ⟨rfl, rfl, rfl⟩ := hcs
    injection hx with hd _
    have hwa : (DataW.weightsAll Try.prog 69 ((List.range n).map D)).all (· ≤ reachBytes) = true := by
      rw [hd] at hw
      simp only [DataW.weights, Try.underlying51, List.all_cons, List.all_append, Bool.and_eq_true] at hw
      exact hw.2.1
    have hC : Try.prog.cellsOf 69 = 5 := by kernel_rfl
    rw [hC] at hel
    rw [if_pos rfl] at hmm
    obtain rfl : c = m := hmm.symm
    obtain ⟨xs, hxl, hxs⟩ := exists_list (p := fun i (x : DeedL) => (x.Is W W.heap.size ∧ Wide x.t) ∧ ∀ q, q < 5 → W.cell? ((a.add (i * 5)).add q) = x.cells[q]?) n (fun i hi => by
      obtain ⟨cs', hc, ht⟩ := hel i (by omega)
      obtain ⟨_, hcl, hat⟩ := World.cells?_some hc
      obtain ⟨x, hxc, hd⟩ := deedL_wide (d := D i) (p := Pl i) ht (weights_elem _ _ (List.mem_map.2 ⟨i, List.mem_range.2 hi, rfl⟩) hwa)
      refine ⟨x, hd, fun q hq => ?_⟩
      rw [hat q hq, hxc])
    obtain ⟨b, off, spot⟩ := a
    by_cases h0 : 0 < n
    · have h00 := (hxs 0 (by omega)).2 0 (by omega)
      have hspot : spot = none := by
        have := World.cell?_spot (h00.trans (show (xs[0]'(by omega)).cells[0]? = some _ from rfl))
        simpa [Addr.add] using this
      subst hspot
      have hbl := block_lt_of_cell (h00.trans (show (xs[0]'(by omega)).cells[0]? = some _ from rfl))
      rw [Addr.add_mid, Addr.add_mid] at hbl
      refine ⟨_, n, c, xs, rfl, ⟨hxl, fun _ => ⟨b, off, rfl, hbl, fun j hj q hq => ?_⟩, fun x hx => ?_⟩, ⟨hl, hm⟩, fun x hx => ?_⟩
      · have := (hxs j hj).2 q hq
        rwa [Addr.add_mid, Addr.add_mid] at this
      · obtain ⟨j, hj, rfl⟩ := List.getElem_of_mem hx
        exact (hxs j hj).1.1
      · obtain ⟨j, hj, rfl⟩ := List.getElem_of_mem hx
        exact (hxs j hj).1.2
    · have hn : n = 0 := by omega
      subst hn
      have : xs = [] := List.eq_nil_of_length_eq_zero hxl
      subst this
      exact ⟨_, 0, c, [], rfl, ⟨rfl, fun h => absurd h (by omega), fun x hx => by cases hx⟩, ⟨Nat.zero_le _, hm⟩, fun x hx => by cases hx⟩

end Go.Proofs.Ytelnoibfamcnmaa.Log

namespace Go.Proofs.Ytelnoibfamcnmaa.Log
set_option maxRecDepth 20000
open Go.RowKit
open Go.Proofs.Ytelnoibfamcnmaa.Mem Go.Proofs.Ytelnoibfamcnmaa.Crc Go.Proofs.Ytelnoibfamcnmaa.Disk
/-! A nil disk has no area. -/
set_option maxHeartbeats 1000000 in
theorem of_nil (S L : Int) (w : World) :
    Calls Try.prog 74 #[.pointer none, .int .i64 S, .int .i64 L] w fun e w' => e = .returned (.tuple #[noArea, .bool false]) ∧ Below w.heap.size w w' := by
  have hh : ∀ o, (w.alloc (.cells #[.pointer none, .int .i64 0, .int .i64 0] 120 o)).heap[w.heap.size]? = some (.cells #[.pointer none, .int .i64 0, .int .i64 0] 120 o) := fun o => heap_alloc_new w _
  have HH := Lib.hid hh; clear hh
  unfold noArea
  by_cases g1 : L < 8
  · go_enter Try.func74, Try.ntmps74
    go_wp2
    have q0 := cell_of_row _ w.heap.size 0 _ _ _ (HH.out (0, 0))
    have q1 := cell_of_row _ w.heap.size 1 _ _ _ (HH.out (0, 0))
    have q2 := cell_of_row _ w.heap.size 2 _ _ _ (HH.out (0, 0))
    refine bodyPost_ret (v := .tuple #[.agg #[.pointer none, .int .i64 0, .int .i64 0], .bool false]) (by simp [results, go_sem, q0, q1, q2]) rfl ?_
    exact ⟨rfl, (Below.refl _ w).alloc (Nat.le_refl _) _⟩
  by_cases g2 : (1024 : Int) < L
  · go_enter Try.func74, Try.ntmps74
    go_wp2
    have q0 := cell_of_row _ w.heap.size 0 _ _ _ (HH.out (0, 0))
    have q1 := cell_of_row _ w.heap.size 1 _ _ _ (HH.out (0, 0))
    have q2 := cell_of_row _ w.heap.size 2 _ _ _ (HH.out (0, 0))
    refine bodyPost_ret (v := .tuple #[.agg #[.pointer none, .int .i64 0, .int .i64 0], .bool false]) (by simp [results, go_sem, q0, q1, q2]) rfl ?_
    exact ⟨rfl, (Below.refl _ w).alloc (Nat.le_refl _) _⟩
  by_cases g3 : S < 0
  · go_enter Try.func74, Try.ntmps74
    go_wp2
    have q0 := cell_of_row _ w.heap.size 0 _ _ _ (HH.out (0, 0))
    have q1 := cell_of_row _ w.heap.size 1 _ _ _ (HH.out (0, 0))
    have q2 := cell_of_row _ w.heap.size 2 _ _ _ (HH.out (0, 0))
    refine bodyPost_ret (v := .tuple #[.agg #[.pointer none, .int .i64 0, .int .i64 0], .bool false]) (by simp [results, go_sem, q0, q1, q2]) rfl ?_
    exact ⟨rfl, (Below.refl _ w).alloc (Nat.le_refl _) _⟩
  have g4 : (0 : Int) - L < S := by omega
  go_enter Try.func74, Try.ntmps74
  go_wp2_with fail
  refine (size_nil _).mono ?_
  rintro e w' ⟨rfl, rfl⟩
  go_wp2
  have q0 := cell_of_row _ w.heap.size 0 _ _ _ (HH.out (0, 0))
  have q1 := cell_of_row _ w.heap.size 1 _ _ _ (HH.out (0, 0))
  have q2 := cell_of_row _ w.heap.size 2 _ _ _ (HH.out (0, 0))
  refine bodyPost_ret (v := .tuple #[.agg #[.pointer none, .int .i64 0, .int .i64 0], .bool false]) (by simp [results, go_sem, q0, q1, q2]) rfl ?_
  exact ⟨rfl, (Below.refl _ w).alloc (Nat.le_refl _) _⟩

set_option maxHeartbeats 1000000 in
theorem open_nil (S L : Int) (w : World) :
    Calls Try.prog 33 #[.pointer none, .int .i64 S, .int .i64 L] w fun e w' => e = .returned (.tuple #[.pointer none, .int .i64 1]) ∧ Below w.heap.size w w' := by
  have hof := of_nil S L w
  unfold noArea at *
  have HOF := Lib.hid hof; clear hof
  go_enter Try.func33, Try.ntmps33
  go_wp2_with fail
  with_reducible refine HOF.out.mono ?_
  rintro e w1 ⟨rfl, hb1⟩
  clear HOF
  have HB1 := Lib.hid hb1; clear hb1
  go_wp2
  go_ret2
  exact ⟨rfl, HB1.out.alloc HB1.out.size _⟩
theorem format_nil (S L : Int) (w : World) :
    Calls Try.prog 34 #[.pointer none, .int .i64 S, .int .i64 L] w fun e w' => e = .returned (.int .i64 1) ∧ Below w.heap.size w w' := by
  have hof := of_nil S L w
  unfold noArea at *
  have HOF := Lib.hid hof; clear hof
  go_enter Try.func34, Try.ntmps34
  go_wp2_with fail
  with_reducible refine HOF.out.mono ?_
  rintro e w1 ⟨rfl, hb1⟩
  clear HOF
  have HB1 := Lib.hid hb1; clear hb1
  go_wp2
  go_ret
  exact ⟨rfl, HB1.out.alloc HB1.out.size _⟩

end Go.Proofs.Ytelnoibfamcnmaa.Log

namespace Go.Proofs.Ytelnoibfamcnmaa.Log
set_option maxRecDepth 20000
open Go.RowKit
open Go.Proofs.Ytelnoibfamcnmaa.Mem Go.Proofs.Ytelnoibfamcnmaa.Crc Go.Proofs.Ytelnoibfamcnmaa.Disk Go.Proofs.Ytelnoibfamcnmaa.Reg
/-! A new pair; the same pair since the world at hand. -/
theorem Fresh.paired {w w' : World} {p r lp m n s l B : Nat} {F G : Nat → Prop} (h : Fresh w p r lp m n s l B F G) (hb : Below w.heap.size w w') (h8 : 8 ≤ l) (hl : l ≤ 1024) (hs : s + l ≤ n) (hn : n ≤ 1024) : PairAt w' w' F G NoX lp p m r s l n (Lg.fresh n s) 0 1 := by
  obtain ⟨m0, hD, -⟩ := DiskAt.named h.one
  have hsz := freshD_size n s
  have hr : (((l - 1 : Nat)) : Int) = (l : Int) - 1 := by omega
  have hon : LogOn w lp p s (l - 1) 1 0 0 (.slice none 0 0) 0 (freshD n s) 1 F m0 := ⟨hD, by rw [hr]; exact h.log, ⟨[], ⟨rfl, .inl ⟨rfl, rfl⟩⟩, (fun u hu => by cases hu)⟩, (fun e => (h.lowF _ e).2.1 rfl), (fun k hk => by cases hk), ⟨by omega, by omega, by omega, by rw [hsz]; omega, by omega⟩⟩
  have hlw : lp < w.heap.size := (Array.getElem?_eq_some_iff.1 h.log).1
  have hmw : m < w.heap.size := (Array.getElem?_eq_some_iff.1 h.doc).1
  have hFw : ∀ q, F q → q < w.heap.size := fun q e => h.one.lt q e
  have hGw : ∀ q, G q → q < w.heap.size := fun q e => h.two.lt q e
  have hsw := hb.size
  have hK : Known w' w' lp p s (l - 1) n F (fun q => G q ∨ q = m ∨ NoX q) (Lg.fresh n s) 0 1 :=
    ⟨.slice none 0 0, 1, F, m0, [], hon.later hb, hsz, Live.none _ _ _ _ _, (fun q e => by
      rcases e with e | e | e
      · have := hGw q e; omega
      · omega
      · exact e.elim), rfl, (fun _ => rfl), Nat.le_refl _, Nat.le_refl _, (fun q hq => .inl hq), (fun q hq => by cases hq), Turns.refl _ _⟩
  have hdoc : DocAt w m r (s : Int) (l : Int) 1 0 (.slice none 0 0) := h.doc
  have hDK : DKnown w' w' m r s l n G (fun q => F q ∨ q = lp ∨ NoX q) (Lg.fresh n s) 0 1 :=
    ⟨none, 0, 1, G, [], hdoc.below hb, h.two.turns (Turns.of_below (F := NoX) hb) (fun k _ e => e), hsz, Live.none _ _ _ _ _, (fun q e => by
      rcases e with e | e | e
      · have := hFw q e; omega
      · omega
      · exact e.elim), rfl, Nat.le_refl _, Nat.le_refl _, (fun e => (h.lowG m e).2.2 rfl), (fun q hq => by cases hq), (fun q hq => .inl hq), (fun q hq => by cases hq), Turns.refl _ _⟩
  exact ⟨Turns.refl _ _, Lg.Fit.fresh s l n h8 hl hs hn, F, G, hK, hDK, fun q e => ⟨h.apart q e, (h.lowF q e).2.2, (h.lowF q e).2.1, fun e' => e'⟩, fun q e => ⟨(h.lowG q e).2.1, (h.lowG q e).2.2, fun e' => e'⟩, h.low.2.2, fun e => e, fun e => e, fun q e => ⟨.inl e, Nat.lt_of_lt_of_le (hFw q e) hsw⟩, fun q e => ⟨.inl e, Nat.lt_of_lt_of_le (hGw q e) hsw⟩, Nat.lt_of_lt_of_le hlw hsw, Nat.lt_of_lt_of_le hmw hsw⟩

theorem PairAt.rebase {w3 wr : World} {F0 G0 Z : Nat → Prop} {lp p m r s l n k cb : Nat} {g : Lg} (h : PairAt w3 wr F0 G0 Z lp p m r s l n g k cb) :
    ∃ F1 G1, PairAt wr wr F1 G1 Z lp p m r s l n g k cb ∧ (∀ q, F1 q → (F0 q ∨ w3.heap.size ≤ q) ∧ q < wr.heap.size) ∧ (∀ q, G1 q → (G0 q ∨ w3.heap.size ≤ q) ∧ q < wr.heap.size) ∧ lp < wr.heap.size ∧ m < wr.heap.size := by
  obtain ⟨F1, G1, hK, hD, hF, hG, hlm, hzl, hzm, hF1, hG1, hlw, hmw⟩ := h.logs
  exact ⟨F1, G1, ⟨Turns.refl _ _, h.fit, F1, G1, hK, hD, hF, hG, hlm, hzl, hzm, fun q e => ⟨.inl e, (hF1 q e).2⟩, fun q e => ⟨.inl e, (hG1 q e).2⟩, hlw, hmw⟩, hF1, hG1, hlw, hmw⟩
end Go.Proofs.Ytelnoibfamcnmaa.Log
