/- A log that goes on, its state in plain words: the next Seq, the place, the blocks in use, the disk and the live records; what Append and Home make of it. -/
import Derived.Test.YtelnoibfamcnmaaLgGoes
namespace Go.Proofs.Ytelnoibfamcnmaa.Log
set_option maxRecDepth 20000
open Go.RowKit
open Go.Proofs.Ytelnoibfamcnmaa.Mem Go.Proofs.Ytelnoibfamcnmaa.Crc Go.Proofs.Ytelnoibfamcnmaa.Disk
open Go.Proofs.Ytelnoibfamcnmaa.Rec (Tx Wt TxAt HoldsW HoldsI IsInt enc_any Told enc_len mayB_iff)

structure Lg where
  seq : Nat
  pl : Nat
  used : Nat
  d : Dk.Dk
  ts : List Tx
def Lg.txn (g : Lg) (t : Tx) : Tx := { t with seq := g.seq }
def Lg.home (s : Nat) (g : Lg) : Lg := if g.ts = [] then g else { g with used := 0, d := homeD s g.seq g.pl g.d g.ts, ts := [] }
def Lg.add (s r : Nat) (g : Lg) (t : Tx) : Lg :=
  { seq := g.seq + 1, pl := (putL s r g.d g.pl (chunksOf (g.txn t).enc (t.ws.length + 2))).2, used := g.used + (t.ws.length + 2), d := (putL s r g.d g.pl (chunksOf (g.txn t).enc (t.ws.length + 2))).1, ts := g.ts ++ [g.txn t] }
def Lg.fair (n s r : Nat) (g : Lg) (t : Tx) : Bool := (g.txn t).mayB && takesB n s r (g.txn t)
/-- The Seq and the error that Append answers, and what the log is behind it. -/
def Lg.app (n s r : Nat) (g : Lg) (t : Tx) : Nat × Nat × Lg :=
  if g.fair n s r t then (if g.used + (t.ws.length + 2) ≤ r then (g.seq, 0, g.add s r t) else (0, 9, g)) else (0, 17, g)

def NoX : Nat → Prop := fun _ => False
/-- In memory: since the world W0 nothing but the log's own blocks has turned; at most nb live records and cb writes; its live records stay as they are while others turn the blocks X. -/
def Known (W0 wr : World) (lp p s r n : Nat) (F0 X : Nat → Prop) (g : Lg) (nb cb : Nat) : Prop :=
  ∃ v c F m L, LogOn wr lp p s r g.seq g.pl g.used v L.length g.d c F m ∧ g.d.stable.length = n ∧ Live wr (fun q => F q ∨ q = lp ∨ v.ownBlock = some q ∨ X q) n s r v L.length L ∧ (∀ q, X q → q < wr.heap.size) ∧ L.map (·.t) = g.ts ∧ (g.ts = [] → g.used = 0) ∧ c ≤ cb ∧ g.ts.length ≤ nb ∧
    (∀ q, F q → F0 q ∨ W0.heap.size ≤ q) ∧ (∀ q, v.ownBlock = some q → F0 q ∨ W0.heap.size ≤ q) ∧ Turns (fun q => F0 q ∨ q = lp) W0 wr

theorem Known.more {W0 wr : World} {lp p s r n nb cb nb' cb' : Nat} {F0 X : Nat → Prop} {g : Lg} (h : Known W0 wr lp p s r n F0 X g nb cb) (h1 : nb ≤ nb') (h2 : cb ≤ cb') : Known W0 wr lp p s r n F0 X g nb' cb' := by
  obtain ⟨v, c, F, m, L, a1, a2, a3, aX, a4, a5, a6, a7, a8⟩ := h
  exact ⟨v, c, F, m, L, a1, a2, a3, aX, a4, a5, by omega, by omega, a8⟩
theorem Known.later {W0 wr w' : World} {lp p s r n nb cb : Nat} {F0 X : Nat → Prop} {g : Lg} (h : Known W0 wr lp p s r n F0 X g nb cb) (hb : Below wr.heap.size wr w') : Known W0 w' lp p s r n F0 X g nb cb := by
  obtain ⟨v, c, F, m, L, a1, a2, a3, aX, a4, a5, a6, a7, a8, a9, a10⟩ := h
  exact ⟨v, c, F, m, L, a1.later hb, a2, a3.turns (Turns.of_below hb) (fun _ _ e => e), (fun q e => Nat.lt_of_lt_of_le (aX q e) hb.size), a4, a5, a6, a7, a8, a9, a10.trans (Turns.of_below (F := fun q => F0 q ∨ q = lp) hb) (fun _ _ e => e)⟩
theorem Known.turns {W0 wr : World} {lp p s r n nb cb : Nat} {F0 X : Nat → Prop} {g : Lg} (h : Known W0 wr lp p s r n F0 X g nb cb) : Turns (fun q => F0 q ∨ q = lp) W0 wr := by
  obtain ⟨v, c, F, m, L, a1, a2, a3, aX, a4, a5, a6, a7, a8, a9, a10⟩ := h
  exact a10
/-- The same, since the world at hand. -/
theorem Known.base {W0 wr : World} {lp p s r n nb cb : Nat} {F0 X : Nat → Prop} {g : Lg} (h : Known W0 wr lp p s r n F0 X g nb cb) :
    ∃ F1, Known wr wr lp p s r n F1 X g nb cb ∧ (∀ q, F1 q → F0 q ∨ W0.heap.size ≤ q) ∧ (∀ q, F1 q → q < wr.heap.size) ∧ lp < wr.heap.size := by
  obtain ⟨v, c, F, m, L, a1, a2, a3, aX, a4, a5, a6, a7, a8, a9, a10⟩ := h
  refine ⟨fun q => F q ∨ v.ownBlock = some q, ⟨v, c, F, m, L, a1, a2, a3, aX, a4, a5, a6, a7, (fun q e => .inl (.inl e)), (fun q e => .inl (.inr e)), Turns.refl _ _⟩, fun q e => ?_, fun q e => ?_, (Array.getElem?_eq_some_iff.1 a1.log).1⟩
  · rcases e with e | e
    · exact a8 q e
    · exact a9 q e
  · rcases e with e | e
    · exact a1.disk.lt q e
    · exact a3.row.lt e
/-- Others turn the blocks X, and have others behind it. -/
theorem Known.aside {wr w' : World} {lp p s r n nb cb : Nat} {F0 X X' : Nat → Prop} {g : Lg} (h : Known wr wr lp p s r n F0 X g nb cb) (hT : Turns X wr w') (hF : ∀ q, F0 q → ¬ X q) (hlp : ¬ X lp) (hX' : ∀ q, X' q → (X q ∨ wr.heap.size ≤ q) ∧ q < w'.heap.size) : Known w' w' lp p s r n F0 X' g nb cb := by
  obtain ⟨v, c, F, m, L, a1, a2, a3, aX, a4, a5, a6, a7, a8, a9, a10⟩ := h
  have hlt : ∀ q, F q → ¬ X q := fun q e => (a8 q e).elim (hF q) (fun e' => by have := a1.disk.lt q e; omega)
  have hvt : ∀ q, v.ownBlock = some q → ¬ X q := fun q e => (a9 q e).elim (hF q) (fun e' => by have := a3.row.lt e; omega)
  have h1 : LogOn w' lp p s r g.seq g.pl g.used v L.length g.d c F m := ⟨a1.disk.turns hT hlt, (hT.block lp (Array.getElem?_eq_some_iff.1 a1.log).1 hlp).trans a1.log, by
    obtain ⟨cs, hr, ho⟩ := a1.live
    exact ⟨cs, hr.turns hT hvt, ho⟩, a1.apartL, a1.apartV, a1.ring⟩
  refine ⟨v, c, F, m, L, h1, a2, a3.turns (hT.mono (fun q _ e => ⟨.inr (.inr (.inr e)), fun e' => hvt q e' e⟩)) (fun i hi e => ?_), (fun q e => (hX' q e).2), a4, a5, a6, a7, (fun q e => (a8 q e).imp id (fun e' => ?_)), (fun q e => (a9 q e).imp id (fun e' => ?_)), Turns.refl _ _⟩
  · rcases e with e | e | e | e
    · exact .inl e
    · exact .inr (.inl e)
    · exact .inr (.inr (.inl e))
    · rcases (hX' i e).1 with e | e
      · exact .inr (.inr (.inr e))
      · omega
  · have := a1.disk.lt q e; omega
  · have := a3.row.lt e; omega
theorem Known.size {W0 wr : World} {lp p s r n nb cb : Nat} {F0 X : Nat → Prop} {g : Lg} (h : Known W0 wr lp p s r n F0 X g nb cb) : g.d.stable.length = n := by
  obtain ⟨v, c, F, m, L, a1, a2, -⟩ := h
  exact a2
theorem Known.ring {W0 wr : World} {lp p s r n nb cb : Nat} {F0 X : Nat → Prop} {g : Lg} (h : Known W0 wr lp p s r n F0 X g nb cb) : 7 ≤ r ∧ r ≤ 1023 ∧ g.pl < r ∧ s + 1 + r ≤ n ∧ g.used ≤ r := by
  obtain ⟨v, c, F, m, L, a1, a2, -⟩ := h
  rw [← a2]
  exact a1.ring
theorem Known.fair {W0 wr : World} {lp p s r n nb cb : Nat} {F0 X : Nat → Prop} {g : Lg} (h : Known W0 wr lp p s r n F0 X g nb cb) : ∀ t ∈ g.ts, t.mayB = true ∧ takesB n s r t = true := by
  obtain ⟨v, c, F, m, L, a1, a2, a3, aX, a4, -⟩ := h
  intro t ht
  rw [← a4] at ht
  obtain ⟨x, hx, rfl⟩ := List.mem_map.1 ht
  exact a3.fair x hx
theorem Known.at {W0 wr : World} {lp p s r n nb cb : Nat} {F0 X : Nat → Prop} {g : Lg} (h : Known W0 wr lp p s r n F0 X g nb cb) : ∃ c F, DiskAt wr p g.d c F ∧ c ≤ cb ∧ g.d.Ok := by
  obtain ⟨v, c, F, m, L, a1, a2, a3, aX, a4, a5, a6, -⟩ := h
  have hD := a1.disk.at
  refine ⟨c, F, hD, a6, ?_⟩
  exact hD.ok.1

theorem home_kn (W0 w : World) (lp p s r n nb cb : Nat) (F0 X : Nat → Prop) (g : Lg) (h : Known W0 w lp p s r n F0 X g nb cb) (hcb : cb + 58 * nb + 1 < 1048576) :
    Calls Try.prog 45 #[.pointer (some ⟨lp, 0, none⟩)] w fun e w' => e = .returned (.tuple #[]) ∧ Known W0 w' lp p s r n F0 X (g.home s) nb (cb + 58 * nb + 1) := by
  have h' := h
  obtain ⟨v, c, F, m, L, a1, a2, a3, aX, a4, a5, a6, a7, a8, a9, a10⟩ := h
  have hcnt : L.length = g.ts.length := by rw [← a4, List.length_map]
  cases L with
  | nil =>
    have e0 : g.ts = [] := by rw [← a4]; rfl
    have hg : g.home s = g := by unfold Lg.home; rw [if_pos e0]
    obtain ⟨A, c0, rfl⟩ : ∃ A c0, v = .slice A 0 c0 := by
      rcases a3.row.2 with ⟨e, _⟩ | ⟨g1, cap, cur, e, _⟩
      · exact ⟨none, 0, e⟩
      · exact ⟨_, _, e⟩
    refine (home_none lp p s r g.seq g.pl g.used m c A c0 g.d F w a1).mono ?_
    rintro e w' ⟨he, hb⟩
    rw [hg]
    exact ⟨he, (h'.later hb).more (Nat.le_refl _) (by omega)⟩
  | cons y L1 =>
    have e0 : ¬ g.ts = [] := by rw [← a4]; simp
    have hg : g.home s = { g with used := 0, d := homeD s g.seq g.pl g.d g.ts, ts := [] } := by unfold Lg.home; rw [if_neg e0]
    subst a2
    have hle : 58 * (y :: L1).length ≤ 58 * nb := Nat.mul_le_mul_left _ (by omega)
    refine (home_some lp p s r g.seq g.pl g.used (y :: L1).length m c v g.d F w a1 (y :: L1) (a3.mono (fun q _ e => e.imp id (fun e => e.imp id .inl))) (by simp) (by omega) (by omega)).mono ?_
    rintro e w' ⟨he, F', m', hL, hF', hT⟩
    rw [hg]
    rw [a4] at hL
    refine ⟨he, .slice none 0 0, _, F', m', [], hL, ?_, Live.none _ _ _ _ _, (fun q e => Nat.lt_of_lt_of_le (aX q e) hT.size), rfl, (fun _ => rfl), by omega, Nat.zero_le _, fun q hq => ?_, (fun q hq => by cases hq), a10.trans hT (fun i hi e => ?_)⟩
    · show (homeD s g.seq g.pl g.d g.ts).stable.length = _
      unfold homeD; rw [Dk.size_flush, write_size, Dk.size_flush, homeL_size, Dk.size_flush]
    · rcases hF' q hq with e | e
      · exact a8 q e
      · exact .inr (Nat.le_trans a10.size e)
    · rcases e with e | e
      · rcases a8 i e with e' | e'
        · exact .inl e'
        · omega
      · exact .inr e

theorem next_kn (W0 w : World) (lp p s r n nb cb : Nat) (F0 X : Nat → Prop) (g : Lg) (h : Known W0 w lp p s r n F0 X g nb cb) :
    Calls Try.prog 41 #[.pointer (some ⟨lp, 0, none⟩)] w fun e w' => e = .returned (.tuple #[.int .u64 (g.seq : Int), .int .i64 (g.pl : Int)]) ∧ Below w.heap.size w w' := by
  obtain ⟨v, c, F, m, L, a1, -⟩ := h
  exact next_any lp p g.seq g.pl g.used s r v w a1.log
theorem room_kn (W0 w : World) (lp p s r n nb cb : Nat) (F0 X : Nat → Prop) (g : Lg) (h : Known W0 w lp p s r n F0 X g nb cb) :
    Calls Try.prog 42 #[.pointer (some ⟨lp, 0, none⟩)] w fun e w' => e = .returned (.int .i64 ((r : Int) - (g.used : Int))) ∧ Below w.heap.size w w' := by
  obtain ⟨v, c, F, m, L, a1, -⟩ := h
  obtain ⟨r1, r2, r3, r4, r5⟩ := a1.ring
  exact room_any lp p g.seq g.pl g.used s r v w a1.log ⟨by omega, by omega⟩ (by omega)

/-- The log on a disk that was formatted. -/
def Lg.fresh (n s : Nat) : Lg := { seq := 1, pl := 0, used := 0, d := freshD n s, ts := [] }
/-! ### What goes home, in plain words -/
def FitT (n : Nat) (t : Tx) : Prop := ∀ x ∈ t.ws, x.1.toNat < n ∧ x.2.length = 256
/-- While no record is live the head says where the log is. -/
def Lg.headed (s : Nat) (g : Lg) : Prop := g.ts = [] → g.d.read s = headH g.seq g.pl
theorem Lg.home_none (s : Nat) (g : Lg) : (g.home s).ts = [] := by
  unfold Lg.home; split
  · assumption
  · rfl
theorem Lg.app_seq (n s r : Nat) (g : Lg) (t : Tx) : (g.app n s r t).2.2.seq ≤ g.seq + 1 := by
  unfold Lg.app Lg.add
  repeat' split
  all_goals simp
theorem Lg.home_seq (s : Nat) (g : Lg) : (g.home s).seq = g.seq ∧ (g.home s).pl = g.pl := by
  unfold Lg.home; split <;> exact ⟨rfl, rfl⟩
end Go.Proofs.Ytelnoibfamcnmaa.Log
