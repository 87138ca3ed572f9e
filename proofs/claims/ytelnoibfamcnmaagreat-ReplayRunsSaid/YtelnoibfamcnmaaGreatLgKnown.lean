/- A log that goes on, its state in plain words: the next Seq, the place, the blocks in use, the disk and the live records; what Append and Home make of it. -/
import Derived.Test.YtelnoibfamcnmaaGreatLgGoes
namespace Go.Proofs.YtelnoibfamcnmaaGreat.Log
set_option maxRecDepth 20000
open Go.RowKit
open Go.Proofs.YtelnoibfamcnmaaGreat.Mem Go.Proofs.YtelnoibfamcnmaaGreat.Crc Go.Proofs.YtelnoibfamcnmaaGreat.Disk
open Go.Proofs.YtelnoibfamcnmaaGreat.Rec (Tx Wt TxAt HoldsW HoldsI IsInt enc_any Told enc_len mayB_iff)

structure Lg where
  seq : Nat
  pl : Nat
  used : Nat
  d : Dk.Dk
  ts : List Tx
def Lg.txn (g : Lg) (t : Tx) : Tx := { t with seq := g.seq }
def Lg.home (s : Nat) (g : Lg) : Lg := if g.ts = [] then g else { g with used := 0, d := homeD s g.seq g.pl g.d g.ts, ts := [] }
def Lg.add (s r : Nat) (g : Lg) (t : Tx) : Lg :=
  { seq := g.seq + 1, pl := (putL s r g.d g.pl (chunksOf (g.txn t).enc (t.ws.length + 2))).2, used := g.used + (t.ws.length + 2), d := (putL s r g.d g.pl (chunksOf (g.txn t).enc (t.ws.length + 2))).1, ts := g.ts ++ [g.txn t] }
def Lg.fair (n s r : Nat) (g : Lg) (t : Tx) : Bool := (g.txn t).mayB && takesB n s r (g.txn t)
/-- The Seq and the error that Append answers, and what the log is behind it. -/
def Lg.app (n s r : Nat) (g : Lg) (t : Tx) : Nat × Nat × Lg :=
  if g.fair n s r t then (if g.used + (t.ws.length + 2) ≤ r then (g.seq, 0, g.add s r t) else (0, 9, g)) else (0, 17, g)

def NoX : Nat → Prop := fun _ => False
/-- In memory: since the world W0 nothing but the log's own blocks has turned; at most nb live records and cb writes; its live records stay as they are while others turn the blocks X. -/
def Known (W0 wr : World) (lp p s r n : Nat) (F0 X : Nat → Prop) (g : Lg) (nb cb : Nat) : Prop :=
  ∃ v c F m L, LogOn wr lp p s r g.seq g.pl g.used v L.length g.d c F m ∧ g.d.stable.length = n ∧ Live wr (fun q => F q ∨ q = lp ∨ v.ownBlock = some q ∨ X q) n s r v L.length L ∧ (∀ q, X q → q < wr.heap.size) ∧ L.map (·.t) = g.ts ∧ (g.ts = [] → g.used = 0) ∧ c ≤ cb ∧ g.ts.length ≤ nb ∧
    (∀ q, F q → F0 q ∨ W0.heap.size ≤ q) ∧ (∀ q, v.ownBlock = some q → F0 q ∨ W0.heap.size ≤ q) ∧ Turns (fun q => F0 q ∨ q = lp) W0 wr

theorem Known.more {W0 wr : World} {lp p s r n nb cb nb' cb' : Nat} {F0 X : Nat → Prop} {g : Lg} (h : Known W0 wr lp p s r n F0 X g nb cb) (h1 : nb ≤ nb') (h2 : cb ≤ cb') : Known W0 wr lp p s r n F0 X g nb' cb' := by
  obtain ⟨v, c, F, m, L, a1, a2, a3, aX, a4, a5, a6, a7, a8⟩ := h
  exact ⟨v, c, F, m, L, a1, a2, a3, aX, a4, a5, by omega, by omega, a8⟩
theorem Known.later {W0 wr w' : World} {lp p s r n nb cb : Nat} {F0 X : Nat → Prop} {g : Lg} (h : Known W0 wr lp p s r n F0 X g nb cb) (hb : Below wr.heap.size wr w') : Known W0 w' lp p s r n F0 X g nb cb := by
  obtain ⟨v, c, F, m, L, a1, a2, a3, aX, a4, a5, a6, a7, a8, a9, a10⟩ := h
  exact ⟨v, c, F, m, L, a1.later hb, a2, a3.turns (Turns.of_below hb) (fun _ _ e => e), (fun q e => Nat.lt_of_lt_of_le (aX q e) hb.size), a4, a5, a6, a7, a8, a9, a10.trans (Turns.of_below (F := fun q => F0 q ∨ q = lp) hb) (fun _ _ e => e)⟩
theorem Known.turns {W0 wr : World} {lp p s r n nb cb : Nat} {F0 X : Nat → Prop} {g : Lg} (h : Known W0 wr lp p s r n F0 X g nb cb) : Turns (fun q => F0 q ∨ q = lp) W0 wr := by
  obtain ⟨v, c, F, m, L, a1, a2, a3, aX, a4, a5, a6, a7, a8, a9, a10⟩ := h
  exact a10
/-- The same, since the world at hand. -/
theorem Known.base {W0 wr : World} {lp p s r n nb cb : Nat} {F0 X : Nat → Prop} {g : Lg} (h : Known W0 wr lp p s r n F0 X g nb cb) :
    ∃ F1, Known wr wr lp p s r n F1 X g nb cb ∧ (∀ q, F1 q → F0 q ∨ W0.heap.size ≤ q) ∧ (∀ q, F1 q → q < wr.heap.size) ∧ lp < wr.heap.size := by
  obtain ⟨v, c, F, m, L, a1, a2, a3, aX, a4, a5, a6, a7, a8, a9, a10⟩ := h
  refine ⟨fun q => F q ∨ v.ownBlock = some q, ⟨v, c, F, m, L, a1, a2, a3, aX, a4, a5, a6, a7, (fun q e => .inl (.inl e)), (fun q e => .inl (.inr e)), Turns.refl _ _⟩, fun q e => ?_, fun q e => ?_, (Array.getElem?_eq_some_iff.1 a1.log).1⟩
  · rcases e with e | e
    · exact a8 q e
    · exact a9 q e
  · rcases e with e | e
    · exact a1.disk.lt q e
    · exact a3.row.lt e
/-- Others turn the blocks X, and have others behind it. -/
theorem Known.aside {wr w' : World} {lp p s r n nb cb : Nat} {F0 X X' : Nat → Prop} {g : Lg} (h : Known wr wr lp p s r n F0 X g nb cb) (hT : Turns X wr w') (hF : ∀ q, F0 q → ¬ X q) (hlp : ¬ X lp) (hX' : ∀ q, X' q → (X q ∨ wr.heap.size ≤ q) ∧ q < w'.heap.size) : Known w' w' lp p s r n F0 X' g nb cb := by
  obtain ⟨v, c, F, m, L, a1, a2, a3, aX, a4, a5, a6, a7, a8, a9, a10⟩ := h
  have hlt : ∀ q, F q → ¬ X q := fun q e => (a8 q e).elim (hF q) (fun e' => by have := a1.disk.lt q e; omega)
  have hvt : ∀ q, v.ownBlock = some q → ¬ X q := fun q e => (a9 q e).elim (hF q) (fun e' => by have := a3.row.lt e; omega)
  have h1 : LogOn w' lp p s r g.seq g.pl g.used v L.length g.d c F m := ⟨a1.disk.turns hT hlt, (hT.block lp (Array.getElem?_eq_some_iff.1 a1.log).1 hlp).trans a1.log, by
    obtain ⟨cs, hr, ho⟩ := a1.live
    exact ⟨cs, hr.turns hT hvt, ho⟩, a1.apartL, a1.apartV, a1.ring⟩
  refine ⟨v, c, F, m, L, h1, a2, a3.turns (hT.mono (fun q _ e => ⟨.inr (.inr (.inr e)), fun e' => hvt q e' e⟩)) (fun i hi e => ?_), (fun q e => (hX' q e).2), a4, a5, a6, a7, (fun q e => (a8 q e).imp id (fun e' => ?_)), (fun q e => (a9 q e).imp id (fun e' => ?_)), Turns.refl _ _⟩
  · rcases e with e | e | e | e
    · exact .inl e
    · exact .inr (.inl e)
    · exact .inr (.inr (.inl e))
    · rcases (hX' i e).1 with e | e
      · exact .inr (.inr (.inr e))
      · omega
  · have := a1.disk.lt q e; omega
  · have := a3.row.lt e; omega
theorem Known.size {W0 wr : World} {lp p s r n nb cb : Nat} {F0 X : Nat → Prop} {g : Lg} (h : Known W0 wr lp p s r n F0 X g nb cb) : g.d.stable.length = n := by
  obtain ⟨v, c, F, m, L, a1, a2, -⟩ := h
  exact a2
theorem Known.ring {W0 wr : World} {lp p s r n nb cb : Nat} {F0 X : Nat → Prop} {g : Lg} (h : Known W0 wr lp p s r n F0 X g nb cb) : 7 ≤ r ∧ r ≤ 1023 ∧ g.pl < r ∧ s + 1 + r ≤ n ∧ g.used ≤ r := by
  obtain ⟨v, c, F, m, L, a1, a2, -⟩ := h
  rw [← a2]
  exact a1.ring
theorem Known.fair {W0 wr : World} {lp p s r n nb cb : Nat} {F0 X : Nat → Prop} {g : Lg} (h : Known W0 wr lp p s r n F0 X g nb cb) : ∀ t ∈ g.ts, t.mayB = true ∧ takesB n s r t = true := by
  obtain ⟨v, c, F, m, L, a1, a2, a3, aX, a4, -⟩ := h
  intro t ht
  rw [← a4] at ht
  obtain ⟨x, hx, rfl⟩ := List.mem_map.1 ht
  exact a3.fair x hx
theorem Known.at {W0 wr : World} {lp p s r n nb cb : Nat} {F0 X : Nat → Prop} {g : Lg} (h : Known W0 wr lp p s r n F0 X g nb cb) : ∃ c F, DiskAt wr p g.d c F ∧ c ≤ cb ∧ g.d.Ok := by
  obtain ⟨v, c, F, m, L, a1, a2, a3, aX, a4, a5, a6, -⟩ := h
  have hD := a1.disk.at
  refine ⟨c, F, hD, a6, ?_⟩
  exact hD.ok.1

theorem home_kn (W0 w : World) (lp p s r n nb cb : Nat) (F0 X : Nat → Prop) (g : Lg) (h : Known W0 w lp p s r n F0 X g nb cb) (hcb : cb + 58 * nb + 1 < 1048576) :
    Calls Tryz.prog 26 #[.pointer (some ⟨lp, 0, none⟩)] w fun e w' => e = .returned (.tuple #[]) ∧ Known W0 w' lp p s r n F0 X (g.home s) nb (cb + 58 * nb + 1) := by
  have h' := h
  obtain ⟨v, c, F, m, L, a1, a2, a3, aX, a4, a5, a6, a7, a8, a9, a10⟩ := h
  have hcnt : L.length = g.ts.length := by rw [← a4, List.length_map]
  cases L with
  | nil =>
    have e0 : g.ts = [] := by rw [← a4]; rfl
    have hg : g.home s = g := by unfold Lg.home; rw [if_pos e0]
    obtain ⟨A, c0, rfl⟩ : ∃ A c0, v = .slice A 0 c0 := by
      rcases a3.row.2 with ⟨e, _⟩ | ⟨g1, cap, cur, e, _⟩
      · exact ⟨none, 0, e⟩
      · exact ⟨_, _, e⟩
    refine (home_none lp p s r g.seq g.pl g.used m c A c0 g.d F w a1).mono ?_
    rintro e w' ⟨he, hb⟩
    rw [hg]
    exact ⟨he, (h'.later hb).more (Nat.le_refl _) (by omega)⟩
  | cons y L1 =>
    have e0 : ¬ g.ts = [] := by rw [← a4]; simp
    have hg : g.home s = { g with used := 0, d := homeD s g.seq g.pl g.d g.ts, ts := [] } := by unfold Lg.home; rw [if_neg e0]
    subst a2
    have hle : 58 * (y :: L1).length ≤ 58 * nb := Nat.mul_le_mul_left _ (by omega)
    refine (home_some lp p s r g.seq g.pl g.used (y :: L1).length m c v g.d F w a1 (y :: L1) (a3.mono (fun q _ e => e.imp id (fun e => e.imp id .inl))) (by simp) (by omega) (by omega)).mono ?_
    rintro e w' ⟨he, F', m', hL, hF', hT⟩
    rw [hg]
    rw [a4] at hL
    refine ⟨he, .slice none 0 0, _, F', m', [], hL, ?_, Live.none _ _ _ _ _, (fun q e => Nat.lt_of_lt_of_le (aX q e) hT.size), rfl, (fun _ => rfl), by omega, Nat.zero_le _, fun q hq => ?_, (fun q hq => by cases hq), a10.trans hT (fun i hi e => ?_)⟩
    · show (homeD s g.seq g.pl g.d g.ts).stable.length = _
      unfold homeD; rw [Dk.size_flush, write_size, Dk.size_flush, homeL_size, Dk.size_flush]
    · rcases hF' q hq with e | e
      · exact a8 q e
      · exact .inr (Nat.le_trans a10.size e)
    · rcases e with e | e
      · rcases a8 i e with e' | e'
        · exact .inl e'
        · omega
      · exact .inr e

theorem room_kn (W0 w : World) (lp p s r n nb cb : Nat) (F0 X : Nat → Prop) (g : Lg) (h : Known W0 w lp p s r n F0 X g nb cb) :
    Calls Tryz.prog 25 #[.pointer (some ⟨lp, 0, none⟩)] w fun e w' => e = .returned (.int .i64 ((r : Int) - (g.used : Int))) ∧ Below w.heap.size w w' := by
  obtain ⟨v, c, F, m, L, a1, -⟩ := h
  obtain ⟨r1, r2, r3, r4, r5⟩ := a1.ring
  exact room_any lp p g.seq g.pl g.used s r v w a1.log ⟨by omega, by omega⟩ (by omega)

set_option maxHeartbeats 1000000 in
theorem append_knw (W0 w : World) (lp p s r n nb cb : Nat) (F0 X : Nat → Prop) (g : Lg) (h : Known W0 w lp p s r n F0 X g nb cb) (t : Tx) (Aw Ar : Option Addr) (nw cw nr cr : Nat) (ht : ∀ W, Turns (fun q => (F0 q ∨ W0.heap.size ≤ q) ∨ q = lp) w W → TxAt W w.heap.size t Aw nw cw Ar nr cr)
    (hsq : g.seq ≤ 1048576) (hcb : cb + 60 < 1048576) (hnb : nb + 1 ≤ 1048576) :
    Calls Tryz.prog 20 #[.pointer (some ⟨lp, 0, none⟩), .slice Aw nw cw, .slice Ar nr cr] w fun e w' =>
      e = .returned (.tuple #[.int .u64 ((g.app n s r t).1 : Int), .int .i64 ((g.app n s r t).2.1 : Int)]) ∧ Known W0 w' lp p s r n F0 X (g.app n s r t).2.2 (nb + 1) (cb + 60) := by
  have h' := h
  obtain ⟨v, c, F, m, L, hL, hn, hLive, hXlt, hts, h0, h2, h3, hFF, hv, hT⟩ := h
  subst hn
  have ht' : ∀ W, Turns (fun q => F q ∨ q = lp) w W → TxAt W w.heap.size (g.txn t) Aw nw cw Ar nr cr := fun W hW => by
    have h0 := ht W (hW.mono (fun i _ e => e.imp (hFF i) id))
    exact ⟨h0.ws, h0.rs, by show g.seq < 18446744073709551616; omega, h0.fits, h0.intW, h0.intR⟩
  have hnw : t.ws.length = nw := (ht w (Turns.refl _ _)).ws.1
  have happ : ∀ x, g.app g.d.stable.length s r t = x → x = g.app g.d.stable.length s r t := fun _ e => e.symm
  cases hm : Tx.mayB (g.txn t) with
  | false =>
    have e1 : g.app g.d.stable.length s r t = (0, 17, g) := by unfold Lg.app Lg.fair; rw [hm]; rfl
    rw [e1]
    exact (append_mayno lp p s r g.seq g.pl g.used L.length m c v g.d F w hL _ Aw Ar nw cw nr cr ht' rfl hm).mono fun e w' ⟨he, hb⟩ => ⟨he, (h'.later hb).more (Nat.le_succ _) (by omega)⟩
  | true =>
    cases hk : takesB g.d.stable.length s r (g.txn t) with
    | false =>
      have e1 : g.app g.d.stable.length s r t = (0, 17, g) := by unfold Lg.app Lg.fair; rw [hm, hk]; rfl
      rw [e1]
      exact (append_takesno lp p s r g.seq g.pl g.used L.length m c v g.d F w hL _ Aw Ar nw cw nr cr ht' rfl hm hk).mono fun e w' ⟨he, hb⟩ => ⟨he, (h'.later hb).more (Nat.le_succ _) (by omega)⟩
    | true =>
      have hf : g.fair g.d.stable.length s r t = true := by unfold Lg.fair; rw [hm, hk]; rfl
      have hmT := (mayB_iff _).1 hm
      have hhi := hmT.hi
      simp only [Lg.txn] at hhi
      by_cases hroom : g.used + (nw + 2) ≤ r
      · have e1 : g.app g.d.stable.length s r t = (g.seq, 0, g.add s r t) := by unfold Lg.app; rw [hf, if_pos rfl, if_pos (by rw [hnw]; exact hroom)]
        rw [e1]
        refine (append_livx lp p s r g.seq g.pl g.used L.length m c v g.d F w hL _ Aw Ar nw cw nr cr ht' rfl (by omega) hm hk hroom (by omega) (by rw [← hts, List.length_map] at h3; omega) L X hXlt hLive).mono ?_
        rintro e w' ⟨he, v', F', hL', hF', hv', hT', x, hx, hLive'⟩
        obtain ⟨r1, r2, r3, r4, r5⟩ := hL.ring
        have hsz := putL_size s r g.d g.pl (chunksOf (Tx.enc (g.txn t)) (nw + 2)) (by omega) hL.ring.2.2.1
        have hln : (L ++ [x]).length = L.length + 1 := by simp
        rw [← hln] at hL' hLive'
        subst hnw
        refine ⟨he, v', c + (t.ws.length + 2), F', m, L ++ [x], hL', hsz.1, hLive', (fun q e => Nat.lt_of_lt_of_le (hXlt q e) hT'.size), ?_, ?_, by omega, ?_, fun q hq => ?_, fun q hq => ?_, ?_⟩
        · show (L ++ [x]).map (·.t) = g.ts ++ [g.txn t]
          rw [List.map_append, hts, List.map_cons, List.map_nil, hx]
        · intro e; simp [Lg.add] at e
        · show (g.ts ++ [g.txn t]).length ≤ nb + 1
          rw [List.length_append]; simp; exact h3
        · rcases hF' q hq with e | e
          · exact hFF q e
          · exact .inr (Nat.le_trans hT.size e)
        · rcases hv' q hq with e | e
          · exact hv q e
          · exact .inr (Nat.le_trans hT.size e)
        · exact hT.trans hT' (fun i hi e => by
            rcases e with e | e | e
            · rcases hFF i e with e' | e'
              · exact .inl e'
              · omega
            · exact .inr e
            · rcases hv i e with e' | e'
              · exact .inl e'
              · omega)
      · have e1 : g.app g.d.stable.length s r t = (0, 9, g) := by unfold Lg.app; rw [hf, if_pos rfl, if_neg (by rw [hnw]; exact hroom)]
        rw [e1]
        exact (append_full lp p s r g.seq g.pl g.used L.length m c v g.d F w hL _ Aw Ar nw cw nr cr ht' rfl hm hk hroom).mono fun e w' ⟨he, hb⟩ => ⟨he, (h'.later hb).more (Nat.le_succ _) (by omega)⟩
theorem append_kn (W0 w : World) (lp p s r n nb cb : Nat) (F0 X : Nat → Prop) (g : Lg) (h : Known W0 w lp p s r n F0 X g nb cb) (t : Tx) (Aw Ar : Option Addr) (nw cw nr cr B : Nat) (ht : TxAt W0 B t Aw nw cw Ar nr cr)
    (hB : B ≤ W0.heap.size) (hF : ∀ q, F0 q → B ≤ q) (hlp : B ≤ lp) (hsq : g.seq ≤ 1048576) (hcb : cb + 60 < 1048576) (hnb : nb + 1 ≤ 1048576) :
    Calls Tryz.prog 20 #[.pointer (some ⟨lp, 0, none⟩), .slice Aw nw cw, .slice Ar nr cr] w fun e w' =>
      e = .returned (.tuple #[.int .u64 ((g.app n s r t).1 : Int), .int .i64 ((g.app n s r t).2.1 : Int)]) ∧ Known W0 w' lp p s r n F0 X (g.app n s r t).2.2 (nb + 1) (cb + 60) :=
  append_knw W0 w lp p s r n nb cb F0 X g h t Aw Ar nw cw nr cr (fun W hW => by
    have hT := h.turns
    have hb : Below B W0 W := (hT.trans hW (G := fun q => (F0 q ∨ W0.heap.size ≤ q) ∨ q = lp) (F := fun q => F0 q ∨ q = lp) (fun i hi e => by
      rcases e with (e | e) | e
      · exact .inl e
      · omega
      · exact .inr e)).below (B := B) (fun k hk => by
      rcases hk with e | e
      · exact hF k e
      · omega) hB
    exact (ht.below hb).more (Nat.le_trans hB hT.size)) hsq hcb hnb

/-- The log on a disk that was formatted. -/
def Lg.fresh (n s : Nat) : Lg := { seq := 1, pl := 0, used := 0, d := freshD n s, ts := [] }
/-! ### What goes home, in plain words -/
def FitT (n : Nat) (t : Tx) : Prop := ∀ x ∈ t.ws, x.1.toNat < n ∧ x.2.length = 256
theorem homeW_ok (ps : List (Int × Nat)) (sq : Nat) (d : Dk.Dk) (x : Wt) (h : d.Ok) (h1 : x.1.toNat < d.stable.length) (h2 : x.2.length = 256) : (homeW ps sq d x).Ok := by
  unfold homeW; split
  · exact Dk.write_ok d h _ _ h1 h2
  · exact h
theorem homeT_ok (ps : List (Int × Nat)) (t : Tx) (d : Dk.Dk) (h : d.Ok) (hf : FitT d.stable.length t) : (homeT ps d t).Ok := by
  unfold homeT; unfold FitT at hf
  generalize t.ws = l at hf
  induction l generalizing d with
  | nil => exact h
  | cons x r ih =>
    rw [List.foldl_cons]
    refine ih _ (homeW_ok ps _ d x h (hf x (by simp)).1 (hf x (by simp)).2) (fun y hy => ?_)
    rw [homeW_size]
    exact hf y (List.mem_cons_of_mem _ hy)
theorem homeL_ok (ps : List (Int × Nat)) (ts : List Tx) (d : Dk.Dk) (h : d.Ok) (hf : ∀ t ∈ ts, FitT d.stable.length t) : (homeL ps d ts).Ok := by
  unfold homeL
  induction ts generalizing d with
  | nil => exact h
  | cons x r ih =>
    rw [List.foldl_cons]
    refine ih _ (homeT_ok ps x d h (hf x (by simp))) (fun y hy => ?_)
    rw [homeT_size]
    exact hf y (List.mem_cons_of_mem _ hy)
theorem fit_fair {n s r : Nat} {t : Tx} (h : t.mayB = true ∧ takesB n s r t = true) : FitT n t := fun x hx => by
  have h1 := outB_in h.2 hx
  exact ⟨by omega, ((mayB_iff t).1 h.1).data x hx⟩
theorem homeD_ok (s seq pl : Nat) (d : Dk.Dk) (ts : List Tx) (h : d.Ok) (hf : ∀ t ∈ ts, FitT d.stable.length t) (hs : s < d.stable.length) : ((homeL (revsOf ts) d.flush ts).flush.write s (headH seq pl)).Ok :=
  Dk.write_ok _ (Dk.flush_ok _ (homeL_ok _ _ _ (Dk.flush_ok _ h) (by rw [Dk.size_flush]; exact hf))) _ _ (by rw [Dk.size_flush, homeL_size, Dk.size_flush]; exact hs) (headH_len _ _)
theorem homeD_read (s seq pl : Nat) (d : Dk.Dk) (ts : List Tx) (h : d.Ok) (hf : ∀ t ∈ ts, FitT d.stable.length t) (hs : s < d.stable.length) (i : Nat) : (homeD s seq pl d ts).read i = if s = i then headH seq pl else (homeL (revsOf ts) d.flush ts).read i := by
  have h1 := homeL_ok (revsOf ts) ts d.flush (Dk.flush_ok _ h) (by rw [Dk.size_flush]; exact hf)
  unfold homeD
  rw [Dk.read_flush _ (homeD_ok s seq pl d ts h hf hs), Dk.read_write _ (Dk.flush_ok _ h1), Dk.read_flush _ h1]

/-- While no record is live the head says where the log is. -/
def Lg.headed (s : Nat) (g : Lg) : Prop := g.ts = [] → g.d.read s = headH g.seq g.pl
theorem Lg.home_none (s : Nat) (g : Lg) : (g.home s).ts = [] := by
  unfold Lg.home; split
  · assumption
  · rfl
theorem Lg.app_seq (n s r : Nat) (g : Lg) (t : Tx) : (g.app n s r t).2.2.seq ≤ g.seq + 1 := by
  unfold Lg.app Lg.add
  repeat' split
  all_goals simp
theorem Lg.home_seq (s : Nat) (g : Lg) : (g.home s).seq = g.seq ∧ (g.home s).pl = g.pl := by
  unfold Lg.home; split <;> exact ⟨rfl, rfl⟩
/-- A log that was just opened on a disk. -/
theorem opened_known {w : World} {p lp s r c n sq pl : Nat} {F : Nat → Prop} {d : Dk.Dk} (hD : DiskAt w p d c F) (hL : LogAt w lp p (s : Int) (r : Int) sq pl 0 (.slice none 0 0)) (hlp : ¬ F lp) (hn : d.stable.length = n) (hr : 7 ≤ r ∧ r ≤ 1023) (hs : s + r < n) (hpl : pl < r) :
    Known w w lp p s r n F NoX { seq := sq, pl := pl, used := 0, d := d, ts := [] } 0 c := by
  obtain ⟨m, hM, -⟩ := DiskAt.named hD
  exact ⟨.slice none 0 0, c, F, m, [], ⟨hM, hL, ⟨[], ⟨rfl, .inl ⟨rfl, rfl⟩⟩, (fun u hu => by cases hu)⟩, hlp, (fun k hk => by cases hk), ⟨hr.1, hr.2, hpl, by show s + 1 + r ≤ d.stable.length; omega, Nat.zero_le _⟩⟩, hn, Live.none _ _ _ _ _, (fun _ e => e.elim), rfl, (fun _ => rfl), Nat.le_refl _, Nat.le_refl _, (fun q hq => .inl hq), (fun q hq => by cases hq), Turns.refl _ _⟩
/-- The disk below it, and the log itself. -/
theorem Known.disk {W0 wr : World} {lp p s r n nb cb : Nat} {F0 X : Nat → Prop} {g : Lg} (h : Known W0 wr lp p s r n F0 X g nb cb) : ∃ c F v, DiskAt wr p g.d c F ∧ c ≤ cb ∧ (∀ q, F q → F0 q ∨ W0.heap.size ≤ q) ∧ LogAt wr lp p (s : Int) (r : Int) g.seq g.pl g.used v ∧ ¬ F lp := by
  obtain ⟨v, c, F, m, L, a1, a2, a3, aX, a4, a5, a6, a7, a8, a9, a10⟩ := h
  exact ⟨c, F, v, a1.disk.at, a6, a8, a1.log, a1.apartL⟩
end Go.Proofs.YtelnoibfamcnmaaGreat.Log
