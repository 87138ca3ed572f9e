/- A log that goes on while a law keeps a list of records of its own beside it. -/
import Derived.Test.YtelnoibfamcnmaaGreatLgHomed
import Derived.Test.YtelnoibfamcnmaaGreatRfCopy
namespace Go.Proofs.YtelnoibfamcnmaaGreat.Log
set_option maxRecDepth 20000
open Go.RowKit
open Go.Proofs.YtelnoibfamcnmaaGreat.Mem Go.Proofs.YtelnoibfamcnmaaGreat.Crc Go.Proofs.YtelnoibfamcnmaaGreat.Disk
open Go.Proofs.YtelnoibfamcnmaaGreat.Rec (Tx Wt TxAt HoldsW HoldsI IsInt mayB_iff OwnsT Wide Copied copy_any)

/-- Since the world w3 only the log's own blocks have turned; v is the law's list of the records L. -/
structure HomeRun (w3 wr : World) (F0 : Nat → Prop) (lp p s r n : Nat) (g : Lg) (k cb : Nat) (v : Value) (L : List LiveRec) : Prop where
  turns : Turns (fun q => F0 q ∨ q = lp) w3 wr
  own : ∀ q, v.ownBlock = some q → w3.heap.size ≤ q
  log : ∃ F1, Known wr wr lp p s r n F1 (fun q => v.ownBlock = some q) g k cb ∧ (∀ q, F1 q → F0 q ∨ w3.heap.size ≤ q) ∧ (∀ q, F1 q → q < wr.heap.size) ∧ lp < wr.heap.size ∧ (∀ q, v.ownBlock = some q → ¬ F1 q ∧ q ≠ lp) ∧ Live wr (fun q => F1 q ∨ q = lp ∨ v.ownBlock = some q) n s r v L.length L

theorem HomeRun.call {w3 wr : World} {F0 : Nat → Prop} {lp p s r n k cb : Nat} {g : Lg} {v : Value} {L : List LiveRec} (h : HomeRun w3 wr F0 lp p s r n g k cb v L) :
    ∃ F1, Known wr wr lp p s r n F1 (fun q => v.ownBlock = some q) g k cb ∧ (∀ q, F1 q → F0 q ∨ w3.heap.size ≤ q) ∧ ∀ w' g' k' cb', Known wr w' lp p s r n F1 (fun q => v.ownBlock = some q) g' k' cb' → HomeRun w3 w' F0 lp p s r n g' k' cb' v L := by
  obtain ⟨F1, hK, hF, hlt, hlp, hown, hL⟩ := h.log
  refine ⟨F1, hK, hF, fun w' g' k' cb' hk => ?_⟩
  obtain ⟨F2, hK2, hF2, hlt2, hlp2⟩ := hk.base
  have hT := hk.turns
  refine ⟨h.turns.trans hT (fun i hi e => ?_), h.own, F2, hK2, fun q e => ?_, hlt2, hlp2, fun q e => ⟨fun e2 => ?_, (hown q e).2⟩, hL.turns (hT.mono (fun q _ e => ?_)) (fun i hi e => ?_)⟩
  · rcases e with e | e
    · rcases hF i e with e | e
      · exact .inl e
      · omega
    · exact .inr e
  · rcases hF2 q e with e | e
    · exact hF q e
    · have := h.turns.size; exact .inr (by omega)
  · rcases hF2 q e2 with e2 | e2
    · exact (hown q e).1 e2
    · have := hL.row.lt e; omega
  · refine ⟨e.imp id .inl, fun e' => ?_⟩
    rcases e with e | e
    · exact (hown q e').1 e
    · exact (hown q e').2 e
  · rcases e with e | e | e
    · rcases hF2 i e with e | e
      · exact .inl e
      · omega
    · exact .inr (.inl e)
    · exact .inr (.inr e)
theorem HomeRun.later {w3 wr w' : World} {F0 : Nat → Prop} {lp p s r n k cb : Nat} {g : Lg} {v : Value} {L : List LiveRec} (h : HomeRun w3 wr F0 lp p s r n g k cb v L) (hb : Below wr.heap.size wr w') : HomeRun w3 w' F0 lp p s r n g k cb v L := by
  obtain ⟨F1, hK, -, hn⟩ := h.call
  exact hn w' g k cb (hK.later hb)
theorem HomeRun.more {w3 wr : World} {F0 : Nat → Prop} {lp p s r n k cb k' cb' : Nat} {g : Lg} {v : Value} {L : List LiveRec} (h : HomeRun w3 wr F0 lp p s r n g k cb v L) (h1 : k ≤ k') (h2 : cb ≤ cb') : HomeRun w3 wr F0 lp p s r n g k' cb' v L := by
  obtain ⟨F1, hK, -, hn⟩ := h.call
  exact hn wr g k' cb' (hK.more h1 h2)
theorem HomeRun.at {w3 wr : World} {F0 : Nat → Prop} {lp p s r n k cb : Nat} {g : Lg} {v : Value} {L : List LiveRec} (h : HomeRun w3 wr F0 lp p s r n g k cb v L) : ∃ c F, DiskAt wr p g.d c F ∧ c ≤ cb ∧ g.d.Ok := by
  obtain ⟨F1, hK, -⟩ := h.call
  exact hK.at
theorem HomeRun.list {w3 wr : World} {F0 : Nat → Prop} {lp p s r n k cb : Nat} {g : Lg} {v : Value} {L : List LiveRec} (h : HomeRun w3 wr F0 lp p s r n g k cb v L) : ∃ G, Live wr G n s r v L.length L := by
  obtain ⟨F1, -, -, -, -, -, hL⟩ := h.log
  exact ⟨_, hL⟩
theorem HomeRun.start {w3 : World} {F0 : Nat → Prop} {lp p s r n : Nat} {g : Lg} {nb cb : Nat} (h : Known w3 w3 lp p s r n F0 NoX g nb cb) : HomeRun w3 w3 F0 lp p s r n g nb cb (.slice none 0 0) [] := by
  obtain ⟨F1, hK, hF, hlt, hlp⟩ := h.base
  have hX : Known w3 w3 lp p s r n F1 (fun q => (Value.slice none 0 0).ownBlock = some q) g nb cb := hK.aside (Turns.refl _ _) (fun _ _ e => e) (fun e => e) (fun q e => by cases e)
  exact ⟨Turns.refl _ _, (fun q e => by cases e), F1, hX, hF, hlt, hlp, (fun q e => by cases e), Live.none _ _ _ _ _⟩

theorem append_hr (w3 w : World) (F0 : Nat → Prop) (lp p s r n k cb : Nat) (g : Lg) (v : Value) (L : List LiveRec) (h : HomeRun w3 w F0 lp p s r n g k cb v L) (t : Tx) (Aw Ar : Option Addr) (nw cw nr cr B : Nat) (ht : TxAt w3 B t Aw nw cw Ar nr cr)
    (hB : B ≤ w3.heap.size) (hF : ∀ q, F0 q → B ≤ q) (hlp : B ≤ lp) (hsq : g.seq ≤ 1048576) (hcb : cb + 60 < 1048576) (hk : k + 1 ≤ 1048576) :
    Calls Tryz.prog 20 #[.pointer (some ⟨lp, 0, none⟩), .slice Aw nw cw, .slice Ar nr cr] w fun e w' =>
      e = .returned (.tuple #[.int .u64 ((g.app n s r t).1 : Int), .int .i64 ((g.app n s r t).2.1 : Int)]) ∧ HomeRun w3 w' F0 lp p s r n (g.app n s r t).2.2 (k + 1) (cb + 60) v L := by
  obtain ⟨F1, hK, hF1, hn⟩ := h.call
  have hb : Below B w3 w := h.turns.below (fun q e => by
    rcases e with e | e
    · exact hF q e
    · omega) hB
  exact (append_kn w w lp p s r n k cb F1 _ g hK t Aw Ar nw cw nr cr B (ht.below hb) (Nat.le_trans hB hb.size) (fun q e => by
    rcases hF1 q e with e | e
    · exact hF q e
    · omega) hlp hsq hcb hk).mono fun e w' h => ⟨h.1, hn _ _ _ _ h.2⟩
theorem home_hr (w3 w : World) (F0 : Nat → Prop) (lp p s r n k cb : Nat) (g : Lg) (v : Value) (L : List LiveRec) (h : HomeRun w3 w F0 lp p s r n g k cb v L) (hcb : cb + 58 * k + 1 < 1048576) :
    Calls Tryz.prog 26 #[.pointer (some ⟨lp, 0, none⟩)] w fun e w' => e = .returned (.tuple #[]) ∧ HomeRun w3 w' F0 lp p s r n (g.home s) k (cb + 58 * k + 1) v L := by
  obtain ⟨F1, hK, hF1, hn⟩ := h.call
  exact (home_kn w w lp p s r n k cb F1 _ g hK hcb).mono fun e w' h => ⟨h.1, hn _ _ _ _ h.2⟩
theorem room_hr (w3 w : World) (F0 : Nat → Prop) (lp p s r n k cb : Nat) (g : Lg) (v : Value) (L : List LiveRec) (h : HomeRun w3 w F0 lp p s r n g k cb v L) :
    Calls Tryz.prog 25 #[.pointer (some ⟨lp, 0, none⟩)] w fun e w' => e = .returned (.int .i64 ((r : Int) - (g.used : Int))) ∧ Below w.heap.size w w' := by
  obtain ⟨F1, hK, -⟩ := h.call
  exact room_kn w w lp p s r n k cb F1 _ g hK
theorem HomeRun.size {w3 wr : World} {F0 : Nat → Prop} {lp p s r n k cb : Nat} {g : Lg} {v : Value} {L : List LiveRec} (h : HomeRun w3 wr F0 lp p s r n g k cb v L) : g.d.stable.length = n ∧ (∀ t ∈ g.ts, t.mayB = true ∧ takesB n s r t = true) ∧ s + 1 + r ≤ n ∧ (g.ts = [] → g.used = 0) ∧ 7 ≤ r ∧ r ≤ 1023 := by
  obtain ⟨F1, hK, -⟩ := h.call
  have := hK.ring
  exact ⟨hK.size, hK.fair, this.2.2.2.1, hK.roomy, this.1, this.2.1⟩

set_option maxHeartbeats 1000000 in
/-- The law's own append: a record that lies in memory made since the world V0. -/
theorem list_append {w3 V0 V : World} {F0 : Nat → Prop} {lp p s r n k cb q0 : Nat} {g : Lg} {v : Value} {L : List LiveRec} (x : LiveRec) (ty : TypeId) (h : HomeRun w3 V0 F0 lp p s r n g k cb v L) (hb : Below V0.heap.size V0 V)
    (hnew : V.heap[q0]? = some (.cells #[.int .u64 (x.t.seq : Int), .slice x.Aw x.t.ws.length x.cw, .slice x.Ar x.t.rs.length x.cr] 63 (0, 0))) (hst : ∀ W, Turns (fun q => q < V0.heap.size) V W → x.At W) (hf : x.t.mayB = true ∧ takesB n s r x.t = true) (hl : L.length < 1048576) :
    ∃ A' c' V', (Builtin.append_ #[24, 24] ty #[v, .slice (some ⟨q0, 0, none⟩) 1 1]).run Tryz.prog V = .ok (.slice A' (L.length + 1) c') V' ∧ HomeRun w3 V' F0 lp p s r n g k cb (.slice A' (L.length + 1) c') (L ++ [x]) := by
  obtain ⟨F1, hK, hF, hlt, hlp, hown, hL⟩ := h.log
  have hrow := hL.row.turns (Turns.of_below (F := fun _ => False) hb) (fun _ _ e => e)
  obtain ⟨i0, hi, hz0, hz1, hz2⟩ := info_parts info_txn
  obtain ⟨v9, V', hrun, hrow9, hgrow, -, hob⟩ := run_append_own_at (P := Tryz.prog) (w := V) 0 24 ty 63 i0 (.agg #[.int .u64 0, .slice none 0 0, .slice none 0 0]) 3 56 Tryz.underlying24 hi hz0 hz1 hz2 rfl (by decide) v L.length (L.flatMap LiveRec.cells) hrow ⟨q0, 0, none⟩ 1 1 x.cells rfl (fun j u hu => by
    have hadd : (⟨q0, 0, none⟩ : Addr).add j = ⟨q0, j, none⟩ := by unfold Addr.add; split <;> simp_all
    rw [hadd, cell_of_row _ _ _ _ _ _ hnew]
    simpa [LiveRec.cells] using hu) (by intro u hu; simp [LiveRec.cells] at hu; rcases hu with rfl | rfl | rfl <;> rfl) (by unfold maxLen; omega) (by omega) (Nat.zero_le _)
  obtain ⟨A', c', rfl⟩ : ∃ A' c', v9 = .slice A' (L.length + 1) c' := by
    rcases hrow9.2 with ⟨e, h0⟩ | ⟨g', cap', cur', e, _⟩
    · exact ⟨none, 0, by rw [e, h0]⟩
    · exact ⟨_, _, e⟩
  have hvV : ∀ q, v.ownBlock = some q → q < V0.heap.size := fun q e => hL.row.lt e
  have hsz := hb.size
  have hTX : Turns (fun q => v.ownBlock = some q) V0 V' := (Turns.of_below (F := fun q => v.ownBlock = some q) hb).grown hgrow (fun q e _ => e)
  have hobc : ∀ q, (Value.slice A' (L.length + 1) c').ownBlock = some q → v.ownBlock = some q ∨ V.heap.size ≤ q := fun q e => by
    rcases hob with e' | e'
    · exact .inl (e' ▸ e)
    · rw [e'] at e; injection e with e; exact .inr (by omega)
  have hlt9 : ∀ q, (Value.slice A' (L.length + 1) c').ownBlock = some q → q < V'.heap.size := fun q e => Row.lt (w := V') (e := 63) (size := 3) (n := L.length + 1) hrow9 e
  refine ⟨A', c', V', hrun, h.turns.trans hTX (fun i hi e => by have := h.own i e; omega), fun q e => ?_, F1, hK.aside hTX (fun q e e' => (hown q e').1 e) (fun e' => (hown _ e').2 rfl) (fun q e => ⟨(hobc q e).imp id (fun e => by omega), hlt9 q e⟩), hF, fun q e => Nat.lt_of_lt_of_le (hlt q e) hTX.size, Nat.lt_of_lt_of_le hlp hTX.size, fun q e => ?_, ?_⟩
  · rcases hobc q e with e | e
    · exact h.own q e
    · have := h.turns.size; omega
  · rcases hobc q e with e | e
    · exact hown q e
    · exact ⟨fun e' => by have := hlt q e'; omega, by omega⟩
  · have hln : (L ++ [x]).length = L.length + 1 := by simp
    rw [hln]
    refine hL.more (hTX.mono (fun q _ e => .inr (.inr e))) (fun i hi e => ?_) hrow9 hf (fun W hW => hst W ?_)
    · rcases e with e | e | e
      · exact .inl e
      · exact .inr (.inl e)
      · rcases hobc i e with e | e
        · exact .inr (.inr e)
        · omega
    · have hT1 : Turns (fun q => q < V0.heap.size) V V' := (Turns.refl (fun q => q < V0.heap.size) V).grown hgrow (fun q e _ => hvV q e)
      refine hT1.trans hW (fun i hi e => ?_)
      rcases e with e | e | e
      · exact hlt i e
      · omega
      · rcases hobc i e with e | e
        · exact hvV i e
        · omega
theorem Lg.app_cases (n s r : Nat) (g : Lg) (t : Tx) : (g.app n s r t = (g.seq, 0, g.add s r t) ∧ g.fair n s r t = true) ∨ (∃ b, b ≠ 0 ∧ g.app n s r t = (0, b, g)) := by
  unfold Lg.app
  split
  · rename_i h
    split
    · exact .inl ⟨rfl, h⟩
    · exact .inr ⟨9, by omega, rfl⟩
  · exact .inr ⟨17, by omega, rfl⟩
/-- A record that the log takes, copied by the law. -/
theorem copied_steady {w5 w6 V : World} {g : Lg} {n s r nw nr : Nat} {t : Tx} {Aw Ar Bw Br : Option Addr} {cw cr dw dr B : Nat} {vs : List Value} (ht : TxAt w5 B t Aw nw cw Ar nr cr) (hf : g.fair n s r t = true) (hsq : g.seq ≤ 1048576)
    (ho : OwnsT w6 w5.heap.size t Bw dw Br dr vs) (hb : Below w6.heap.size w6 V) : ∀ W, Turns (fun q => q < w5.heap.size) V W → LiveRec.At ⟨g.txn t, Bw, dw, Br, dr⟩ W := fun W hW => by
  have ho' : OwnsT w6 w5.heap.size (g.txn t) Bw dw Br dr vs := ⟨ho.ws, ho.rs⟩
  unfold Lg.fair at hf
  rw [Bool.and_eq_true] at hf
  have hm := ((mayB_iff _).1 hf.1).hi
  refine owns_txat (ho'.kept (fun q h1 h2 => ?_)) (by show g.seq < 18446744073709551616; omega) (by show (g.txn t).ws.length ≤ _; omega) (by show (g.txn t).rs.length ≤ _; omega) ht.intW ht.intR
  exact (hW.block q (by have := hb.size; omega) (by show ¬ q < w5.heap.size; omega)).trans (hb.block q h2)
theorem fair_wide {g : Lg} {n s r : Nat} {t : Tx} (hf : g.fair n s r t = true) : Wide t ∧ (g.txn t).mayB = true ∧ takesB n s r (g.txn t) = true ∧ t.ws.length ≤ 58 ∧ t.rs.length ≤ 58 := by
  unfold Lg.fair at hf
  rw [Bool.and_eq_true] at hf
  have hm := (mayB_iff _).1 hf.1
  have hi := hm.hi
  simp only [Lg.txn] at hi
  exact ⟨⟨fun x hx => by have := hm.data x hx; omega, by omega, by omega⟩, hf.1, hf.2, by omega, by omega⟩
/-- Where the parts of a list lie, in every later world. -/
theorem live_cells {w : World} {G : Nat → Prop} {n s r nl c : Nat} {A : Option Addr} {L : List LiveRec} (h : Live w G n s r (.slice A nl c) nl L) (hpos : 0 < nl) :
    ∃ gb, A = some ⟨gb, 0, none⟩ ∧ ∀ V, Below w.heap.size w V → ∀ q x, L[q]? = some x → V.cell? ⟨gb, q * 3 + 1, none⟩ = some (.slice x.Aw x.t.ws.length x.cw) := by
  have hcnt := h.cnt
  obtain ⟨x0, hx0⟩ : ∃ x, L[0]? = some x := ⟨_, List.getElem?_eq_getElem (by omega)⟩
  obtain ⟨g, cap, hv, -, -⟩ := Row.cells3 h.row hx0
  injection hv with hv1 _ _
  refine ⟨g, hv1, fun V hV q x hx => ?_⟩
  have hr2 := h.row.turns (Turns.of_below (F := fun _ => False) hV) (fun _ _ e => e)
  obtain ⟨g2, cap2, hv2, -, -, e2, -⟩ := Row.cells3 hr2 hx
  injection hv2 with hv3 _ _
  rw [hv1] at hv3
  injection hv3 with hv3
  injection hv3 with hv3
  subst hv3
  exact e2
theorem live_write {w : World} {G : Nat → Prop} {n s r nl : Nat} {v : Value} {L : List LiveRec} (h : Live w G n s r v nl L) {q : Nat} {x : LiveRec} (hx : L[q]? = some x) {j : Nat} {y : Wt} (hy : x.t.ws[j]? = some y) :
    ∃ bb off A2 c2, x.Aw = some ⟨bb, off, none⟩ ∧ ∀ V, Below w.heap.size w V → V.cell? ⟨bb, off + j * 2, none⟩ = some (.int .i64 y.1) ∧ V.cell? ⟨bb, off + j * 2 + 1, none⟩ = some (.slice A2 256 c2) ∧ Holds V w.heap.size A2 256 y.2 := by
  have hxm := List.mem_of_getElem? hx
  have hat := h.stays x hxm w (Turns.refl _ _)
  have hd := ((mayB_iff x.t).1 (h.fair x hxm).1).data y (List.mem_of_getElem? hy)
  obtain ⟨bb, off, hA, hbl, hc⟩ := hat.ws.2 (by have := (List.getElem?_eq_some_iff.1 hy).1; omega)
  obtain ⟨e0, A2, c2, e1, hh, -⟩ := hc j y hy
  rw [hd] at e1 hh
  exact ⟨bb, off, A2, c2, hA, fun V hV => ⟨(hV.cell (p := ⟨bb, off + j * 2, none⟩) hbl).trans e0, (hV.cell (p := ⟨bb, off + j * 2 + 1, none⟩) hbl).trans e1, hh.below hV⟩⟩
theorem live_few {w : World} {G : Nat → Prop} {n s r nl : Nat} {v : Value} {L : List LiveRec} (h : Live w G n s r v nl L) {q : Nat} {x : LiveRec} (hx : L[q]? = some x) : x.t.ws.length ≤ 58 := by
  have := ((mayB_iff x.t).1 (h.fair x (List.mem_of_getElem? hx)).1).hi
  omega
end Go.Proofs.YtelnoibfamcnmaaGreat.Log
