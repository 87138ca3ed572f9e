/- A log that goes on while a law keeps a list of records of its own beside it. -/
import Derived.Test.YtelnoibfamcnmaaLgHomed
import Derived.Test.YtelnoibfamcnmaaRfCopy
namespace Go.Proofs.Ytelnoibfamcnmaa.Log
set_option maxRecDepth 20000
open Go.RowKit
open Go.Proofs.Ytelnoibfamcnmaa.Mem Go.Proofs.Ytelnoibfamcnmaa.Crc Go.Proofs.Ytelnoibfamcnmaa.Disk
open Go.Proofs.Ytelnoibfamcnmaa.Rec (Tx Wt TxAt HoldsW HoldsI IsInt mayB_iff OwnsT Wide Copied copy_any)

/-- Since the world w3 only the log's own blocks have turned; v is the law's list of the records L. -/
structure HomeRun (w3 wr : World) (F0 : Nat → Prop) (lp p s r n : Nat) (g : Lg) (k cb : Nat) (v : Value) (L : List LiveRec) : Prop where
  turns : Turns (fun q => F0 q ∨ q = lp) w3 wr
  own : ∀ q, v.ownBlock = some q → w3.heap.size ≤ q
  log : ∃ F1, Known wr wr lp p s r n F1 (fun q => v.ownBlock = some q) g k cb ∧ (∀ q, F1 q → F0 q ∨ w3.heap.size ≤ q) ∧ (∀ q, F1 q → q < wr.heap.size) ∧ lp < wr.heap.size ∧ (∀ q, v.ownBlock = some q → ¬ F1 q ∧ q ≠ lp) ∧ Live wr (fun q => F1 q ∨ q = lp ∨ v.ownBlock = some q) n s r v L.length L

theorem HomeRun.call {w3 wr : World} {F0 : Nat → Prop} {lp p s r n k cb : Nat} {g : Lg} {v : Value} {L : List LiveRec} (h : HomeRun w3 wr F0 lp p s r n g k cb v L) :
    ∃ F1, Known wr wr lp p s r n F1 (fun q => v.ownBlock = some q) g k cb ∧ (∀ q, F1 q → F0 q ∨ w3.heap.size ≤ q) ∧ ∀ w' g' k' cb', Known wr w' lp p s r n F1 (fun q => v.ownBlock = some q) g' k' cb' → HomeRun w3 w' F0 lp p s r n g' k' cb' v L := by
  obtain ⟨F1, hK, hF, hlt, hlp, hown, hL⟩ := h.log
  refine ⟨F1, hK, hF, fun w' g' k' cb' hk => ?_⟩
  obtain ⟨F2, hK2, hF2, hlt2, hlp2⟩ := hk.base
  have hT := hk.turns
  refine ⟨h.turns.trans hT (fun i hi e => ?_), h.own, F2, hK2, fun q e => ?_, hlt2, hlp2, fun q e => ⟨fun e2 => ?_, (hown q e).2⟩, hL.turns (hT.mono (fun q _ e => ?_)) (fun i hi e => ?_)⟩
  · rcases e with e | e
    · rcases hF i e with e | e
      · exact .inl e
      · omega
    · exact .inr e
  · rcases hF2 q e with e | e
    · exact hF q e
    · have := h.turns.size; exact .inr (by omega)
  · rcases hF2 q e2 with e2 | e2
    · exact (hown q e).1 e2
    · have := hL.row.lt e; omega
  · refine ⟨e.imp id .inl, fun e' => ?_⟩
    rcases e with e | e
    · exact (hown q e').1 e
    · exact (hown q e').2 e
  · rcases e with e | e | e
    · rcases hF2 i e with e | e
      · exact .inl e
      · omega
    · exact .inr (.inl e)
    · exact .inr (.inr e)
theorem HomeRun.later {w3 wr w' : World} {F0 : Nat → Prop} {lp p s r n k cb : Nat} {g : Lg} {v : Value} {L : List LiveRec} (h : HomeRun w3 wr F0 lp p s r n g k cb v L) (hb : Below wr.heap.size wr w') : HomeRun w3 w' F0 lp p s r n g k cb v L := by
  obtain ⟨F1, hK, -, hn⟩ := h.call
  exact hn w' g k cb (hK.later hb)
theorem HomeRun.more {w3 wr : World} {F0 : Nat → Prop} {lp p s r n k cb k' cb' : Nat} {g : Lg} {v : Value} {L : List LiveRec} (h : HomeRun w3 wr F0 lp p s r n g k cb v L) (h1 : k ≤ k') (h2 : cb ≤ cb') : HomeRun w3 wr F0 lp p s r n g k' cb' v L := by
  obtain ⟨F1, hK, -, hn⟩ := h.call
  exact hn wr g k' cb' (hK.more h1 h2)
theorem HomeRun.at {w3 wr : World} {F0 : Nat → Prop} {lp p s r n k cb : Nat} {g : Lg} {v : Value} {L : List LiveRec} (h : HomeRun w3 wr F0 lp p s r n g k cb v L) : ∃ c F, DiskAt wr p g.d c F ∧ c ≤ cb ∧ g.d.Ok := by
  obtain ⟨F1, hK, -⟩ := h.call
  exact hK.at
theorem HomeRun.list {w3 wr : World} {F0 : Nat → Prop} {lp p s r n k cb : Nat} {g : Lg} {v : Value} {L : List LiveRec} (h : HomeRun w3 wr F0 lp p s r n g k cb v L) : ∃ G, Live wr G n s r v L.length L := by
  obtain ⟨F1, -, -, -, -, -, hL⟩ := h.log
  exact ⟨_, hL⟩
theorem HomeRun.start {w3 : World} {F0 : Nat → Prop} {lp p s r n : Nat} {g : Lg} {nb cb : Nat} (h : Known w3 w3 lp p s r n F0 NoX g nb cb) : HomeRun w3 w3 F0 lp p s r n g nb cb (.slice none 0 0) [] := by
  obtain ⟨F1, hK, hF, hlt, hlp⟩ := h.base
  have hX : Known w3 w3 lp p s r n F1 (fun q => (Value.slice none 0 0).ownBlock = some q) g nb cb := hK.aside (Turns.refl _ _) (fun _ _ e => e) (fun e => e) (fun q e => by cases e)
  exact ⟨Turns.refl _ _, (fun q e => by cases e), F1, hX, hF, hlt, hlp, (fun q e => by cases e), Live.none _ _ _ _ _⟩

theorem HomeRun.size {w3 wr : World} {F0 : Nat → Prop} {lp p s r n k cb : Nat} {g : Lg} {v : Value} {L : List LiveRec} (h : HomeRun w3 wr F0 lp p s r n g k cb v L) : g.d.stable.length = n ∧ (∀ t ∈ g.ts, t.mayB = true ∧ takesB n s r t = true) ∧ s + 1 + r ≤ n ∧ (g.ts = [] → g.used = 0) ∧ 7 ≤ r ∧ r ≤ 1023 := by
  obtain ⟨F1, hK, -⟩ := h.call
  have := hK.ring
  exact ⟨hK.size, hK.fair, this.2.2.2.1, hK.roomy, this.1, this.2.1⟩

theorem fair_wide {g : Lg} {n s r : Nat} {t : Tx} (hf : g.fair n s r t = true) : Wide t ∧ (g.txn t).mayB = true ∧ takesB n s r (g.txn t) = true ∧ t.ws.length ≤ 58 ∧ t.rs.length ≤ 58 := by
  unfold Lg.fair at hf
  rw [Bool.and_eq_true] at hf
  have hm := (mayB_iff _).1 hf.1
  have hi := hm.hi
  simp only [Lg.txn] at hi
  exact ⟨⟨fun x hx => by have := hm.data x hx; omega, by omega, by omega⟩, hf.1, hf.2, by omega, by omega⟩
/-- Where the parts of a list lie, in every later world. -/
theorem live_cells {w : World} {G : Nat → Prop} {n s r nl c : Nat} {A : Option Addr} {L : List LiveRec} (h : Live w G n s r (.slice A nl c) nl L) (hpos : 0 < nl) :
    ∃ gb, A = some ⟨gb, 0, none⟩ ∧ ∀ V, Below w.heap.size w V → ∀ q x, L[q]? = some x → V.cell? ⟨gb, q * 3 + 1, none⟩ = some (.slice x.Aw x.t.ws.length x.cw) := by
  have hcnt := h.cnt
  obtain ⟨x0, hx0⟩ : ∃ x, L[0]? = some x := ⟨_, List.getElem?_eq_getElem (by omega)⟩
  obtain ⟨g, cap, hv, -, -⟩ := Row.cells3 h.row hx0
  injection hv with hv1 _ _
  refine ⟨g, hv1, fun V hV q x hx => ?_⟩
  have hr2 := h.row.turns (Turns.of_below (F := fun _ => False) hV) (fun _ _ e => e)
  obtain ⟨g2, cap2, hv2, -, -, e2, -⟩ := Row.cells3 hr2 hx
  injection hv2 with hv3 _ _
  rw [hv1] at hv3
  injection hv3 with hv3
  injection hv3 with hv3
  subst hv3
  exact e2
theorem live_write {w : World} {G : Nat → Prop} {n s r nl : Nat} {v : Value} {L : List LiveRec} (h : Live w G n s r v nl L) {q : Nat} {x : LiveRec} (hx : L[q]? = some x) {j : Nat} {y : Wt} (hy : x.t.ws[j]? = some y) :
    ∃ bb off A2 c2, x.Aw = some ⟨bb, off, none⟩ ∧ ∀ V, Below w.heap.size w V → V.cell? ⟨bb, off + j * 2, none⟩ = some (.int .i64 y.1) ∧ V.cell? ⟨bb, off + j * 2 + 1, none⟩ = some (.slice A2 256 c2) ∧ Holds V w.heap.size A2 256 y.2 := by
  have hxm := List.mem_of_getElem? hx
  have hat := h.stays x hxm w (Turns.refl _ _)
  have hd := ((mayB_iff x.t).1 (h.fair x hxm).1).data y (List.mem_of_getElem? hy)
  obtain ⟨bb, off, hA, hbl, hc⟩ := hat.ws.2 (by have := (List.getElem?_eq_some_iff.1 hy).1; omega)
  obtain ⟨e0, A2, c2, e1, hh, -⟩ := hc j y hy
  rw [hd] at e1 hh
  exact ⟨bb, off, A2, c2, hA, fun V hV => ⟨(hV.cell (p := ⟨bb, off + j * 2, none⟩) hbl).trans e0, (hV.cell (p := ⟨bb, off + j * 2 + 1, none⟩) hbl).trans e1, hh.below hV⟩⟩
theorem live_few {w : World} {G : Nat → Prop} {n s r nl : Nat} {v : Value} {L : List LiveRec} (h : Live w G n s r v nl L) {q : Nat} {x : LiveRec} (hx : L[q]? = some x) : x.t.ws.length ≤ 58 := by
  have := ((mayB_iff x.t).1 (h.fair x (List.mem_of_getElem? hx)).1).hi
  omega
end Go.Proofs.Ytelnoibfamcnmaa.Log
