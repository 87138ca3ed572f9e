/- Contracts of the program's adding a pending write, and of its adding a ghost. -/
import Derived.Test.YtbmbolgmeehloaaDkKeep
import Derived.Deep.AppendLies
import Derived.Deep.RegionLaw
import Derived.Great.BuildSlice
namespace Go.Proofs.Ytbmbolgmeehloaa.Disk
set_option maxRecDepth 20000
open Go.RowKit
open Go.Proofs.Ytbmbolgmeehloaa.Mem
attribute [local go_sem ↓] Go.wp_at_zero Go.wp_at_succ ldW_eq stW_eq newW_eq mkW_eq oneW_eq

theorem intLit (n : Nat) (h : n ≤ 4294967296) : (Lit.int .i64 (n : Int)).wf = true := by
  simp [Lit.wf, show IntKind.i64.min = -9223372036854775808 from rfl, show IntKind.i64.max = 9223372036854775807 from rfl]
  omega
theorem Row.shape {w : World} {e : TypeId} {size : Nat} {v : Value} {n : Nat} {xs : List Value} (h : Row w e size v n xs) : ∃ A c, v = .slice A n c := by
  rcases h.2 with ⟨rfl, rfl⟩ | ⟨g, cap, cur, rfl, _⟩
  · exact ⟨none, 0, rfl⟩
  · exact ⟨_, _, rfl⟩

/-- The device behind a write more. -/
def Added (w : World) (p m : Nat) (L : Low) (vs vw : Value) (e : Ending) (w' : World) : Prop :=
  ∃ vw', e = .returned (.tuple #[]) ∧ LowAt w' p L vs vw' m ∧ (∀ k, vw'.ownBlock = some k → vw.ownBlock = some k ∨ w.heap.size ≤ k) ∧ Turns (fun k => k = p ∨ k = m ∨ vw.ownBlock = some k) w w'

set_option maxRecDepth 100000 in
set_option maxHeartbeats 1000000 in
theorem add_any (L : Low) (p m n : Nat) (x : Wr) (vs vw : Value) (w : World) (h : LowAt w p L vs vw m) (hm : n ≤ 1024) (hx : x.1 < n) (hl : x.2.length = 256) (hw : L.ws.length ≤ 1048576) (hpd : L.pend ≤ 1048576) :
    Calls Try.prog 60 #[.pointer (some ⟨p, 0, none⟩), .agg (wcells x).toArray] w (Added w p m { L with ws := L.ws ++ [x], pend := L.pend + 1 } vs vw) := by
  have c1 := h.f1
  have c2 := h.f2
  have c3 := h.f3
  have hpl := h.p_lt
  have hml := h.last.lt
  have hap := h.apart
  obtain ⟨A, cp, rfl⟩ := h.ws.shape
  obtain ⟨cs, hC⟩ : ∃ cs, cs = wcells x := ⟨_, rfl⟩
  rw [← hC]
  have hCs : cs.length = 257 := by rw [hC, wcells_len x hl]
  have hC0 : cs.toArray[0]? = some (.int .i64 (x.1 : Int)) := by rw [hC]; rfl
  have hC1 : ∀ v ∈ cs, v.oneCell' = true := by rw [hC]; intro v hv; exact flat_one [x] v (by simpa [flat] using hv)
  have hone := run_oneW cs hCs
  obtain ⟨i0, hi, hz0, hz1, hz2⟩ := info_parts info_wr
  have HC := Lib.hid hC; clear hC
  have H := Lib.hid h; clear h
  have HCS := Lib.hid hCs
  have HC0 := Lib.hid hC0; clear hC0
  have hcs := HCS.out
  clear hCs
  have HAP := Lib.hid hap; clear hap
  go_enter Try.func60, Try.ntmps60
  go_wp2
  obtain ⟨W, hW⟩ : ∃ W, w.alloc (.cells cs.toArray 96) = W := ⟨_, rfl⟩
  rw [hW]
  have hbl : ∀ k, k < w.heap.size → W.heap[k]? = w.heap[k]? := fun k hk => by rw [← hW]; exact Below.heap_alloc _ _ _ hk
  have hB : W.heap[w.heap.size]? = some (.cells cs.toArray 96 (0, 0)) := by rw [← hW]; exact heap_alloc_new w _
  have hWs : W.heap.size = w.heap.size + 1 := by rw [← hW]; simp
  have ht1 : Turns (fun k => k = p ∨ k = m ∨ (Value.slice A L.ws.length cp).ownBlock = some k) w W := by rw [← hW]; exact (Turns.refl _ w).alloc _
  have a1 : W.cell? ⟨p, 1, none⟩ = some (.slice A L.ws.length cp) := by rw [World.cell?_of_block (hbl p hpl)]; exact c1
  have a3 : W.cell? ⟨p, 3, none⟩ = some (.map (some m)) := by rw [World.cell?_of_block (hbl p hpl)]; exact c3
  have aB : W.cell? ⟨w.heap.size, 0, none⟩ = some (.int .i64 (x.1 : Int)) := by rw [cell_of_row _ _ _ _ _ _ hB]; exact HC0.out
  have hM : W.drew.ownsMap Try.prog 3 (plainElem Try.prog 3) m L.ws.length (lastD (nums L.ws)) := by
    obtain ⟨es, clock, g1, g2⟩ := H.out.last
    exact ⟨es, clock, (hbl m hml).trans g1, g2⟩
  have hk : keyOf Try.prog 3 (.int .i64 (x.1 : Int)) = some (keyL x.1) := Maps.keyOf_int_mk Try.underlying3 (intLit x.1 (by omega))
  have hv : plainElem (H := Unit) Try.prog 3 (.int .i64 (L.ws.length : Int)) = some (placeD L.ws.length, []) := plainElem_int Try.underlying3 (intLit L.ws.length (by omega))
  obtain ⟨w2, hrun, hM2, hg2⟩ := hM.update (t := 90) intKey Try.underlying90 (by unfold maxLen; omega) hk hv
  clear hk hv
  clear hW
  have hbl2 : ∀ k, k < W.heap.size → k ≠ m → w2.heap[k]? = W.heap[k]? := fun k hk hne => hg2.block k hk (fun e => hne (by injection e))
  have b1 : w2.cell? ⟨p, 1, none⟩ = some (.slice A L.ws.length cp) := by rw [World.cell?_of_block (hbl2 p (by omega) HAP.out.1)]; exact a1
  have b3 : w2.cell? ⟨p, 3, none⟩ = some (.map (some m)) := by rw [World.cell?_of_block (hbl2 p (by omega) HAP.out.1)]; exact a3
  have bB : w2.cell? ⟨w.heap.size, 0, none⟩ = some (.int .i64 (x.1 : Int)) := by rw [World.cell?_of_block (hbl2 w.heap.size (by omega) (by omega))]; exact aB
  have HBL := Lib.hid hbl; clear hbl
  have HBL2 := Lib.hid hbl2; clear hbl2
  have HB := Lib.hid hB; clear hB
  have HWS := Lib.hid hWs; clear hWs
  go_region_held3 (fun w' => w'.cell? ⟨p, 1, none⟩ = some (.slice A L.ws.length cp) ∧ w'.cell? ⟨p, 3, none⟩ = some (.map (some m)) ∧ w'.cell? ⟨w.heap.size, 0, none⟩ = some (.int .i64 (x.1 : Int))) (go_keep) (fail)
  clear hrun
  go_wp2
  have hB2 : w2.heap[w.heap.size]? = some (.cells cs.toArray 96 (0, 0)) := by rw [HBL2.out _ (by have := HWS.out; omega) (by omega)]; exact HB.out
  have hr2 : w2.rangeAt w.heap.size 0 cs := by
    intro j v hv
    rw [Nat.zero_add, cell_of_row _ _ _ _ _ _ hB2]
    simpa using hv
  have HB2 := Lib.hid hB2; clear hB2
  have hs2 : W.heap.size ≤ w2.heap.size := hg2.size
  have hrow2 : Row w2 96 257 (.slice A L.ws.length cp) L.ws.length (flat L.ws) :=
    H.out.ws.turns (F := fun k => k = m ∨ w.heap.size ≤ k) ⟨hg2.os.trans ht1.os, hg2.tape.trans ht1.tape, hg2.output.trans ht1.output, by have := HWS.out; omega, fun k hk hf => (HBL2.out k (by have := HWS.out; omega) (fun e => hf (.inl e))).trans (HBL.out k hk)⟩
      (fun k hk hf => by
        have := H.out.ws.lt hk
        rcases hf with hf | hf
        · subst hf; exact HAP.out.2.2.2.2.1 hk
        · omega)
  have hL2 : (ldW (.pointer (some ⟨w.heap.size, 0, none⟩))).run Try.prog w2.drew = .ok (.agg cs.toArray) w2.drew := run_ldW w2.drew _ 0 cs hr2 hcs
  clear hr2
  have a1D : w2.drew.cell? ⟨p, 1, none⟩ = some (.slice A L.ws.length cp) := b1
  have a1A : (w2.alloc (.cells cs.toArray 96)).cell? ⟨p, 1, none⟩ = some (.slice A L.ws.length cp) := by rw [World.cell?_of_block (Below.heap_alloc w2 _ p (by show p < w2.heap.size; have := HWS.out; omega))]; exact b1
  have hrowA : Row (w2.drew.alloc (.cells cs.toArray 96)) 96 257 (.slice A L.ws.length cp) L.ws.length (flat L.ws) := World.ownsRow.alloc (w := w2.drew) hrow2 _
  have hnews := World.news_of_block (w := w2.drew.alloc (.cells cs.toArray 96)) (heap_alloc_new w2.drew (.cells cs.toArray 96))
  have hlen1 : cs.toArray.toList.length = 1 * 257 := by simpa using hcs
  have hones : ∀ u ∈ cs.toArray.toList, u.oneCell' = true := by simpa using hC1
  have HRA := Lib.hid hrowA; clear hrowA
  have HNW := Lib.hid hnews; clear hnews
  have HL1 := Lib.hid hlen1; clear hlen1
  have HON := Lib.hid hones; clear hones
  have HZ0 := Lib.hid hz0; clear hz0
  have HZ1 := Lib.hid hz1; clear hz1
  have HZ2 := Lib.hid hz2; clear hz2
  have HI := Lib.hid hi; clear hi
  have hT2 : Turns (fun k => k = p ∨ k = m ∨ (Value.slice A L.ws.length cp).ownBlock = some k) w w2 := ht1.drew.grown hg2 (fun k hk _ => .inr (.inl (by injection hk with hk; exact hk.symm)))
  have hpd : w2.heap[p]? = some (.cells (headOf vs (.slice A L.ws.length cp) m L) 92 (0, 0)) := (HBL2.out p (by have := HWS.out; omega) HAP.out.1).trans ((HBL.out p hpl).trans H.out.head)
  have HPD := Lib.hid hpd; clear hpd
  have HT2 := Lib.hid hT2; clear hT2
  have hp2 : p < w2.heap.size := by have := HWS.out; omega
  have hps : p < (w2.drew.alloc (.cells cs.toArray 96)).heap.size := by
    have : p < w2.heap.size := by have := HWS.out; omega
    simp; omega
  clear hs2 hM
  go_region_law ((
    refine step_append_lies _ rfl (.tmp 19) (.tmp 21) 89 rfl 0 96 i0 (.agg zeroWr.toArray) 257 264 Try.underlying89 HI.out HZ0.out HZ1.out HZ2.out (by rw [Value.cells, List.size_toArray, zeroWr_len]) (by omega) (.slice A L.ws.length cp) L.ws.length (flat L.ws) rfl HRA.out ⟨w2.drew.heap.size, 0, none⟩ 1 1 cs.toArray.toList rfl HL1.out HNW.out HON.out (by omega) (by unfold maxLen; omega) (by omega) (by omega) _ rfl ?_
    intro g cap w4 hown4 hgrow4 hat4 hlt4
    have hp4 : Hid (w4.heap[p]? = some (.cells (headOf vs (.slice A L.ws.length cp) m L) 92 (0, 0))) := Lib.hid ((hgrow4.block p hps (fun e => HAP.out.2.2.1 e.symm)).trans ((Below.heap_alloc w2.drew _ p hp2).trans HPD.out))
    have e1 : w4.cell? ⟨p, 1, none⟩ = some (.slice A L.ws.length cp) := (cell_of_row w4 p 1 _ _ _ hp4.out)
    have e2 : w4.cell? ⟨p, 2, none⟩ = some (.int .i64 (L.pend : Int)) := (cell_of_row w4 p 2 _ _ _ hp4.out)
    have f1 : w4.frozen? ⟨p, 1, none⟩ = false := frozen_of_row w4 p 1 _ _ hp4.out
    have f2 : w4.frozen? ⟨p, 2, none⟩ = false := frozen_of_row w4 p 2 _ _ hp4.out
    have HO4 := Lib.hid hown4
    clear hown4
    have HG4 := Lib.hid hgrow4
    clear hgrow4
    have HA4 := Lib.hid hat4
    clear hat4))
  all_goals
    go_wp2
    go_end0
    have hT2 := HT2.out
    have hT4 : Turns (fun k => k = p ∨ k = m ∨ (Value.slice A L.ws.length cp).ownBlock = some k) w w4 := (hT2.drew.alloc _).grown HG4.out (fun k hk _ => .inr (.inr hk))
    have hap := HAP.out
    have hh := H.out
    have hm4 : w4.ownsMap Try.prog 3 (plainElem Try.prog 3) m (L.ws.length + 1) (lastD (nums (L.ws ++ [x]))) := by
      have e : lastD (nums (L.ws ++ [x])) = (lastD (nums L.ws)).put (keyL x.1) (placeD L.ws.length) := by
        simp only [nums, List.map_append, List.map_cons, List.map_nil]
        rw [lastD_snoc]; simp
      rw [e]
      exact (hM2.drew.alloc _).kept HG4.out (fun e => hap.2.2.2.2.1 e.symm)
    have hgp : g ≠ p := fun e => by
      obtain ⟨cur, hc⟩ := row_type (v := .slice (some ⟨g, 0, none⟩) (L.ws.length + 1) cap) HO4.out (k := g) rfl
      have := hp4.out
      rw [e, this] at hc
      cases hc
    have hTz : ∀ u v, Turns (fun k => k = p) w4 ((w4.setCell ⟨p, 1, none⟩ u).setCell ⟨p, 2, none⟩ v) := fun u v => (turns_cell w4 p 1 u).trans (turns_cell _ p 2 v) (fun _ _ e => e)
    refine ⟨.slice (some ⟨g, 0, none⟩) (L.ws.length + 1) cap, rfl, ⟨?_, ?_, ?_, ?_⟩, ?_, (hT4.setCell (p := ⟨p, 1, none⟩) (fun _ => .inl rfl) _).setCell (p := ⟨p, 2, none⟩) (fun _ => .inl rfl) _⟩
    · rw [heap_setCell_same _ p 2 _ _ _ (heap_setCell_same w4 p 1 _ _ _ hp4.out)]
      simp [headOf]
    · exact (hh.st.turns hT4 (fun k hk hf => by
        rcases hf with e | e | e
        · exact hap.2.1 (by rw [hk, e])
        · exact hap.2.2.2.1 (by rw [hk, e])
        · exact hap.2.2.2.2.2 k hk e)).turns (hTz _ _) (fun k hk e => hap.2.1 (by rw [hk, e]))
    · have hr : Row w4 96 257 (.slice (some ⟨g, 0, none⟩) (L.ws.length + 1) cap) (L.ws ++ [x]).length (flat (L.ws ++ [x])) := by
        rw [flat_snoc, List.length_append]
        have h1 := HO4.out
        have h2 := HC.out
        subst h2
        exact h1
      exact hr.turns (hTz _ _) (fun k hk e => hgp (by simp [Value.ownBlock] at hk; omega))
    · obtain ⟨es, clock, g1, g2⟩ := hm4
      refine ⟨es, clock, ((hTz _ _).block m (Array.getElem?_eq_some_iff.1 g1).1 (fun e => hap.1 e.symm)).trans g1, ?_⟩
      simpa using g2
    · intro k hk
      simp [Value.ownBlock] at hk
      subst hk
      rcases HA4.out with h1 | h1
      · exact .inl h1
      · right
        have := HWS.out
        have hs2 : W.heap.size ≤ w2.heap.size := hg2.size
        simp at h1
        omega
end Go.Proofs.Ytbmbolgmeehloaa.Disk
