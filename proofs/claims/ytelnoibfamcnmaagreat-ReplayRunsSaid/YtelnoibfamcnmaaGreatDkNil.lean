/- Contracts of the calls of a disk that is none, and of the bytes that a deed writes. -/
import Derived.Test.YtelnoibfamcnmaaGreatDkRead
import Derived.Deep.Upon
import Derived.Test.YtelnoibfamcnmaaGreatDkCrash
namespace Go.Proofs.YtelnoibfamcnmaaGreat.Disk
set_option maxRecDepth 20000
open Go.RowKit
open Go.Proofs.YtelnoibfamcnmaaGreat.Mem
attribute [local go_sem ↓] Go.wp_at_zero Go.wp_at_succ ldW_eq stW_eq newW_eq mkW_eq oneW_eq

theorem setCells_row (b : Nat) : ∀ (vs : List Value) (o : Nat) (w : World) (cur : Array Value) (t : TypeId), w.heap[b]? = some (.cells cur t (0, 0)) → o + vs.length ≤ cur.size →
    (w.setCells b o vs).heap[b]? = some (.cells (splice cur.toList o vs).toArray t (0, 0))
  | [], o, w, cur, t, h, hl => by
    show w.heap[b]? = _
    rw [h]; simp [splice]
  | v :: vs, o, w, cur, t, h, hl => by
    have hl' : o + (vs.length + 1) ≤ cur.size := hl
    have h1 : (w.setCell ⟨b, o, none⟩ v).heap[b]? = some (.cells (cur.setIfInBounds o v) t (0, 0)) := heap_setCell_same w b o _ _ _ h
    have ih := setCells_row b vs (o + 1) (w.setCell ⟨b, o, none⟩ v) _ t h1 (by rw [Array.size_setIfInBounds]; omega)
    show ((w.setCell ⟨b, o, none⟩ v).setCells b (o + 1) vs).heap[b]? = _
    rw [ih]
    congr 2
    apply Array.ext_getElem?
    intro j
    simp only [List.getElem?_toArray]
    rw [splice_get _ _ _ (by simp; omega), splice_get _ _ _ (by simp; omega), List.length_cons]
    by_cases h1 : j < o
    · rw [if_pos (by omega), if_pos h1]; simp [show ¬ o = j by omega]
    · rw [if_neg h1]
      by_cases h2 : j = o
      · subst h2
        rw [if_pos (by omega), if_pos (by simp)]
        simp [show j < cur.size by omega]
      · rw [if_neg (by omega)]
        by_cases h3 : j < o + (vs.length + 1)
        · rw [if_pos (by omega), if_pos h3, show j - o = j - (o + 1) + 1 by omega, List.getElem?_cons_succ]
        · rw [if_neg (by omega), if_neg h3]; simp [show ¬ o = j by omega]

set_option maxRecDepth 20000 in
theorem flat_set (ws : List Wr) (hx : ∀ x ∈ ws, x.2.length = 256) (k : Nat) (hk : k < ws.length) (x : Wr) (hl : x.2.length = 256) (cur : List Value) (h4 : cur.take (ws.length * 257) = flat ws) (h3 : ws.length * 257 ≤ cur.length) :
    (splice cur (k * 257) (wcells x)).take (ws.length * 257) = flat (ws.set k x) := by
  have hwl := wcells_len x hl
  have hx' : ∀ y ∈ ws.set k x, y.2.length = 256 := by
    intro y hy
    rcases List.mem_or_eq_of_mem_set hy with h | h
    · exact hx y h
    · rw [h]; exact hl
  have hkk : (k + 1) * 257 ≤ ws.length * 257 := Nat.mul_le_mul_right 257 hk
  apply List.ext_getElem?
  intro j
  rw [List.getElem?_take]
  by_cases hj : j < ws.length * 257
  · rw [if_pos hj, splice_get _ _ _ (by omega)]
    have hq := Nat.div_add_mod j 257
    have hr := Nat.mod_lt j (show 0 < 257 by omega)
    have hql : j / 257 < ws.length := Nat.div_lt_of_lt_mul (by omega)
    generalize j / 257 = q at hq hql
    generalize j % 257 = r at hq hr
    have hjq : j = q * 257 + r := by omega
    rw [hjq]
    rw [flat_get _ hx' q (by simpa using hql) r hr]
    by_cases e : q = k
    · subst e
      rw [if_neg (by omega), if_pos (by omega)]
      simp
    · have hlt : ¬ (k * 257 ≤ q * 257 + r ∧ q * 257 + r < k * 257 + 257) := by
        rcases Nat.lt_or_gt_of_ne e with h | h <;> omega
      have e1 : cur[q * 257 + r]? = (wcells ws[q])[r]? := by
        have h1 : (cur.take (ws.length * 257))[q * 257 + r]? = (flat ws)[q * 257 + r]? := by rw [h4]
        rw [List.getElem?_take, if_pos (by omega), flat_get ws hx q hql r hr] at h1
        exact h1
      have e2 : (ws.set k x)[q]'(by simpa using hql) = ws[q] := by rw [List.getElem_set_ne (fun h => e h.symm)]
      rw [e2, ← e1]
      by_cases h1 : q * 257 + r < k * 257
      · rw [if_pos h1]
      · rw [if_neg h1, if_neg (by omega)]
  · rw [if_neg hj, List.getElem?_eq_none (by rw [flat_len _ hx', List.length_set]; omega)]

theorem turns_cells (b : Nat) : ∀ (vs : List Value) (o : Nat) (w : World), Turns (fun q => q = b) w (w.setCells b o vs)
  | [], _, w => Turns.refl _ w
  | v :: vs, o, w => (turns_cell w b o v).trans (turns_cells b vs (o + 1) _) (fun _ _ e => e)

theorem nums_set (ws : List Wr) (k : Nat) (x : Wr) (h : (nums ws)[k]? = some x.1) : nums (ws.set k x) = nums ws := by
  unfold nums at h ⊢
  rw [List.map_set]
  apply List.ext_getElem?
  intro j
  rw [List.getElem?_set]
  split
  · rename_i e
    subst e
    split
    · rw [h]
    · rename_i h2
      rw [List.getElem?_eq_none (by omega)]
  · rfl

set_option maxRecDepth 100000 in
set_option maxHeartbeats 1000000 in
theorem haunt_over (L : Low) (p m n k : Nat) (x : Wr) (vs vw : Value) (w : World) (h : LowAt w p L vs vw m) (hm : n ≤ 1024) (hx : x.1 < n) (hl : x.2.length = 256) (hall : ∀ y ∈ L.ws, y.2.length = 256) (hw : L.ws.length ≤ 1048576)
    (hla : lastAt (nums L.ws) x.1 = some k) (hkp : L.pend ≤ k) :
    Calls Tryz.prog 90 #[.pointer (some ⟨p, 0, none⟩), .agg (wcells x).toArray] w fun e w' => e = .returned (.tuple #[]) ∧ LowAt w' p { L with ws := L.ws.set k x } vs vw m ∧ Turns (fun q => vw.ownBlock = some q) w w' := by
  have c1 := h.f1
  have c2 := h.f2
  have c3 := h.f3
  have hpl := h.p_lt
  have hkl := (lastAt_lt _ _ _ hla).1
  have hnk := (lastAt_lt _ _ _ hla).2
  rw [nums, List.length_map] at hkl
  obtain ⟨g, cap, cur, rfl, hg, hc1, hc2, hc3, hc4⟩ := h.ws.cut (by omega)
  obtain ⟨cs, hC⟩ : ∃ cs, cs = wcells x := ⟨_, rfl⟩
  rw [← hC]
  have hCs : cs.length = 257 := by rw [hC, wcells_len x hl]
  have hC0 : cs.toArray[0]? = some (.int .i64 (x.1 : Int)) := by rw [hC]; rfl
  have hC1 : ∀ v ∈ cs, v.oneCell' = true := by rw [hC]; intro v hv; exact flat_one [x] v (by simpa [flat] using hv)
  have hgl : g < w.heap.size := (Array.getElem?_eq_some_iff.1 hg).1
  have hkk : (k + 1) * 257 ≤ cap * 257 := Nat.mul_le_mul_right 257 (by omega)
  have hfacts : ∀ V : World, V.heap = (w.alloc (.cells cs.toArray 83)).heap →
      (V.cell? ⟨p, 1, none⟩ = some (.slice (some ⟨g, 0, none⟩) L.ws.length cap) ∧ V.cell? ⟨p, 2, none⟩ = some (.int .i64 (L.pend : Int))) ∧
      (V.cell? ⟨p, 3, none⟩ = some (.map (some m)) ∧ V.cell? ⟨w.heap.size, 0, none⟩ = some (.int .i64 (x.1 : Int)) ∧ (Instr.lookup 78 (.map (some m)) (.int .i64 (x.1 : Int)) true).run Tryz.prog V = .ok (.tuple #[.int .i64 (k : Int), .bool true]) V) ∧
      (ldW (.pointer (some ⟨w.heap.size, 0, none⟩))).run Tryz.prog V = .ok (.agg cs.toArray) V ∧ (stW (.pointer (some ⟨g, k * 257, none⟩)) (.agg cs.toArray)).run Tryz.prog V = .ok () (V.setCells g (k * 257) cs) := by
    intro V hV
    have hbl : ∀ q, q < w.heap.size → V.heap[q]? = w.heap[q]? := fun q hq => by rw [hV]; exact Below.heap_alloc _ _ _ hq
    have hB : V.heap[w.heap.size]? = some (.cells cs.toArray 83 (0, 0)) := by rw [hV]; exact heap_alloc_new w _
    have hgW : V.heap[g]? = some (.cells cur 83 (0, 0)) := (hbl g hgl).trans hg
    have hM : V.ownsMap Tryz.prog 3 (plainElem Tryz.prog 3) m L.ws.length (lastD (nums L.ws)) := by
      obtain ⟨es, clock, g1, g2⟩ := h.last
      exact ⟨es, clock, (hbl m h.last.lt).trans g1, g2⟩
    have hlk := run_lookup V m _ _ x.1 (by omega) hM
    rw [hla] at hlk
    refine ⟨⟨by rw [World.cell?_of_block (hbl p hpl)]; exact c1, by rw [World.cell?_of_block (hbl p hpl)]; exact c2⟩, ⟨by rw [World.cell?_of_block (hbl p hpl)]; exact c3, by rw [cell_of_row _ _ _ _ _ _ hB]; exact hC0, hlk⟩, ?_, ?_⟩
    · exact run_ldW V _ 0 cs (fun j v hv => by rw [Nat.zero_add, cell_of_row _ _ _ _ _ _ hB]; simpa using hv) hCs
    · exact run_stW _ _ _ _ (fun j hj => ⟨by rw [cell_of_row _ _ _ _ _ _ hgW]; rw [Array.getElem?_eq_getElem (by omega)]; rfl, frozen_of_row _ _ _ _ _ hgW⟩) hCs hC1
  have hB0 : (w.alloc (.cells cs.toArray 83)).heap[w.heap.size]? = some (.cells cs.toArray 83 (0, 0)) := heap_alloc_new w _
  have hk1 : (0 : Int) ≤ (k : Int) := by omega
  have hk2 : (k : Int) < (L.ws.length : Int) := by omega
  have hk3 : (L.pend : Int) ≤ (k : Int) := by omega
  obtain ⟨W, hW⟩ : ∃ W, w.alloc (.cells cs.toArray 83) = W := ⟨_, rfl⟩
  rw [hW] at hfacts
  have hWs : W.heap.size = w.heap.size + 1 := by rw [← hW]; simp
  have hgW : W.heap[g]? = some (.cells cur 83 (0, 0)) := by rw [← hW]; exact (Below.heap_alloc w _ g hgl).trans hg
  have HT : Hid (Turns (fun q => q = g) w W) := Lib.hid (by rw [← hW]; exact (Turns.refl _ w).alloc _)
  obtain ⟨-, hS, -⟩ := hfacts W.drew rfl
  have HF := Lib.hid hfacts; clear hfacts
  have HC := Lib.hid hC; clear hC
  have HCS := Lib.hid hCs; clear hCs
  have HC0 := Lib.hid hC0; clear hC0
  have HC1 := Lib.hid hC1; clear hC1
  have HG := Lib.hid hg; clear hg
  have HGW := Lib.hid hgW; clear hgW
  have H4 := Lib.hid hc4; clear hc4
  have H3 := Lib.hid hc3; clear hc3
  have H := Lib.hid h; clear h
  have HLA := Lib.hid hla; clear hla
  have HNK := Lib.hid hnk; clear hnk
  have HALL := Lib.hid hall; clear hall
  clear c1 c2 c3 hB0
  go_enter Tryz.func90, Tryz.ntmps90
  go_wp2_with fail
  go_region_held (fun V => V.cell? ⟨p, 3, none⟩ = some (.map (some m)) ∧ V.cell? ⟨w.heap.size, 0, none⟩ = some (.int .i64 (x.1 : Int)) ∧ (Instr.lookup 78 (.map (some m)) (.int .i64 (x.1 : Int)) true).run Tryz.prog V = .ok (.tuple #[.int .i64 (k : Int), .bool true]) V) (assumption) (fail)
  clear hS
  obtain ⟨⟨a1, a2⟩, -, a4, a5⟩ := HF.out W.drew rfl
  go_wp2_with fail
  obtain ⟨⟨b1, b2⟩, -, b4, b5⟩ := HF.out W.drew.drew rfl
  go_region_with (fail)
  all_goals
    go_wp2
    refine bodyPost_ret (results_none rfl _ _ _) rfl ?_
    have hrow := setCells_row g cs (k * 257) W.drew.drew cur _ HGW.out (by rw [HCS.out, H3.out]; omega)
    have ht : Turns (fun q => q = g) w (W.drew.drew.setCells g (k * 257) cs) := (HT.out.drew.drew).trans (turns_cells g cs (k * 257) W.drew.drew) (fun _ _ e => e)
    have hh := H.out
    have hap := hh.apart
    have hcc := HC.out
    refine ⟨rfl, ⟨?_, ?_, ?_, ?_⟩, ht.mono (fun q _ e => by subst e; rfl)⟩
    · exact (ht.block p hpl (fun e => hap.2.2.1 (by rw [e]; rfl))).trans hh.head
    · exact hh.st.turns ht (fun q hq e => hap.2.2.2.2.2 q hq (by rw [e]; rfl))
    · have hle : L.ws.length * 257 ≤ cap * 257 := Nat.mul_le_mul_right 257 hc1
      show Row _ 83 257 _ (L.ws.set k x).length (flat (L.ws.set k x))
      rw [List.length_set]
      refine ⟨?_, .inr ⟨g, cap, (splice cur.toList (k * 257) cs).toArray, rfl, Nat.zero_le _, hrow, hc1, hc2, ?_, ?_⟩⟩
      · rw [flat_len, List.length_set]
        intro y hy
        rcases List.mem_or_eq_of_mem_set hy with e | e
        · exact HALL.out y e
        · rw [e]; exact hl
      · rw [List.size_toArray, length_splice _ _ _ (by rw [HCS.out, Array.length_toList, H3.out]; omega), Array.length_toList, H3.out]
      · rw [List.toList_toArray, hcc]
        exact flat_set L.ws HALL.out k hkl x hl _ H4.out (by rw [Array.length_toList, H3.out]; omega)
    · obtain ⟨es, clock, g1, g2⟩ := hh.last
      refine ⟨es, clock, (ht.block m hh.last.lt (fun e => hap.2.2.2.2.1 (by rw [e]; rfl))).trans g1, ?_⟩
      show _
      rw [nums_set L.ws k x HNK.out]
      simpa using g2

set_option maxRecDepth 100000 in
set_option maxHeartbeats 1000000 in
theorem haunt_new (L : Low) (p m n : Nat) (x : Wr) (vs vw : Value) (w : World) (h : LowAt w p L vs vw m) (hm : n ≤ 1024) (hx : x.1 < n) (hl : x.2.length = 256) (hw : L.ws.length ≤ 1048576)
    (hmiss : ∀ k, lastAt (nums L.ws) x.1 = some k → k < L.pend) :
    Calls Tryz.prog 90 #[.pointer (some ⟨p, 0, none⟩), .agg (wcells x).toArray] w (Added w p m { L with ws := L.ws ++ [x] } vs vw) := by
  have c1 := h.f1
  have c2 := h.f2
  have c3 := h.f3
  have hpl := h.p_lt
  have hml := h.last.lt
  have hap := h.apart
  obtain ⟨A, cp, rfl⟩ := h.ws.shape
  obtain ⟨cs, hC⟩ : ∃ cs, cs = wcells x := ⟨_, rfl⟩
  rw [← hC]
  have hCs : cs.length = 257 := by rw [hC, wcells_len x hl]
  have hC0 : cs.toArray[0]? = some (.int .i64 (x.1 : Int)) := by rw [hC]; rfl
  have hC1 : ∀ v ∈ cs, v.oneCell' = true := by rw [hC]; intro v hv; exact flat_one [x] v (by simpa [flat] using hv)
  obtain ⟨kv, ok, hok, hfacts⟩ : ∃ (kv : Nat) (ok : Bool), (ok = true → kv < L.pend) ∧ ∀ V : World, V.heap = (w.alloc (.cells cs.toArray 83)).heap →
      (V.cell? ⟨p, 1, none⟩ = some (.slice A L.ws.length cp) ∧ V.cell? ⟨p, 2, none⟩ = some (.int .i64 (L.pend : Int))) ∧
      (V.cell? ⟨p, 3, none⟩ = some (.map (some m)) ∧ V.cell? ⟨w.heap.size, 0, none⟩ = some (.int .i64 (x.1 : Int)) ∧ (Instr.lookup 78 (.map (some m)) (.int .i64 (x.1 : Int)) true).run Tryz.prog V = .ok (.tuple #[.int .i64 (kv : Int), .bool ok]) V) ∧
      V.ownsMap Tryz.prog 3 (plainElem Tryz.prog 3) m L.ws.length (lastD (nums L.ws)) := by
    refine ⟨(lastAt (nums L.ws) x.1).getD 0, (lastAt (nums L.ws) x.1).isSome, ?_, ?_⟩
    · intro h1
      cases hr' : lastAt (nums L.ws) x.1 with
      | none => rw [hr'] at h1; cases h1
      | some k => exact hmiss k hr'
    intro V hV
    have hbl : ∀ q, q < w.heap.size → V.heap[q]? = w.heap[q]? := fun q hq => by rw [hV]; exact Below.heap_alloc _ _ _ hq
    have hB : V.heap[w.heap.size]? = some (.cells cs.toArray 83 (0, 0)) := by rw [hV]; exact heap_alloc_new w _
    have hM : V.ownsMap Tryz.prog 3 (plainElem Tryz.prog 3) m L.ws.length (lastD (nums L.ws)) := by
      obtain ⟨es, clock, g1, g2⟩ := h.last
      exact ⟨es, clock, (hbl m h.last.lt).trans g1, g2⟩
    have hlk := run_lookup V m _ _ x.1 (by omega) hM
    exact ⟨⟨by rw [World.cell?_of_block (hbl p hpl)]; exact c1, by rw [World.cell?_of_block (hbl p hpl)]; exact c2⟩, ⟨by rw [World.cell?_of_block (hbl p hpl)]; exact c3, by rw [cell_of_row _ _ _ _ _ _ hB]; exact hC0, hlk⟩, hM⟩
  have hone := run_oneW cs hCs
  obtain ⟨i0, hi, hz0, hz1, hz2⟩ := info_parts info_wr
  have HC := Lib.hid hC; clear hC
  have H := Lib.hid h; clear h
  have HCS := Lib.hid hCs
  have HC0 := Lib.hid hC0; clear hC0
  have hcs := HCS.out
  clear hCs hmiss
  have HAP := Lib.hid hap; clear hap
  obtain ⟨W0, hW0⟩ : ∃ W, w.alloc (.cells cs.toArray 83) = W := ⟨_, rfl⟩
  rw [hW0] at hfacts
  obtain ⟨-, hS, -⟩ := hfacts W0.drew rfl
  have HF := Lib.hid hfacts; clear hfacts
  clear c1 c2 c3
  go_enter Tryz.func90, Tryz.ntmps90
  go_wp2_with fail
  go_region_held (fun V => V.cell? ⟨p, 3, none⟩ = some (.map (some m)) ∧ V.cell? ⟨w.heap.size, 0, none⟩ = some (.int .i64 (x.1 : Int)) ∧ (Instr.lookup 78 (.map (some m)) (.int .i64 (x.1 : Int)) true).run Tryz.prog V = .ok (.tuple #[.int .i64 (kv : Int), .bool ok]) V) (assumption) (fail)
  clear hS
  obtain ⟨⟨a1, a2⟩, -, -⟩ := HF.out W0.drew rfl
  cases ok
  case' true => have hkv : ¬ (L.pend : Int) ≤ (kv : Int) := by have := hok rfl; omega
  all_goals
    go_wp2_with fail
    clear a1 a2
    obtain ⟨W, hW⟩ : ∃ W2, W0.drew = W2 := ⟨_, rfl⟩
    rw [hW]
    have hbl : ∀ k, k < w.heap.size → W.heap[k]? = w.heap[k]? := fun k hk => by rw [← hW, ← hW0]; exact Below.heap_alloc _ _ _ hk
    have hB : W.heap[w.heap.size]? = some (.cells cs.toArray 83 (0, 0)) := by rw [← hW, ← hW0]; exact heap_alloc_new w _
    have hWs : W.heap.size = w.heap.size + 1 := by rw [← hW, ← hW0]; simp
    have ht1 : Turns (fun k => k = p ∨ k = m ∨ (Value.slice A L.ws.length cp).ownBlock = some k) w W := by rw [← hW, ← hW0]; exact ((Turns.refl _ w).alloc _).drew
    have a1 : W.cell? ⟨p, 1, none⟩ = some (.slice A L.ws.length cp) := by rw [World.cell?_of_block (hbl p hpl)]; exact H.out.f1
    have a3 : W.cell? ⟨p, 3, none⟩ = some (.map (some m)) := by rw [World.cell?_of_block (hbl p hpl)]; exact H.out.f3
    have aB : W.cell? ⟨w.heap.size, 0, none⟩ = some (.int .i64 (x.1 : Int)) := by rw [cell_of_row _ _ _ _ _ _ hB]; exact HC0.out
    have hM : W.drew.ownsMap Tryz.prog 3 (plainElem Tryz.prog 3) m L.ws.length (lastD (nums L.ws)) := by
      obtain ⟨es, clock, g1, g2⟩ := H.out.last
      exact ⟨es, clock, (hbl m hml).trans g1, g2⟩
    have hk : keyOf Tryz.prog 3 (.int .i64 (x.1 : Int)) = some (keyL x.1) := Maps.keyOf_int_mk Tryz.underlying3 (intLit x.1 (by omega))
    have hv : plainElem (H := Unit) Tryz.prog 3 (.int .i64 (L.ws.length : Int)) = some (placeD L.ws.length, []) := plainElem_int Tryz.underlying3 (intLit L.ws.length (by omega))
    obtain ⟨w2, hrun, hM2, hg2⟩ := hM.update (t := 78) intKey Tryz.underlying78 (by unfold maxLen; omega) hk hv
    clear hk hv
    clear hW hW0
    have hbl2 : ∀ k, k < W.heap.size → k ≠ m → w2.heap[k]? = W.heap[k]? := fun k hk hne => hg2.block k hk (fun e => hne (by injection e))
    have b1 : w2.cell? ⟨p, 1, none⟩ = some (.slice A L.ws.length cp) := by rw [World.cell?_of_block (hbl2 p (by omega) HAP.out.1)]; exact a1
    have b3 : w2.cell? ⟨p, 3, none⟩ = some (.map (some m)) := by rw [World.cell?_of_block (hbl2 p (by omega) HAP.out.1)]; exact a3
    have bB : w2.cell? ⟨w.heap.size, 0, none⟩ = some (.int .i64 (x.1 : Int)) := by rw [World.cell?_of_block (hbl2 w.heap.size (by omega) (by omega))]; exact aB
    have HBL := Lib.hid hbl; clear hbl
    have HBL2 := Lib.hid hbl2; clear hbl2
    have HB := Lib.hid hB; clear hB
    have HWS := Lib.hid hWs; clear hWs
    go_region_held3 (fun w' => w'.cell? ⟨p, 1, none⟩ = some (.slice A L.ws.length cp) ∧ w'.cell? ⟨p, 3, none⟩ = some (.map (some m)) ∧ w'.cell? ⟨w.heap.size, 0, none⟩ = some (.int .i64 (x.1 : Int))) (go_keep) (fail)
    clear hrun
    go_wp2
    have hB2 : w2.heap[w.heap.size]? = some (.cells cs.toArray 83 (0, 0)) := by rw [HBL2.out _ (by have := HWS.out; omega) (by omega)]; exact HB.out
    have hr2 : w2.rangeAt w.heap.size 0 cs := by
      intro j v hv
      rw [Nat.zero_add, cell_of_row _ _ _ _ _ _ hB2]
      simpa using hv
    have HB2 := Lib.hid hB2; clear hB2
    have hs2 : W.heap.size ≤ w2.heap.size := hg2.size
    have hrow2 : Row w2 83 257 (.slice A L.ws.length cp) L.ws.length (flat L.ws) :=
      H.out.ws.turns (F := fun k => k = m ∨ w.heap.size ≤ k) ⟨hg2.os.trans ht1.os, hg2.tape.trans ht1.tape, hg2.output.trans ht1.output, by have := HWS.out; omega, fun k hk hf => (HBL2.out k (by have := HWS.out; omega) (fun e => hf (.inl e))).trans (HBL.out k hk)⟩
        (fun k hk hf => by
          have := H.out.ws.lt hk
          rcases hf with hf | hf
          · subst hf; exact HAP.out.2.2.2.2.1 hk
          · omega)
    have hL2 : (ldW (.pointer (some ⟨w.heap.size, 0, none⟩))).run Tryz.prog w2.drew = .ok (.agg cs.toArray) w2.drew := run_ldW w2.drew _ 0 cs hr2 hcs
    clear hr2
    have a1D : w2.drew.cell? ⟨p, 1, none⟩ = some (.slice A L.ws.length cp) := b1
    have a1A : (w2.alloc (.cells cs.toArray 83)).cell? ⟨p, 1, none⟩ = some (.slice A L.ws.length cp) := by rw [World.cell?_of_block (Below.heap_alloc w2 _ p (by show p < w2.heap.size; have := HWS.out; omega))]; exact b1
    have hrowA : Row (w2.drew.alloc (.cells cs.toArray 83)) 83 257 (.slice A L.ws.length cp) L.ws.length (flat L.ws) := World.ownsRow.alloc (w := w2.drew) hrow2 _
    have hnews := World.news_of_block (w := w2.drew.alloc (.cells cs.toArray 83)) (heap_alloc_new w2.drew (.cells cs.toArray 83))
    have hlen1 : cs.toArray.toList.length = 1 * 257 := by simpa using hcs
    have hones : ∀ u ∈ cs.toArray.toList, u.oneCell' = true := by simpa using hC1
    have HRA := Lib.hid hrowA; clear hrowA
    have HNW := Lib.hid hnews; clear hnews
    have HL1 := Lib.hid hlen1; clear hlen1
    have HON := Lib.hid hones; clear hones
    have HZ0 := Lib.hid hz0; clear hz0
    have HZ1 := Lib.hid hz1; clear hz1
    have HZ2 := Lib.hid hz2; clear hz2
    have HI := Lib.hid hi; clear hi
    have hT2 : Turns (fun k => k = p ∨ k = m ∨ (Value.slice A L.ws.length cp).ownBlock = some k) w w2 := ht1.drew.grown hg2 (fun k hk _ => .inr (.inl (by injection hk with hk; exact hk.symm)))
    have hpd : w2.heap[p]? = some (.cells (headOf vs (.slice A L.ws.length cp) m L) 80 (0, 0)) := (HBL2.out p (by have := HWS.out; omega) HAP.out.1).trans ((HBL.out p hpl).trans H.out.head)
    have HPD := Lib.hid hpd; clear hpd
    have HT2 := Lib.hid hT2; clear hT2
    have hp2 : p < w2.heap.size := by have := HWS.out; omega
    have hps : p < (w2.drew.alloc (.cells cs.toArray 83)).heap.size := by
      have : p < w2.heap.size := by have := HWS.out; omega
      simp; omega
    clear hs2 hM

    go_region_law ((
      refine step_append_lies _ rfl (.tmp 47) (.tmp 49) 77 rfl 0 83 i0 (.agg zeroWr.toArray) 257 264 Tryz.underlying77 HI.out HZ0.out HZ1.out HZ2.out (by rw [Value.cells, List.size_toArray, zeroWr_len]) (by omega) (.slice A L.ws.length cp) L.ws.length (flat L.ws) rfl HRA.out ⟨w2.drew.heap.size, 0, none⟩ 1 1 cs.toArray.toList rfl HL1.out HNW.out HON.out (by omega) (by unfold maxLen; omega) (by omega) (by omega) _ rfl ?_
      intro g cap w4 hown4 hgrow4 hat4 hlt4
      have hp4 : Hid (w4.heap[p]? = some (.cells (headOf vs (.slice A L.ws.length cp) m L) 80 (0, 0))) := Lib.hid ((hgrow4.block p hps (fun e => HAP.out.2.2.1 e.symm)).trans ((Below.heap_alloc w2.drew _ p hp2).trans HPD.out))
      have e1 : w4.cell? ⟨p, 1, none⟩ = some (.slice A L.ws.length cp) := (cell_of_row w4 p 1 _ _ _ hp4.out)
      have e2 : w4.cell? ⟨p, 2, none⟩ = some (.int .i64 (L.pend : Int)) := (cell_of_row w4 p 2 _ _ _ hp4.out)
      have f1 : w4.frozen? ⟨p, 1, none⟩ = false := frozen_of_row w4 p 1 _ _ hp4.out
      have f2 : w4.frozen? ⟨p, 2, none⟩ = false := frozen_of_row w4 p 2 _ _ hp4.out
      have HO4 := Lib.hid hown4
      clear hown4
      have HG4 := Lib.hid hgrow4
      clear hgrow4
      have HA4 := Lib.hid hat4
      clear hat4))
    all_goals
      go_wp2
      go_end0
      have hT2 := HT2.out
      have hT4 : Turns (fun k => k = p ∨ k = m ∨ (Value.slice A L.ws.length cp).ownBlock = some k) w w4 := (hT2.drew.alloc _).grown HG4.out (fun k hk _ => .inr (.inr hk))
      have hap := HAP.out
      have hh := H.out
      have hm4 : w4.ownsMap Tryz.prog 3 (plainElem Tryz.prog 3) m (L.ws.length + 1) (lastD (nums (L.ws ++ [x]))) := by
        have e : lastD (nums (L.ws ++ [x])) = (lastD (nums L.ws)).put (keyL x.1) (placeD L.ws.length) := by
          simp only [nums, List.map_append, List.map_cons, List.map_nil]
          rw [lastD_snoc]; simp
        rw [e]
        exact (hM2.drew.alloc _).kept HG4.out (fun e => hap.2.2.2.2.1 e.symm)
      have hgp : g ≠ p := fun e => by
        obtain ⟨cur, hc⟩ := row_type (v := .slice (some ⟨g, 0, none⟩) (L.ws.length + 1) cap) HO4.out (k := g) rfl
        have := hp4.out
        rw [e, this] at hc
        cases hc
      have hTz : ∀ u, Turns (fun k => k = p) w4 (w4.setCell ⟨p, 1, none⟩ u) := fun u => turns_cell w4 p 1 u
      refine ⟨.slice (some ⟨g, 0, none⟩) (L.ws.length + 1) cap, rfl, ⟨?_, ?_, ?_, ?_⟩, ?_, hT4.setCell (p := ⟨p, 1, none⟩) (fun _ => .inl rfl) _⟩
      · rw [heap_setCell_same w4 p 1 _ _ _ hp4.out]
        simp [headOf]
      · exact (hh.st.turns hT4 (fun k hk hf => by
          rcases hf with e | e | e
          · exact hap.2.1 (by rw [hk, e])
          · exact hap.2.2.2.1 (by rw [hk, e])
          · exact hap.2.2.2.2.2 k hk e)).turns (hTz _) (fun k hk e => hap.2.1 (by rw [hk, e]))
      · have hr : Row w4 83 257 (.slice (some ⟨g, 0, none⟩) (L.ws.length + 1) cap) (L.ws ++ [x]).length (flat (L.ws ++ [x])) := by
          rw [flat_snoc, List.length_append]
          have h1 := HO4.out
          have h2 := HC.out
          subst h2
          exact h1
        exact hr.turns (hTz _) (fun k hk e => hgp (by simp [Value.ownBlock] at hk; omega))
      · obtain ⟨es, clock, g1, g2⟩ := hm4
        refine ⟨es, clock, ((hTz _).block m (Array.getElem?_eq_some_iff.1 g1).1 (fun e => hap.1 e.symm)).trans g1, ?_⟩
        simpa using g2
      · intro k hk
        simp [Value.ownBlock] at hk
        subst hk
        rcases HA4.out with h1 | h1
        · exact .inl h1
        · right
          have := HWS.out
          have hs2 : W.heap.size ≤ w2.heap.size := hg2.size
          simp at h1
          omega

/-- The device behind a ghost more: one that it is written over is let go. -/
def hauntL (L : Low) (x : Wr) : Low := match lastAt (nums L.ws) x.1 with
  | some k => if L.pend ≤ k then { L with ws := L.ws.set k x } else { L with ws := L.ws ++ [x] }
  | none => { L with ws := L.ws ++ [x] }

theorem haunt_any (L : Low) (p m n : Nat) (x : Wr) (vs vw : Value) (w : World) (h : LowAt w p L vs vw m) (hm : n ≤ 1024) (hx : x.1 < n) (hl : x.2.length = 256) (hall : ∀ y ∈ L.ws, y.2.length = 256) (hw : L.ws.length ≤ 1048576) :
    Calls Tryz.prog 90 #[.pointer (some ⟨p, 0, none⟩), .agg (wcells x).toArray] w (Added w p m (hauntL L x) vs vw) := by
  unfold hauntL
  cases hla : lastAt (nums L.ws) x.1 with
  | none => exact haunt_new L p m n x vs vw w h hm hx hl hw (fun k hk => by rw [hla] at hk; cases hk)
  | some k =>
    by_cases hp : L.pend ≤ k
    · simp only [if_pos hp]
      refine (haunt_over L p m n k x vs vw w h hm hx hl hall hw hla hp).mono ?_
      rintro e w' ⟨he, hL, ht⟩
      exact ⟨vw, he, hL, fun q hq => .inl hq, ht.mono (fun q _ hq => .inr (.inr hq))⟩
    · simp only [if_neg hp]
      exact haunt_new L p m n x vs vw w h hm hx hl hw (fun j hj => by rw [hla] at hj; injection hj with hj; omega)

set_option maxRecDepth 100000 in
set_option maxHeartbeats 1000000 in
theorem write_ghost (i : Nat) (b o c : Nat) (data : List UInt8) (L : Low) (p m n : Nat) (vs vw : Value) (w : World) (h : LowAt w p L vs vw m) (hn : L.st.length = 256 * n) (hm : n ≤ 1024) (hi : i < n) (hl : data.length = 256)
    (hd : w.rangeAt b o (data.map byteV)) (hall : ∀ y ∈ L.ws, y.2.length = 256) (hw : L.ws.length ≤ 1048576) (hbl : L.blown = true) :
    Calls Tryz.prog 62 #[.pointer (some ⟨p, 0, none⟩), .int .i64 (i : Int), .slice (some ⟨b, o, none⟩) 256 c] w (Did w p m (hauntL L (i, data)) vs vw (.int .i64 0)) := by
  have hhas : hasB n (i : Int) = true := by simp [hasB]; omega
  have hcp := run_copy_in w i b o c data hl hd
  obtain ⟨cs0, hcs0⟩ : ∃ cs0, cs0 = Value.int .i64 (i : Int) :: (List.replicate 256 (0 : UInt8)).map byteV := ⟨_, rfl⟩
  have hl0 : cs0.length = 257 := by rw [hcs0]; simp
  have hone0 : ∀ v ∈ cs0, v.oneCell' = true := by
    intro v hv; rw [hcs0] at hv
    rcases List.mem_cons.1 hv with e | e
    · subst e; rfl
    · obtain ⟨u, _, rfl⟩ := List.mem_map.1 e; rfl
  have hmk := fun W => run_mkW (i : Int) W
  rw [← hcs0] at hmk hcp
  have hnw := run_newW
  have hst := fun W => run_stW_new W cs0 hl0 hone0
  obtain ⟨cs, hcs⟩ : ∃ cs, cs = wcells (i, data) := ⟨_, rfl⟩
  rw [← hcs] at hcp
  have hcl : cs.length = 257 := by rw [hcs, wcells_len _ hl]
  have HCS := Lib.hid hcs; clear hcs
  have HCL := Lib.hid hcl; clear hcl
  have HC0 := Lib.hid hcs0; clear hcs0
  have HL0 := Lib.hid hl0; clear hl0
  have HO0 := Lib.hid hone0; clear hone0
  have HN := Lib.hid hn; clear hn
  have HL := Lib.hid hl; clear hl
  have HBL := Lib.hid hbl; clear hbl
  have HALL := Lib.hid hall; clear hall
  go_enter Tryz.func62, Tryz.ntmps62
  go_wp2_with fail
  refine (has_any i L p m n vs vw _ h HN.out hm).mono ?_
  rintro e w' ⟨rfl, rfl⟩
  go_wp2_with fail
  clear hcp hst
  have ht1 : Turns (fun _ => False) w (w.alloc (.cells cs.toArray 83)) := (Turns.refl _ w).alloc _
  have hB : (w.alloc (.cells cs.toArray 83)).heap[w.heap.size]? = some (.cells cs.toArray 83 (0, 0)) := heap_alloc_new w _
  have hW1 : w.heap.size < (w.alloc (.cells cs.toArray 83)).heap.size := by simp
  generalize w.alloc (.cells cs.toArray 83) = W at ht1 hB hW1 ⊢
  have h1 : LowAt W p L vs vw m := h.turns ht1 (fun _ _ e => e)
  have hld : (ldW (.pointer (some ⟨w.heap.size, 0, none⟩))).run Tryz.prog W = .ok (.agg cs.toArray) W := run_ldW W _ 0 cs (fun j v hv => by rw [Nat.zero_add, cell_of_row _ _ _ _ _ _ hB]; simpa using hv) HCL.out
  have HB := Lib.hid hB; clear hB
  have H := Lib.hid h; clear h
  refine (blown_any L p m vs vw W h1).mono ?_
  rintro e w' ⟨rfl, rfl⟩
  rw [HBL.out]
  go_wp2_with fail
  clear hld
  rw [HCS.out]
  refine (haunt_any L p m n (i, data) vs vw W h1 hm hi HL.out HALL.out hw).mono ?_
  rintro e w2 ⟨vw2, rfl, h2, hfr2, ht2⟩
  go_wp2
  go_ret
  have hh := H.out
  refine ⟨vw2, rfl, h2, fun k hk => ?_, ?_⟩
  · rcases hfr2 k hk with e | e
    · exact .inl e
    · exact .inr (by omega)
  · refine (ht1.mono (F := Foot p m vs vw) (fun _ _ e => e.elim)).trans (ht2.mono (F := Foot p m vs vw) ?_) (fun _ _ e => e)
    rintro k _ (e | e | e)
    · exact .inl e
    · exact .inr (.inl e)
    · exact .inr (.inr (.inr e))

/-- The device with its fuse set. -/
def fuseL (L : Low) (n : Int) : Low := if L.blown then L else { L with fused := decide (0 ≤ n), left := n.toNat }
end Go.Proofs.YtelnoibfamcnmaaGreat.Disk

namespace Go.Proofs.YtelnoibfamcnmaaGreat.Disk
set_option maxRecDepth 20000
open Go.RowKit
open Go.Proofs.YtelnoibfamcnmaaGreat.Mem
attribute [local go_sem ↓] Go.wp_at_zero Go.wp_at_succ ldW_eq stW_eq newW_eq mkW_eq oneW_eq

def freshL (n : Nat) : Low := { st := List.replicate (256 * n) 0, ws := [], pend := 0, fused := false, left := 0 }
/-- A disk and OK, its blocks being new. -/
def NewDisk (w : World) (L : Low) (e : Ending) (w' : World) : Prop := ∃ p m vs vw, e = .returned (.tuple #[.pointer (some ⟨p, 0, none⟩), .int .i64 0]) ∧ LowAt w' p L vs vw m ∧ (∀ k, Foot p m vs vw k → w.heap.size ≤ k) ∧ Below w.heap.size w w'
theorem new_ok (i : Int) (n : Nat) (w : World) (hi : i = (n : Int)) (h1 : 1 ≤ n) (h2 : n ≤ 1024) : Calls Tryz.prog 17 #[.int .i64 i] w (NewDisk w (freshL n)) := by
  subst hi
  have hb : mayB (n : Int) = true := by simp [mayB]; omega
  go_enter Tryz.func17, Tryz.ntmps17
  go_wp2_with fail
  refine (mayBe_any _ _).mono ?_
  rintro e w' ⟨rfl, rfl⟩
  go_wp2_with fail
  refine (made_any n _ h2).mono ?_
  rintro e w' ⟨p, m, vs, vw, rfl, hL, hF, hB⟩
  go_wp2
  go_ret2
  exact ⟨p, m, vs, vw, rfl, hL, hF, hB⟩
theorem new_bad (i : Int) (w : World) (hb : mayB i = false) : Calls Tryz.prog 17 #[.int .i64 i] w fun e w' => e = .returned (.tuple #[.pointer none, .int .i64 1]) ∧ w = w' := by
  go_enter Tryz.func17, Tryz.ntmps17
  go_wp2_with fail
  refine (mayBe_any _ _).mono ?_
  rintro e w' ⟨rfl, rfl⟩
  go_wp2
  go_ret2
  exact ⟨rfl, rfl⟩

theorem range_new (w : World) (cs : List Value) (t : TypeId) (fr : Nat × Nat := (0, 0)) : (w.alloc (.cells cs.toArray t fr)).rangeAt w.heap.size 0 cs := fun j v hv => by
  rw [Nat.zero_add, cell_of_row _ _ _ _ _ _ (heap_alloc_new w _)]; simpa using hv
theorem range_turns {w w' : World} {b o : Nat} {cs : List Value} (h : w.rangeAt b o cs) {F : Nat → Prop} (ht : Turns F w w') (hb : b < w.heap.size) (hF : ¬ F b) : w'.rangeAt b o cs := fun j v hv => by
  rw [World.cell?_of_block (a := ⟨b, o + j, none⟩) (ht.block b hb hF)]; exact h j v hv
theorem write_int (ii : Int) (i : Nat) (hii : ii = (i : Int)) (b o c : Nat) (data : List UInt8) (L : Low) (p m n : Nat) (vs vw : Value) (w : World) (h : LowAt w p L vs vw m) (hn : L.st.length = 256 * n) (hm : n ≤ 1024) (hi : i < n) (hl : data.length = 256)
    (hd : w.rangeAt b o (data.map byteV)) (hw : L.ws.length ≤ 1048576) (hpd : L.pend ≤ 1048576) (hbl : L.blown = false) (hlf : L.left ≤ 9223372036854775807) :
    Calls Tryz.prog 62 #[.pointer (some ⟨p, 0, none⟩), .int .i64 ii, .slice (some ⟨b, o, none⟩) 256 c] w (Did w p m (Low.burnt { L with ws := L.ws ++ [(i, data)], pend := L.pend + 1 }) vs vw (.int .i64 0)) := by
  subst hii; exact write_some i b o c data L p m n vs vw w h hn hm hi hl hd hw hpd hbl hlf
theorem read_int (ii : Int) (i : Nat) (hii : ii = (i : Int)) (L : Low) (p m n : Nat) (vs vw : Value) (w : World) (h : LowAt w p L vs vw m) (hn : L.st.length = 256 * n) (hm : n ≤ 1024) (hi : i < n) (hx : ∀ x ∈ L.ws, x.2.length = 256) (hw : L.ws.length ≤ 1048576) :
    Calls Tryz.prog 23 #[.pointer (some ⟨p, 0, none⟩), .int .i64 ii] w (Reads w (readL L i)) := by
  subst hii; exact read_some i L p m n vs vw w h hn hm hi hx hw

def ones : List UInt8 := List.replicate 256 1
def aliveBytes : List UInt8 := ((crashL [2] [(0, ones)] (List.replicate 512 0) 1).drop 0).take 256
end Go.Proofs.YtelnoibfamcnmaaGreat.Disk

namespace Go.Proofs.YtelnoibfamcnmaaGreat.Disk
set_option maxRecDepth 20000
open Go.RowKit
open Go.Proofs.YtelnoibfamcnmaaGreat.Mem

/-- What a deed writes. -/
def dataAt (fill : UInt8) (i : Nat) : UInt8 := fill + UInt8.ofNat (i / 64)
def dataN (short : Bool) : Nat := if short then 255 else 256
def dataL (fill : UInt8) (short : Bool) : List UInt8 := (List.range (dataN short)).map (dataAt fill)
def dataV (fill : UInt8) (i : Nat) : Value := byteV (dataAt fill i)
def deedV (op blk : Int) (fill : UInt8) (short : Bool) (A : Option Addr) (n c : Nat) : Array Value := #[.int .i64 op, .int .i64 blk, .int .u8 (fill.toNat : Int), .bool short, .slice A n c]

/-- New bytes in a block of their own. -/
def Fresh (w : World) (bs : List UInt8) (e : Ending) (w' : World) : Prop := ∃ b, e = .returned (.slice (some ⟨b, 0, none⟩) bs.length bs.length) ∧ w.heap.size ≤ b ∧ w'.heap[b]? = some (.cells (bs.map byteV).toArray 5 (0, 0)) ∧ Below w.heap.size w w'

/-- The same for a whole block. -/
def Fresh256 (w : World) (bs : List UInt8) (e : Ending) (w' : World) : Prop := ∃ b, e = .returned (.slice (some ⟨b, 0, none⟩) 256 256) ∧ bs.length = 256 ∧ w.heap.size ≤ b ∧ w'.heap[b]? = some (.cells (bs.map byteV).toArray 5 (0, 0)) ∧ Below w.heap.size w w'
end Go.Proofs.YtelnoibfamcnmaaGreat.Disk
