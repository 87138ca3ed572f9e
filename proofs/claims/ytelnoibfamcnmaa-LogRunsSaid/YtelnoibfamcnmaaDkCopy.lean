/- Copy of the program's disk: its table. -/
import Derived.Test.YtelnoibfamcnmaaDkGhost
import Derived.Shelf.SlMaps.Clone
import Derived.Shelf.SlicesE.Clone
namespace Go.Proofs.Ytelnoibfamcnmaa.Disk
set_option maxRecDepth 20000
open Go.RowKit
open Go.Proofs.Ytelnoibfamcnmaa.Mem
attribute [local go_sem ↓] Go.wp_at_zero Go.wp_at_succ

set_option maxHeartbeats 2000000 in
theorem clone_table (b : Nat) (es : Array MapEntry) (clock : Nat) (w : World) (hb : w.heap[b]? = some (.map es clock)) :
    Calls Try.prog 66 #[.map (some b)] w fun e w' => e = .returned (.map (some w.heap.size)) ∧ w' = w.alloc (.map es clock) := by
  have hq := fun w => run_eql_map_nil_sl (P := Try.prog) w 106 _ _ (some b) Try.underlying106
  go_enter Try.func66, Try.ntmps66
  go_wp2
  rw [run_callFunc_extern Try.func98 (by kernel_rfl) (by kernel_rfl) (by kernel_rfl) (e := Extern.MapsClone.clone) (by kernel_rfl), run_maps_clone_sl w 106 hb]
  simp only [Result.andThen]
  rw [Oper.upon_value]
  go_wp2
  rw [run_typeAssert_map_sl _ 106 _ _ _ _ Try.underlying106]
  simp only [Result.andThen]
  rw [Oper.upon_value]
  go_wp2
  go_ret
  exact ⟨rfl, rfl⟩

set_option maxRecDepth 100000 in
set_option maxHeartbeats 1000000 in
theorem clone_writes (vw : Value) (n : Nat) (news : List Value) (w : World) (h : Row w 112 257 vw n news) (h1 : ∀ u ∈ news, u.oneCell' = true) (hn : n ≤ 1048576) :
    Calls Try.prog 65 #[vw] w fun e w' => ∃ v', e = .returned v' ∧ w'.ownsRow w.heap.size 112 257 v' n news ∧ Below w.heap.size w w' := by
  obtain ⟨i0, hi, hz0, hz1, hz2⟩ := info_parts info_wr
  rcases h.2 with ⟨rfl, rfl⟩ | ⟨g, cap, cur, rfl, -, hg, hc1, hc2, hc3, hc4⟩
  · have q22 : ∀ (w : World), (binOp .eql 105 (.slice none 0 0) (.slice none 0 0)).run Try.prog w = .ok (.bool true) w := fun w => Lib.run_eql_slice_nil w _ _ none 0 0 0 0 Try.underlying105
    have H := Lib.hid h; clear h
    go_enter Try.func65, Try.ntmps65
    go_wp2
    go_ret
    exact ⟨.slice none 0 0, rfl, ⟨H.out.1, .inl ⟨rfl, rfl⟩⟩, Below.refl _ _⟩
  · have q22 : ∀ (w : World), (binOp .eql 105 (.slice (some ⟨g, 0, none⟩) n cap) (.slice none 0 0)).run Try.prog w = .ok (.bool false) w := fun w => Lib.run_eql_slice_nil w _ _ (some ⟨g, 0, none⟩) n cap 0 0 Try.underlying105
    have hl := h.1
    have hc : ∀ j u, news[j]? = some u → w.cell? ⟨g, 0 + j, none⟩ = some u := fun j u hj => by
      have hjl := (List.getElem?_eq_some_iff.1 hj).1
      rw [Nat.zero_add, cell_of_row _ _ _ _ _ _ hg]
      have h2 : (cur.toList.take (n * 257))[j]? = news[j]? := by rw [hc4]
      rw [List.getElem?_take, if_pos (by omega), hj] at h2
      simpa using h2
    have HC := Lib.hid hc; clear hc
    have H := Lib.hid h; clear h
    have HG := Lib.hid hg; clear hg
    have H4 := Lib.hid hc4; clear hc4
    have H3 := Lib.hid hc3; clear hc3
    go_enter Try.func65, Try.ntmps65
    go_wp2_with (at_builtin; refine wpList_append_own _ rfl _ _ 105 rfl w.heap.size 112 i0 (.agg zeroWr.toArray) 257 264 Try.underlying105 hi hz0 hz1 hz2 (by rw [Value.cells, List.size_toArray, zeroWr_len]) (by omega) _ _ _ rfl (World.ownsRow_made w #[] 0 (Nat.le_refl _) (Nat.zero_le _) (by simp)) ⟨g, 0, none⟩ n cap news rfl ?qc1 ?qc2 ?qc3 ?qc4 ?qc5 ?qc6 ?_)
    case qc1 => exact hl
    case qc2 =>
      intro j u hj
      rw [Addr.add_lit]
      exact Lib.cell?_alloc_some _ (HC.out j u hj)
    case qc3 => exact h1
    case qc4 => rw [Nat.zero_add]; unfold maxLen; omega
    case qc5 => rw [Nat.zero_add]; omega
    case qc6 => simp
    intro v' w1 hown hgrow hnil
    go_wp2
    go_ret
    refine ⟨v', rfl, by simpa using hown, ?_⟩
    exact ((Below.refl _ w).alloc (Nat.le_refl _) _).grown hgrow (by simp) (by intro k hk; simp [Value.ownBlock] at hk; omega)

set_option maxRecDepth 100000 in
set_option maxHeartbeats 1000000 in
theorem copy_any (L : Low) (p m : Nat) (vs vw : Value) (w : World) (h : LowAt w p L vs vw m) (hst : 0 < L.st.length) (hs : L.st.length ≤ 1048576) (hw : L.ws.length ≤ 1048576) :
    Calls Try.prog 22 #[.pointer (some ⟨p, 0, none⟩)] w fun e w' => ∃ q vs' vw' m', e = .returned (.pointer (some ⟨q, 0, none⟩)) ∧ LowAt w' q L vs' vw' m' ∧ (∀ k, Foot q m' vs' vw' k → w.heap.size ≤ k) ∧ Below w.heap.size w w' := by
  obtain ⟨As, cs, rfl⟩ := h.st.shape
  obtain ⟨Aw, cw, rfl⟩ := h.ws.shape
  obtain ⟨CUR, hCUR⟩ : ∃ C, C = headOf (.slice As L.st.length cs) (.slice Aw L.ws.length cw) m L := ⟨_, rfl⟩
  have ht1 : Turns (fun _ => False) w (w.alloc (.cells CUR 108)) := (Turns.refl _ w).alloc _
  have hq1 : (w.alloc (.cells CUR 108)).heap[w.heap.size]? = some (.cells CUR 108 (0, 0)) := heap_alloc_new w _
  have hz1 : (w.alloc (.cells CUR 108)).heap.size = w.heap.size + 1 := by simp
  have hL1 := h.turns ht1 (fun _ _ e => e)
  have a0 := hL1.f0
  have hpl := h.p_lt
  have HFL := Lib.hid h.foot_lt
  have c0 := h.f0
  have c1 := h.f1
  have c2 := h.f2
  have c3 := h.f3
  have c4 := h.f4
  have c5 := h.f5
  rw [hCUR] at ht1 hq1 hz1 hL1 a0
  unfold headOf at ht1 hq1 hz1 hL1 a0
  have HT1 := Lib.hid ht1; clear ht1
  have HQ1 := Lib.hid hq1; clear hq1
  have HZ1 := Lib.hid hz1; clear hz1
  have HL1 := Lib.hid hL1; clear hL1
  clear h hCUR
  go_enter Try.func22, Try.ntmps22
  go_wp2_with fail
  clear c0 c1 c2 c3 c4 c5 a0
  have hT1 := HT1.out; have hQ1 := HQ1.out; have hZ1 := HZ1.out; have hL1 := HL1.out
  clear HT1 HQ1 HZ1 HL1
  generalize w.alloc (.cells #[.slice As L.st.length cs, .slice Aw L.ws.length cw, .int .i64 (L.pend : Int), .map (some m), .bool L.fused, .int .i64 (L.left : Int)] 108) = W1 at hT1 hQ1 hZ1 hL1 ⊢
  obtain ⟨A', c', hv', hh'⟩ := hL1.st.holds
  injection hv' with e1 e2 e3
  subst e1 e3
  rcases As with _ | a
  · obtain ⟨b, off, e, _⟩ := hh'.2 hst
    cases e
  refine (clone_any a L.st.length cs W1.heap.size L.st W1 hh' (by omega) (Nat.le_refl _)).mono ?_
  rintro e w2 ⟨A2, c2, rfl, ho2, hb2⟩
  have hQ2 := (hb2.block _ (by omega)).trans hQ1
  have z0 : w2.cell? ⟨w.heap.size, 0, none⟩ = some (.slice (some a) L.st.length cs) := cell_of_row w2 w.heap.size 0 _ _ _ hQ2
  have y0 := frozen_of_row w2 w.heap.size 0 _ _ hQ2
  have hT2 : Turns (fun k => k = w.heap.size) W1 (w2.setCell ⟨w.heap.size, 0, none⟩ (.slice A2 L.st.length c2)) := ((Turns.of_below (F := fun k => k = w.heap.size) hb2)).setCell (p := ⟨w.heap.size, 0, none⟩) (fun _ => rfl) _
  have hL2 := hL1.turns hT2 (fun k hk e => by have := HFL.out k hk; omega)
  have x1 := hL2.f1
  have hQ2' : (w2.setCell ⟨w.heap.size, 0, none⟩ (.slice A2 L.st.length c2)).heap[w.heap.size]? = some (.cells #[.slice A2 L.st.length c2, .slice Aw L.ws.length cw, .int .i64 (L.pend : Int), .map (some m), .bool L.fused, .int .i64 (L.left : Int)] 108 (0, 0)) := heap_setCell_same w2 w.heap.size 0 _ _ _ hQ2
  have HQ2 := Lib.hid hQ2'; clear hQ2' hQ2
  have HL2 := Lib.hid hL2; clear hL2
  have HT2 := Lib.hid hT2; clear hT2
  have HO2 := Lib.hid ho2; clear ho2
  have HB2 := Lib.hid hb2; clear hb2
  have HT1 := Lib.hid hT1; clear hT1
  clear hQ1 hL1 hh' e2
  go_wp2_with fail
  have hs2 : w2.heap.size ≤ (w2.setCell ⟨w.heap.size, 0, none⟩ (.slice A2 L.st.length c2)).heap.size := by simp [World.setCell]
  have hsb := HB2.out.size
  have hS2 : Turns (fun k => k = w.heap.size) w2 (w2.setCell ⟨w.heap.size, 0, none⟩ (.slice A2 L.st.length c2)) := turns_cell w2 w.heap.size 0 _
  clear z0 y0 x1
  generalize w2.setCell ⟨w.heap.size, 0, none⟩ (.slice A2 L.st.length c2) = W2 at HQ2 HL2 HT2 hs2 hS2 ⊢
  refine (clone_writes (.slice Aw L.ws.length cw) L.ws.length (flat L.ws) W2 HL2.out.ws (flat_one L.ws) hw).mono ?_
  rintro e w3 ⟨v3, rfl, ho3, hb3⟩
  have hrow3 : Row w3 112 257 v3 L.ws.length (flat L.ws) := ⟨ho3.1, ho3.2.imp id (fun ⟨g, cap, cur, e1, _, r⟩ => ⟨g, cap, cur, e1, Nat.zero_le _, r⟩)⟩
  have hown3 : ∀ k, v3.ownBlock = some k → W2.heap.size ≤ k := fun k hk => by
    rcases ho3.2 with ⟨rfl, _⟩ | ⟨g, cap, cur, rfl, hg, _⟩
    · cases hk
    · simp [Value.ownBlock] at hk; omega
  obtain ⟨A3, c3, rfl⟩ := hrow3.shape
  have hQ3 := (hb3.block _ (by omega)).trans HQ2.out
  have z1 : w3.cell? ⟨w.heap.size, 1, none⟩ = some (.slice Aw L.ws.length cw) := cell_of_row w3 w.heap.size 1 _ _ _ hQ3
  have y1 := frozen_of_row w3 w.heap.size 1 _ _ hQ3
  have hQ3' : (w3.setCell ⟨w.heap.size, 1, none⟩ (.slice A3 L.ws.length c3)).heap[w.heap.size]? = some (.cells #[.slice A2 L.st.length c2, .slice A3 L.ws.length c3, .int .i64 (L.pend : Int), .map (some m), .bool L.fused, .int .i64 (L.left : Int)] 108 (0, 0)) := heap_setCell_same w3 w.heap.size 1 _ _ _ hQ3
  have hS3 : Turns (fun k => k = w.heap.size) w3 (w3.setCell ⟨w.heap.size, 1, none⟩ (.slice A3 L.ws.length c3)) := turns_cell w3 w.heap.size 1 _
  have hT3 : Turns (fun k => k = w.heap.size) W2 (w3.setCell ⟨w.heap.size, 1, none⟩ (.slice A3 L.ws.length c3)) := (Turns.of_below (F := fun k => k = w.heap.size) hb3).trans hS3 (fun _ _ e => e)
  have hL3 := HL2.out.turns hT3 (fun k hk e => by have := HFL.out k hk; omega)
  have x3 := hL3.f3
  have HQ3 := Lib.hid hQ3'; clear hQ3' hQ3
  have HL3 := Lib.hid hL3; clear hL3
  have HR3 := Lib.hid hrow3; clear hrow3
  have HO3 := Lib.hid hown3; clear hown3
  have HB3 := Lib.hid hb3; clear hb3 ho3
  go_wp2_with fail
  clear z1 y1 x3
  have hsc := HB3.out.size
  have hsd := hS3.size
  generalize w3.setCell ⟨w.heap.size, 1, none⟩ (.slice A3 L.ws.length c3) = W3 at HQ3 HL3 hS3 hT3 hsd ⊢
  obtain ⟨es, clock, g1, g2⟩ := HL3.out.last
  refine (clone_table m es clock W3 g1).mono ?_
  rintro e w4 ⟨rfl, rfl⟩
  have hQ4 := (Below.heap_alloc W3 (.map es clock) w.heap.size (by omega)).trans HQ3.out
  have z3 : (W3.alloc (.map es clock)).cell? ⟨w.heap.size, 3, none⟩ = some (.map (some m)) := cell_of_row _ w.heap.size 3 _ _ _ hQ4
  have y3 := frozen_of_row _ w.heap.size 3 _ _ hQ4
  have hQ4' : ((W3.alloc (.map es clock)).setCell ⟨w.heap.size, 3, none⟩ (.map (some W3.heap.size))).heap[w.heap.size]? = some (.cells #[.slice A2 L.st.length c2, .slice A3 L.ws.length c3, .int .i64 (L.pend : Int), .map (some W3.heap.size), .bool L.fused, .int .i64 (L.left : Int)] 108 (0, 0)) := heap_setCell_same _ w.heap.size 3 _ _ _ hQ4
  have hS4 : Turns (fun k => k = w.heap.size) W3 ((W3.alloc (.map es clock)).setCell ⟨w.heap.size, 3, none⟩ (.map (some W3.heap.size))) := ((Turns.refl (fun k => k = w.heap.size) W3).alloc _).setCell (p := ⟨w.heap.size, 3, none⟩) (fun _ => rfl) _
  have hM4 : ((W3.alloc (.map es clock)).setCell ⟨w.heap.size, 3, none⟩ (.map (some W3.heap.size))).heap[W3.heap.size]? = some (.map es clock) := (Below.heap_setCell _ _ _ _ (by show W3.heap.size ≠ w.heap.size; omega)).trans (heap_alloc_new W3 _)
  have HQ4 := Lib.hid hQ4'; clear hQ4' hQ4
  have HM4 := Lib.hid hM4; clear hM4
  have HG1 := Lib.hid g1; clear g1
  have HG2 := Lib.hid g2; clear g2
  go_wp2
  go_ret
  have ht24 : Turns (fun k => k = w.heap.size) w2 ((W3.alloc (.map es clock)).setCell ⟨w.heap.size, 3, none⟩ (.map (some W3.heap.size))) := (hS2.trans hT3 (fun _ _ e => e)).trans hS4 (fun _ _ e => e)
  have ht34 : Turns (fun k => k = w.heap.size) w3 ((W3.alloc (.map es clock)).setCell ⟨w.heap.size, 3, none⟩ (.map (some W3.heap.size))) := hS3.trans hS4 (fun _ _ e => e)
  have hown2 : ∀ k, (Value.slice A2 L.st.length c2).ownBlock = some k → W1.heap.size ≤ k := fun k hk => by
    rcases HO2.out.2 with ⟨e, _⟩ | ⟨g, cap, cur, e, hg, _⟩
    · rw [e] at hk; cases hk
    · rw [e] at hk; simp [Value.ownBlock] at hk; omega
  have hrow2 : Row w2 5 1 (.slice A2 L.st.length c2) L.st.length (L.st.map byteV) := ⟨HO2.out.1, HO2.out.2.imp id (fun ⟨g, cap, cur, e1, _, r⟩ => ⟨g, cap, cur, e1, Nat.zero_le _, r⟩)⟩
  refine ⟨w.heap.size, .slice A2 L.st.length c2, .slice A3 L.ws.length c3, W3.heap.size, rfl, ⟨HQ4.out, hrow2.turns ht24 (fun k hk e => by have := hown2 k hk; omega), HR3.out.turns ht34 (fun k hk e => by have := HO3.out k hk; omega), ⟨es, clock, HM4.out, HG2.out⟩⟩, ?_, ?_⟩
  · intro k hk
    rcases hk with e | e | e | e
    · omega
    · omega
    · have := hown2 k e; omega
    · have := HO3.out k e; omega
  · have hb0 : Below w.heap.size w W1 := HT1.out.below (fun _ e => e.elim) (Nat.le_refl _)
    exact (hb0.trans (HB2.out.mono (by omega))).trans (ht24.below (B := w.heap.size) (fun k e => by omega) (by omega))

end Go.Proofs.Ytelnoibfamcnmaa.Disk
