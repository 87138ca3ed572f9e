/- Clones of a record's lists, and the record that a log keeps. -/
import Derived.Test.YtkicobmdogeigaaRcList
import Derived.Test.YtkicobmdogeigaaDkMem
import Derived.Deep.RegionHeld
namespace Go.Proofs.Ytkicobmdogeigaa.Log
set_option maxRecDepth 20000
open Go.RowKit
open Go.Proofs.Ytkicobmdogeigaa.Mem Go.Proofs.Ytkicobmdogeigaa.Crc Go.Proofs.Ytkicobmdogeigaa.Rec
open Go.Proofs.Ytkicobmdogeigaa.Disk (Turns)

/-- An append's run taken as one step. -/
theorem wpList_apprun {w : World} {ops : Array Oper} {rest : List Oper} {o : Oper} {a : Act} {Q : Exit → Act → World → Prop} (hgd : o.guard = none) (d x : Operand) (dT sT : TypeId)
    (ho : o.op = .call { callee := .builtin .append, args := #[d, x], argTypes := #[dT, sT] }) (vd vx : Value) (hd : a.eval d = vd) (hx : a.eval x = vx) (v : Value) (w' : World) (hrun : (Builtin.append_ #[dT, sT] o.type #[vd, vx]).run Try.prog w = .ok v w')
    (h : wpList Try.prog ops Q rest (a.put o.dst v) w') : wpList Try.prog ops Q (o :: rest) a w := by
  refine wpList_plain hgd fun K hK => ?_
  unfold Oper.wp execOp
  simp only [ho, resolve, invoke, builtin, Sem.run_bind, Sem.run_pure, Result.andThen_ok, List.map_toArray, List.map_cons, List.map_nil, hd, hx, hrun]
  exact hK _ _ h

set_option maxRecDepth 100000 in
set_option maxHeartbeats 1000000 in
theorem iclone_any (A : Option Addr) (n c B : Nat) (rs : List Int) (w : World) (h : HoldsI w B A n rs) (hn : n ≤ 1048576) (hB : B ≤ w.heap.size) :
    Calls Try.prog 107 #[.slice A n c] w fun e w' => ∃ A' c', e = .returned (.slice A' n c') ∧ w'.ownsRow w.heap.size 3 1 (.slice A' n c') n (rs.map (Value.int .i64)) ∧ Below w.heap.size w w' := by
  obtain rfl : rs.length = n := h.1
  rcases A with _ | a
  · have h0 : rs.length = 0 := by
      rcases Nat.eq_zero_or_pos rs.length with e | e
      · exact e
      · obtain ⟨b, off, e, _⟩ := h.2 e; cases e
    obtain rfl : rs = [] := List.eq_nil_of_length_eq_zero h0
    have hq : ∀ W, (binOp .eql 65 (.slice none 0 c) (.slice none 0 0)).run Try.prog W = .ok (.bool true) W := fun W => Lib.run_eql_slice_nil W _ _ none 0 c 0 0 Try.underlying65
    clear h h0
    go_enter Try.func107, Try.ntmps107
    go_wp2
    go_ret
    exact ⟨none, 0, rfl, World.ownsRow_nil _ _ _ _, Below.refl _ _⟩
  · have hq : ∀ W, (binOp .eql 65 (.slice (some a) rs.length c) (.slice none 0 0)).run Try.prog W = .ok (.bool false) W := fun W => Lib.run_eql_slice_nil W _ _ (some a) rs.length c 0 0 Try.underlying65
    have ho : (w.alloc (.cells #[] 3)).ownsRow w.heap.size 3 1 (.slice (some ⟨w.heap.size, 0, none⟩) 0 0) 0 [] := World.ownsRow_made w #[] 0 (Nat.le_refl _) (Nat.zero_le _) (by simp)
    have hb : Below w.heap.size w (w.alloc (.cells #[] 3)) := (Below.refl w.heap.size w).alloc (Nat.le_refl _) _
    obtain ⟨A', c', w', hrun, h2, h3⟩ := run_addints (w.alloc (.cells #[] 3)) 65 w.heap.size _ ho B (some a) rs.length c rs (h.below (hb.mono hB)) (by omega) (by simp)
    have hb2 : Below w.heap.size w w' := hb.grown h3 hb.size (by intro k hk; simp [Value.ownBlock] at hk; omega)
    have H2 := Lib.hid h2; clear h2
    have HB2 := Lib.hid hb2; clear hb2
    clear h h3 ho hb
    generalize rs.length = N at *
    go_enter Try.func107, Try.ntmps107
    go_wp2_with (at_builtin; refine wpList_apprun rfl _ _ 65 65 rfl _ _ rfl rfl _ w' hrun ?_)
    clear hrun
    go_wp2
    go_ret
    exact ⟨A', c', rfl, H2.out, HB2.out⟩

/-- The values of the slices in which a record's data lie. -/
theorem holdsW_vals {w : World} {B : Nat} {A : Option Addr} {n : Nat} {ws : List Wt} (h : HoldsW w B A n ws) : ∃ vs : List Value, vs.length = ws.length ∧
    (∀ (k : Nat) (x : Wt) (v : Value), ws[k]? = some x → vs[k]? = some v → ∃ A' c', v = .slice A' x.2.length c' ∧ Holds w B A' x.2.length x.2 ∧ x.2.length ≤ c' ∧ c' ≤ maxLen) ∧
    (0 < n → ∃ b off, A = some ⟨b, off, none⟩ ∧ b < B ∧ ∀ j u, (wcells ws vs)[j]? = some u → w.cell? ⟨b, off + j, none⟩ = some u) := by
  rcases Nat.eq_zero_or_pos n with h0 | h0
  · have hl := h.1
    rw [h0] at hl
    obtain rfl : ws = [] := List.eq_nil_of_length_eq_zero hl
    exact ⟨[], rfl, fun k x v hx _ => by simp at hx, fun hn => by omega⟩
  obtain ⟨b, off, e, hb, hc⟩ := h.2 h0
  obtain ⟨vs, hvl, hvs⟩ := exists_list (p := fun i (v : Value) => ∀ x, ws[i]? = some x → w.cell? ⟨b, off + i * 2 + 1, none⟩ = some v ∧ ∃ A' c', v = .slice A' x.2.length c' ∧ Holds w B A' x.2.length x.2 ∧ x.2.length ≤ c' ∧ c' ≤ maxLen) ws.length (fun i hi => by
    obtain ⟨h1, A', c', h2, h3, h4, h5⟩ := hc i ws[i] (List.getElem?_eq_getElem hi)
    refine ⟨.slice A' ws[i].2.length c', fun x hx => ?_⟩
    rw [List.getElem?_eq_getElem hi] at hx
    injection hx with hx
    subst hx
    exact ⟨h2, A', c', rfl, h3, h4, h5⟩)
  refine ⟨vs, hvl, fun k x v hx hv => ?_, fun _ => ⟨b, off, e, hb, fun j u hu => ?_⟩⟩
  · obtain ⟨hk, rfl⟩ := List.getElem?_eq_some_iff.1 hv
    exact (hvs k hk x hx).2
  · have hj : j < ws.length * 2 := by
      have := (List.getElem?_eq_some_iff.1 hu).1
      rwa [wcells_len ws vs hvl] at this
    have hk : j / 2 < ws.length := by omega
    have hk' : j / 2 < vs.length := by omega
    obtain ⟨g1, g2⟩ := wcells_get ws vs (j / 2) _ _ (List.getElem?_eq_getElem hk) (List.getElem?_eq_getElem hk')
    rcases Nat.mod_two_eq_zero_or_one j with hm | hm
    · have ej : j = j / 2 * 2 := by omega
      rw [ej, g1] at hu
      injection hu with hu
      rw [ej, ← hu]
      exact (hc (j / 2) _ (List.getElem?_eq_getElem hk)).1
    · have ej : j = j / 2 * 2 + 1 := by omega
      rw [ej, g2] at hu
      injection hu with hu
      rw [ej, ← hu, ← Nat.add_assoc]
      exact (hvs (j / 2) hk' _ (List.getElem?_eq_getElem hk)).1

theorem wcells_one {ws : List Wt} {vs : List Value} (hv : ∀ v ∈ vs, v.oneCell' = true) : ∀ u ∈ wcells ws vs, u.oneCell' = true := by
  induction ws generalizing vs with
  | nil => intro u hu; cases vs <;> simp [wcells] at hu
  | cons x r ih =>
    cases vs with
    | nil => intro u hu; simp [wcells] at hu
    | cons v vs =>
      intro u hu
      simp only [wcells, List.mem_cons] at hu
      rcases hu with rfl | rfl | hu
      · rfl
      · exact hv _ (by simp)
      · exact ih (fun v' h' => hv v' (by simp [h'])) u hu

set_option maxRecDepth 100000 in
set_option maxHeartbeats 1000000 in
theorem wclone_any (A : Option Addr) (n c B : Nat) (ws : List Wt) (w : World) (h : HoldsW w B A n ws) (hn : n ≤ 1048576) (hB : B ≤ w.heap.size) :
    Calls Try.prog 105 #[.slice A n c] w fun e w' => ∃ A' c' vs, e = .returned (.slice A' n c') ∧ vs.length = n ∧
      (∀ (k : Nat) (x : Wt) (v : Value), ws[k]? = some x → vs[k]? = some v → ∃ A' c', v = .slice A' x.2.length c' ∧ Holds w B A' x.2.length x.2 ∧ x.2.length ≤ c' ∧ c' ≤ maxLen) ∧ w'.ownsRow w.heap.size 83 2 (.slice A' n c') n (wcells ws vs) ∧ Below w.heap.size w w' := by
  obtain ⟨vs, hvl, hvs, hcell⟩ := holdsW_vals h
  obtain rfl : ws.length = n := h.1
  rcases A with _ | a
  · have h0 : ws.length = 0 := by
      rcases Nat.eq_zero_or_pos ws.length with e | e
      · exact e
      · obtain ⟨b, off, e, _⟩ := h.2 e; cases e
    obtain rfl : ws = [] := List.eq_nil_of_length_eq_zero h0
    have hq : ∀ W, (binOp .eql 37 (.slice none 0 c) (.slice none 0 0)).run Try.prog W = .ok (.bool true) W := fun W => Lib.run_eql_slice_nil W _ _ none 0 c 0 0 Try.underlying37
    clear h h0 hvs hcell
    go_enter Try.func105, Try.ntmps105
    go_wp2
    go_ret
    exact ⟨none, 0, [], rfl, rfl, fun k x v hx _ => by simp at hx, World.ownsRow_nil _ _ _ _, Below.refl _ _⟩
  · have hq : ∀ W, (binOp .eql 37 (.slice (some a) ws.length c) (.slice none 0 0)).run Try.prog W = .ok (.bool false) W := fun W => Lib.run_eql_slice_nil W _ _ (some a) ws.length c 0 0 Try.underlying37
    have ho : (w.alloc (.cells #[] 83)).ownsRow w.heap.size 83 2 (.slice (some ⟨w.heap.size, 0, none⟩) 0 0) 0 [] := World.ownsRow_made w #[] 0 (Nat.le_refl _) (Nat.zero_le _) (by simp)
    have hb : Below w.heap.size w (w.alloc (.cells #[] 83)) := (Below.refl w.heap.size w).alloc (Nat.le_refl _) _
    have hone : ∀ v ∈ vs, v.oneCell' = true := fun v hv => by
      obtain ⟨k, hk, rfl⟩ := List.getElem_of_mem hv
      obtain ⟨A', c', e, _⟩ := hvs k ws[k] vs[k] (List.getElem?_eq_getElem (by omega)) (List.getElem?_eq_getElem hk)
      rw [e]; rfl
    obtain ⟨i0, hi, hz0, hz1, hz2⟩ := info_parts info_wt
    obtain ⟨v', w', hrun, h2, h3, _⟩ := run_append_own_at (P := Try.prog) (w.alloc (.cells #[] 83)) w.heap.size 37 37 83 i0 (.agg #[.int .i64 0, .slice none 0 0]) 2 32 Try.underlying37 hi hz0 hz1 hz2 rfl (by decide) _ 0 [] ho a ws.length c (wcells ws vs) (by rw [wcells_len ws vs hvl]) (fun j u hu => by
      have hj : j < ws.length * 2 := by
        have := (List.getElem?_eq_some_iff.1 hu).1
        rwa [wcells_len ws vs hvl] at this
      obtain ⟨b, off, e, hbB, hc⟩ := hcell (by omega)
      injection e with e
      subst e
      have hadd : (⟨b, off, none⟩ : Addr).add j = ⟨b, off + j, none⟩ := by unfold Addr.add; split <;> simp_all
      rw [hadd]
      exact (hb.cell (p := ⟨b, off + j, none⟩) (by show b < _; omega)).trans (hc j u hu)) (wcells_one hone) (by unfold maxLen; omega) (by omega) (by simp)
    rw [Nat.zero_add, List.nil_append] at h2
    have hb2 : Below w.heap.size w w' := hb.grown h3 hb.size (by intro k hk; simp [Value.ownBlock] at hk; omega)
    obtain ⟨A', c', rfl⟩ : ∃ A' c', v' = .slice A' ws.length c' := by
      rcases h2.2 with ⟨rfl, h0⟩ | ⟨g, cap, cur, rfl, _⟩
      · exact ⟨none, 0, by rw [h0]⟩
      · exact ⟨_, _, rfl⟩
    have H2 := Lib.hid h2; clear h2
    have HB2 := Lib.hid hb2; clear hb2
    clear h h3 ho hb hcell hi hz0 hz1 hz2 hone
    have HVS := Lib.hid hvs; clear hvs
    generalize ws.length = N at *
    go_enter Try.func105, Try.ntmps105
    go_wp2_with (at_builtin; refine wpList_apprun rfl _ _ 37 37 rfl _ _ rfl rfl _ w' hrun ?_)
    clear hrun
    go_wp2
    go_ret
    exact ⟨A', c', vs, rfl, hvl, HVS.out, H2.out, HB2.out⟩

set_option maxRecDepth 100000 in
set_option maxHeartbeats 1000000 in
/-- The record that a log keeps: at least that it is one of as many Writes and Revokes, in new memory. -/
theorem kept_any (t : Tx) (Aw Ar : Option Addr) (nw cw nr cr B : Nat) (w : World) (h : TxAt w B t Aw nw cw Ar nr cr) (hB : B ≤ w.heap.size) (h1 : nw ≤ 1048576) (h2 : nr ≤ 1048576) (hd : ∀ x ∈ t.ws, x.2.length ≤ 1048576) :
    Calls Try.prog 80 #[.agg #[.int .u64 (t.seq : Int), .slice Aw nw cw, .slice Ar nr cr]] w fun e w' => ∃ Bw dw Br dr, e = .returned (.agg #[.int .u64 (t.seq : Int), .slice Bw nw dw, .slice Br nr dr]) ∧ Below w.heap.size w w' := by
  have ht1 : Below w.heap.size w ((w.alloc (.cells #[.int .u64 (t.seq : Int), .slice Aw nw cw, .slice Ar nr cr] 67)).alloc (.cells #[.int .u64 0, .slice none 0 0, .slice none 0 0] 67)) := ((Below.refl _ w).alloc (Nat.le_refl _) _).alloc (by simp) _
  have hx1 : ((w.alloc (.cells #[.int .u64 (t.seq : Int), .slice Aw nw cw, .slice Ar nr cr] 67)).alloc (.cells #[.int .u64 0, .slice none 0 0, .slice none 0 0] 67)).heap[w.heap.size]? = some (.cells #[.int .u64 (t.seq : Int), .slice Aw nw cw, .slice Ar nr cr] 67 (0, 0)) := (Below.heap_alloc _ _ _ (by simp)).trans (heap_alloc_new w _)
  have hx2 : ((w.alloc (.cells #[.int .u64 (t.seq : Int), .slice Aw nw cw, .slice Ar nr cr] 67)).alloc (.cells #[.int .u64 0, .slice none 0 0, .slice none 0 0] 67)).heap[w.heap.size + 1]? = some (.cells #[.int .u64 0, .slice none 0 0, .slice none 0 0] 67 (0, 0)) := by
    have := heap_alloc_new (w.alloc (.cells #[.int .u64 (t.seq : Int), .slice Aw nw cw, .slice Ar nr cr] 67)) (.cells #[.int .u64 0, .slice none 0 0, .slice none 0 0] 67)
    simpa using this
  have HT := Lib.hid h; clear h
  have HX1 := Lib.hid hx1; clear hx1
  have HX2 := Lib.hid hx2; clear hx2
  have HT1 := Lib.hid ht1; clear ht1
  go_enter Try.func80, Try.ntmps80
  go_wp2_with fail
  generalize (w.alloc (.cells #[.int .u64 (t.seq : Int), .slice Aw nw cw, .slice Ar nr cr] 67)).alloc (.cells #[.int .u64 0, .slice none 0 0, .slice none 0 0] 67) = W at HT1 HX1 HX2 ⊢
  have hz2 : w.heap.size + 1 < W.heap.size := (Array.getElem?_eq_some_iff.1 HX2.out).1
  refine (wclone_any Aw nw cw B t.ws W (HT.out.ws.below (HT1.out.mono hB)) h1 (by omega)).mono ?_
  rintro e w1 ⟨A', c', vs, rfl, hvl, hvs, hrow, hb1⟩
  have hx1 := (hb1.block _ (by omega)).trans HX1.out
  have f1 := frozen_of_row w1 w.heap.size 1 _ _ hx1
  have e1 : w1.cell? ⟨w.heap.size, 1, none⟩ = some (.slice Aw nw cw) := cell_of_row w1 w.heap.size 1 _ _ _ hx1
  have hx1' : (w1.setCell ⟨w.heap.size, 1, none⟩ (.slice A' nw c')).heap[w.heap.size]? = some (.cells #[.int .u64 (t.seq : Int), .slice A' nw c', .slice Ar nr cr] 67 (0, 0)) := heap_setCell_same w1 w.heap.size 1 _ _ _ hx1
  have e1' : (w1.setCell ⟨w.heap.size, 1, none⟩ (.slice A' nw c')).cell? ⟨w.heap.size, 1, none⟩ = some (.slice A' nw c') := cell_of_row _ w.heap.size 1 _ _ _ hx1'
  have hx2' : (w1.setCell ⟨w.heap.size, 1, none⟩ (.slice A' nw c')).heap[w.heap.size + 1]? = some (.cells #[.int .u64 0, .slice none 0 0, .slice none 0 0] 67 (0, 0)) := (Below.heap_setCell _ _ _ _ (by intro e; simp at e)).trans ((hb1.block _ hz2).trans HX2.out)
  have hbw : Below w.heap.size w (w1.setCell ⟨w.heap.size, 1, none⟩ (.slice A' nw c')) := (HT1.out.trans (hb1.mono HT1.out.size)).setCell (p := ⟨w.heap.size, 1, none⟩) (Nat.le_refl _) _
  have HBW := Lib.hid hbw; clear hbw
  have HX1' := Lib.hid hx1'; clear hx1'
  have HX2' := Lib.hid hx2'; clear hx2'
  have HVS := Lib.hid hvs; clear hvs
  have HROW := Lib.hid hrow; clear hrow
  have HB1 := Lib.hid hb1; clear hb1
  clear hx1
  go_wp2
  obtain ⟨W1, hW1⟩ : ∃ W1, W1 = w1.setCell ⟨w.heap.size, 1, none⟩ (.slice A' nw c') := ⟨_, rfl⟩
  rw [← hW1] at HBW HX1' HX2' e1' ⊢
  have hst : ∀ g, (Value.slice A' nw c').ownBlock = some g → W.heap.size ≤ g ∧ A' = some ⟨g, 0, none⟩ ∧ ∃ cur, W1.heap[g]? = some (.cells cur 83 (0, 0)) ∧ ∀ j, 0 * 2 ≤ j → j < nw * 2 → cur[j]? = (wcells t.ws vs)[j]? := fun g hg => by
    rcases HROW.out.2 with ⟨e, _⟩ | ⟨g', cap, cur, e, hg1, hh, q1, q2, q3, q4⟩
    · rw [e] at hg; cases hg
    · injection e with e3 _ _
      subst e3
      simp [Value.ownBlock] at hg
      subst hg
      refine ⟨hg1, rfl, cur, ?_, fun j _ hj => ?_⟩
      · rw [hW1]; exact (Below.heap_setCell _ _ _ _ (by intro e; simp at e; omega)).trans hh
      · rw [← q4, List.getElem?_take, if_pos hj]; simp
  have hpos : 0 < nw → ∃ g, (Value.slice A' nw c').ownBlock = some g := fun hn => by
    rcases HROW.out.2 with ⟨e, h0⟩ | ⟨g', cap, cur, e, _⟩
    · omega
    · exact ⟨g', by rw [e]; rfl⟩
  have HWW : Hid (Below w.heap.size W W1) := Lib.hid (by rw [hW1]; exact (HB1.out.mono HT1.out.size).setCell (p := ⟨w.heap.size, 1, none⟩) (Nat.le_refl _) _)
  have HST := Lib.hid hst; clear hst
  have HPOS := Lib.hid hpos; clear hpos
  clear f1 e1 HROW hW1 e1'
  go_loopw [12] (fun i wr => ∃ k : Nat, k ≤ nw ∧ i = .int .i64 (k : Int) ∧ Turns (fun q => (Value.slice A' nw c').ownBlock = some q) W1 wr ∧ ∀ g, (Value.slice A' nw c').ownBlock = some g → ∃ cur, wr.heap[g]? = some (.cells cur 83 (0, 0)) ∧ ∀ j, k * 2 ≤ j → j < nw * 2 → cur[j]? = (wcells t.ws vs)[j]?) (fun i _ => nw - (intOf i).toNat)
  case atStart => exact ⟨0, by omega, rfl, Turns.refl _ _, fun g hg => (HST.out g hg).2.2⟩
  case round =>
    obtain ⟨k, hk, rfl, ht, hrw⟩ := hrel
    obtain ⟨wk, hwk⟩ : ∃ wk, wk = wr := ⟨_, rfl⟩
    subst hwk
    have HTK := Lib.hid ht; clear ht
    have HRW := Lib.hid hrw; clear hrw
    have hpn : ¬ (Value.slice A' nw c').ownBlock = some w.heap.size := fun e => by have := (HST.out _ e).1; omega
    have hqn : ¬ (Value.slice A' nw c').ownBlock = some (w.heap.size + 1) := fun e => by have := (HST.out _ e).1; omega
    have HPK : Hid (wk.heap[w.heap.size]? = some (.cells #[.int .u64 (t.seq : Int), .slice A' nw c', .slice Ar nr cr] 67 (0, 0))) := Lib.hid ((HTK.out.block _ (Array.getElem?_eq_some_iff.1 HX1'.out).1 hpn).trans HX1'.out)
    have HQK : Hid (wk.heap[w.heap.size + 1]? = some (.cells #[.int .u64 0, .slice none 0 0, .slice none 0 0] 67 (0, 0))) := Lib.hid ((HTK.out.block _ (Array.getElem?_eq_some_iff.1 HX2'.out).1 hqn).trans HX2'.out)
    have HWWK : Hid (Below w.heap.size W wk) := Lib.hid (HWW.out.trans (HTK.out.below (fun q e => by have := (HST.out _ e).1; omega) HBW.out.size))
    have HWK : Hid (Below w.heap.size w wk) := Lib.hid (HBW.out.trans (HTK.out.below (fun q e => by have := (HST.out _ e).1; omega) HBW.out.size))
    by_cases hlt : k < nw
    · obtain ⟨g, hg⟩ := HPOS.out (by omega)
      obtain ⟨hgW, rfl, -⟩ := HST.out g hg
      obtain ⟨cur, hcur, hcells⟩ := HRW.out g hg
      have hkl : k < t.ws.length := by rw [HT.out.ws.1]; exact hlt
      have hkv : k < vs.length := by omega
      have hgx := List.getElem?_eq_getElem hkl
      have hgv := List.getElem?_eq_getElem hkv
      obtain ⟨g1, g2⟩ := wcells_get t.ws vs k _ _ hgx hgv
      obtain ⟨A2, c2, hv2, hh2, -⟩ := HVS.out k _ _ hgx hgv
      have hdl := hd _ (List.getElem_mem hkl)
      rw [hv2] at g2
      generalize t.ws[k]'hkl = x at g1 g2 hh2 hdl
      obtain ⟨x1, x2⟩ := x
      dsimp only at g1 g2 hh2 hdl
      have e0 : wk.cell? ⟨g, k * 2, none⟩ = some (.int .i64 x1) := (cell_of_row wk g (k * 2) _ _ _ hcur).trans ((hcells _ (by omega) (by omega)).trans g1)
      have e1 : wk.cell? ⟨g, k * 2 + 1, none⟩ = some (.slice A2 x2.length c2) := (cell_of_row wk g (k * 2 + 1) _ _ _ hcur).trans ((hcells _ (by omega) (by omega)).trans g2)
      have hi1 : (0 : Int) ≤ (k : Int) := by omega
      have hi2 : (k : Int) < (nw : Int) := by omega
      have HCUR := Lib.hid hcur; clear hcur
      have HCELLS := Lib.hid hcells; clear hcells
      have HH2 := Lib.hid hh2; clear hh2
      clear g1 g2 hgx hgv hv2
      have hgk : g < wk.heap.size := (Array.getElem?_eq_some_iff.1 HCUR.out).1
      have hbc := bclone_any A2 x2.length c2 B x2 ((wk.alloc (.cells #[.int .i64 x1, .slice A2 x2.length c2] 83)).drew) (HH2.out.below (((HWWK.out.alloc HWK.out.size _).drew).mono hB)) (by omega) (by have := HWK.out.size; show B ≤ (wk.alloc _).heap.size; simp; omega)
      obtain ⟨XL, hXL⟩ : ∃ n, n = x2.length := ⟨_, rfl⟩
      unfold Made at hbc
      rw [← hXL] at hbc e1
      have HBC := Lib.hid hbc; clear hbc
      have hbox : (wk.alloc (.cells #[.int .i64 x1, .slice A2 XL c2] 83)).heap[wk.heap.size]? = some (.cells #[.int .i64 x1, .slice A2 XL c2] 83 (0, 0)) := heap_alloc_new wk _
      have hp2 : (wk.alloc (.cells #[.int .i64 x1, .slice A2 XL c2] 83)).heap[w.heap.size]? = some (.cells #[.int .u64 (t.seq : Int), .slice (some ⟨g, 0, none⟩) nw c', .slice Ar nr cr] 67 (0, 0)) := (Below.heap_alloc _ _ _ (by have := (Array.getElem?_eq_some_iff.1 HPK.out).1; omega)).trans HPK.out
      have hS : ((wk.alloc (.cells #[.int .i64 x1, .slice A2 XL c2] 83)).drew.cell? ⟨w.heap.size, 1, none⟩ = some (.slice (some ⟨g, 0, none⟩) nw c') ∧ (wk.alloc (.cells #[.int .i64 x1, .slice A2 XL c2] 83)).drew.cell? ⟨wk.heap.size, 1, none⟩ = some (.slice A2 XL c2)) :=
        ⟨cell_of_row (wk.alloc (.cells #[.int .i64 x1, .slice A2 XL c2] 83)) w.heap.size 1 _ _ _ hp2, cell_of_row (wk.alloc (.cells #[.int .i64 x1, .slice A2 XL c2] 83)) wk.heap.size 1 _ _ _ hbox⟩
      have HBOX := Lib.hid hbox; clear hbox
      have HP2 := Lib.hid hp2; clear hp2
      have HXL := Lib.hid hXL; clear hXL
      have hgc : (wk.alloc (.cells #[.int .i64 x1, .slice A2 XL c2] 83)).heap[g]? = some (.cells cur 83 (0, 0)) := (Below.heap_alloc _ _ _ (by omega)).trans HCUR.out
      have HGC := Lib.hid hgc; clear hgc
      have hwp : w.heap.size ≠ g := by omega
      have HTA : Hid (Below wk.heap.size wk (wk.alloc (.cells #[.int .i64 x1, .slice A2 XL c2] 83))) := Lib.hid ((Below.refl _ wk).alloc (Nat.le_refl _) _)
      go_wp2_with fail
      have hz0 : (wk.alloc (.cells #[.int .i64 x1, .slice A2 XL c2] 83)).heap.size = wk.heap.size + 1 := by simp
      generalize wk.alloc (.cells #[.int .i64 x1, .slice A2 XL c2] 83) = WA at HBC HBOX HP2 HGC HTA hS hz0 ⊢
      go_region_held (fun V => V.cell? ⟨w.heap.size, 1, none⟩ = some (.slice (some ⟨g, 0, none⟩) nw c') ∧ V.cell? ⟨wk.heap.size, 1, none⟩ = some (.slice A2 XL c2)) (first | assumption | exact HSV.out _)
        (first
          | (go_at_call 106
             with_reducible refine HBC.out.mono ?_
             rintro e V ⟨A3, c3, rfl, ho3, hb3⟩
             clear hS
             have hpV := (hb3.block _ (by show w.heap.size < WA.heap.size; omega)).trans HP2.out
             have hbV := (hb3.block _ (by show wk.heap.size < WA.heap.size; omega)).trans HBOX.out
             have hgV := (hb3.block _ (by show g < WA.heap.size; omega)).trans HGC.out
             have hS1 : (V.cell? ⟨w.heap.size, 1, none⟩ = some (.slice (some ⟨g, 0, none⟩) nw c') ∧ V.cell? ⟨wk.heap.size, 1, none⟩ = some (.slice A2 XL c2)) := ⟨cell_of_row V w.heap.size 1 _ _ _ hpV, cell_of_row V wk.heap.size 1 _ _ _ hbV⟩
             have f1 := frozen_of_row V g (k * 2 + 1) _ _ hgV
             have q1 : V.cell? ⟨g, k * 2 + 1, none⟩ = some (.slice A2 XL c2) := (cell_of_row V g (k * 2 + 1) _ _ _ hgV).trans ((cell_of_row wk g (k * 2 + 1) _ _ _ HCUR.out).symm.trans e1)
             have HSV : Hid (∀ u, (V.setCell ⟨g, k * 2 + 1, none⟩ u).cell? ⟨w.heap.size, 1, none⟩ = some (.slice (some ⟨g, 0, none⟩) nw c') ∧ (V.setCell ⟨g, k * 2 + 1, none⟩ u).cell? ⟨wk.heap.size, 1, none⟩ = some (.slice A2 XL c2)) := Lib.hid (fun u =>
               ⟨cell_of_row _ w.heap.size 1 _ _ _ ((Below.heap_setCell _ _ _ _ (by intro e; simp at e; omega)).trans hpV), cell_of_row _ wk.heap.size 1 _ _ _ ((Below.heap_setCell _ _ _ _ (by intro e; simp at e; omega)).trans hbV)⟩)
             have HB3 := Lib.hid hb3
             have HGV := Lib.hid hgV
             clear hb3 hgV hpV hbV ho3))
      all_goals
        have htn : Turns (fun q => (Value.slice (some ⟨g, 0, none⟩) nw c').ownBlock = some q) W1 (V.setCell ⟨g, k * 2 + 1, none⟩ (.slice A3 XL c3)) :=
          ((HTK.out.trans (Turns.of_below (F := fun q => (Value.slice (some ⟨g, 0, none⟩) nw c').ownBlock = some q) HTA.out) (fun _ _ e => e)).drew.trans (Turns.of_below (F := fun q => (Value.slice (some ⟨g, 0, none⟩) nw c').ownBlock = some q) HB3.out) (fun _ _ e => e)).setCell (p := ⟨g, k * 2 + 1, none⟩) (fun _ => hg) _
        have hrn : ∀ g', (Value.slice (some ⟨g, 0, none⟩) nw c').ownBlock = some g' → ∃ cur, (V.setCell ⟨g, k * 2 + 1, none⟩ (.slice A3 XL c3)).heap[g']? = some (.cells cur 83 (0, 0)) ∧ ∀ j, (k + 1) * 2 ≤ j → j < nw * 2 → cur[j]? = (wcells t.ws vs)[j]? := fun g' hg' => by
          obtain rfl : g' = g := by rw [hg] at hg'; injection hg' with e; exact e.symm
          refine ⟨_, heap_setCell_same V g' (k * 2 + 1) _ _ _ HGV.out, fun j hj1 hj2 => ?_⟩
          rw [Array.getElem?_setIfInBounds_ne (by omega)]
          exact HCELLS.out j (by omega) hj2
        have HTN := Lib.hid htn; clear htn
        have HRN := Lib.hid hrn; clear hrn
        go_wp2
        go_roundw
        case rel => exact ⟨k + 1, by omega, by go_num, HTN.out, HRN.out⟩
        case measure => simp [intOf]; omega
    · obtain rfl : k = nw := by omega
      have hmm : (k : Int) ≤ (k : Int) := by omega
      have e2 : wk.cell? ⟨w.heap.size, 2, none⟩ = some (.slice Ar nr cr) := cell_of_row wk w.heap.size 2 _ _ _ HPK.out
      clear HRW HTK HST HPOS HVS
      go_wp2_with fail
      refine (iclone_any Ar nr cr B t.rs wk (HT.out.rs.below (HWK.out.mono hB)) h2 (by have := HWK.out.size; omega)).mono ?_
      rintro e V ⟨B2, d2, rfl, -, hbV⟩
      have hpV := (hbV.block _ (Array.getElem?_eq_some_iff.1 HPK.out).1).trans HPK.out
      have hqV := (hbV.block _ (Array.getElem?_eq_some_iff.1 HQK.out).1).trans HQK.out
      have HBV : Hid (Below w.heap.size w V) := Lib.hid (HWK.out.trans (hbV.mono HWK.out.size))
      clear hbV e2
      have f2 := frozen_of_row V w.heap.size 2 _ _ hpV
      have e2 : V.cell? ⟨w.heap.size, 2, none⟩ = some (.slice Ar nr cr) := cell_of_row V w.heap.size 2 _ _ _ hpV
      have hpV2 : (V.setCell ⟨w.heap.size, 2, none⟩ (.slice B2 nr d2)).heap[w.heap.size]? = some (.cells #[.int .u64 (t.seq : Int), .slice A' k c', .slice B2 nr d2] 67 (0, 0)) := heap_setCell_same V w.heap.size 2 _ _ _ hpV
      have hqV2 : (V.setCell ⟨w.heap.size, 2, none⟩ (.slice B2 nr d2)).heap[w.heap.size + 1]? = some (.cells #[.int .u64 0, .slice none 0 0, .slice none 0 0] 67 (0, 0)) := (Below.heap_setCell _ _ _ _ (by intro e; simp at e)).trans hqV
      have r0 := cell_of_row _ w.heap.size 0 _ _ _ hpV2
      have r1 := cell_of_row _ w.heap.size 1 _ _ _ hpV2
      have r2 := cell_of_row _ w.heap.size 2 _ _ _ hpV2
      have z0 := cell_of_row _ (w.heap.size + 1) 0 _ _ _ hqV2
      have z1 := cell_of_row _ (w.heap.size + 1) 1 _ _ _ hqV2
      have z2 := cell_of_row _ (w.heap.size + 1) 2 _ _ _ hqV2
      have y0 := frozen_of_row _ (w.heap.size + 1) 0 _ _ hqV2
      have y1 := frozen_of_row _ (w.heap.size + 1) 1 _ _ hqV2
      have y2 := frozen_of_row _ (w.heap.size + 1) 2 _ _ hqV2
      have HQV2 := Lib.hid hqV2; clear hqV2 hpV2 hpV hqV
      go_wp2
      have hfin := heap_setCell_same _ (w.heap.size + 1) 2 _ _ (.slice B2 nr d2) (heap_setCell_same _ (w.heap.size + 1) 1 _ _ (.slice A' k c') (heap_setCell_same _ (w.heap.size + 1) 0 _ _ (.int .u64 (t.seq : Int)) HQV2.out))
      have q0 := cell_of_row _ (w.heap.size + 1) 0 _ _ _ hfin
      have q1 := cell_of_row _ (w.heap.size + 1) 1 _ _ _ hfin
      have q2 := cell_of_row _ (w.heap.size + 1) 2 _ _ _ hfin
      refine bodyPost_ret (v := .agg #[.int .u64 (t.seq : Int), .slice A' k c', .slice B2 nr d2]) (by simp [results, go_sem, q0, q1, q2]) rfl ?_
      exact ⟨A', c', B2, d2, rfl, (((HBV.out.setCell (p := ⟨w.heap.size, 2, none⟩) (Nat.le_refl _) _).setCell (p := ⟨w.heap.size + 1, 0, none⟩) (Nat.le_succ _) _).setCell (p := ⟨w.heap.size + 1, 1, none⟩) (Nat.le_succ _) _).setCell (p := ⟨w.heap.size + 1, 2, none⟩) (Nat.le_succ _) _⟩
end Go.Proofs.Ytkicobmdogeigaa.Log
