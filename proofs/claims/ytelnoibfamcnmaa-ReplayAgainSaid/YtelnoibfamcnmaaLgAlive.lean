/- The fixed fact of layer 4's statements. -/
import Derived.Test.YtelnoibfamcnmaaRcHeld
import Derived.Test.YtelnoibfamcnmaaRcList
import Derived.Test.YtelnoibfamcnmaaDkLow
import Derived.Deep.RegionHeld
import Derived.Test.YtelnoibfamcnmaaLgWrite
import Derived.Test.YtelnoibfamcnmaaLgLog
import Derived.Test.YtelnoibfamcnmaaRcEnc
import Derived.Test.YtelnoibfamcnmaaDkNil
namespace Go.Proofs.Ytelnoibfamcnmaa.Log
set_option maxRecDepth 20000
open Go.RowKit
open Go.Proofs.Ytelnoibfamcnmaa.Mem Go.Proofs.Ytelnoibfamcnmaa.Crc Go.Proofs.Ytelnoibfamcnmaa.Rec
open Go.Proofs.Ytelnoibfamcnmaa.Disk (Turns)

/-- An append's run taken as one step. -/
theorem wpList_apprun {w : World} {ops : Array Oper} {rest : List Oper} {o : Oper} {a : Act} {Q : Exit → Act → World → Prop} (hgd : o.guard = none) (d x : Operand) (dT sT : TypeId)
    (ho : o.op = .call { callee := .builtin .append, args := #[d, x], argTypes := #[dT, sT] }) (vd vx : Value) (hd : a.eval d = vd) (hx : a.eval x = vx) (v : Value) (w' : World) (hrun : (Builtin.append_ #[dT, sT] o.type #[vd, vx]).run Try.prog w = .ok v w')
    (h : wpList Try.prog ops Q rest (a.put o.dst v) w') : wpList Try.prog ops Q (o :: rest) a w := by
  refine wpList_plain hgd fun K hK => ?_
  unfold Oper.wp execOp
  simp only [ho, resolve, invoke, builtin, Sem.run_bind, Sem.run_pure, Result.andThen_ok, List.map_toArray, List.map_cons, List.map_nil, hd, hx, hrun]
  exact hK _ _ h

set_option maxRecDepth 100000 in
set_option maxHeartbeats 1000000 in
theorem iclone_any (A : Option Addr) (n c B : Nat) (rs : List Int) (w : World) (h : HoldsI w B A n rs) (hn : n ≤ 1048576) (hB : B ≤ w.heap.size) :
    Calls Try.prog 119 #[.slice A n c] w fun e w' => ∃ A' c', e = .returned (.slice A' n c') ∧ w'.ownsRow w.heap.size 3 1 (.slice A' n c') n (rs.map (Value.int .i64)) ∧ Below w.heap.size w w' := by
  obtain rfl : rs.length = n := h.1
  rcases A with _ | a
  · have h0 : rs.length = 0 := by
      rcases Nat.eq_zero_or_pos rs.length with e | e
      · exact e
      · obtain ⟨b, off, e, _⟩ := h.2 e; cases e
    obtain rfl : rs = [] := List.eq_nil_of_length_eq_zero h0
    have hq : ∀ W, (binOp .eql 65 (.slice none 0 c) (.slice none 0 0)).run Try.prog W = .ok (.bool true) W := fun W => Lib.run_eql_slice_nil W _ _ none 0 c 0 0 Try.underlying65
    clear h h0
    go_enter Try.func119, Try.ntmps119
    go_wp2
    go_ret
    exact ⟨none, 0, rfl, World.ownsRow_nil _ _ _ _, Below.refl _ _⟩
  · have hq : ∀ W, (binOp .eql 65 (.slice (some a) rs.length c) (.slice none 0 0)).run Try.prog W = .ok (.bool false) W := fun W => Lib.run_eql_slice_nil W _ _ (some a) rs.length c 0 0 Try.underlying65
    have ho : (w.alloc (.cells #[] 3)).ownsRow w.heap.size 3 1 (.slice (some ⟨w.heap.size, 0, none⟩) 0 0) 0 [] := World.ownsRow_made w #[] 0 (Nat.le_refl _) (Nat.zero_le _) (by simp)
    have hb : Below w.heap.size w (w.alloc (.cells #[] 3)) := (Below.refl w.heap.size w).alloc (Nat.le_refl _) _
    obtain ⟨A', c', w', hrun, h2, h3⟩ := run_addints (w.alloc (.cells #[] 3)) 65 w.heap.size _ ho B (some a) rs.length c rs (h.below (hb.mono hB)) (by omega) (by simp)
    have hb2 : Below w.heap.size w w' := hb.grown h3 hb.size (by intro k hk; simp [Value.ownBlock] at hk; omega)
    have H2 := Lib.hid h2; clear h2
    have HB2 := Lib.hid hb2; clear hb2
    clear h h3 ho hb
    generalize rs.length = N at *
    go_enter Try.func119, Try.ntmps119
    go_wp2_with (at_builtin; refine wpList_apprun rfl _ _ 65 65 rfl _ _ rfl rfl _ w' hrun ?_)
    clear hrun
    go_wp2
    go_ret
    exact ⟨A', c', rfl, H2.out, HB2.out⟩

/-- The values of the slices in which a record's data lie. -/
theorem holdsW_vals {w : World} {B : Nat} {A : Option Addr} {n : Nat} {ws : List Wt} (h : HoldsW w B A n ws) : ∃ vs : List Value, vs.length = ws.length ∧
    (∀ (k : Nat) (x : Wt) (v : Value), ws[k]? = some x → vs[k]? = some v → ∃ A' c', v = .slice A' x.2.length c' ∧ Holds w B A' x.2.length x.2 ∧ x.2.length ≤ c' ∧ c' ≤ maxLen) ∧
    (0 < n → ∃ b off, A = some ⟨b, off, none⟩ ∧ b < B ∧ ∀ j u, (wcells ws vs)[j]? = some u → w.cell? ⟨b, off + j, none⟩ = some u) := by
  rcases Nat.eq_zero_or_pos n with h0 | h0
  · have hl := h.1
    rw [h0] at hl
    obtain rfl : ws = [] := List.eq_nil_of_length_eq_zero hl
    exact ⟨[], rfl, fun k x v hx _ => by simp at hx, fun hn => by omega⟩
  obtain ⟨b, off, e, hb, hc⟩ := h.2 h0
  obtain ⟨vs, hvl, hvs⟩ := exists_list (p := fun i (v : Value) => ∀ x, ws[i]? = some x → w.cell? ⟨b, off + i * 2 + 1, none⟩ = some v ∧ ∃ A' c', v = .slice A' x.2.length c' ∧ Holds w B A' x.2.length x.2 ∧ x.2.length ≤ c' ∧ c' ≤ maxLen) ws.length (fun i hi => by
    obtain ⟨h1, A', c', h2, h3, h4, h5⟩ := hc i ws[i] (List.getElem?_eq_getElem hi)
    refine ⟨.slice A' ws[i].2.length c', fun x hx => ?_⟩
    rw [List.getElem?_eq_getElem hi] at hx
    injection hx with hx
    subst hx
    exact ⟨h2, A', c', rfl, h3, h4, h5⟩)
  refine ⟨vs, hvl, fun k x v hx hv => ?_, fun _ => ⟨b, off, e, hb, fun j u hu => ?_⟩⟩
  · obtain ⟨hk, rfl⟩ := List.getElem?_eq_some_iff.1 hv
    exact (hvs k hk x hx).2
  · have hj : j < ws.length * 2 := by
      have := (List.getElem?_eq_some_iff.1 hu).1
      rwa [wcells_len ws vs hvl] at this
    have hk : j / 2 < ws.length := by omega
    have hk' : j / 2 < vs.length := by omega
    obtain ⟨g1, g2⟩ := wcells_get ws vs (j / 2) _ _ (List.getElem?_eq_getElem hk) (List.getElem?_eq_getElem hk')
    rcases Nat.mod_two_eq_zero_or_one j with hm | hm
    · have ej : j = j / 2 * 2 := by omega
      rw [ej, g1] at hu
      injection hu with hu
      rw [ej, ← hu]
      exact (hc (j / 2) _ (List.getElem?_eq_getElem hk)).1
    · have ej : j = j / 2 * 2 + 1 := by omega
      rw [ej, g2] at hu
      injection hu with hu
      rw [ej, ← hu, ← Nat.add_assoc]
      exact (hvs (j / 2) hk' _ (List.getElem?_eq_getElem hk)).1

theorem wcells_one {ws : List Wt} {vs : List Value} (hv : ∀ v ∈ vs, v.oneCell' = true) : ∀ u ∈ wcells ws vs, u.oneCell' = true := by
  induction ws generalizing vs with
  | nil => intro u hu; cases vs <;> simp [wcells] at hu
  | cons x r ih =>
    cases vs with
    | nil => intro u hu; simp [wcells] at hu
    | cons v vs =>
      intro u hu
      simp only [wcells, List.mem_cons] at hu
      rcases hu with rfl | rfl | hu
      · rfl
      · exact hv _ (by simp)
      · exact ih (fun v' h' => hv v' (by simp [h'])) u hu

set_option maxRecDepth 100000 in
set_option maxHeartbeats 1000000 in
theorem wclone_any (A : Option Addr) (n c B : Nat) (ws : List Wt) (w : World) (h : HoldsW w B A n ws) (hn : n ≤ 1048576) (hB : B ≤ w.heap.size) :
    Calls Try.prog 117 #[.slice A n c] w fun e w' => ∃ A' c' vs, e = .returned (.slice A' n c') ∧ vs.length = n ∧
      (∀ (k : Nat) (x : Wt) (v : Value), ws[k]? = some x → vs[k]? = some v → ∃ A' c', v = .slice A' x.2.length c' ∧ Holds w B A' x.2.length x.2 ∧ x.2.length ≤ c' ∧ c' ≤ maxLen) ∧ w'.ownsRow w.heap.size 83 2 (.slice A' n c') n (wcells ws vs) ∧ Below w.heap.size w w' := by
  obtain ⟨vs, hvl, hvs, hcell⟩ := holdsW_vals h
  obtain rfl : ws.length = n := h.1
  rcases A with _ | a
  · have h0 : ws.length = 0 := by
      rcases Nat.eq_zero_or_pos ws.length with e | e
      · exact e
      · obtain ⟨b, off, e, _⟩ := h.2 e; cases e
    obtain rfl : ws = [] := List.eq_nil_of_length_eq_zero h0
    have hq : ∀ W, (binOp .eql 37 (.slice none 0 c) (.slice none 0 0)).run Try.prog W = .ok (.bool true) W := fun W => Lib.run_eql_slice_nil W _ _ none 0 c 0 0 Try.underlying37
    clear h h0 hvs hcell
    go_enter Try.func117, Try.ntmps117
    go_wp2
    go_ret
    exact ⟨none, 0, [], rfl, rfl, fun k x v hx _ => by simp at hx, World.ownsRow_nil _ _ _ _, Below.refl _ _⟩
  · have hq : ∀ W, (binOp .eql 37 (.slice (some a) ws.length c) (.slice none 0 0)).run Try.prog W = .ok (.bool false) W := fun W => Lib.run_eql_slice_nil W _ _ (some a) ws.length c 0 0 Try.underlying37
    have ho : (w.alloc (.cells #[] 83)).ownsRow w.heap.size 83 2 (.slice (some ⟨w.heap.size, 0, none⟩) 0 0) 0 [] := World.ownsRow_made w #[] 0 (Nat.le_refl _) (Nat.zero_le _) (by simp)
    have hb : Below w.heap.size w (w.alloc (.cells #[] 83)) := (Below.refl w.heap.size w).alloc (Nat.le_refl _) _
    have hone : ∀ v ∈ vs, v.oneCell' = true := fun v hv => by
      obtain ⟨k, hk, rfl⟩ := List.getElem_of_mem hv
      obtain ⟨A', c', e, _⟩ := hvs k ws[k] vs[k] (List.getElem?_eq_getElem (by omega)) (List.getElem?_eq_getElem hk)
      rw [e]; rfl
    obtain ⟨i0, hi, hz0, hz1, hz2⟩ := info_parts info_wt
    obtain ⟨v', w', hrun, h2, h3, _⟩ := run_append_own_at (P := Try.prog) (w.alloc (.cells #[] 83)) w.heap.size 37 37 83 i0 (.agg #[.int .i64 0, .slice none 0 0]) 2 32 Try.underlying37 hi hz0 hz1 hz2 rfl (by decide) _ 0 [] ho a ws.length c (wcells ws vs) (by rw [wcells_len ws vs hvl]) (fun j u hu => by
      have hj : j < ws.length * 2 := by
        have := (List.getElem?_eq_some_iff.1 hu).1
        rwa [wcells_len ws vs hvl] at this
      obtain ⟨b, off, e, hbB, hc⟩ := hcell (by omega)
      injection e with e
      subst e
      have hadd : (⟨b, off, none⟩ : Addr).add j = ⟨b, off + j, none⟩ := by unfold Addr.add; split <;> simp_all
      rw [hadd]
      exact (hb.cell (p := ⟨b, off + j, none⟩) (by show b < _; omega)).trans (hc j u hu)) (wcells_one hone) (by unfold maxLen; omega) (by omega) (by simp)
    rw [Nat.zero_add, List.nil_append] at h2
    have hb2 : Below w.heap.size w w' := hb.grown h3 hb.size (by intro k hk; simp [Value.ownBlock] at hk; omega)
    obtain ⟨A', c', rfl⟩ : ∃ A' c', v' = .slice A' ws.length c' := by
      rcases h2.2 with ⟨rfl, h0⟩ | ⟨g, cap, cur, rfl, _⟩
      · exact ⟨none, 0, by rw [h0]⟩
      · exact ⟨_, _, rfl⟩
    have H2 := Lib.hid h2; clear h2
    have HB2 := Lib.hid hb2; clear hb2
    clear h h3 ho hb hcell hi hz0 hz1 hz2 hone
    have HVS := Lib.hid hvs; clear hvs
    generalize ws.length = N at *
    go_enter Try.func117, Try.ntmps117
    go_wp2_with (at_builtin; refine wpList_apprun rfl _ _ 37 37 rfl _ _ rfl rfl _ w' hrun ?_)
    clear hrun
    go_wp2
    go_ret
    exact ⟨A', c', vs, rfl, hvl, HVS.out, H2.out, HB2.out⟩

set_option maxRecDepth 100000 in
set_option maxHeartbeats 1000000 in
/-- The record that a log keeps: at least that it is one of as many Writes and Revokes, in new memory. -/
theorem kept_any (t : Tx) (Aw Ar : Option Addr) (nw cw nr cr B : Nat) (w : World) (h : TxAt w B t Aw nw cw Ar nr cr) (hB : B ≤ w.heap.size) (h1 : nw ≤ 1048576) (h2 : nr ≤ 1048576) (hd : ∀ x ∈ t.ws, x.2.length ≤ 1048576) :
    Calls Try.prog 89 #[.agg #[.int .u64 (t.seq : Int), .slice Aw nw cw, .slice Ar nr cr]] w fun e w' => ∃ Bw dw Br dr, e = .returned (.agg #[.int .u64 (t.seq : Int), .slice Bw nw dw, .slice Br nr dr]) ∧ Below w.heap.size w w' := by
  have ht1 : Below w.heap.size w ((w.alloc (.cells #[.int .u64 (t.seq : Int), .slice Aw nw cw, .slice Ar nr cr] 67)).alloc (.cells #[.int .u64 0, .slice none 0 0, .slice none 0 0] 67)) := ((Below.refl _ w).alloc (Nat.le_refl _) _).alloc (by simp) _
  have hx1 : ((w.alloc (.cells #[.int .u64 (t.seq : Int), .slice Aw nw cw, .slice Ar nr cr] 67)).alloc (.cells #[.int .u64 0, .slice none 0 0, .slice none 0 0] 67)).heap[w.heap.size]? = some (.cells #[.int .u64 (t.seq : Int), .slice Aw nw cw, .slice Ar nr cr] 67 (0, 0)) := (Below.heap_alloc _ _ _ (by simp)).trans (heap_alloc_new w _)
  have hx2 : ((w.alloc (.cells #[.int .u64 (t.seq : Int), .slice Aw nw cw, .slice Ar nr cr] 67)).alloc (.cells #[.int .u64 0, .slice none 0 0, .slice none 0 0] 67)).heap[w.heap.size + 1]? = some (.cells #[.int .u64 0, .slice none 0 0, .slice none 0 0] 67 (0, 0)) := by
    have := heap_alloc_new (w.alloc (.cells #[.int .u64 (t.seq : Int), .slice Aw nw cw, .slice Ar nr cr] 67)) (.cells #[.int .u64 0, .slice none 0 0, .slice none 0 0] 67)
    simpa using this
  have HT := Lib.hid h; clear h
  have HX1 := Lib.hid hx1; clear hx1
  have HX2 := Lib.hid hx2; clear hx2
  have HT1 := Lib.hid ht1; clear ht1
  go_enter Try.func89, Try.ntmps89
  go_wp2_with fail
  generalize (w.alloc (.cells #[.int .u64 (t.seq : Int), .slice Aw nw cw, .slice Ar nr cr] 67)).alloc (.cells #[.int .u64 0, .slice none 0 0, .slice none 0 0] 67) = W at HT1 HX1 HX2 ⊢
  have hz2 : w.heap.size + 1 < W.heap.size := (Array.getElem?_eq_some_iff.1 HX2.out).1
  refine (wclone_any Aw nw cw B t.ws W (HT.out.ws.below (HT1.out.mono hB)) h1 (by omega)).mono ?_
  rintro e w1 ⟨A', c', vs, rfl, hvl, hvs, hrow, hb1⟩
  have hx1 := (hb1.block _ (by omega)).trans HX1.out
  have f1 := frozen_of_row w1 w.heap.size 1 _ _ hx1
  have e1 : w1.cell? ⟨w.heap.size, 1, none⟩ = some (.slice Aw nw cw) := cell_of_row w1 w.heap.size 1 _ _ _ hx1
  have hx1' : (w1.setCell ⟨w.heap.size, 1, none⟩ (.slice A' nw c')).heap[w.heap.size]? = some (.cells #[.int .u64 (t.seq : Int), .slice A' nw c', .slice Ar nr cr] 67 (0, 0)) := heap_setCell_same w1 w.heap.size 1 _ _ _ hx1
  have e1' : (w1.setCell ⟨w.heap.size, 1, none⟩ (.slice A' nw c')).cell? ⟨w.heap.size, 1, none⟩ = some (.slice A' nw c') := cell_of_row _ w.heap.size 1 _ _ _ hx1'
  have hx2' : (w1.setCell ⟨w.heap.size, 1, none⟩ (.slice A' nw c')).heap[w.heap.size + 1]? = some (.cells #[.int .u64 0, .slice none 0 0, .slice none 0 0] 67 (0, 0)) := (Below.heap_setCell _ _ _ _ (by intro e; simp at e)).trans ((hb1.block _ hz2).trans HX2.out)
  have hbw : Below w.heap.size w (w1.setCell ⟨w.heap.size, 1, none⟩ (.slice A' nw c')) := (HT1.out.trans (hb1.mono HT1.out.size)).setCell (p := ⟨w.heap.size, 1, none⟩) (Nat.le_refl _) _
  have HBW := Lib.hid hbw; clear hbw
  have HX1' := Lib.hid hx1'; clear hx1'
  have HX2' := Lib.hid hx2'; clear hx2'
  have HVS := Lib.hid hvs; clear hvs
  have HROW := Lib.hid hrow; clear hrow
  have HB1 := Lib.hid hb1; clear hb1
  clear hx1
  go_wp2
  obtain ⟨W1, hW1⟩ : ∃ W1, W1 = w1.setCell ⟨w.heap.size, 1, none⟩ (.slice A' nw c') := ⟨_, rfl⟩
  rw [← hW1] at HBW HX1' HX2' e1' ⊢
  have hst : ∀ g, (Value.slice A' nw c').ownBlock = some g → W.heap.size ≤ g ∧ A' = some ⟨g, 0, none⟩ ∧ ∃ cur, W1.heap[g]? = some (.cells cur 83 (0, 0)) ∧ ∀ j, 0 * 2 ≤ j → j < nw * 2 → cur[j]? = (wcells t.ws vs)[j]? := fun g hg => by
    rcases HROW.out.2 with ⟨e, _⟩ | ⟨g', cap, cur, e, hg1, hh, q1, q2, q3, q4⟩
    · rw [e] at hg; cases hg
    · injection e with e3 _ _
      subst e3
      simp [Value.ownBlock] at hg
      subst hg
      refine ⟨hg1, rfl, cur, ?_, fun j _ hj => ?_⟩
      · rw [hW1]; exact (Below.heap_setCell _ _ _ _ (by intro e; simp at e; omega)).trans hh
      · rw [← q4, List.getElem?_take, if_pos hj]; simp
  have hpos : 0 < nw → ∃ g, (Value.slice A' nw c').ownBlock = some g := fun hn => by
    rcases HROW.out.2 with ⟨e, h0⟩ | ⟨g', cap, cur, e, _⟩
    · omega
    · exact ⟨g', by rw [e]; rfl⟩
  have HWW : Hid (Below w.heap.size W W1) := Lib.hid (by rw [hW1]; exact (HB1.out.mono HT1.out.size).setCell (p := ⟨w.heap.size, 1, none⟩) (Nat.le_refl _) _)
  have HST := Lib.hid hst; clear hst
  have HPOS := Lib.hid hpos; clear hpos
  clear f1 e1 HROW hW1 e1'
  go_loopw [12] (fun i wr => ∃ k : Nat, k ≤ nw ∧ i = .int .i64 (k : Int) ∧ Turns (fun q => (Value.slice A' nw c').ownBlock = some q) W1 wr ∧ ∀ g, (Value.slice A' nw c').ownBlock = some g → ∃ cur, wr.heap[g]? = some (.cells cur 83 (0, 0)) ∧ ∀ j, k * 2 ≤ j → j < nw * 2 → cur[j]? = (wcells t.ws vs)[j]?) (fun i _ => nw - (intOf i).toNat)
  case atStart => exact ⟨0, by omega, rfl, Turns.refl _ _, fun g hg => (HST.out g hg).2.2⟩
  case round =>
    obtain ⟨k, hk, rfl, ht, hrw⟩ := hrel
    obtain ⟨wk, hwk⟩ : ∃ wk, wk = wr := ⟨_, rfl⟩
    subst hwk
    have HTK := Lib.hid ht; clear ht
    have HRW := Lib.hid hrw; clear hrw
    have hpn : ¬ (Value.slice A' nw c').ownBlock = some w.heap.size := fun e => by have := (HST.out _ e).1; omega
    have hqn : ¬ (Value.slice A' nw c').ownBlock = some (w.heap.size + 1) := fun e => by have := (HST.out _ e).1; omega
    have HPK : Hid (wk.heap[w.heap.size]? = some (.cells #[.int .u64 (t.seq : Int), .slice A' nw c', .slice Ar nr cr] 67 (0, 0))) := Lib.hid ((HTK.out.block _ (Array.getElem?_eq_some_iff.1 HX1'.out).1 hpn).trans HX1'.out)
    have HQK : Hid (wk.heap[w.heap.size + 1]? = some (.cells #[.int .u64 0, .slice none 0 0, .slice none 0 0] 67 (0, 0))) := Lib.hid ((HTK.out.block _ (Array.getElem?_eq_some_iff.1 HX2'.out).1 hqn).trans HX2'.out)
    have HWWK : Hid (Below w.heap.size W wk) := Lib.hid (HWW.out.trans (HTK.out.below (fun q e => by have := (HST.out _ e).1; omega) HBW.out.size))
    have HWK : Hid (Below w.heap.size w wk) := Lib.hid (HBW.out.trans (HTK.out.below (fun q e => by have := (HST.out _ e).1; omega) HBW.out.size))
    by_cases hlt : k < nw
    · obtain ⟨g, hg⟩ := HPOS.out (by omega)
      obtain ⟨hgW, rfl, -⟩ := HST.out g hg
      obtain ⟨cur, hcur, hcells⟩ := HRW.out g hg
      have hkl : k < t.ws.length := by rw [HT.out.ws.1]; exact hlt
      have hkv : k < vs.length := by omega
      have hgx := List.getElem?_eq_getElem hkl
      have hgv := List.getElem?_eq_getElem hkv
      obtain ⟨g1, g2⟩ := wcells_get t.ws vs k _ _ hgx hgv
      obtain ⟨A2, c2, hv2, hh2, -⟩ := HVS.out k _ _ hgx hgv
      have hdl := hd _ (List.getElem_mem hkl)
      rw [hv2] at g2
      generalize t.ws[k]'hkl = x at g1 g2 hh2 hdl
      obtain ⟨x1, x2⟩ := x
      dsimp only at g1 g2 hh2 hdl
      have e0 : wk.cell? ⟨g, k * 2, none⟩ = some (.int .i64 x1) := (cell_of_row wk g (k * 2) _ _ _ hcur).trans ((hcells _ (by omega) (by omega)).trans g1)
      have e1 : wk.cell? ⟨g, k * 2 + 1, none⟩ = some (.slice A2 x2.length c2) := (cell_of_row wk g (k * 2 + 1) _ _ _ hcur).trans ((hcells _ (by omega) (by omega)).trans g2)
      have hi1 : (0 : Int) ≤ (k : Int) := by omega
      have hi2 : (k : Int) < (nw : Int) := by omega
      have HCUR := Lib.hid hcur; clear hcur
      have HCELLS := Lib.hid hcells; clear hcells
      have HH2 := Lib.hid hh2; clear hh2
      clear g1 g2 hgx hgv hv2
      have hgk : g < wk.heap.size := (Array.getElem?_eq_some_iff.1 HCUR.out).1
      have hbc := bclone_any A2 x2.length c2 B x2 ((wk.alloc (.cells #[.int .i64 x1, .slice A2 x2.length c2] 83)).drew) (HH2.out.below (((HWWK.out.alloc HWK.out.size _).drew).mono hB)) (by omega) (by have := HWK.out.size; show B ≤ (wk.alloc _).heap.size; simp; omega)
      obtain ⟨XL, hXL⟩ : ∃ n, n = x2.length := ⟨_, rfl⟩
      unfold Made at hbc
      rw [← hXL] at hbc e1
      have HBC := Lib.hid hbc; clear hbc
      have hbox : (wk.alloc (.cells #[.int .i64 x1, .slice A2 XL c2] 83)).heap[wk.heap.size]? = some (.cells #[.int .i64 x1, .slice A2 XL c2] 83 (0, 0)) := heap_alloc_new wk _
      have hp2 : (wk.alloc (.cells #[.int .i64 x1, .slice A2 XL c2] 83)).heap[w.heap.size]? = some (.cells #[.int .u64 (t.seq : Int), .slice (some ⟨g, 0, none⟩) nw c', .slice Ar nr cr] 67 (0, 0)) := (Below.heap_alloc _ _ _ (by have := (Array.getElem?_eq_some_iff.1 HPK.out).1; omega)).trans HPK.out
      have hS : ((wk.alloc (.cells #[.int .i64 x1, .slice A2 XL c2] 83)).drew.cell? ⟨w.heap.size, 1, none⟩ = some (.slice (some ⟨g, 0, none⟩) nw c') ∧ (wk.alloc (.cells #[.int .i64 x1, .slice A2 XL c2] 83)).drew.cell? ⟨wk.heap.size, 1, none⟩ = some (.slice A2 XL c2)) :=
        ⟨cell_of_row (wk.alloc (.cells #[.int .i64 x1, .slice A2 XL c2] 83)) w.heap.size 1 _ _ _ hp2, cell_of_row (wk.alloc (.cells #[.int .i64 x1, .slice A2 XL c2] 83)) wk.heap.size 1 _ _ _ hbox⟩
      have HBOX := Lib.hid hbox; clear hbox
      have HP2 := Lib.hid hp2; clear hp2
      have HXL := Lib.hid hXL; clear hXL
      have hgc : (wk.alloc (.cells #[.int .i64 x1, .slice A2 XL c2] 83)).heap[g]? = some (.cells cur 83 (0, 0)) := (Below.heap_alloc _ _ _ (by omega)).trans HCUR.out
      have HGC := Lib.hid hgc; clear hgc
      have hwp : w.heap.size ≠ g := by omega
      have HTA : Hid (Below wk.heap.size wk (wk.alloc (.cells #[.int .i64 x1, .slice A2 XL c2] 83))) := Lib.hid ((Below.refl _ wk).alloc (Nat.le_refl _) _)
      go_wp2_with fail
      have hz0 : (wk.alloc (.cells #[.int .i64 x1, .slice A2 XL c2] 83)).heap.size = wk.heap.size + 1 := by simp
      generalize wk.alloc (.cells #[.int .i64 x1, .slice A2 XL c2] 83) = WA at HBC HBOX HP2 HGC HTA hS hz0 ⊢
      go_region_held (fun V => V.cell? ⟨w.heap.size, 1, none⟩ = some (.slice (some ⟨g, 0, none⟩) nw c') ∧ V.cell? ⟨wk.heap.size, 1, none⟩ = some (.slice A2 XL c2)) (first | assumption | exact HSV.out _)
        (first
          | (go_at_call 118
             with_reducible refine HBC.out.mono ?_
             rintro e V ⟨A3, c3, rfl, ho3, hb3⟩
             clear hS
             have hpV := (hb3.block _ (by show w.heap.size < WA.heap.size; omega)).trans HP2.out
             have hbV := (hb3.block _ (by show wk.heap.size < WA.heap.size; omega)).trans HBOX.out
             have hgV := (hb3.block _ (by show g < WA.heap.size; omega)).trans HGC.out
             have hS1 : (V.cell? ⟨w.heap.size, 1, none⟩ = some (.slice (some ⟨g, 0, none⟩) nw c') ∧ V.cell? ⟨wk.heap.size, 1, none⟩ = some (.slice A2 XL c2)) := ⟨cell_of_row V w.heap.size 1 _ _ _ hpV, cell_of_row V wk.heap.size 1 _ _ _ hbV⟩
             have f1 := frozen_of_row V g (k * 2 + 1) _ _ hgV
             have q1 : V.cell? ⟨g, k * 2 + 1, none⟩ = some (.slice A2 XL c2) := (cell_of_row V g (k * 2 + 1) _ _ _ hgV).trans ((cell_of_row wk g (k * 2 + 1) _ _ _ HCUR.out).symm.trans e1)
             have HSV : Hid (∀ u, (V.setCell ⟨g, k * 2 + 1, none⟩ u).cell? ⟨w.heap.size, 1, none⟩ = some (.slice (some ⟨g, 0, none⟩) nw c') ∧ (V.setCell ⟨g, k * 2 + 1, none⟩ u).cell? ⟨wk.heap.size, 1, none⟩ = some (.slice A2 XL c2)) := Lib.hid (fun u =>
               ⟨cell_of_row _ w.heap.size 1 _ _ _ ((Below.heap_setCell _ _ _ _ (by intro e; simp at e; omega)).trans hpV), cell_of_row _ wk.heap.size 1 _ _ _ ((Below.heap_setCell _ _ _ _ (by intro e; simp at e; omega)).trans hbV)⟩)
             have HB3 := Lib.hid hb3
             have HGV := Lib.hid hgV
             clear hb3 hgV hpV hbV ho3))
      all_goals
        have htn : Turns (fun q => (Value.slice (some ⟨g, 0, none⟩) nw c').ownBlock = some q) W1 (V.setCell ⟨g, k * 2 + 1, none⟩ (.slice A3 XL c3)) :=
          ((HTK.out.trans (Turns.of_below (F := fun q => (Value.slice (some ⟨g, 0, none⟩) nw c').ownBlock = some q) HTA.out) (fun _ _ e => e)).drew.trans (Turns.of_below (F := fun q => (Value.slice (some ⟨g, 0, none⟩) nw c').ownBlock = some q) HB3.out) (fun _ _ e => e)).setCell (p := ⟨g, k * 2 + 1, none⟩) (fun _ => hg) _
        have hrn : ∀ g', (Value.slice (some ⟨g, 0, none⟩) nw c').ownBlock = some g' → ∃ cur, (V.setCell ⟨g, k * 2 + 1, none⟩ (.slice A3 XL c3)).heap[g']? = some (.cells cur 83 (0, 0)) ∧ ∀ j, (k + 1) * 2 ≤ j → j < nw * 2 → cur[j]? = (wcells t.ws vs)[j]? := fun g' hg' => by
          obtain rfl : g' = g := by rw [hg] at hg'; injection hg' with e; exact e.symm
          refine ⟨_, heap_setCell_same V g' (k * 2 + 1) _ _ _ HGV.out, fun j hj1 hj2 => ?_⟩
          rw [Array.getElem?_setIfInBounds_ne (by omega)]
          exact HCELLS.out j (by omega) hj2
        have HTN := Lib.hid htn; clear htn
        have HRN := Lib.hid hrn; clear hrn
        go_wp2
        go_roundw
        case rel => exact ⟨k + 1, by omega, by go_num, HTN.out, HRN.out⟩
        case measure => simp [intOf]; omega
    · obtain rfl : k = nw := by omega
      have hmm : (k : Int) ≤ (k : Int) := by omega
      have e2 : wk.cell? ⟨w.heap.size, 2, none⟩ = some (.slice Ar nr cr) := cell_of_row wk w.heap.size 2 _ _ _ HPK.out
      clear HRW HTK HST HPOS HVS
      go_wp2_with fail
      refine (iclone_any Ar nr cr B t.rs wk (HT.out.rs.below (HWK.out.mono hB)) h2 (by have := HWK.out.size; omega)).mono ?_
      rintro e V ⟨B2, d2, rfl, -, hbV⟩
      have hpV := (hbV.block _ (Array.getElem?_eq_some_iff.1 HPK.out).1).trans HPK.out
      have hqV := (hbV.block _ (Array.getElem?_eq_some_iff.1 HQK.out).1).trans HQK.out
      have HBV : Hid (Below w.heap.size w V) := Lib.hid (HWK.out.trans (hbV.mono HWK.out.size))
      clear hbV e2
      have f2 := frozen_of_row V w.heap.size 2 _ _ hpV
      have e2 : V.cell? ⟨w.heap.size, 2, none⟩ = some (.slice Ar nr cr) := cell_of_row V w.heap.size 2 _ _ _ hpV
      have hpV2 : (V.setCell ⟨w.heap.size, 2, none⟩ (.slice B2 nr d2)).heap[w.heap.size]? = some (.cells #[.int .u64 (t.seq : Int), .slice A' k c', .slice B2 nr d2] 67 (0, 0)) := heap_setCell_same V w.heap.size 2 _ _ _ hpV
      have hqV2 : (V.setCell ⟨w.heap.size, 2, none⟩ (.slice B2 nr d2)).heap[w.heap.size + 1]? = some (.cells #[.int .u64 0, .slice none 0 0, .slice none 0 0] 67 (0, 0)) := (Below.heap_setCell _ _ _ _ (by intro e; simp at e)).trans hqV
      have r0 := cell_of_row _ w.heap.size 0 _ _ _ hpV2
      have r1 := cell_of_row _ w.heap.size 1 _ _ _ hpV2
      have r2 := cell_of_row _ w.heap.size 2 _ _ _ hpV2
      have z0 := cell_of_row _ (w.heap.size + 1) 0 _ _ _ hqV2
      have z1 := cell_of_row _ (w.heap.size + 1) 1 _ _ _ hqV2
      have z2 := cell_of_row _ (w.heap.size + 1) 2 _ _ _ hqV2
      have y0 := frozen_of_row _ (w.heap.size + 1) 0 _ _ hqV2
      have y1 := frozen_of_row _ (w.heap.size + 1) 1 _ _ hqV2
      have y2 := frozen_of_row _ (w.heap.size + 1) 2 _ _ hqV2
      have HQV2 := Lib.hid hqV2; clear hqV2 hpV2 hpV hqV
      go_wp2
      have hfin := heap_setCell_same _ (w.heap.size + 1) 2 _ _ (.slice B2 nr d2) (heap_setCell_same _ (w.heap.size + 1) 1 _ _ (.slice A' k c') (heap_setCell_same _ (w.heap.size + 1) 0 _ _ (.int .u64 (t.seq : Int)) HQV2.out))
      have q0 := cell_of_row _ (w.heap.size + 1) 0 _ _ _ hfin
      have q1 := cell_of_row _ (w.heap.size + 1) 1 _ _ _ hfin
      have q2 := cell_of_row _ (w.heap.size + 1) 2 _ _ _ hfin
      refine bodyPost_ret (v := .agg #[.int .u64 (t.seq : Int), .slice A' k c', .slice B2 nr d2]) (by simp [results, go_sem, q0, q1, q2]) rfl ?_
      exact ⟨A', c', B2, d2, rfl, (((HBV.out.setCell (p := ⟨w.heap.size, 2, none⟩) (Nat.le_refl _) _).setCell (p := ⟨w.heap.size + 1, 0, none⟩) (Nat.le_succ _) _).setCell (p := ⟨w.heap.size + 1, 1, none⟩) (Nat.le_succ _) _).setCell (p := ⟨w.heap.size + 1, 2, none⟩) (Nat.le_succ _) _⟩
end Go.Proofs.Ytelnoibfamcnmaa.Log

namespace Go.Proofs.Ytelnoibfamcnmaa.Log
set_option maxRecDepth 20000
open Go.RowKit
open Go.Proofs.Ytelnoibfamcnmaa.Mem Go.Proofs.Ytelnoibfamcnmaa.Crc Go.Proofs.Ytelnoibfamcnmaa.Disk Go.Proofs.Ytelnoibfamcnmaa.Reg
open Go.Proofs.Ytelnoibfamcnmaa.Rec (Tx Wt TxAt HoldsW HoldsI IsInt enc_any Told enc_len mayB_iff)

theorem info_txn : (Try.prog.info? 67).map (fun i => (i.zero, i.size, i.bytes)) = some (some (.agg #[.int .u64 0, .slice none 0 0, .slice none 0 0]), 3, 56) := by kernel_rfl

/-- A log in memory with its disk: the disk's blocks are F, the table's m; the slice of the live records has a row of its own. -/
structure LogOn (w : World) (lp p s r seq pl used : Nat) (v : Value) (nl : Nat) (d : Dk.Dk) (c : Nat) (F : Nat → Prop) (m : Nat) : Prop where
  disk : DiskM w p d c F m
  log : LogAt w lp p (s : Int) (r : Int) seq pl used v
  live : ∃ cs, Row w 67 3 v nl cs ∧ ∀ u ∈ cs, u.oneCell' = true
  apartL : ¬ F lp
  apartV : ∀ k, v.ownBlock = some k → ¬ F k ∧ k ≠ lp
  ring : 7 ≤ r ∧ r ≤ 1023 ∧ pl < r ∧ s + 1 + r ≤ d.stable.length ∧ used ≤ r

def chunksOf (bs : List UInt8) (k : Nat) : List (List UInt8) := (List.finRange k).map (cutB bs k)

/-- An append's run taken as one step of a region that draws its order. -/
theorem step_apprun {w : World} {ops : Array Oper} {o : Oper} {a : Act} {K : Act → World → Prop} {Q : Exit → Act → World → Prop} {E : Prop} (hgd : o.guard = none) (d x : Operand) (dT sT : TypeId)
    (ho : o.op = .call { callee := .builtin .append, args := #[d, x], argTypes := #[dT, sT] }) (vd vx : Value) (hd : a.eval d = vd) (hx : a.eval x = vx) (v : Value) (w' : World) (hrun : (Builtin.append_ #[dT, sT] o.type #[vd, vx]).run Try.prog w = .ok v w')
    (h : K (a.put o.dst v) w') : if Region.wanted o (yielded ops a.tmps) = true then Oper.wp Try.prog o a w K Q else E := by
  have hw : Region.wanted o (yielded ops a.tmps) = true := by simp [Region.wanted, hgd]
  rw [if_pos hw]
  unfold Oper.wp execOp
  simp only [ho, resolve, invoke, builtin, Sem.run_bind, Sem.run_pure, Result.andThen_ok, List.map_toArray, List.map_cons, List.map_nil, hd, hx, hrun]
  exact h

theorem LogOn.later {w w' : World} {lp p s r seq pl used nl c m : Nat} {v : Value} {d : Dk.Dk} {F : Nat → Prop} (h : LogOn w lp p s r seq pl used v nl d c F m) (hb : Below w.heap.size w w') : LogOn w' lp p s r seq pl used v nl d c F m := by
  obtain ⟨cs, hr, h1⟩ := h.live
  exact ⟨h.disk.turns (Turns.of_below (F := fun _ => False) hb) (fun _ _ e => e), (hb.block lp (Array.getElem?_eq_some_iff.1 h.log).1).trans h.log, ⟨cs, hr.turns (Turns.of_below (F := fun _ => False) hb) (fun _ _ e => e), h1⟩, h.apartL, h.apartV, h.ring⟩

set_option maxRecDepth 100000 in
set_option maxHeartbeats 4000000 in
theorem append_ok (lp p s r seq pl used nl m c : Nat) (v : Value) (d : Dk.Dk) (F : Nat → Prop) (w : World) (h : LogOn w lp p s r seq pl used v nl d c F m) (t : Tx) (Aw Ar : Option Addr) (nw cw nr cr : Nat) (ht : ∀ W, Turns (fun q => F q ∨ q = lp) w W → TxAt W w.heap.size t Aw nw cw Ar nr cr)
    (hsq : t.seq = seq) (hsq1 : seq + 1 < 18446744073709551616) (hmay : t.mayB = true) (htk : takesB d.stable.length s r t = true) (hroom : used + (nw + 2) ≤ r) (hc : c + 60 < 1048576) (hnl : nl + 1 ≤ 1048576) :
    Calls Try.prog 43 #[.pointer (some ⟨lp, 0, none⟩), .slice Aw nw cw, .slice Ar nr cr] w fun e w' => e = .returned (.tuple #[.int .u64 (seq : Int), .int .i64 0]) ∧
      ∃ v' F', LogOn w' lp p s r (seq + 1) (putL s r d pl (chunksOf t.enc (nw + 2))).2 (used + (nw + 2)) v' (nl + 1) (putL s r d pl (chunksOf t.enc (nw + 2))).1 (c + (nw + 2)) F' m ∧ (∀ q, F' q → F q ∨ w.heap.size ≤ q) ∧ (∀ k, v'.ownBlock = some k → v.ownBlock = some k ∨ w.heap.size ≤ k) ∧ Turns (fun q => F q ∨ q = lp ∨ v.ownBlock = some q) w w' := by
  have hmayT := (mayB_iff t).1 hmay
  have hel := enc_len t hmayT
  have hw0 := ht w (Turns.refl _ _)
  have hnw : t.ws.length = nw := hw0.ws.1
  have hnr : t.rs.length = nr := hw0.rs.1
  have hhi := hmayT.hi
  obtain ⟨hg7, hg1, hgp, hgd, hgu⟩ := h.ring
  have hlw : lp < w.heap.size := (Array.getElem?_eq_some_iff.1 h.log).1
  have HT := Lib.hid ht; clear ht
  have HM := Lib.hid hmayT; clear hmayT
  have H := Lib.hid h; clear h
  have c4 : w.cell? ⟨lp, 4, none⟩ = some (.int .u64 (seq : Int)) := by have := H.out.log; unfold LogAt logCells at this; exact cell_of_row w lp 4 _ _ _ this
  have hb1 : Below w.heap.size w (w.alloc (.cells #[.int .u64 (seq : Int), .slice Aw nw cw, .slice Ar nr cr] 67)) := (Below.refl _ w).alloc (Nat.le_refl _) _
  have hx1 : (w.alloc (.cells #[.int .u64 (seq : Int), .slice Aw nw cw, .slice Ar nr cr] 67)).heap[w.heap.size]? = some (.cells #[.int .u64 (seq : Int), .slice Aw nw cw, .slice Ar nr cr] 67 (0, 0)) := heap_alloc_new w _
  have henc := enc_any t Aw Ar nw cw nr cr w.heap.size _ (HT.out _ (Turns.of_below hb1)) hb1.size
  rw [hsq] at henc
  have HENC := Lib.hid henc; clear henc
  have HB1 := Lib.hid hb1; clear hb1
  have HX1 := Lib.hid hx1; clear hx1
  go_enter Try.func43, Try.ntmps43
  go_wp2_with fail
  generalize w.alloc (.cells #[.int .u64 (seq : Int), .slice Aw nw cw, .slice Ar nr cr] 67) = W1 at HB1 HX1 HENC ⊢
  refine HENC.out.mono ?_
  rintro e W2 (⟨hn, _⟩ | ⟨-, A, cp, rfl, ho, hb2⟩)
  · rw [hmay] at hn; cases hn
  obtain ⟨N, hN⟩ : ∃ N, N = t.enc.length := ⟨_, rfl⟩
  rw [← hN] at ho
  have hNn : N = 256 * (nw + 2) := by rw [hN, hel, hnw]
  obtain ⟨g, cap, cur, hv, hgb, hgl, -, hcap, hcapm, -, -⟩ := Go.Proofs.Ytelnoibfamcnmaa.Rec.Owned.cut ho (by rw [← hN]; omega)
  rw [← hN] at hv hcap ⊢
  injection hv with e1 _ e3
  subst e1 e3
  have hHo := Go.Proofs.Ytelnoibfamcnmaa.Rec.Owned.reads ho
  have HHO := Lib.hid hHo; clear hHo ho
  have hB2 : Below w.heap.size w W2 := HB1.out.trans (hb2.mono HB1.out.size)
  have HX2 : Hid (W2.heap[w.heap.size]? = some (.cells #[.int .u64 (seq : Int), .slice Aw nw cw, .slice Ar nr cr] 67 (0, 0))) := Lib.hid ((hb2.block _ (Array.getElem?_eq_some_iff.1 HX1.out).1).trans HX1.out)
  have hgw : w.heap.size < g := by have := (Array.getElem?_eq_some_iff.1 HX1.out).1; omega
  have H2 := Lib.hid (H.out.later hB2)
  have HB2 := Lib.hid hB2; clear hB2
  have htake : ∀ V, Below W2.heap.size W2 V → Calls Try.prog 87 #[.agg #[.pointer (some ⟨p, 0, none⟩), .int .i64 (s : Int), .int .i64 (r : Int)], .agg #[.int .u64 (seq : Int), .slice Aw nw cw, .slice Ar nr cr]] V fun e w' => e = .returned (.bool true) ∧ Below V.heap.size V w' := fun V hV => by
    have hwV : Below w.heap.size w V := HB2.out.trans (hV.mono HB2.out.size)
    have := takes_d s r d p c F V (H2.out.later hV).disk.at (by omega) t Aw Ar nw cw nr cr w.heap.size (HT.out V (Turns.of_below hwV)) hwV.size
    rw [htk, hsq] at this
    exact this
  have HTK := Lib.hid htake; clear htake
  have hkeep : ∀ V, Below W2.heap.size W2 V → (V.cell? ⟨lp, 1, none⟩ = some (.pointer (some ⟨p, 0, none⟩)) ∧ V.cell? ⟨lp, 2, none⟩ = some (.int .i64 (s : Int)) ∧ V.cell? ⟨lp, 3, none⟩ = some (.int .i64 (r : Int)) ∧ V.cell? ⟨w.heap.size, 0, none⟩ = some (.int .u64 (seq : Int)) ∧ V.cell? ⟨w.heap.size, 1, none⟩ = some (.slice Aw nw cw) ∧ V.cell? ⟨w.heap.size, 2, none⟩ = some (.slice Ar nr cr)) := fun V hV => by
    have hl := (H2.out.later hV).log
    unfold LogAt logCells at hl
    have hx := (hV.block _ (Array.getElem?_eq_some_iff.1 HX2.out).1).trans HX2.out
    exact ⟨cell_of_row V lp 1 _ _ _ hl, cell_of_row V lp 2 _ _ _ hl, cell_of_row V lp 3 _ _ _ hl, cell_of_row V _ 0 _ _ _ hx, cell_of_row V _ 1 _ _ _ hx, cell_of_row V _ 2 _ _ _ hx⟩
  have HKEEP := Lib.hid hkeep; clear hkeep
  have HNn := Lib.hid hNn; clear hNn
  clear hN hel hb2 HENC c4
  have hS := HKEEP.out W2.drew (Below.refl _ W2).drew
  go_wp2_with fail
  go_region_held (fun V => V.cell? ⟨lp, 1, none⟩ = some (.pointer (some ⟨p, 0, none⟩)) ∧ V.cell? ⟨lp, 2, none⟩ = some (.int .i64 (s : Int)) ∧ V.cell? ⟨lp, 3, none⟩ = some (.int .i64 (r : Int)) ∧ V.cell? ⟨w.heap.size, 0, none⟩ = some (.int .u64 (seq : Int)) ∧ V.cell? ⟨w.heap.size, 1, none⟩ = some (.slice Aw nw cw) ∧ V.cell? ⟨w.heap.size, 2, none⟩ = some (.slice Ar nr cr)) (assumption)
    (first
      | (go_at_call 87
         have hcall := HTK.out _ (Below.refl _ W2).drew
         with_reducible refine hcall.mono ?_
         rintro e V5 ⟨rfl, hb5⟩
         clear hcall hS
         have hB5 : Below W2.heap.size W2 V5 := (Below.refl _ W2).drew.trans hb5
         have hS1 := HKEEP.out V5 hB5
         have HB5 := Lib.hid hB5
         clear hb5 hB5))
  all_goals
    clear hS1 HTK HKEEP
    have H5 := Lib.hid (H2.out.later HB5.out)
    have hroomc := room_any lp p seq pl used (s : Int) (r : Int) v V5 H5.out.log (by omega) (by omega)
    have HRC := Lib.hid hroomc; clear hroomc
    have hq1 : (N : Int) / 256 = (nw : Int) + 2 := by have := HNn.out; omega
    have hn58 : nw ≤ 58 := by omega
    have hq2 : ¬ (r : Int) - (used : Int) < (nw : Int) + 2 := by omega
    go_wp2_with fail
    with_reducible refine HRC.out.mono ?_
    rintro e V6 ⟨rfl, hb6⟩
    clear HRC
    have H6 := Lib.hid (H5.out.later hb6)
    have hB26 : Below W2.heap.size W2 V6 := HB5.out.trans (hb6.mono HB5.out.size)
    have hB6 : Below w.heap.size w V6 := HB2.out.trans (hB26.mono HB2.out.size)
    have HX6 : Hid (V6.heap[w.heap.size]? = some (.cells #[.int .u64 (seq : Int), .slice Aw nw cw, .slice Ar nr cr] 67 (0, 0))) := Lib.hid ((hB26.block _ (Array.getElem?_eq_some_iff.1 HX2.out).1).trans HX2.out)
    have hFw : ∀ q, F q → q < w.heap.size := fun q hq => H.out.disk.lt q hq
    have hwr := write_any lp p s r seq c used pl (nw + 2) N cp g 0 m v d t.enc F V6 H6.out.disk H6.out.log ((HHO.out.below hB26).more hB26.size) HNn.out hcap (fun e => by have := hFw g e; omega) (by omega) H6.out.apartL (by omega) hgp hgd (by omega) (by omega) (by omega) (by omega)
    have HB6 := Lib.hid hB6; clear hB6 hB26
    have HWR := Lib.hid hwr; clear hwr hb6
    go_wp2_with fail
    with_reducible refine HWR.out.mono ?_
    rintro e V7 ⟨rfl, F', hD7, hF7, hL7, hT7⟩
    clear HWR
    have hnF : ∀ q, q ≤ w.heap.size → ¬ F q → ¬ F' q := fun q hq hn e => by
      rcases hF7 q e with e | e
      · exact hn e
      · have : w.heap.size < V6.heap.size := (Array.getElem?_eq_some_iff.1 HX6.out).1
        omega
    have hlF' : ¬ F' lp := hnF lp (by omega) H6.out.apartL
    have hx7 : V7.heap[w.heap.size]? = some (.cells #[.int .u64 (seq : Int), .slice Aw nw cw, .slice Ar nr cr] 67 (0, 0)) := (hT7.block _ (Array.getElem?_eq_some_iff.1 HX6.out).1 (fun e => by
      rcases e with e | e
      · have := hFw _ e; omega
      · omega)).trans HX6.out
    have hTw : Turns (fun q => F q ∨ q = lp) w V7 := (Turns.of_below (F := fun q => F q ∨ q = lp) HB6.out).trans hT7 (fun _ _ e => e)
    have htx := HT.out V7.drew hTw.drew
    have hkc := kept_any t Aw Ar nw cw nr cr w.heap.size V7.drew htx (by show w.heap.size ≤ V7.heap.size; have := hTw.size; omega) (by omega) (by omega) (fun x hx => by have := HM.out.data x hx; omega)
    rw [hsq] at hkc
    have HKC := Lib.hid hkc; clear hkc htx
    have hsz := putL_size s r d pl (chunksOf t.enc (nw + 2)) (by omega) hgp
    have hchunks : (List.finRange (nw + 2)).map (cutB t.enc (nw + 2)) = chunksOf t.enc (nw + 2) := rfl
    rw [hchunks] at hD7 hL7
    obtain ⟨st, hst⟩ : ∃ st, st = putL s r d pl (chunksOf t.enc (nw + 2)) := ⟨_, rfl⟩
    rw [← hst] at hD7 hL7 hsz
    have HST := Lib.hid hst; clear hst
    obtain ⟨cs, hrow, hone⟩ := H6.out.live
    have hvw : ∀ k, v.ownBlock = some k → k < w.heap.size := fun k hk => by
      obtain ⟨cs0, hr0, _⟩ := H.out.live
      exact hr0.lt hk
    have hrow7 := hrow.turns hT7 (fun k hk e => by
      rcases e with e | e
      · exact (H6.out.apartV k hk).1 e
      · exact (H6.out.apartV k hk).2 e)
    have HROW := Lib.hid hrow7; clear hrow7 hrow
    have hS : (fun V : World => V.cell? ⟨lp, 6, none⟩ = some v ∧ V.cell? ⟨w.heap.size, 0, none⟩ = some (.int .u64 (seq : Int)) ∧ V.cell? ⟨w.heap.size, 1, none⟩ = some (.slice Aw nw cw) ∧ V.cell? ⟨w.heap.size, 2, none⟩ = some (.slice Ar nr cr)) V7.drew := by
      have hl := hL7
      unfold LogAt logCells at hl
      exact ⟨cell_of_row V7 lp 6 _ _ _ hl, cell_of_row V7 _ 0 _ _ _ hx7, cell_of_row V7 _ 1 _ _ _ hx7, cell_of_row V7 _ 2 _ _ _ hx7⟩
    have HL7 := Lib.hid hL7; clear hL7
    have HX7 := Lib.hid hx7; clear hx7
    have HD7 := Lib.hid hD7; clear hD7
    have HF7 := Lib.hid hF7; clear hF7
    have HTW := Lib.hid hTw; clear hTw hT7
    have hlv7 : lp < V7.heap.size := (Array.getElem?_eq_some_iff.1 HL7.out).1
    have htv7 : w.heap.size < V7.heap.size := (Array.getElem?_eq_some_iff.1 HX7.out).1
    go_wp2_with fail
    refine wp_region_E (fun V : World => V.cell? ⟨lp, 6, none⟩ = some v ∧ V.cell? ⟨w.heap.size, 0, none⟩ = some (.int .u64 (seq : Int)) ∧ V.cell? ⟨w.heap.size, 1, none⟩ = some (.slice Aw nw cw) ∧ V.cell? ⟨w.heap.size, 2, none⟩ = some (.slice Ar nr cr)) 11 (by kernel_rfl) ?_
    refine wpE_take 0 ⟨some 45, _, _, _, _, _⟩ (v := ?_) [9, 10, 11] rfl (by kernel_rfl) (by kernel_rfl) (by kernel_rfl) (by kernel_rfl) (fun _ _ _ h => h) hS (Or.inl ⟨by rfl, ?_⟩) ?_
    rotate_left
    · (intro V hSw; obtain ⟨s0, s1, s2, s3⟩ := hSw; go_simp; try with_reducible rfl)
    simp only [Act.put]
    refine wpE_take 1 ⟨some 46, _, _, _, _, _⟩ (v := ?_) [2, 3, 4, 8, 9, 10, 11] rfl (by kernel_rfl) (by kernel_rfl) (by kernel_rfl) (by kernel_rfl) (fun _ _ _ h => h) hS (Or.inl ⟨by rfl, ?_⟩) ?_
    rotate_left
    · (intro V hSw; obtain ⟨s0, s1, s2, s3⟩ := hSw; go_simp; try with_reducible rfl)
    simp only [Act.put]
    refine wpE_take 2 ⟨some 47, _, _, _, _, _⟩ (v := ?_) [3, 4, 8, 9, 10, 11] rfl (by kernel_rfl) (by kernel_rfl) (by kernel_rfl) (by kernel_rfl) (fun _ _ _ h => h) hS (Or.inl ⟨by rfl, ?_⟩) ?_
    rotate_left
    · (intro V hSw; obtain ⟨s0, s1, s2, s3⟩ := hSw; go_simp; try with_reducible rfl)
    simp only [Act.put]
    refine wpE_take 3 ⟨some 48, _, _, _, _, _⟩ (v := ?_) [4, 8, 9, 10, 11] rfl (by kernel_rfl) (by kernel_rfl) (by kernel_rfl) (by kernel_rfl) (fun _ _ _ h => h) hS (Or.inl ⟨by rfl, ?_⟩) ?_
    rotate_left
    · (intro V hSw; obtain ⟨s0, s1, s2, s3⟩ := hSw; go_simp; try with_reducible rfl)
    simp only [Act.put]
    refine wpE_take 4 ⟨some 49, _, _, _, _, _⟩ (v := ?_) [8, 9, 10, 11] rfl (by kernel_rfl) (by kernel_rfl) (by kernel_rfl) (by kernel_rfl) (fun _ _ _ h => h) hS (Or.inl ⟨by rfl, ?_⟩) ?_
    rotate_left
    · (intro V hSw; obtain ⟨s0, s1, s2, s3⟩ := hSw; go_simp; try with_reducible rfl)
    simp only [Act.put]
    refine wpE_take 5 ⟨some 50, _, _, _, _, _⟩ (v := ?_) [6, 7, 8, 9, 10, 11] rfl (by kernel_rfl) (by kernel_rfl) (by kernel_rfl) (by kernel_rfl) (fun _ _ _ h => h) hS (Or.inl ⟨by rfl, ?_⟩) ?_
    rotate_left
    · (intro V hSw; obtain ⟨s0, s1, s2, s3⟩ := hSw; go_simp; try with_reducible rfl)
    simp only [Act.put]
    refine wpE_one 6 (o := ⟨some 51, _, _, _, _, _⟩) (by kernel_rfl) rfl (fun K hK => ?_)
    rw [if_pos (by kernel_rfl)]
    refine call_wp 89 _ _ _ _ rfl Try.func89 (by kernel_rfl) rfl _ ?hv _ HKC.out ?_
    case hv => simp only [List.map_toArray, List.map_cons, List.map_nil]; go_simp
    rintro e V8 ⟨Bw, dw, Br, dr, rfl, hb8⟩
    have hB8 : Below V7.heap.size V7 V8 := (Below.refl _ V7).drew.trans hb8
    have hkS : ∀ V, Below V7.heap.size V7 V → (fun V : World => V.cell? ⟨lp, 6, none⟩ = some v ∧ V.cell? ⟨w.heap.size, 0, none⟩ = some (.int .u64 (seq : Int)) ∧ V.cell? ⟨w.heap.size, 1, none⟩ = some (.slice Aw nw cw) ∧ V.cell? ⟨w.heap.size, 2, none⟩ = some (.slice Ar nr cr)) V := fun V hV => by
      have hl : LogAt V lp p (s : Int) (r : Int) seq st.2 (used + (nw + 2)) v := (hV.block lp hlv7).trans HL7.out
      have hx := (hV.block _ htv7).trans HX7.out
      unfold LogAt logCells at hl
      exact ⟨cell_of_row V lp 6 _ _ _ hl, cell_of_row V _ 0 _ _ _ hx, cell_of_row V _ 1 _ _ _ hx, cell_of_row V _ 2 _ _ _ hx⟩
    refine ⟨_, rfl, hK.out _ _ (hkS V8 hB8) (fun hS => ?_)⟩
    clear hK K HKC
    simp only [Act.put]
    have hB9 : Below V7.heap.size V7 (V8.alloc (.cells #[.int .u64 (seq : Int), .slice Bw nw dw, .slice Br nr dr] 67)) := hB8.alloc hB8.size _
    have HKS := Lib.hid hkS; clear hkS
    refine wpE_one 7 (o := ⟨some 52, _, _, _, _, _⟩) (by kernel_rfl) rfl (fun K hK => ?_)
    go_simp
    refine hK.out _ _ (HKS.out _ hB9) (fun hS => ?_)
    clear hK K
    have hnew : (V8.alloc (.cells #[.int .u64 (seq : Int), .slice Bw nw dw, .slice Br nr dr] 67)).heap[V8.heap.size]? = some (.cells #[.int .u64 (seq : Int), .slice Bw nw dw, .slice Br nr dr] 67 (0, 0)) := heap_alloc_new V8 _
    have hz8 := hB8.size
    have hz9 : (V8.alloc (.cells #[.int .u64 (seq : Int), .slice Bw nw dw, .slice Br nr dr] 67)).heap.size = V8.heap.size + 1 := by simp
    generalize V8.alloc (.cells #[.int .u64 (seq : Int), .slice Bw nw dw, .slice Br nr dr] 67) = V9 at hB9 hnew hz9 ⊢
    have hrow9 := HROW.out.turns (Turns.of_below (F := fun _ => False) hB9) (fun _ _ e => e)
    obtain ⟨i0, hi, hz0, hz1, hz2⟩ := info_parts info_txn
    obtain ⟨v9, V10, hrun, hown, hgrow, -, hob⟩ := run_append_own_at (P := Try.prog) (w := V9) 0 70 70 67 i0 (.agg #[.int .u64 0, .slice none 0 0, .slice none 0 0]) 3 56 Try.underlying70 hi hz0 hz1 hz2 rfl (by decide) v nl cs hrow9 ⟨V8.heap.size, 0, none⟩ 1 1 [.int .u64 (seq : Int), .slice Bw nw dw, .slice Br nr dr] rfl (fun j u hu => by
      have hadd : (⟨V8.heap.size, 0, none⟩ : Addr).add j = ⟨V8.heap.size, j, none⟩ := by unfold Addr.add; split <;> simp_all
      rw [hadd, cell_of_row _ _ _ _ _ _ hnew]
      simpa using hu) (by intro u hu; simp at hu; rcases hu with rfl | rfl | rfl <;> rfl) (by unfold maxLen; omega) (by omega) (Nat.zero_le _)
    refine wpE_one 8 (o := ⟨some 53, _, _, _, _, _⟩) (by kernel_rfl) rfl (fun K hK => ?_)
    refine step_apprun rfl (.tmp 49) (.tmp 52) 70 70 rfl _ _ (by go_simp) (by go_simp) v9 V10 hrun ?_
    have hvl : v.ownBlock ≠ some lp := fun e => (H6.out.apartV _ e).2 rfl
    have hl9 : LogAt V9 lp p (s : Int) (r : Int) seq st.2 (used + (nw + 2)) v := (hB9.block lp hlv7).trans HL7.out
    have hx9 := (hB9.block _ htv7).trans HX7.out
    have hl10 : LogAt V10 lp p (s : Int) (r : Int) seq st.2 (used + (nw + 2)) v := (hgrow.block lp (Array.getElem?_eq_some_iff.1 hl9).1 (fun e => hvl e.symm)).trans hl9
    have hx10 := (hgrow.block _ (Array.getElem?_eq_some_iff.1 hx9).1 (fun e => by have := hvw _ e.symm; omega)).trans hx9
    have hS10 : (fun V : World => V.cell? ⟨lp, 6, none⟩ = some v ∧ V.cell? ⟨w.heap.size, 0, none⟩ = some (.int .u64 (seq : Int)) ∧ V.cell? ⟨w.heap.size, 1, none⟩ = some (.slice Aw nw cw) ∧ V.cell? ⟨w.heap.size, 2, none⟩ = some (.slice Ar nr cr)) V10 := by
      have hl := hl10
      unfold LogAt logCells at hl
      exact ⟨cell_of_row V10 lp 6 _ _ _ hl, cell_of_row V10 _ 0 _ _ _ hx10, cell_of_row V10 _ 1 _ _ _ hx10, cell_of_row V10 _ 2 _ _ _ hx10⟩
    refine hK.out _ _ hS10 (fun hS => ?_)
    clear hK K hS10 hrun
    have f6 : V10.frozen? ⟨lp, 6, none⟩ = false := frozen_of_row V10 lp 6 _ _ hl10
    have s6 : V10.cell? ⟨lp, 6, none⟩ = some v := hS.1
    have HOWN := Lib.hid hown; clear hown
    have HGROW := Lib.hid hgrow; clear hgrow
    have HL10 := Lib.hid hl10; clear hl10
    have HX10 := Lib.hid hx10; clear hx10
    have HOB := Lib.hid hob; clear hob
    have HNEW := Lib.hid hnew; clear hnew
    have HROW9 := Lib.hid hrow9; clear hrow9
    have HB9 := Lib.hid hB9; clear hB9
    clear hl9 hx9 hi hz0 hz1 hz2
    simp only [Act.put]
    refine wpE_take 9 ⟨some 54, _, _, _, _, _⟩ (v := ?_) [10, 11] rfl (by kernel_rfl) (by kernel_rfl) (by kernel_rfl) (by kernel_rfl) (fun _ _ _ h => h) hS (Or.inl ⟨by rfl, ?_⟩) ?_
    rotate_left
    · (intro V hSw; obtain ⟨s0, s1, s2, s3⟩ := hSw; go_simp; try with_reducible rfl)
    simp only [Act.put]
    refine wpE_take 10 ⟨some 55, _, _, _, _, _⟩ (v := ?_) [11] rfl (by kernel_rfl) (by kernel_rfl) (by kernel_rfl) (by kernel_rfl) (fun _ _ _ h => h) hS (Or.inl ⟨by rfl, ?_⟩) ?_
    rotate_left
    · (intro V hSw; obtain ⟨s0, s1, s2, s3⟩ := hSw; go_simp; try with_reducible rfl)
    simp only [Act.put]
    refine wpE_last (by kernel_rfl) rfl (fun K hK => ?_)
    have h91 : ∃ A9 n9 c9, v9 = .slice A9 n9 c9 := by
      rcases HOWN.out.2 with ⟨e, _⟩ | ⟨g', cap', cur', e, _⟩
      · exact ⟨_, _, _, e⟩
      · exact ⟨_, _, _, e⟩
    obtain ⟨A9, n9, c9, rfl⟩ := h91
    go_simp
    refine hK.out _ _ ?_
    clear hK K hS f6 s6
    refine wpE_done (by kernel_rfl) ?_ _
    have hL11 : LogAt (V10.setCell ⟨lp, 6, none⟩ (.slice A9 n9 c9)) lp p (s : Int) (r : Int) seq st.2 (used + (nw + 2)) (.slice A9 n9 c9) := heap_setCell_same V10 lp 6 _ _ _ HL10.out
    have hx11 : (V10.setCell ⟨lp, 6, none⟩ (.slice A9 n9 c9)).heap[w.heap.size]? = some (.cells #[.int .u64 (seq : Int), .slice Aw nw cw, .slice Ar nr cr] 67 (0, 0)) := (Below.heap_setCell _ _ _ _ (by show w.heap.size ≠ lp; omega)).trans HX10.out
    have hrow11 : Row (V10.setCell ⟨lp, 6, none⟩ (.slice A9 n9 c9)) 67 3 (.slice A9 n9 c9) (nl + 1) (cs ++ [.int .u64 (seq : Int), .slice Bw nw dw, .slice Br nr dr]) := Row.turns HOWN.out ((Turns.refl (fun q => q = lp) V10).setCell (p := ⟨lp, 6, none⟩) (fun _ => rfl) _) (fun k hk e => by
      subst e
      rcases HOB.out with e | e
      · exact hvl (e ▸ hk)
      · rw [e] at hk; injection hk with hk; have := HB9.out.size; omega)
    have hT11 : Turns (fun q => q = lp ∨ v.ownBlock = some q) V7 (V10.setCell ⟨lp, 6, none⟩ (.slice A9 n9 c9)) := ((Turns.of_below (F := fun q => q = lp ∨ v.ownBlock = some q) HB9.out).grown HGROW.out (fun k hk _ => .inr hk)).setCell (p := ⟨lp, 6, none⟩) (fun _ => .inl rfl) _
    have HOB9 : Hid (∀ k, (Value.slice A9 n9 c9).ownBlock = some k → v.ownBlock = some k ∨ V7.heap.size ≤ k) := Lib.hid (fun k hk => by
      rcases HOB.out with e | e
      · exact .inl (e ▸ hk)
      · rw [e] at hk; injection hk with hk; have := HB9.out.size; exact .inr (by omega))
    clear HOWN HGROW HL10 HX10 HOB HNEW HROW9 HB9
    generalize V10.setCell ⟨lp, 6, none⟩ (.slice A9 n9 c9) = V11 at hL11 hx11 hrow11 hT11 ⊢
    have c4 : V11.cell? ⟨lp, 4, none⟩ = some (.int .u64 (seq : Int)) := by have := hL11; unfold LogAt logCells at this; exact cell_of_row V11 lp 4 _ _ _ this
    have f4 : V11.frozen? ⟨lp, 4, none⟩ = false := frozen_of_row V11 lp 4 _ _ hL11
    have hx12 : (V11.setCell ⟨lp, 4, none⟩ (.int .u64 ((seq : Int) + 1))).heap[w.heap.size]? = some (.cells #[.int .u64 (seq : Int), .slice Aw nw cw, .slice Ar nr cr] 67 (0, 0)) := (Below.heap_setCell _ _ _ _ (by show w.heap.size ≠ lp; omega)).trans hx11
    have r0 : (V11.setCell ⟨lp, 4, none⟩ (.int .u64 ((seq : Int) + 1))).cell? ⟨w.heap.size, 0, none⟩ = some (.int .u64 (seq : Int)) := cell_of_row _ w.heap.size 0 _ _ _ hx12
    have HL11 := Lib.hid hL11; clear hL11
    have HROW11 := Lib.hid hrow11; clear hrow11
    have HT11 := Lib.hid hT11; clear hT11
    clear hx11 hx12
    go_wp2
    go_ret2
    have hL12 : LogAt (V11.setCell ⟨lp, 4, none⟩ (.int .u64 ((seq : Int) + 1))) lp p (s : Int) (r : Int) (seq + 1) st.2 (used + (nw + 2)) (.slice A9 n9 c9) := by
      have := heap_setCell_same V11 lp 4 _ _ (.int .u64 ((seq : Int) + 1)) HL11.out
      have e : ((seq + 1 : Nat) : Int) = (seq : Int) + 1 := by omega
      unfold LogAt logCells
      rw [e]
      exact this
    have hT12 : Turns (fun q => q = lp ∨ v.ownBlock = some q) V7 (V11.setCell ⟨lp, 4, none⟩ (.int .u64 ((seq : Int) + 1))) := HT11.out.setCell (p := ⟨lp, 4, none⟩) (fun _ => .inl rfl) _
    have hvF' : ∀ k, v.ownBlock = some k → ¬ F' k := fun k hk => hnF k (by have := hvw k hk; omega) (H6.out.apartV k hk).1
    rw [← HST.out]
    refine ⟨rfl, _, F', ⟨HD7.out.turns hT12 (fun q hq e => ?_), hL12, ⟨_, HROW11.out.turns ((Turns.refl (fun q => q = lp) V11).setCell (p := ⟨lp, 4, none⟩) (fun _ => rfl) _) (fun k hk e => ?_), ?_⟩, hlF', fun k hk => ?_, ⟨hg7, hg1, hsz.2, by rw [hsz.1]; exact hgd, hroom⟩⟩, fun q hq => (HF7.out q hq).imp id (fun e => by have := HB6.out.size; omega), fun k hk => (HOB9.out k hk).imp id (fun e => by have := HTW.out.size; omega), (HTW.out.mono (F := fun q => F q ∨ q = lp ∨ v.ownBlock = some q) (fun _ _ e => e.imp id .inl)).trans hT12 (fun _ _ e => .inr e)⟩
    · rcases e with e | e
      · exact hlF' (e ▸ hq)
      · exact hvF' q e hq
    · subst e
      rcases HOB9.out _ hk with e | e
      · exact hvl e
      · omega
    · intro u hu
      rcases List.mem_append.1 hu with hu | hu
      · exact hone u hu
      · simp at hu
        rcases hu with rfl | rfl | rfl <;> rfl
    · rcases HOB9.out k hk with e | e
      · exact ⟨hvF' k e, fun e' => hvl (e' ▸ e)⟩
      · exact ⟨fun e' => by have := HD7.out.lt k e'; omega, by omega⟩
end Go.Proofs.Ytelnoibfamcnmaa.Log

namespace Go.Proofs.Ytelnoibfamcnmaa.Log
set_option maxRecDepth 20000
open Go.RowKit
open Go.Proofs.Ytelnoibfamcnmaa.Mem Go.Proofs.Ytelnoibfamcnmaa.Crc Go.Proofs.Ytelnoibfamcnmaa.Disk
open Go.Proofs.Ytelnoibfamcnmaa.Rec (Tx Wt TxAt HoldsW HoldsI IsInt enc_any Told enc_len mayB_iff numFrom eqB)

theorem bytesL_getD (v L k : Nat) (hk : k < L) : (bytesL v L).getD k 0 = byteN v k := by
  simp [bytesL, List.getD, hk]
theorem num_bytesL (v L : Nat) : ∀ k, k ≤ L → numAt (bytesL v L) k = v % 2 ^ (8 * k)
  | 0, _ => by simp [numAt, Nat.mod_one]
  | k + 1, hk => by
    have ih := num_bytesL v L k (by omega)
    show numAt (bytesL v L) k ||| ((bytesL v L).getD k 0).toNat * 2 ^ (8 * k) = _
    rw [ih, bytesL_getD v L k (by omega)]
    have e : (byteN v k).toNat = v / 2 ^ (8 * k) % 256 := by simp [byteN]
    have hlt : v % 2 ^ (8 * k) < 2 ^ (8 * k) := Nat.mod_lt _ (Nat.pow_pos (by omega))
    rw [e, Nat.or_comm, Nat.mul_comm, ← Nat.two_pow_add_eq_or_of_lt hlt, show 8 * (k + 1) = 8 * k + 8 by omega, Nat.pow_add, Nat.mod_mul, show (2 : Nat) ^ 8 = 256 from rfl]
    omega
theorem numFrom_at (a c : List UInt8) (v n k : Nat) (hk : k = a.length) (hv : v < 2 ^ (8 * n)) : numFrom (a ++ (bytesL v n ++ c)) k n = v := by
  subst hk
  unfold numFrom
  rw [List.drop_left, List.take_left' (bytesL_len v n), num_bytesL v n n (Nat.le_refl _), Nat.mod_eq_of_lt hv]

/-- What a head tells is read. -/
theorem seqH_head (sq pl : Nat) (h : sq < 18446744073709551616) : seqH (headH sq pl) = sq := by
  unfold seqH
  rw [headH_eq, List.append_assoc, List.append_assoc]
  exact numFrom_at markH _ sq 8 8 rfl h
theorem plH_head (sq pl : Nat) (h : pl < 4294967296) : plH (headH sq pl) = pl := by
  unfold plH
  rw [headH_eq, List.append_assoc (markH ++ bytesL sq 8)]
  exact numFrom_at (markH ++ bytesL sq 8) _ pl 4 16 (by rw [List.length_append, bytesL_len]; rfl) h
theorem okH_head (sq pl ring : Nat) (h : sq < 18446744073709551616) (hp : pl < ring) (hr : ring ≤ 1024) : okH (headH sq pl) ring = true := by
  unfold okH
  rw [seqH_head sq pl h, plH_head sq pl (by omega)]
  simp [eqB, hp]

/-- A new log on a new disk. -/
def freshD (n s : Nat) : Dk.Dk := ((Dk.Dk.new n).write s (headH 1 0)).flush
theorem freshD_read (n s : Nat) (hs : s < n) : (freshD n s).read s = headH 1 0 := by
  have h0 := Dk.new_ok n
  have h1 := Dk.write_ok _ h0 s (headH 1 0) (by simpa [Dk.Dk.new] using hs) (headH_len 1 0)
  unfold freshD
  rw [Dk.read_flush _ h1, Dk.read_write _ h0, if_pos rfl]
theorem freshD_size (n s : Nat) : (freshD n s).stable.length = n := by
  unfold freshD
  rw [Dk.size_flush, write_size]
  simp [Dk.Dk.new]

/-- The record of the fixed fact. -/
def tA : Tx := ⟨1, [(9, List.replicate 256 0)], []⟩
theorem tA_may : tA.mayB = true := by
  rw [mayB_iff]
  exact ⟨by decide, by decide, fun x hx => by simp [tA] at hx; subst hx; simp, fun x hx => by simp [tA, Tx.nums] at hx; omega, by simp [tA, Tx.nums]⟩
theorem tA_takes : takesB 16 0 7 tA = true := by decide

set_option maxRecDepth 100000 in
set_option maxHeartbeats 4000000 in
theorem alive_any (w : World) : Calls Try.prog 32 #[] w fun e w' => e = .returned (.bool true) ∧ Below w.heap.size w w' := by
  obtain ⟨Z, hZ⟩ : ∃ Z, Z = List.replicate 256 (0 : UInt8) := ⟨_, rfl⟩
  have hmk : ∀ W, (Instr.makeSlice 33 (.int .i64 256) (.int .i64 256)).run Try.prog W = .ok (.slice (some ⟨W.heap.size, 0, none⟩) 256 256) (W.alloc (.cells (Z.map byteV).toArray 5)) := by
    rw [hZ]
    exact Go.Proofs.Ytelnoibfamcnmaa.Rec.run_makeZ 256 (by omega)
  have hZl : Z.length = 256 := by rw [hZ, List.length_replicate]
  have HMK := Lib.hid hmk; clear hmk
  have HZ := Lib.hid hZ; clear hZ
  have HZL := Lib.hid hZl; clear hZl
  go_enter Try.func32, Try.ntmps32
  go_wp2_with fail
  refine (new_d 16 16 0 _ rfl (by omega) (by omega)).mono ?_
  rintro e w1 ⟨p, F, rfl, hD, hF, hb1⟩
  unfold ptr
  have hfm : Calls Try.prog 34 #[.pointer (some ⟨p, 0, none⟩), .int .i64 0, .int .i64 8] w1 (Now w1 p (freshD 16 0) 1 F (.int .i64 0)) := format_d 0 8 0 8 rfl rfl (Dk.Dk.new 16) p 0 F w1 hD (by omega) (by omega) (by simp [Dk.Dk.new])
  have HFM := Lib.hid hfm; clear hfm
  have HF := Lib.hid hF; clear hF
  have HB1 := Lib.hid hb1; clear hb1 hD
  go_wp2_with fail
  with_reducible refine HFM.out.mono ?_
  rintro e w2 ⟨F2, rfl, hD2, hF2, hT2⟩
  clear HFM
  have hrd := freshD_read 16 0 (by omega)
  have hsz := freshD_size 16 0
  have hop : Calls Try.prog 33 #[.pointer (some ⟨p, 0, none⟩), .int .i64 0, .int .i64 8] w2 fun e w' => ∃ lp, e = .returned (.tuple #[.pointer (some ⟨lp, 0, none⟩), .int .i64 0]) ∧ LogAt w' lp p 0 7 1 0 0 (.slice none 0 0) ∧ w2.heap.size ≤ lp ∧ Below w2.heap.size w2 w' := by
    have := open_d 0 8 0 8 rfl rfl (freshD 16 0) p 1 F2 w2 hD2 (by omega) (by omega) (by rw [hsz]; omega) (by rw [hrd]; exact okH_head 1 0 7 (by omega) (by omega) (by omega))
    rw [hrd, seqH_head 1 0 (by omega), plH_head 1 0 (by omega)] at this
    exact this
  have HOP := Lib.hid hop; clear hop
  have hF2w : ∀ k, F2 k → w.heap.size ≤ k := fun k hk => by
    rcases hF2 k hk with e | e
    · exact HF.out k e
    · have := HB1.out.size; omega
  have hBw2 : Below w.heap.size w w2 := HB1.out.trans (hT2.below (fun k hk => HF.out k hk) HB1.out.size)
  have HBW2 := Lib.hid hBw2; clear hBw2
  have HD2 := Lib.hid hD2; clear hD2 hF2 hT2
  go_wp2_with fail
  with_reducible refine HOP.out.mono ?_
  rintro e w3 ⟨lp, rfl, hL3, hlp, hb3⟩
  clear HOP
  obtain ⟨m, hDM, hm⟩ := DiskAt.named HD2.out
  have hon : LogOn w3 lp p 0 7 1 0 0 (.slice none 0 0) 0 (freshD 16 0) 1 F2 m :=
    ⟨hDM.turns (Turns.of_below (F := fun _ => False) hb3) (fun _ _ e => e), hL3, ⟨[], World.ownsRow_nil _ _ _ _, fun u hu => by simp at hu⟩, fun e => by have := HD2.out.lt _ e; omega, fun k hk => (by cases hk), by rw [hsz]; omega⟩
  have HON := Lib.hid hon; clear hon
  have HB3 : Hid (Below w.heap.size w w3) := Lib.hid (HBW2.out.trans (hb3.mono HBW2.out.size))
  have hlpw : w.heap.size ≤ lp := by have := HBW2.out.size; omega
  have hlw : lp < w3.heap.size := (Array.getElem?_eq_some_iff.1 hL3).1
  have hFw : ∀ q, F2 q → q < w3.heap.size := fun q hq => HON.out.disk.lt q hq
  clear hL3 hlp hb3 hDM hm HD2 HBW2 HF HB1
  go_wp2_with fail
  rw [HMK.out]
  simp only [Result.andThen]
  rw [Oper.upon_value]
  clear HMK
  obtain ⟨W4, hW4⟩ : ∃ W4, W4 = (w3.alloc (.cells (Z.map byteV).toArray 5)).alloc (.cells #[.int .i64 9, .slice (some ⟨w3.heap.size, 0, none⟩) 256 256] 83) := ⟨_, rfl⟩
  have z1 : (w3.alloc (.cells (Z.map byteV).toArray 5)).heap.size = w3.heap.size + 1 := by simp
  have z4 : W4.heap.size = w3.heap.size + 2 := by rw [hW4]; simp
  have hb4 : Below w3.heap.size w3 W4 := by rw [hW4]; exact ((Below.refl _ w3).alloc (Nat.le_refl _) _).alloc (by simp) _
  have hx0 : W4.heap[w3.heap.size]? = some (.cells (Z.map byteV).toArray 5 (0, 0)) := by
    rw [hW4]; exact (Below.heap_alloc _ _ _ (by rw [z1]; omega)).trans (heap_alloc_new w3 _)
  have hx1 : W4.heap[w3.heap.size + 1]? = some (.cells #[.int .i64 9, .slice (some ⟨w3.heap.size, 0, none⟩) 256 256] 83 (0, 0)) := by
    rw [hW4, ← z1]; exact heap_alloc_new _ _
  have ht : ∀ W, Turns (fun q => F2 q ∨ q = lp) W4 W → TxAt W W4.heap.size tA (some ⟨w3.heap.size + 1, 0, none⟩) 1 1 none 0 0 := fun W hW => by
    have hy0 := (hW.block w3.heap.size (by omega) (fun e => by
      rcases e with e | e
      · have := hFw _ e; omega
      · omega)).trans hx0
    have hy1 := (hW.block (w3.heap.size + 1) (by omega) (fun e => by
      rcases e with e | e
      · have := hFw _ e; omega
      · omega)).trans hx1
    refine ⟨⟨rfl, fun _ => ⟨w3.heap.size + 1, 0, rfl, by omega, fun k x hx => ?_⟩⟩, ⟨rfl, fun h => absurd h (by omega)⟩, by show (1 : Nat) < _; omega, ⟨by omega, by omega, by omega, by omega⟩, fun x hx => ?_, fun x hx => (by cases hx)⟩
    · have hk : k = 0 := by
        have := (List.getElem?_eq_some_iff.1 hx).1
        simpa [tA] using this
      subst hk
      have hxe : x = ((9 : Int), List.replicate 256 (0 : UInt8)) := by simpa [tA] using hx.symm
      subst hxe
      have hlen : (List.replicate 256 (0 : UInt8)).length = 256 := List.length_replicate
      dsimp only
      rw [hlen]
      refine ⟨cell_of_row W _ 0 _ _ _ hy1, some ⟨w3.heap.size, 0, none⟩, 256, cell_of_row W _ 1 _ _ _ hy1, ⟨hlen, fun _ => ⟨w3.heap.size, 0, rfl, by omega, fun j hj => ?_⟩⟩, by omega, by unfold maxLen; omega⟩
      have hj' : j < 256 := by rw [hlen] at hj; exact hj
      rw [cell_of_row W _ _ _ _ _ hy0, List.getElem_replicate, List.getElem?_toArray, List.getElem?_map, HZ.out, List.getElem?_replicate, if_pos (by omega)]
      rfl
    · have hxe : x = ((9 : Int), List.replicate 256 (0 : UInt8)) := by simpa [tA] using hx
      subst hxe
      exact ⟨by show (-9223372036854775808 : Int) ≤ 9; omega, by show (9 : Int) ≤ _; omega⟩
  have hap := append_ok lp p 0 7 1 0 0 0 m 1 (.slice none 0 0) (freshD 16 0) F2 W4 (HON.out.later hb4) tA (some ⟨w3.heap.size + 1, 0, none⟩) none 1 1 0 0 ht rfl (by omega) tA_may (by rw [hsz]; exact tA_takes) (by omega) (by omega) (by omega)
  have HAP : Hid (Calls Try.prog 43 #[.pointer (some ⟨lp, 0, none⟩), .slice (some ⟨w3.heap.size + 1, 0, none⟩) 1 1, .slice none 0 0] W4 fun e w' => e = .returned (.tuple #[.int .u64 1, .int .i64 0]) ∧ Below w.heap.size w w' ∧ ∃ v' sq' pl', LogAt w' lp p 0 7 sq' pl' 3 v') := Lib.hid (hap.mono (fun e w' ⟨he, v', F', hon, hq, _, hT⟩ => ⟨he, (HB3.out.trans (hb4.mono HB3.out.size)).trans (hT.below (fun k hk => ?_) (by have := HB3.out.size; omega)), v', _, _, hon.log⟩))
  rotate_left
  · rcases hk with e | e | e
    · exact hF2w k e
    · omega
    · cases e
  clear hap ht hb4 hx0 hx1
  have HW4 := Lib.hid hW4; clear hW4
  go_wp2_with fail
  rw [← HW4.out]
  with_reducible refine HAP.out.mono ?_
  rintro e w5 ⟨rfl, hb5, v', sq', pl', hL5⟩
  have hrm := room_any lp p sq' pl' 3 (0 : Int) (7 : Int) v' w5 hL5 (by omega) (by omega)
  have hrm2 : Calls Try.prog 42 #[.pointer (some ⟨lp, 0, none⟩)] w5 fun e w' => e = .returned (.int .i64 4) ∧ Below w5.heap.size w5 w' := hrm
  have HRM := Lib.hid hrm2; clear hrm hrm2
  have HB5 := Lib.hid hb5; clear hb5
  clear HAP hL5
  go_wp2_with fail
  with_reducible refine HRM.out.mono ?_
  rintro e w6 ⟨rfl, hb6⟩
  go_wp2
  go_ret
  exact ⟨rfl, HB5.out.trans (hb6.mono HB5.out.size)⟩
end Go.Proofs.Ytelnoibfamcnmaa.Log

