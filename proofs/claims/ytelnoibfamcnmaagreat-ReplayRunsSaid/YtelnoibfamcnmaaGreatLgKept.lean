/- The record that a log keeps: what it holds, and that it is the log's own. -/
import Derived.Test.YtelnoibfamcnmaaGreatLgAlive
import Derived.Laws.OwnMore
namespace Go.Proofs.YtelnoibfamcnmaaGreat.Log
set_option maxRecDepth 20000
open Go.RowKit
open Go.Proofs.YtelnoibfamcnmaaGreat.Mem Go.Proofs.YtelnoibfamcnmaaGreat.Crc Go.Proofs.YtelnoibfamcnmaaGreat.Rec
open Go.Proofs.YtelnoibfamcnmaaGreat.Disk (Turns)

theorem wcells_set : ∀ (ws : List Wt) (us : List Value) (k : Nat) (v : Value), (wcells ws us).set (k * 2 + 1) v = wcells ws (us.set k v)
  | [], us, k, v => by cases us <;> cases k <;> simp [wcells]
  | _ :: _, [], k, v => by simp [wcells]
  | x :: r, u :: us, 0, v => by simp [wcells]
  | x :: r, u :: us, k + 1, v => by
    have := wcells_set r us k v
    rw [show (k + 1) * 2 + 1 = k * 2 + 1 + 1 + 1 by omega]
    simp only [wcells, List.set_cons_succ, this]

/-- While the data of its Writes are cloned, one behind the other. -/
structure Keeping (wr : World) (b : Nat) (A : Option Addr) (n c : Nat) (ws : List Wt) (vs : List Value) (k : Nat) (us : List Value) : Prop where
  len : us.length = ws.length
  row : wr.ownsRow b 56 2 (.slice A n c) n (wcells ws us)
  old : ∀ i, k ≤ i → us[i]? = vs[i]?
  data : ∀ (i : Nat) (x : Wt) (v : Value), i < k → ws[i]? = some x → us[i]? = some v → Owned wr b v x.2
  apart : ∀ (i j : Nat) (v v' : Value) (q : Nat), i < k → j < k → us[i]? = some v → us[j]? = some v' → i ≠ j → v.ownBlock = some q → v'.ownBlock ≠ some q

theorem Keeping.start {wr : World} {b n c : Nat} {A : Option Addr} {ws : List Wt} {vs : List Value} (hl : vs.length = ws.length) (hr : wr.ownsRow b 56 2 (.slice A n c) n (wcells ws vs)) : Keeping wr b A n c ws vs 0 vs :=
  ⟨hl, hr, fun _ _ => rfl, fun _ _ _ h => absurd h (Nat.not_lt_zero _), fun _ _ _ _ _ h => absurd h (Nat.not_lt_zero _)⟩

theorem Keeping.at {wr : World} {b g n c k : Nat} {ws : List Wt} {vs us : List Value} {x : Wt} {v : Value} (h : Keeping wr b (some ⟨g, 0, none⟩) n c ws vs k us) (hx : ws[k]? = some x) (hv : vs[k]? = some v) :
    wr.cell? ⟨g, k * 2, none⟩ = some (.int .i64 x.1) ∧ wr.cell? ⟨g, k * 2 + 1, none⟩ = some v := by
  obtain ⟨g1, g2⟩ := wcells_get ws us k x v hx ((h.old k (Nat.le_refl _)).trans hv)
  have hl := h.row.1
  rcases h.row.2 with ⟨e, _⟩ | ⟨g', cap, cur, e, _, hh, _, _, _, ht⟩
  · cases e
  · injection e with e1 _ _
    injection e1 with e1
    injection e1 with e1 _ _
    subst e1
    have hc : ∀ j u, (wcells ws us)[j]? = some u → wr.cell? ⟨g, j, none⟩ = some u := fun j u hu => by
      rw [cell_of_row _ _ _ _ _ _ hh]
      have hj := (List.getElem?_eq_some_iff.1 hu).1
      rw [← ht, List.getElem?_take, if_pos (by omega)] at hu
      simpa using hu
    exact ⟨hc _ _ g1, hc _ _ g2⟩

theorem Keeping.next {wk V : World} {b g n c k : Nat} {ws : List Wt} {vs us : List Value} {x : Wt} {v3 : Value} (h : Keeping wk b (some ⟨g, 0, none⟩) n c ws vs k us) (hx : ws[k]? = some x)
    (ho : Owned V wk.heap.size v3 x.2) (hb : Below wk.heap.size wk V) (hbs : b ≤ wk.heap.size) : Keeping (V.setCell ⟨g, k * 2 + 1, none⟩ v3) b (some ⟨g, 0, none⟩) n c ws vs (k + 1) (us.set k v3) := by
  have hK : Kept b wk V := Kept.of_below hb (Nat.le_refl _)
  have hrow := ownsRow_kept h.row hK
  obtain ⟨cur, hcur⟩ := row_type hrow (k := g) rfl
  have hst := (World.ownsRow.stored hrow (k * 2 + 1) v3).1
  rw [wcells_set] at hst
  refine ⟨by rw [List.length_set]; exact h.len, hst, fun i hi => ?_, fun i y v hi hy hv => ?_, fun i j v v' q hi hj hv hv' hij hq => ?_⟩
  · rw [List.getElem?_set_ne (by omega)]; exact h.old i (by omega)
  · by_cases e : i = k
    · subst e
      rw [List.getElem?_set_self' ] at hv
      have hy' : y = x := by rw [hx] at hy; injection hy with hy; exact hy.symm
      subst hy'
      have hv' : v = v3 := by
        cases hu : us[i]? with
        | none => rw [hu] at hv; simp at hv
        | some u => rw [hu] at hv; simp at hv; exact hv.symm
      subst hv'
      exact ownsRow_store (Owned.mono ho hbs) hcur (by decide)
    · rw [List.getElem?_set_ne (by omega)] at hv
      exact ownsRow_store (ownsRow_kept (h.data i y v (by omega) hy hv) hK) hcur (by decide)
  · have hold : ∀ (m : Nat) (u : Value) (p : Nat), m < k → us[m]? = some u → u.ownBlock = some p → p < wk.heap.size := fun m u p hm hu hp => by
      have hml : m < ws.length := by rw [← h.len]; exact (List.getElem?_eq_some_iff.1 hu).1
      exact (World.ownsRow.lt (h.data m _ u hm (List.getElem?_eq_getElem hml) hu) p hp).2
    have hset : ∀ u, (us.set k v3)[k]? = some u → u = v3 := fun u hu => by
      rw [List.getElem?_set_self'] at hu
      cases hc : us[k]? with
      | none => rw [hc] at hu; simp at hu
      | some z => rw [hc] at hu; simp at hu; exact hu.symm
    by_cases e1 : i = k
    · subst e1
      rw [List.getElem?_set_ne (by omega)] at hv'
      obtain rfl := hset v hv
      intro e
      have h1 := hold j v' q (by omega) hv' e
      have h2 := (World.ownsRow.lt ho q hq).1
      omega
    · rw [List.getElem?_set_ne (by omega)] at hv
      by_cases e2 : j = k
      · subst e2
        obtain rfl := hset v' hv'
        intro e
        have h1 := hold i v q (by omega) hv hq
        have h2 := (World.ownsRow.lt ho q e).1
        omega
      · rw [List.getElem?_set_ne (by omega)] at hv'
        exact h.apart i j v v' q (by omega) (by omega) hv hv' hij hq

theorem Keeping.whole {wr : World} {b n c : Nat} {A : Option Addr} {ws : List Wt} {vs us : List Value} (h : Keeping wr b A n c ws vs n us) (hn : ws.length = n) : OwnsW wr b A n c ws us :=
  ⟨hn, h.len, h.row, fun i x v hx hv => h.data i x v (by have := (List.getElem?_eq_some_iff.1 hx).1; omega) hx hv,
    fun i j v v' q hi hj hij hq => h.apart i j v v' q (by have := (List.getElem?_eq_some_iff.1 hi).1; have := h.len; omega) (by have := (List.getElem?_eq_some_iff.1 hj).1; have := h.len; omega) hi hj hij hq⟩

set_option maxRecDepth 100000 in
set_option maxHeartbeats 1000000 in
/-- The record that a log keeps: it is the one that was handed in, in memory of its own. -/
theorem kept_own (t : Tx) (Aw Ar : Option Addr) (nw cw nr cr B : Nat) (w : World) (h : TxAt w B t Aw nw cw Ar nr cr) (hB : B ≤ w.heap.size) (h1 : nw ≤ 1048576) (h2 : nr ≤ 1048576) (hd : ∀ x ∈ t.ws, x.2.length ≤ 1048576) :
    Calls Tryz.prog 54 #[.agg #[.int .u64 (t.seq : Int), .slice Aw nw cw, .slice Ar nr cr]] w fun e w' => ∃ Bw dw Br dr us, e = .returned (.agg #[.int .u64 (t.seq : Int), .slice Bw nw dw, .slice Br nr dr]) ∧ OwnsT w' w.heap.size t Bw dw Br dr us ∧ Below w.heap.size w w' := by
  have ht1 : Below w.heap.size w ((w.alloc (.cells #[.int .u64 (t.seq : Int), .slice Aw nw cw, .slice Ar nr cr] 63)).alloc (.cells #[.int .u64 0, .slice none 0 0, .slice none 0 0] 63)) := ((Below.refl _ w).alloc (Nat.le_refl _) _).alloc (by simp) _
  have hx1 : ((w.alloc (.cells #[.int .u64 (t.seq : Int), .slice Aw nw cw, .slice Ar nr cr] 63)).alloc (.cells #[.int .u64 0, .slice none 0 0, .slice none 0 0] 63)).heap[w.heap.size]? = some (.cells #[.int .u64 (t.seq : Int), .slice Aw nw cw, .slice Ar nr cr] 63 (0, 0)) := (Below.heap_alloc _ _ _ (by simp)).trans (heap_alloc_new w _)
  have hx2 : ((w.alloc (.cells #[.int .u64 (t.seq : Int), .slice Aw nw cw, .slice Ar nr cr] 63)).alloc (.cells #[.int .u64 0, .slice none 0 0, .slice none 0 0] 63)).heap[w.heap.size + 1]? = some (.cells #[.int .u64 0, .slice none 0 0, .slice none 0 0] 63 (0, 0)) := by
    have := heap_alloc_new (w.alloc (.cells #[.int .u64 (t.seq : Int), .slice Aw nw cw, .slice Ar nr cr] 63)) (.cells #[.int .u64 0, .slice none 0 0, .slice none 0 0] 63)
    simpa using this
  have HT := Lib.hid h; clear h
  have HX1 := Lib.hid hx1; clear hx1
  have HX2 := Lib.hid hx2; clear hx2
  have HT1 := Lib.hid ht1; clear ht1
  go_enter Tryz.func54, Tryz.ntmps54
  go_wp2_with fail
  generalize (w.alloc (.cells #[.int .u64 (t.seq : Int), .slice Aw nw cw, .slice Ar nr cr] 63)).alloc (.cells #[.int .u64 0, .slice none 0 0, .slice none 0 0] 63) = W at HT1 HX1 HX2 ⊢
  have hz2 : w.heap.size + 1 < W.heap.size := (Array.getElem?_eq_some_iff.1 HX2.out).1
  refine (wclone_any Aw nw cw B t.ws W (HT.out.ws.below (HT1.out.mono hB)) h1 (by omega)).mono ?_
  rintro e w1 ⟨A', c', vs, rfl, hvl, hvs, hrow, hb1⟩
  have hx1 := (hb1.block _ (by omega)).trans HX1.out
  have f1 := frozen_of_row w1 w.heap.size 1 _ _ hx1
  have e1 : w1.cell? ⟨w.heap.size, 1, none⟩ = some (.slice Aw nw cw) := cell_of_row w1 w.heap.size 1 _ _ _ hx1
  have hx1' : (w1.setCell ⟨w.heap.size, 1, none⟩ (.slice A' nw c')).heap[w.heap.size]? = some (.cells #[.int .u64 (t.seq : Int), .slice A' nw c', .slice Ar nr cr] 63 (0, 0)) := heap_setCell_same w1 w.heap.size 1 _ _ _ hx1
  have e1' : (w1.setCell ⟨w.heap.size, 1, none⟩ (.slice A' nw c')).cell? ⟨w.heap.size, 1, none⟩ = some (.slice A' nw c') := cell_of_row _ w.heap.size 1 _ _ _ hx1'
  have hx2' : (w1.setCell ⟨w.heap.size, 1, none⟩ (.slice A' nw c')).heap[w.heap.size + 1]? = some (.cells #[.int .u64 0, .slice none 0 0, .slice none 0 0] 63 (0, 0)) := (Below.heap_setCell _ _ _ _ (by intro e; simp at e)).trans ((hb1.block _ hz2).trans HX2.out)
  have hbw : Below w.heap.size w (w1.setCell ⟨w.heap.size, 1, none⟩ (.slice A' nw c')) := (HT1.out.trans (hb1.mono HT1.out.size)).setCell (p := ⟨w.heap.size, 1, none⟩) (Nat.le_refl _) _
  have HBW := Lib.hid hbw; clear hbw
  have HX1' := Lib.hid hx1'; clear hx1'
  have HX2' := Lib.hid hx2'; clear hx2'
  have HKP0 : Hid (Keeping (w1.setCell ⟨w.heap.size, 1, none⟩ (.slice A' nw c')) (w.heap.size + 2) A' nw c' t.ws vs 0 vs) := Lib.hid (Keeping.start (by rw [hvl]; exact HT.out.ws.1.symm) (ownsRow_store (ownsRow_mono hrow (by omega)) hx1 (by decide)))
  have HVS := Lib.hid hvs; clear hvs
  have HROW := Lib.hid hrow; clear hrow
  have HB1 := Lib.hid hb1; clear hb1
  clear hx1
  go_wp2
  obtain ⟨W1, hW1⟩ : ∃ W1, W1 = w1.setCell ⟨w.heap.size, 1, none⟩ (.slice A' nw c') := ⟨_, rfl⟩
  rw [← hW1] at HBW HX1' HX2' e1' HKP0 ⊢
  have hst : ∀ g, (Value.slice A' nw c').ownBlock = some g → W.heap.size ≤ g ∧ A' = some ⟨g, 0, none⟩ ∧ ∃ cur, W1.heap[g]? = some (.cells cur 56 (0, 0)) ∧ ∀ j, 0 * 2 ≤ j → j < nw * 2 → cur[j]? = (wcells t.ws vs)[j]? := fun g hg => by
    rcases HROW.out.2 with ⟨e, _⟩ | ⟨g', cap, cur, e, hg1, hh, q1, q2, q3, q4⟩
    · rw [e] at hg; cases hg
    · injection e with e3 _ _
      subst e3
      simp [Value.ownBlock] at hg
      subst hg
      refine ⟨hg1, rfl, cur, ?_, fun j _ hj => ?_⟩
      · rw [hW1]; exact (Below.heap_setCell _ _ _ _ (by intro e; simp at e; omega)).trans hh
      · rw [← q4, List.getElem?_take, if_pos hj]; simp
  have hpos : 0 < nw → ∃ g, (Value.slice A' nw c').ownBlock = some g := fun hn => by
    rcases HROW.out.2 with ⟨e, h0⟩ | ⟨g', cap, cur, e, _⟩
    · omega
    · exact ⟨g', by rw [e]; rfl⟩
  have HWW : Hid (Below w.heap.size W W1) := Lib.hid (by rw [hW1]; exact (HB1.out.mono HT1.out.size).setCell (p := ⟨w.heap.size, 1, none⟩) (Nat.le_refl _) _)
  have HST := Lib.hid hst; clear hst
  have HPOS := Lib.hid hpos; clear hpos
  clear f1 e1 HROW hW1 e1'
  go_loopw [12] (fun i wr => ∃ (k : Nat) (us : List Value), k ≤ nw ∧ i = .int .i64 (k : Int) ∧ Turns (fun q => (Value.slice A' nw c').ownBlock = some q) W1 wr ∧ Keeping wr (w.heap.size + 2) A' nw c' t.ws vs k us) (fun i _ => nw - (intOf i).toNat)
  case atStart => exact ⟨0, vs, by omega, rfl, Turns.refl _ _, HKP0.out⟩
  case round =>
    obtain ⟨k, us, hk, rfl, ht, hrw⟩ := hrel
    obtain ⟨wk, hwk⟩ : ∃ wk, wk = wr := ⟨_, rfl⟩
    subst hwk
    have HTK := Lib.hid ht; clear ht
    have HRW := Lib.hid hrw; clear hrw
    have hpn : ¬ (Value.slice A' nw c').ownBlock = some w.heap.size := fun e => by have := (HST.out _ e).1; omega
    have hqn : ¬ (Value.slice A' nw c').ownBlock = some (w.heap.size + 1) := fun e => by have := (HST.out _ e).1; omega
    have HPK : Hid (wk.heap[w.heap.size]? = some (.cells #[.int .u64 (t.seq : Int), .slice A' nw c', .slice Ar nr cr] 63 (0, 0))) := Lib.hid ((HTK.out.block _ (Array.getElem?_eq_some_iff.1 HX1'.out).1 hpn).trans HX1'.out)
    have HQK : Hid (wk.heap[w.heap.size + 1]? = some (.cells #[.int .u64 0, .slice none 0 0, .slice none 0 0] 63 (0, 0))) := Lib.hid ((HTK.out.block _ (Array.getElem?_eq_some_iff.1 HX2'.out).1 hqn).trans HX2'.out)
    have HWWK : Hid (Below w.heap.size W wk) := Lib.hid (HWW.out.trans (HTK.out.below (fun q e => by have := (HST.out _ e).1; omega) HBW.out.size))
    have HWK : Hid (Below w.heap.size w wk) := Lib.hid (HBW.out.trans (HTK.out.below (fun q e => by have := (HST.out _ e).1; omega) HBW.out.size))
    by_cases hlt : k < nw
    · obtain ⟨g, hg⟩ := HPOS.out (by omega)
      obtain ⟨hgW, rfl, -⟩ := HST.out g hg
      obtain ⟨cur, hcur⟩ := row_type HRW.out.row hg
      have hkl : k < t.ws.length := by rw [HT.out.ws.1]; exact hlt
      have hkv : k < vs.length := by omega
      have hgx := List.getElem?_eq_getElem hkl
      have hgv := List.getElem?_eq_getElem hkv
      obtain ⟨g1, g2⟩ := wcells_get t.ws vs k _ _ hgx hgv
      obtain ⟨A2, c2, hv2, hh2, -⟩ := HVS.out k _ _ hgx hgv
      have hdl := hd _ (List.getElem_mem hkl)
      rw [hv2] at g2
      rw [hv2] at hgv
      generalize t.ws[k]'hkl = x at g1 g2 hh2 hdl hgx hgv hv2
      obtain ⟨x1, x2⟩ := x
      dsimp only at g1 g2 hh2 hdl hgx hgv hv2
      have e0 : wk.cell? ⟨g, k * 2, none⟩ = some (.int .i64 x1) := (HRW.out.at hgx hgv).1
      have e1 : wk.cell? ⟨g, k * 2 + 1, none⟩ = some (.slice A2 x2.length c2) := (HRW.out.at hgx hgv).2
      have HGX := Lib.hid hgx
      have hi1 : (0 : Int) ≤ (k : Int) := by omega
      have hi2 : (k : Int) < (nw : Int) := by omega
      have HCUR := Lib.hid hcur; clear hcur
      have HH2 := Lib.hid hh2; clear hh2
      clear g1 g2 hgx hgv hv2
      have hgk : g < wk.heap.size := (Array.getElem?_eq_some_iff.1 HCUR.out).1
      have hbc := bclone_any A2 x2.length c2 B x2 ((wk.alloc (.cells #[.int .i64 x1, .slice A2 x2.length c2] 56)).drew) (HH2.out.below (((HWWK.out.alloc HWK.out.size _).drew).mono hB)) (by omega) (by have := HWK.out.size; show B ≤ (wk.alloc _).heap.size; simp; omega)
      obtain ⟨XL, hXL⟩ : ∃ n, n = x2.length := ⟨_, rfl⟩
      unfold Made at hbc
      rw [← hXL] at hbc e1
      have HBC := Lib.hid hbc; clear hbc
      have hbox : (wk.alloc (.cells #[.int .i64 x1, .slice A2 XL c2] 56)).heap[wk.heap.size]? = some (.cells #[.int .i64 x1, .slice A2 XL c2] 56 (0, 0)) := heap_alloc_new wk _
      have hp2 : (wk.alloc (.cells #[.int .i64 x1, .slice A2 XL c2] 56)).heap[w.heap.size]? = some (.cells #[.int .u64 (t.seq : Int), .slice (some ⟨g, 0, none⟩) nw c', .slice Ar nr cr] 63 (0, 0)) := (Below.heap_alloc _ _ _ (by have := (Array.getElem?_eq_some_iff.1 HPK.out).1; omega)).trans HPK.out
      have hS : ((wk.alloc (.cells #[.int .i64 x1, .slice A2 XL c2] 56)).drew.cell? ⟨w.heap.size, 1, none⟩ = some (.slice (some ⟨g, 0, none⟩) nw c') ∧ (wk.alloc (.cells #[.int .i64 x1, .slice A2 XL c2] 56)).drew.cell? ⟨wk.heap.size, 1, none⟩ = some (.slice A2 XL c2)) :=
        ⟨cell_of_row (wk.alloc (.cells #[.int .i64 x1, .slice A2 XL c2] 56)) w.heap.size 1 _ _ _ hp2, cell_of_row (wk.alloc (.cells #[.int .i64 x1, .slice A2 XL c2] 56)) wk.heap.size 1 _ _ _ hbox⟩
      have HBOX := Lib.hid hbox; clear hbox
      have HP2 := Lib.hid hp2; clear hp2
      have HXL := Lib.hid hXL; clear hXL
      have hgc : (wk.alloc (.cells #[.int .i64 x1, .slice A2 XL c2] 56)).heap[g]? = some (.cells cur 56 (0, 0)) := (Below.heap_alloc _ _ _ (by omega)).trans HCUR.out
      have HGC := Lib.hid hgc; clear hgc
      have hwp : w.heap.size ≠ g := by omega
      have HTA : Hid (Below wk.heap.size wk (wk.alloc (.cells #[.int .i64 x1, .slice A2 XL c2] 56))) := Lib.hid ((Below.refl _ wk).alloc (Nat.le_refl _) _)
      go_wp2_with fail
      have hz0 : (wk.alloc (.cells #[.int .i64 x1, .slice A2 XL c2] 56)).heap.size = wk.heap.size + 1 := by simp
      generalize wk.alloc (.cells #[.int .i64 x1, .slice A2 XL c2] 56) = WA at HBC HBOX HP2 HGC HTA hS hz0 ⊢
      go_region_held (fun V => V.cell? ⟨w.heap.size, 1, none⟩ = some (.slice (some ⟨g, 0, none⟩) nw c') ∧ V.cell? ⟨wk.heap.size, 1, none⟩ = some (.slice A2 XL c2)) (first | assumption | exact HSV.out _)
        (first
          | (go_at_call 86
             with_reducible refine HBC.out.mono ?_
             rintro e V ⟨A3, c3, rfl, ho3, hb3⟩
             clear hS
             have hpV := (hb3.block _ (by show w.heap.size < WA.heap.size; omega)).trans HP2.out
             have hbV := (hb3.block _ (by show wk.heap.size < WA.heap.size; omega)).trans HBOX.out
             have hgV := (hb3.block _ (by show g < WA.heap.size; omega)).trans HGC.out
             have hS1 : (V.cell? ⟨w.heap.size, 1, none⟩ = some (.slice (some ⟨g, 0, none⟩) nw c') ∧ V.cell? ⟨wk.heap.size, 1, none⟩ = some (.slice A2 XL c2)) := ⟨cell_of_row V w.heap.size 1 _ _ _ hpV, cell_of_row V wk.heap.size 1 _ _ _ hbV⟩
             have f1 := frozen_of_row V g (k * 2 + 1) _ _ hgV
             have q1 : V.cell? ⟨g, k * 2 + 1, none⟩ = some (.slice A2 XL c2) := (cell_of_row V g (k * 2 + 1) _ _ _ hgV).trans ((cell_of_row wk g (k * 2 + 1) _ _ _ HCUR.out).symm.trans e1)
             have HSV : Hid (∀ u, (V.setCell ⟨g, k * 2 + 1, none⟩ u).cell? ⟨w.heap.size, 1, none⟩ = some (.slice (some ⟨g, 0, none⟩) nw c') ∧ (V.setCell ⟨g, k * 2 + 1, none⟩ u).cell? ⟨wk.heap.size, 1, none⟩ = some (.slice A2 XL c2)) := Lib.hid (fun u =>
               ⟨cell_of_row _ w.heap.size 1 _ _ _ ((Below.heap_setCell _ _ _ _ (by intro e; simp at e; omega)).trans hpV), cell_of_row _ wk.heap.size 1 _ _ _ ((Below.heap_setCell _ _ _ _ (by intro e; simp at e; omega)).trans hbV)⟩)
             have HB3 := Lib.hid hb3
             have HO3 := Lib.hid ho3
             have HGV := Lib.hid hgV
             clear hb3 hgV hpV hbV ho3))
      all_goals
        have htn : Turns (fun q => (Value.slice (some ⟨g, 0, none⟩) nw c').ownBlock = some q) W1 (V.setCell ⟨g, k * 2 + 1, none⟩ (.slice A3 XL c3)) :=
          ((HTK.out.trans (Turns.of_below (F := fun q => (Value.slice (some ⟨g, 0, none⟩) nw c').ownBlock = some q) HTA.out) (fun _ _ e => e)).drew.trans (Turns.of_below (F := fun q => (Value.slice (some ⟨g, 0, none⟩) nw c').ownBlock = some q) HB3.out) (fun _ _ e => e)).setCell (p := ⟨g, k * 2 + 1, none⟩) (fun _ => hg) _
        have hrn := HRW.out.next (x := (x1, x2)) HGX.out (v3 := .slice A3 XL c3) (V := V) (Owned.mono HO3.out (by show wk.heap.size ≤ WA.heap.size; omega)) (HTA.out.drew.trans (HB3.out.mono (by show wk.heap.size ≤ WA.heap.size; omega))) (by have := HWK.out.size; have := (Array.getElem?_eq_some_iff.1 HQK.out).1; omega)
        have HTN := Lib.hid htn; clear htn
        have HRN := Lib.hid hrn; clear hrn
        go_wp2
        go_roundw
        case rel => exact ⟨k + 1, us.set k (.slice A3 XL c3), by omega, by go_num, HTN.out, HRN.out⟩
        case measure => simp [intOf]; omega
    · obtain rfl : k = nw := by omega
      have hmm : (k : Int) ≤ (k : Int) := by omega
      have e2 : wk.cell? ⟨w.heap.size, 2, none⟩ = some (.slice Ar nr cr) := cell_of_row wk w.heap.size 2 _ _ _ HPK.out
      have HOW := Lib.hid (HRW.out.whole HT.out.ws.1)
      clear HRW HTK HST HPOS HVS HKP0
      go_wp2_with fail
      refine (iclone_any Ar nr cr B t.rs wk (HT.out.rs.below (HWK.out.mono hB)) h2 (by have := HWK.out.size; omega)).mono ?_
      rintro e V ⟨B2, d2, rfl, hroI, hbV⟩
      have hpV := (hbV.block _ (Array.getElem?_eq_some_iff.1 HPK.out).1).trans HPK.out
      have hqV := (hbV.block _ (Array.getElem?_eq_some_iff.1 HQK.out).1).trans HQK.out
      have HBV : Hid (Below w.heap.size w V) := Lib.hid (HWK.out.trans (hbV.mono HWK.out.size))
      have HOT := Lib.hid (show OwnsW V (w.heap.size + 2) A' k c' t.ws us from HOW.out.kept (Kept.of_below hbV (Nat.le_refl _)))
      have HRI := Lib.hid (show V.ownsRow w.heap.size 3 1 (.slice B2 nr d2) nr (t.rs.map (Value.int .i64)) from ownsRow_mono hroI (HWK.out.size))
      clear hbV e2 hroI HOW
      have f2 := frozen_of_row V w.heap.size 2 _ _ hpV
      have e2 : V.cell? ⟨w.heap.size, 2, none⟩ = some (.slice Ar nr cr) := cell_of_row V w.heap.size 2 _ _ _ hpV
      have hpV2 : (V.setCell ⟨w.heap.size, 2, none⟩ (.slice B2 nr d2)).heap[w.heap.size]? = some (.cells #[.int .u64 (t.seq : Int), .slice A' k c', .slice B2 nr d2] 63 (0, 0)) := heap_setCell_same V w.heap.size 2 _ _ _ hpV
      have hqV2 : (V.setCell ⟨w.heap.size, 2, none⟩ (.slice B2 nr d2)).heap[w.heap.size + 1]? = some (.cells #[.int .u64 0, .slice none 0 0, .slice none 0 0] 63 (0, 0)) := (Below.heap_setCell _ _ _ _ (by intro e; simp at e)).trans hqV
      have r0 := cell_of_row _ w.heap.size 0 _ _ _ hpV2
      have r1 := cell_of_row _ w.heap.size 1 _ _ _ hpV2
      have r2 := cell_of_row _ w.heap.size 2 _ _ _ hpV2
      have z0 := cell_of_row _ (w.heap.size + 1) 0 _ _ _ hqV2
      have z1 := cell_of_row _ (w.heap.size + 1) 1 _ _ _ hqV2
      have z2 := cell_of_row _ (w.heap.size + 1) 2 _ _ _ hqV2
      have y0 := frozen_of_row _ (w.heap.size + 1) 0 _ _ hqV2
      have y1 := frozen_of_row _ (w.heap.size + 1) 1 _ _ hqV2
      have y2 := frozen_of_row _ (w.heap.size + 1) 2 _ _ hqV2
      have HPV := Lib.hid hpV
      have HQV2 := Lib.hid hqV2; clear hqV2 hpV2 hpV hqV
      go_wp2
      have hf0 := heap_setCell_same _ (w.heap.size + 1) 0 _ _ (.int .u64 (t.seq : Int)) HQV2.out
      have hf1 := heap_setCell_same _ (w.heap.size + 1) 1 _ _ (.slice A' k c') hf0
      have hfin := heap_setCell_same _ (w.heap.size + 1) 2 _ _ (.slice B2 nr d2) (heap_setCell_same _ (w.heap.size + 1) 1 _ _ (.slice A' k c') (heap_setCell_same _ (w.heap.size + 1) 0 _ _ (.int .u64 (t.seq : Int)) HQV2.out))
      have q0 := cell_of_row _ (w.heap.size + 1) 0 _ _ _ hfin
      have q1 := cell_of_row _ (w.heap.size + 1) 1 _ _ _ hfin
      have q2 := cell_of_row _ (w.heap.size + 1) 2 _ _ _ hfin
      refine bodyPost_ret (v := .agg #[.int .u64 (t.seq : Int), .slice A' k c', .slice B2 nr d2]) (by simp [results, go_sem, q0, q1, q2]) rfl ?_
      have hln : t.ws.length = k := HT.out.ws.1
      have hlr : t.rs.length = nr := HT.out.rs.1
      exact ⟨A', c', B2, d2, us, rfl, ⟨by rw [hln]; exact ((((HOT.out.mono (by omega)).store HPV.out (by decide) (by decide)).store HQV2.out (by decide) (by decide)).store hf0 (by decide) (by decide)).store hf1 (by decide) (by decide),
        by rw [hlr]; exact ownsRow_store (ownsRow_store (ownsRow_store (ownsRow_store HRI.out HPV.out (by decide)) HQV2.out (by decide)) hf0 (by decide)) hf1 (by decide)⟩, (((HBV.out.setCell (p := ⟨w.heap.size, 2, none⟩) (Nat.le_refl _) _).setCell (p := ⟨w.heap.size + 1, 0, none⟩) (Nat.le_succ _) _).setCell (p := ⟨w.heap.size + 1, 1, none⟩) (Nat.le_succ _) _).setCell (p := ⟨w.heap.size + 1, 2, none⟩) (Nat.le_succ _) _⟩
end Go.Proofs.YtelnoibfamcnmaaGreat.Log
