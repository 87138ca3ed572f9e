/- LogHome: for every area and every deeds, behind the way home each block holds what the last record wrote there, unless a later one revoked it. -/
import Derived.Test.YtgffcjceeiokfaaLgList
import Derived.Deep.RegionHeld
namespace Go.Proofs.Ytgffcjceeiokfaa.LogHome
set_option maxRecDepth 20000
open Go.ChangeShapes Go.WideShapes Go.ChangeAt Go.RowKit
open Go.Proofs.Ytgffcjceeiokfaa.Mem Go.Proofs.Ytgffcjceeiokfaa.Lift Go.Proofs.Ytgffcjceeiokfaa.Disk Go.Proofs.Ytgffcjceeiokfaa.Log Go.Proofs.Ytgffcjceeiokfaa.Reg
open Go.Proofs.Ytgffcjceeiokfaa.Rec (Tx Wt TxAt OwnsT copy_any)

set_option maxRecDepth 100000 in
set_option maxHeartbeats 1000000 in
/-- Where no log is made. -/
theorem walk_bad (B S L : Int) (v : Value) (w : World) (h : ∀ w1, Calls Try.prog 36 #[.agg #[.int .i64 B, .int .i64 S, .int .i64 L]] w1 fun e w' => e = .returned (.tuple #[.agg #[.pointer none, .pointer none, .pointer none], .bool false]) ∧ Below w1.heap.size w1 w') :
    Calls Try.prog 7 #[.agg #[.int .i64 B, .int .i64 S, .int .i64 L], v] w fun e w' => e = .returned (.bool true) ∧ Below w.heap.size w w' := by
  have hx0 : Hid ((w.alloc (.cells #[.int .i64 B, .int .i64 S, .int .i64 L] 50)).heap[w.heap.size]? = some (.cells #[.int .i64 B, .int .i64 S, .int .i64 L] 50 (0, 0))) := Lib.hid (heap_alloc_new w _)
  have hb0 : Hid (Below w.heap.size w (w.alloc (.cells #[.int .i64 B, .int .i64 S, .int .i64 L] 50))) := Lib.hid ((Below.refl _ _).alloc (Nat.le_refl _) _)
  have HOP := Lib.hid h; clear h
  go_enter Try.func7, Try.ntmps7
  go_wp2_with fail
  generalize w.alloc (.cells #[.int .i64 B, .int .i64 S, .int .i64 L] 50) = W at hx0 hb0 ⊢
  with_reducible refine (Log.alive_any W).mono ?_
  rintro e w1 ⟨rfl, hb1⟩
  have hx1 := (hb1.block _ (Array.getElem?_eq_some_iff.1 hx0.out).1).trans hx0.out
  have q0 : w1.cell? ⟨w.heap.size, 0, none⟩ = some (.int .i64 B) := cell_of_row w1 _ 0 _ _ _ hx1
  have q1 : w1.cell? ⟨w.heap.size, 1, none⟩ = some (.int .i64 S) := cell_of_row w1 _ 1 _ _ _ hx1
  have q2 : w1.cell? ⟨w.heap.size, 2, none⟩ = some (.int .i64 L) := cell_of_row w1 _ 2 _ _ _ hx1
  have HB1 : Hid (Below w.heap.size w w1) := Lib.hid (hb0.out.trans (hb1.mono hb0.out.size))
  clear hx1 hb1 hx0 hb0
  have hop := HOP.out w1
  have HOP1 := Lib.hid hop; clear hop HOP
  go_wp2_with fail
  with_reducible refine HOP1.out.mono ?_
  rintro e w2 ⟨rfl, hb2⟩
  have HB2 : Hid (Below w.heap.size w w2) := Lib.hid (HB1.out.trans (hb2.mono HB1.out.size))
  clear hb2 HOP1 q0 q1 q2 HB1
  go_wp2
  go_ret
  exact ⟨rfl, HB2.out.alloc HB2.out.size _⟩

set_option maxRecDepth 100000 in
set_option maxHeartbeats 4000000 in
theorem walk_good (nb s l : Nat) (A : Option Addr) (n c : Nat) (xs : List DeedL) (w : World) (hx : DeedsL w w.heap.size A n xs) (hnc : n ≤ c) (hcm : c ≤ maxLen) (hn2 : nb ≤ 1024) (h8 : 8 ≤ l) (hl2 : l ≤ 1024) (hs : s + l ≤ nb) :
    Calls Try.prog 7 #[.agg #[.int .i64 (nb : Int), .int .i64 (s : Int), .int .i64 (l : Int)], .slice A n c] w fun e w' => e = .returned (.bool true) ∧ Below w.heap.size w w' := by
  have hx0 : Hid ((w.alloc (.cells #[.int .i64 (nb : Int), .int .i64 (s : Int), .int .i64 (l : Int)] 50)).heap[w.heap.size]? = some (.cells #[.int .i64 (nb : Int), .int .i64 (s : Int), .int .i64 (l : Int)] 50 (0, 0))) := Lib.hid (heap_alloc_new w _)
  have hb0 : Hid (Below w.heap.size w (w.alloc (.cells #[.int .i64 (nb : Int), .int .i64 (s : Int), .int .i64 (l : Int)] 50))) := Lib.hid ((Below.refl _ _).alloc (Nat.le_refl _) _)
  have HS := Lib.hid hs; clear hs
  have HL2 := Lib.hid hl2; clear hl2
  have HX := Lib.hid hx; clear hx
  have H8 := Lib.hid h8; clear h8
  have HN2 := Lib.hid hn2; clear hn2
  go_enter Try.func7, Try.ntmps7
  go_wp2_with fail
  generalize w.alloc (.cells #[.int .i64 (nb : Int), .int .i64 (s : Int), .int .i64 (l : Int)] 50) = W at hx0 hb0 ⊢
  with_reducible refine (Log.alive_any W).mono ?_
  rintro e w1 ⟨rfl, hb1⟩
  have hx1 := (hb1.block _ (Array.getElem?_eq_some_iff.1 hx0.out).1).trans hx0.out
  have q0 : w1.cell? ⟨w.heap.size, 0, none⟩ = some (.int .i64 (nb : Int)) := cell_of_row w1 _ 0 _ _ _ hx1
  have q1 : w1.cell? ⟨w.heap.size, 1, none⟩ = some (.int .i64 (s : Int)) := cell_of_row w1 _ 1 _ _ _ hx1
  have q2 : w1.cell? ⟨w.heap.size, 2, none⟩ = some (.int .i64 (l : Int)) := cell_of_row w1 _ 2 _ _ _ hx1
  have HB1 : Hid (Below w.heap.size w w1) := Lib.hid (hb0.out.trans (hb1.mono hb0.out.size))
  have HX1 := Lib.hid hx1
  have hlt1 : w.heap.size < w1.heap.size := (Array.getElem?_eq_some_iff.1 hx1).1
  have HLT1 := Lib.hid hlt1; clear hlt1
  clear hx1 hb1 hx0 hb0
  have hop := opened_ok nb s l w1 HN2.out H8.out HS.out
  have HOP := Lib.hid hop; clear hop
  go_wp2_with fail
  with_reducible refine HOP.out.mono ?_
  rintro e w2 ⟨p, r, lp, m, F, G, rfl, hfr, hb2⟩
  have HFR := Lib.hid hfr
  have HB2 : Hid (Below w.heap.size w w2) := Lib.hid (HB1.out.trans (hb2.mono HB1.out.size))
  have HX2 := Lib.hid ((hb2.block _ (by have := HLT1.out; omega)).trans HX1.out)
  have hlp2 : lp < w2.heap.size := (Array.getElem?_eq_some_iff.1 hfr.log).1
  have HLP2 := Lib.hid hlp2; clear hlp2
  obtain ⟨w3, hw3⟩ : ∃ y, y = w2.alloc (.cells #[.pointer (some ⟨p, 0, none⟩), .pointer (some ⟨lp, 0, none⟩), .pointer (some ⟨m, 0, none⟩)] 59) := ⟨_, rfl⟩
  have hb3 : Below w2.heap.size w2 w3 := hw3 ▸ (Below.refl _ _).alloc (Nat.le_refl _) _
  have hv3 : w3.heap[w2.heap.size]? = some (.cells #[.pointer (some ⟨p, 0, none⟩), .pointer (some ⟨lp, 0, none⟩), .pointer (some ⟨m, 0, none⟩)] 59 (0, 0)) := hw3 ▸ heap_alloc_new w2 _
  have hg3 := HFR.out.known hb3 H8.out HL2.out HS.out
  have HG3 := Lib.hid hg3; clear hg3
  have hfew := few_any A n c w3 hnc hcm (fun h => by obtain ⟨b, off, e, _⟩ := HX.out.2.1 h; exact ⟨b, off, e⟩)
  have hBw : Below w.heap.size w w3 := HB2.out.trans (hb3.mono HB2.out.size)
  have hx3 := (HX.out.below hBw).take (k := fewL n) (by unfold fewL; split <;> omega)
  have hN24 : fewL n ≤ 24 := by unfold fewL; split <;> omega
  obtain ⟨N, hN⟩ : ∃ N, N = fewL n := ⟨_, rfl⟩
  rw [← hN] at hfew hx3 hN24
  have hxa3 := (hb3.block _ (Array.getElem?_eq_some_iff.1 HX2.out).1).trans HX2.out
  have HBW := Lib.hid hBw; clear hBw
  have HFEW := Lib.hid hfew; clear hfew
  have HX3 := Lib.hid hx3; clear hx3
  have HV3 := Lib.hid hv3; clear hv3
  have HXA3 := Lib.hid hxa3; clear hxa3
  have HB3 := Lib.hid hb3; clear hb3 hb2 hfr HOP
  clear q0 q1 q2 HX1 hN HX hnc hcm
  obtain ⟨R, hR⟩ : ∃ R, R = l - 1 := ⟨_, rfl⟩
  rw [← hR] at HG3
  have hRb : R ≤ 1023 := by have := HL2.out; omega
  have HR := Lib.hid hR; clear hR
  have HW3 := Lib.hid hw3; clear hw3
  go_wp2_with fail
  rw [← HW3.out]
  clear HW3
  with_reducible refine HFEW.out.mono ?_
  rintro e w5 ⟨rfl, rfl⟩
  clear HFEW
  -- the facts of a later world
  have hlater : ∀ V, Turns (fun q => F q ∨ q = lp) w3 V → V.heap[w2.heap.size]? = some (.cells #[.pointer (some ⟨p, 0, none⟩), .pointer (some ⟨lp, 0, none⟩), .pointer (some ⟨m, 0, none⟩)] 59 (0, 0)) ∧ V.heap[w.heap.size]? = some (.cells #[.int .i64 (nb : Int), .int .i64 (s : Int), .int .i64 (l : Int)] 50 (0, 0)) ∧ DeedsL V w.heap.size A N (xs.take N) ∧ Below w.heap.size w V := fun V hT => by
    have hFw : ∀ q, F q → q < w2.heap.size := fun q hq => HFR.out.one.lt q hq
    have hFl : ∀ q, F q → w1.heap.size + 3 ≤ q := fun q hq => (HFR.out.lowF q hq).1
    have hl := HFR.out.low.1
    have h1 := HLT1.out
    have h2 := HLP2.out
    have h3 := (Array.getElem?_eq_some_iff.1 HV3.out).1
    have hbl : Below w.heap.size w3 V := hT.below (fun k hk => by
      rcases hk with e | e
      · have := hFl k e; omega
      · omega) (by omega)
    refine ⟨(hT.block _ (by omega) (fun e => by
      rcases e with e | e
      · have := hFw _ e; omega
      · omega)).trans HV3.out, (hT.block _ (by omega) (fun e => by
      rcases e with e | e
      · have := hFl _ e; omega
      · omega)).trans HXA3.out, HX3.out.below hbl, HBW.out.trans hbl⟩
  have hfix : ∀ V, Turns (fun q => F q ∨ q = lp) w3 V → (V.cell? ⟨w2.heap.size, 1, none⟩ = some (.pointer (some ⟨lp, 0, none⟩)) ∧ V.cell? ⟨w2.heap.size, 0, none⟩ = some (.pointer (some ⟨p, 0, none⟩))) ∧ V.cell? ⟨w.heap.size, 1, none⟩ = some (.int .i64 (s : Int)) ∧ V.cell? ⟨w.heap.size, 2, none⟩ = some (.int .i64 (l : Int)) := fun V hg => by
    obtain ⟨e1, e2, -⟩ := hlater V hg
    exact ⟨⟨cell_of_row V _ 1 _ _ _ e1, cell_of_row V _ 0 _ _ _ e1⟩, cell_of_row V _ 1 _ _ _ e2, cell_of_row V _ 2 _ _ _ e2⟩
  have hcellp : ∀ V, Turns (fun q => F q ∨ q = lp) w3 V → w2.heap.size < V.heap.size ∧ ∀ V', Below V.heap.size V V' → V'.cell? ⟨w2.heap.size, 0, none⟩ = some (.pointer (some ⟨p, 0, none⟩)) := fun V hg => by
    obtain ⟨e1, -⟩ := hlater V hg
    exact ⟨(Array.getElem?_eq_some_iff.1 e1).1, fun V' hV' => cell_of_row V' _ 0 _ _ _ ((hV'.block _ (Array.getElem?_eq_some_iff.1 e1).1).trans e1)⟩
  have HFIX := Lib.hid hfix; clear hfix
  have HLATER := Lib.hid hlater; clear hlater
  have HFL : Hid (∀ q, F q → w.heap.size ≤ q) := Lib.hid (fun q hq => by have := (HFR.out.lowF q hq).1; have := HLT1.out; omega)
  have HLPL : Hid (w.heap.size ≤ lp) := Lib.hid (by have := HFR.out.low.1; have := HLT1.out; omega)
  clear HFR
  go_wp2_with fail
  go_loopw [7, 9] (fun lv i wr => ∃ (k : Nat) (g : Lg) (A' : Option Addr) (c' : Nat) (L : List LiveRec), k ≤ N ∧ i = .int .i64 (k : Int) ∧ lv = .slice A' L.length c' ∧ g.seq ≤ k + 1 ∧ g.calm ∧ g.rising ∧ L.map (·.t) = g.ts ∧ L.length ≤ k ∧ HomeRun w3 wr F lp p s R nb g k (1 + 60 * k) (.slice A' L.length c') L) (fun _ i _ => N - (intOf i).toNat)
  case atStart => exact ⟨0, Lg.fresh nb s, none, 0, [], by omega, rfl, rfl, by simp [Lg.fresh], fresh_calm nb s, (fun i t h => by simp [Lg.fresh] at h), rfl, Nat.le_refl _, HomeRun.start HG3.out⟩
  case round =>
    obtain ⟨k, g, A', c', L, hk, rfl, rfl, hsq, hcalm, hris, hmap, hLk, hg⟩ := hrel
    have HCALM := Lib.hid hcalm; clear hcalm
    have HRIS := Lib.hid hris; clear hris
    have HMAP := Lib.hid hmap; clear hmap
    rcases Nat.lt_or_ge k N with hlt | hge
    · obtain ⟨b, off, rfl, hbl, hcells⟩ := HX3.out.2.1 (by omega)
      have hxl : (xs.take N).length = N := HX3.out.1
      obtain ⟨x, hx⟩ : ∃ x, x = (xs.take N)[k]'(by omega) := ⟨_, rfl⟩
      have hxi : x.Is w3 w.heap.size := hx ▸ HX3.out.2.2 _ (List.getElem_mem _)
      have hS : ∀ V, Turns (fun q => F q ∨ q = lp) w3 V → (V.cell? ⟨w2.heap.size, 1, none⟩ = some (.pointer (some ⟨lp, 0, none⟩)) ∧ V.cell? ⟨b, off + k * 5 + 1 + 1, none⟩ = some (.slice x.Aw x.nw x.cw) ∧ V.cell? ⟨b, off + k * 5 + 1 + 2, none⟩ = some (.slice x.Ar x.nr x.cr)) ∧ V.cell? ⟨b, off + k * 5 + 1, none⟩ = some (.int .u64 (x.t.seq : Int)) := fun V hgV => by
        obtain ⟨e1, e2, e3, e4⟩ := HLATER.out V hgV
        obtain ⟨b2, off2, ee, _, hc2⟩ := e3.2.1 (by omega)
        injection ee with ee
        injection ee with ee1 ee2
        subst ee1 ee2
        have g1 := hc2 k (by omega) 1 (by omega)
        have g2 := hc2 k (by omega) 2 (by omega)
        have g3 := hc2 k (by omega) 3 (by omega)
        rw [← hx] at g1 g2 g3
        exact ⟨⟨cell_of_row V _ 1 _ _ _ e1, g2, g3⟩, g1⟩
      have HSS := Lib.hid hS
      have hkN : (k : Int) < (N : Int) := by omega
      have HIT := Lib.hid hxi.txn
      have HGR := Lib.hid hg; clear hg
      clear hcells hx hxi hxl
      have hap := append_hr w3 wr.drew F lp p s R nb k (1 + 60 * k) g _ L (HGR.out.later (Below.refl _ wr).drew) x.t x.Aw x.Ar x.nw x.cw x.nr x.cr w.heap.size HIT.out HBW.out.size HFL.out HLPL.out (by omega) (by omega) (by omega)
      have hc2 := Lg.calm_app (n := nb) (s := s) (r := R) x.t HCALM.out
      have hr2 := Lg.rising_app (n := nb) (s := s) (r := R) x.t HRIS.out
      have hsq2 := Lg.app_seq nb s R g x.t
      have h0 := (HSS.out wr.drew (HGR.out.later (Below.refl _ wr).drew).turns).1
      rcases Lg.app_cases nb s R g x.t with ⟨hans, hfair⟩ | ⟨b0, hb0, hans⟩
      · rw [hans] at hap hc2 hr2 hsq2
        simp only at hap hc2 hr2 hsq2
        have HAP := Lib.hid hap; clear hap
        have HC2 := Lib.hid hc2; clear hc2
        have HR2 := Lib.hid hr2; clear hr2 hans HGR
        go_wp2_with fail
        go_region_held (fun V => V.cell? ⟨w2.heap.size, 1, none⟩ = some (.pointer (some ⟨lp, 0, none⟩)) ∧ V.cell? ⟨b, off + k * 5 + 1 + 1, none⟩ = some (.slice x.Aw x.nw x.cw) ∧ V.cell? ⟨b, off + k * 5 + 1 + 2, none⟩ = some (.slice x.Ar x.nr x.cr)) (assumption)
          (first
            | (go_at_call 43
               with_reducible refine HAP.out.mono ?_
               rintro e w5 ⟨rfl, hk5⟩
               have h5 := (HSS.out w5 hk5.turns).1
               have HK5 := Lib.hid hk5
               clear hk5))
        all_goals
          clear h0 HAP h5
          obtain ⟨⟨-, y1, y2⟩, y0⟩ := HSS.out w5 HK5.out.turns
          have hBw5 : Below w.heap.size w3 w5 := (HK5.out.turns).below (fun q e => by
            rcases e with e | e
            · exact HFL.out q e
            · have := HLPL.out; omega) HBW.out.size
          have htx5 := HIT.out.below hBw5
          have hcp := copy_any x.t x.Aw x.Ar x.nw x.cw x.nr x.cr w.heap.size w5 htx5 (fair_wide hfair).1 (Nat.le_trans HBW.out.size hBw5.size)
          have HCP := Lib.hid hcp; clear hcp
          have HTX5 := Lib.hid htx5; clear htx5 hBw5
          go_wp2_with fail
          with_reducible refine HCP.out.mono ?_
          rintro e w6 ⟨Bw, dw, Br, dr, vs, rfl, ho6, hb6⟩
          have HO6 := Lib.hid ho6; clear ho6
          have HB6 := Lib.hid hb6; clear hb6 HCP y0 y1 y2
          obtain ⟨bx, hbx⟩ : ∃ bx, bx = Obj.cells #[.int .u64 (g.seq : Int), .slice Bw x.nw dw, .slice Br x.nr dr] 67 (0, 0) := ⟨_, rfl⟩
          have hbV : Below w6.heap.size w6 ((w6.alloc bx).alloc bx) := ((Below.refl _ w6).alloc (Nat.le_refl _) bx).alloc (by simp) bx
          have hnew : ((w6.alloc bx).alloc bx).heap[w6.heap.size + 1]? = some bx := by
            have := heap_alloc_new (w6.alloc bx) bx
            simpa using this
          have hnw : x.t.ws.length = x.nw := HTX5.out.ws.1
          have hnr : x.t.rs.length = x.nr := HTX5.out.rs.1
          obtain ⟨A9, c9, V9, hrun, hg9⟩ := list_append (q0 := w6.heap.size + 1) (V := (w6.alloc bx).alloc bx) ⟨g.txn x.t, Bw, dw, Br, dr⟩ 70 HK5.out (HB6.out.trans (hbV.mono HB6.out.size))
            (by rw [hnew, hbx]; show _ = some (Obj.cells #[.int .u64 (g.seq : Int), .slice Bw x.t.ws.length dw, .slice Br x.t.rs.length dr] _ _); rw [hnw, hnr]) (copied_steady HTX5.out hfair (by omega) HO6.out hbV) ⟨(fair_wide hfair).2.1, (fair_wide hfair).2.2.1⟩ (by omega)
          rw [hbx] at hrun
          have HG9 := Lib.hid hg9; clear hg9 hbV hnew hbx bx hnw hnr
          go_wp2_with (at_builtin; refine wpList_apprun rfl _ _ 70 70 rfl _ _ rfl rfl _ V9 hrun ?_)
          clear hrun
          go_wp2
          go_roundw
          case rel => exact ⟨k + 1, g.add s R x.t, A9, c9, L ++ [⟨g.txn x.t, Bw, dw, Br, dr⟩], by omega, by go_num, by rw [List.length_append]; rfl, by omega, HC2.out, HR2.out, by rw [List.map_append, HMAP.out]; rfl, by rw [List.length_append, List.length_singleton]; omega, by rw [List.length_append]; exact HG9.out.more (Nat.le_refl _) (by omega)⟩
          case measure => simp [intOf]; omega
      · rw [hans] at hap
        simp only at hap
        have HAP := Lib.hid hap; clear hap hc2 hr2 hsq2 hans HGR
        have hne0 : ¬ (b0 : Int) = 0 := by omega
        go_wp2_with fail
        go_region_held (fun V => V.cell? ⟨w2.heap.size, 1, none⟩ = some (.pointer (some ⟨lp, 0, none⟩)) ∧ V.cell? ⟨b, off + k * 5 + 1 + 1, none⟩ = some (.slice x.Aw x.nw x.cw) ∧ V.cell? ⟨b, off + k * 5 + 1 + 2, none⟩ = some (.slice x.Ar x.nr x.cr)) (assumption)
          (first
            | (go_at_call 43
               with_reducible refine HAP.out.mono ?_
               rintro e w5 ⟨rfl, hk5⟩
               have h5 := (HSS.out w5 hk5.turns).1
               have HK5 := Lib.hid hk5
               clear hk5))
        all_goals
          clear h0 HAP h5
          go_wp2
          go_roundw
          case rel => exact ⟨k + 1, g, A', c', L, by omega, by go_num, rfl, by omega, HCALM.out, HRIS.out, HMAP.out, by omega, HK5.out.more (Nat.le_refl _) (by omega)⟩
          case measure => simp [intOf]; omega
    · obtain rfl : k = N := by omega
      have hho := home_hr w3 wr F lp p s R nb k (1 + 60 * k) g _ L hg (by omega)
      have HHO := Lib.hid hho; clear hho
      have hsz := hg.size
      obtain ⟨cg, Fg, -, -, hok⟩ := hg.at
      have hused := Lg.home_room s g hsz.2.2.2.1
      have hpend := (Lg.calm_home (s := s) HCALM.out).2
      have hblock := home_block g s nb R hok hsz.1 hsz.2.1 (by omega) HRIS.out
      have HBLOCK := Lib.hid hblock; clear hblock
      have hsizeh : (g.home s).d.stable.length = nb := by
        unfold Lg.home; split
        · exact hsz.1
        · show (homeD s g.seq g.pl g.d g.ts).stable.length = _
          unfold homeD; rw [Dk.size_flush, write_size, Dk.size_flush, homeL_size, Dk.size_flush]; exact hsz.1
      have HSIZEH := Lib.hid hsizeh; clear hsizeh
      have HFAIRL := Lib.hid hsz.2.1; clear hsz hok
      have hlr : (l : Int) - 1 = (R : Int) := by have := HR.out; have := H8.out; omega
      obtain ⟨⟨y1, -⟩, -⟩ := HFIX.out wr hg.turns
      clear hg HCALM HRIS
      go_wp2_with fail
      with_reducible refine HHO.out.mono ?_
      rintro e w6 ⟨rfl, h6⟩
      generalize hg4 : g.home s = g4 at *
      have HG4 := Lib.hid hg4; clear hg4
      have HK6 := Lib.hid h6; clear h6 HHO y1
      have h0 : (fun V : World => (V.cell? ⟨w2.heap.size, 1, none⟩ = some (.pointer (some ⟨lp, 0, none⟩)) ∧ V.cell? ⟨w2.heap.size, 0, none⟩ = some (.pointer (some ⟨p, 0, none⟩))) ∧ V.cell? ⟨w.heap.size, 1, none⟩ = some (.int .i64 (s : Int)) ∧ V.cell? ⟨w.heap.size, 2, none⟩ = some (.int .i64 (l : Int))) w6.drew := HFIX.out w6.drew (HK6.out.later (Below.refl _ w6).drew).turns
      have HPD := Lib.hid (pending_hr w3 w6.drew F lp p s R nb k _ g4 _ L (HK6.out.later (Below.refl _ w6).drew))
      have hrm : Calls Try.prog 42 #[.pointer (some ⟨lp, 0, none⟩)] w6.drew fun e w' => e = .returned (.int .i64 (R : Int)) ∧ Below w6.drew.heap.size w6.drew w' :=
        (room_hr w3 w6.drew F lp p s R nb k _ g4 _ L (HK6.out.later (Below.refl _ w6).drew)).mono fun e w' h => ⟨h.1.trans (by rw [hused, show (R : Int) - ((0 : Nat) : Int) = (R : Int) by omega]), h.2⟩
      have HRM := Lib.hid hrm; clear hrm
      have hp0 : (g4.d.pend.length : Int) = 0 := by rw [hpend]; rfl
      rw [hp0] at HPD
      clear hp0 hpend hused
      have hw1 : IntKind.i64.wrap ((l : Int) - 1) = (R : Int) := by rw [hlr]; exact IntWalk.i64_in _ (by omega)
      clear hlr
      go_wp2_with fail
      go_region_held (fun V : World => (V.cell? ⟨w2.heap.size, 1, none⟩ = some (.pointer (some ⟨lp, 0, none⟩)) ∧ V.cell? ⟨w2.heap.size, 0, none⟩ = some (.pointer (some ⟨p, 0, none⟩))) ∧ V.cell? ⟨w.heap.size, 1, none⟩ = some (.int .i64 (s : Int)) ∧ V.cell? ⟨w.heap.size, 2, none⟩ = some (.int .i64 (l : Int))) (assumption)
        (first
          | (go_at_call 19
             with_reducible refine HPD.out.mono ?_
             rintro e w7 ⟨rfl, rfl⟩)
          | (go_at_call 42
             with_reducible refine HRM.out.mono ?_
             rintro e w8 ⟨rfl, hb8⟩
             have h8 := HFIX.out w8 ((HK6.out.later (Below.refl _ w6).drew).later hb8).turns
             have HK8 := Lib.hid ((HK6.out.later (Below.refl _ w6).drew).later hb8)
             clear hb8))
      all_goals
        clear h0 h8 HPD HRM HK6
        go_wp2_with fail
        obtain ⟨G8, hL8⟩ := HK8.out.list
        have HL8 := Lib.hid hL8; clear hL8
        have hbw8 : Below w.heap.size w w8 := (HLATER.out w8 HK8.out.turns).2.2.2
        have HBW8 := Lib.hid hbw8; clear hbw8
        have hp8 := hcellp w8 HK8.out.turns
        have HP8 := Lib.hid hp8; clear hp8
        have hLn : L.length ≤ 24 := by omega
        clear HFIX HLATER HFL HLPL
        go_loopw [13, 14, 15, 16, 17, 18, 19, 20] (fun iv _ _ _ _ _ _ _ wr => ∃ q : Nat, q ≤ L.length ∧ iv = .int .i64 (q : Int) ∧ Below w8.heap.size w8 wr) (fun iv _ _ _ _ _ _ _ _ => L.length - (intOf iv).toNat)
        case atStart => exact ⟨0, Nat.zero_le _, rfl, Below.refl _ _⟩
        case round =>
          obtain ⟨q, hq, rfl, hbr⟩ := hrel
          rcases Nat.lt_or_ge q L.length with hltq | hgeq
          · obtain ⟨gb, rfl, hcells⟩ := live_cells HL8.out (by omega)
            obtain ⟨x, hx⟩ : ∃ x, L[q]? = some x := ⟨_, List.getElem?_eq_getElem hltq⟩
            have hx58 := live_few HL8.out hx
            have hc1 : ∀ V, Below w8.heap.size w8 V → V.cell? ⟨gb, q * 3 + 1, none⟩ = some (.slice x.Aw x.t.ws.length x.cw) := fun V hV => hcells V hV q x hx
            have HCELLS := Lib.hid hcells; clear hcells
            have HC1 := Lib.hid hc1; clear hc1
            obtain ⟨nx, hnx⟩ : ∃ nx, nx = x.t.ws.length := ⟨_, rfl⟩
            rw [← hnx] at HC1 hx58
            have HNX := Lib.hid hnx; clear hnx
            have HBR := Lib.hid hbr; clear hbr
            have hqi : (q : Int) < (L.length : Int) := by omega
            have hq0 : (0 : Int) ≤ (q : Int) := by omega
            go_wp2
            go_loopw [14, 15, 16, 17, 18, 19, 20] (fun jv _ _ _ _ _ _ wr => ∃ j : Nat, j ≤ nx ∧ jv = .int .i64 (j : Int) ∧ Below w8.heap.size w8 wr) (fun jv _ _ _ _ _ _ _ => nx - (intOf jv).toNat)
            case atStart => exact ⟨0, Nat.zero_le _, rfl, HBR.out⟩
            case round =>
              obtain ⟨j, hj, rfl, hbr⟩ := hrel
              have z1 := HC1.out _ hbr
              rcases Nat.lt_or_ge j nx with hltj | hgej
              · obtain ⟨y, hy⟩ : ∃ y, x.t.ws[j]? = some y := ⟨_, List.getElem?_eq_getElem (by rw [← HNX.out]; exact hltj)⟩
                obtain ⟨bb, off, A2, c2, hAw, hyc⟩ := live_write HL8.out hx hy
                rw [hAw] at z1
                obtain ⟨z2, z3, -⟩ := hyc _ hbr
                have HYC := Lib.hid hyc; clear hyc
                have HBR2 := Lib.hid hbr; clear hbr
                have hj0 : (0 : Int) ≤ (j : Int) := by omega
                have hjn : (j : Int) < (nx : Int) := by omega
                obtain ⟨y1, y2⟩ := y
                dsimp only at z2
                have hout := outB_in (HL8.out.fair x (List.mem_of_getElem? hx)).2 (List.mem_of_getElem? hy)
                dsimp only at hout
                have hin1 := hout.1
                have hin2 : y1.toNat < g4.d.stable.length := by rw [HSIZEH.out]; omega
                have hdat : ∀ V, Below w8.heap.size w8 V → Holds V w8.heap.size A2 256 y2 := fun V hV => (HYC.out V hV).2.2
                have HDAT := Lib.hid hdat; clear hdat HYC hout
                have hread : revokedB (L.map (·.t)) q y1 = false → laterB (L.map (·.t)) q y1 = false → g4.d.read y1.toNat = y2 := fun e1 e2 => by
                  rw [HMAP.out] at e1 e2
                  exact HBLOCK.out q j x.t (y1, y2) (by rw [← HMAP.out, List.getElem?_map, hx]; rfl) hy e1 e2
                have HREAD := Lib.hid hread; clear hread
                have HX := Lib.hid hx; clear hx
                have HY := Lib.hid hy; clear hy
                have hbw : Below wr.heap.size wr (wr.alloc (.cells #[.int .i64 y1, .slice A2 256 c2] 83)) := (Below.refl _ wr).alloc (Nat.le_refl _) _
                have hbx : (wr.alloc (.cells #[.int .i64 y1, .slice A2 256 c2] 83)).heap[wr.heap.size]? = some (.cells #[.int .i64 y1, .slice A2 256 c2] 83 (0, 0)) := heap_alloc_new wr _
                have hbb : Below w8.heap.size w8 (wr.alloc (.cells #[.int .i64 y1, .slice A2 256 c2] 83)) := HBR2.out.trans (hbw.mono HBR2.out.size)
                have hq8 : q < L.length := hltq
                have b0 := cell_of_row _ wr.heap.size 0 _ _ _ hbx
                obtain ⟨wk, hwk⟩ : ∃ wk, wk = wr := ⟨_, rfl⟩
                subst hwk
                go_wp2_with fail
                generalize wk.alloc (.cells #[.int .i64 y1, .slice A2 256 c2] 83) = wb at hbx hbb b0 hbw ⊢
                have hboxV : ∀ V, Below wb.heap.size wb V → V.cell? ⟨wk.heap.size, 0, none⟩ = some (.int .i64 y1) ∧ V.cell? ⟨wk.heap.size, 1, none⟩ = some (.slice A2 256 c2) := fun V hV => by
                  have h := (hV.block _ (Array.getElem?_eq_some_iff.1 hbx).1).trans hbx
                  exact ⟨cell_of_row V _ 0 _ _ _ h, cell_of_row V _ 1 _ _ _ h⟩
                have HBOXV := Lib.hid hboxV; clear hboxV hbx hbw b0 z1 z2 z3 HBR2
                have HBB := Lib.hid hbb; clear hbb
                generalize wk.heap.size = pb at HBOXV ⊢
                with_reducible refine (revokedr_any wb (some ⟨gb, 0, none⟩) L.length c' nb s R G8 L (HL8.out.turns (Turns.of_below HBB.out) (fun _ _ e => e)) q y1 hq8 (by omega)).mono ?_
                rintro e w9 ⟨rfl, hb9⟩
                obtain ⟨rv, hrv⟩ : ∃ rv, rv = revokedB (L.map (·.t)) q y1 := ⟨_, rfl⟩
                obtain ⟨LB, hLB⟩ : ∃ LB, LB = (!rv && !laterB (L.map (·.t)) q y1) := ⟨_, rfl⟩
                rw [← hrv]
                have HRV := Lib.hid hrv; clear hrv
                have HLB := Lib.hid hLB; clear hLB
                have HB9 := Lib.hid hb9; clear hb9
                have hlq1 : q + 1 ≤ L.length := hltq
                go_wp2
                go_loopw [16, 17, 18] (fun lv mv _ wr => ∃ (m : Nat) (la : Bool), q + 1 ≤ m ∧ m ≤ L.length ∧ mv = .int .i64 (m : Int) ∧ lv = .bool la ∧ (la && !((L.map (·.t)).drop m).any (writesB y1)) = LB ∧ Below wb.heap.size wb wr) (fun _ mv _ _ => L.length - (intOf mv).toNat)
                case atStart => exact ⟨q + 1, !rv, Nat.le_refl _, hlq1, by go_num, rfl, HLB.out.symm, HB9.out⟩
                case round =>
                  obtain ⟨m2, la, hm1, hm2, rfl, rfl, hla, hbr⟩ := hrel
                  have HLA := Lib.hid hla; clear hla
                  rcases Nat.lt_or_ge m2 L.length with hltm | hgem
                  · obtain ⟨x2, hx2⟩ : ∃ x2, L[m2]? = some x2 := ⟨_, List.getElem?_eq_getElem hltm⟩
                    have hx258 := live_few HL8.out hx2
                    have hd2 : ((L.map (·.t)).drop m2).any (writesB y1) = (x2.t.ws.any (fun u => u.1 == y1) || ((L.map (·.t)).drop (m2 + 1)).any (writesB y1)) := by
                      have hl : m2 < (L.map (·.t)).length := by rw [List.length_map]; exact hltm
                      have e : (L.map (·.t))[m2] = x2.t := by rw [List.getElem_map, (List.getElem?_eq_some_iff.1 hx2).2]
                      rw [List.drop_eq_getElem_cons hl, List.any_cons, e]; rfl
                    obtain ⟨REST, hrest⟩ : ∃ REST, REST = ((L.map (·.t)).drop (m2 + 1)).any (writesB y1) := ⟨_, rfl⟩
                    rw [← hrest] at hd2
                    have HREST := Lib.hid hrest; clear hrest
                    have hla2 : (la && !(x2.t.ws.any (fun u => u.1 == y1) || REST)) = LB := by rw [← hd2]; exact HLA.out
                    have HLA2 := Lib.hid hla2; clear hla2 hd2 HLA
                    have hbr8 := HBB.out.trans (hbr.mono HBB.out.size)
                    obtain ⟨n2, hn2⟩ : ∃ n2, n2 = x2.t.ws.length := ⟨_, rfl⟩
                    have hc2 : ∀ V, Below w8.heap.size w8 V → V.cell? ⟨gb, m2 * 3 + 1, none⟩ = some (.slice x2.Aw n2 x2.cw) := fun V hV => by rw [hn2]; exact HCELLS.out V hV m2 x2 hx2
                    rw [← hn2] at hx258
                    have HC2 := Lib.hid hc2; clear hc2
                    have HN2' := Lib.hid hn2; clear hn2
                    have HBRM := Lib.hid hbr; clear hbr hbr8
                    have HX2 := Lib.hid hx2; clear hx2
                    have hm0 : (0 : Int) ≤ (m2 : Int) := by omega
                    have hmn : (m2 : Int) < (L.length : Int) := by omega
                    go_wp2
                    go_loopw [16, 18] (fun lv nv wr => ∃ (u : Nat) (la : Bool), u ≤ n2 ∧ nv = .int .i64 (u : Int) ∧ lv = .bool la ∧ (la && !((x2.t.ws.drop u).any (fun u => u.1 == y1) || REST)) = LB ∧ Below wb.heap.size wb wr) (fun _ nv _ => n2 - (intOf nv).toNat)
                    case atStart => exact ⟨0, la, Nat.zero_le _, rfl, rfl, by rw [List.drop_zero]; exact HLA2.out, HBRM.out⟩
                    case round =>
                      obtain ⟨u, la, hu, rfl, rfl, hla, hbr⟩ := hrel
                      have hbr8 := HBB.out.trans (hbr.mono HBB.out.size)
                      have z1 := HC2.out _ hbr8
                      rcases Nat.lt_or_ge u n2 with hltu | hgeu
                      · obtain ⟨yy, hyy⟩ : ∃ yy, x2.t.ws[u]? = some yy := ⟨_, List.getElem?_eq_getElem (by rw [← HN2'.out]; exact hltu)⟩
                        have hd3 : (x2.t.ws.drop u).any (fun u => u.1 == y1) = ((yy.1 == y1) || (x2.t.ws.drop (u + 1)).any (fun u => u.1 == y1)) := by
                          have hl := (List.getElem?_eq_some_iff.1 hyy).1
                          rw [List.drop_eq_getElem_cons hl, List.any_cons, (List.getElem?_eq_some_iff.1 hyy).2]
                        rw [hd3] at hla
                        clear hd3
                        obtain ⟨b2, o2, A3, c3, hAw2, hyc⟩ := live_write HL8.out HX2.out hyy
                        rw [hAw2] at z1
                        obtain ⟨z2, -, -⟩ := hyc _ hbr8
                        have z3 := (HBOXV.out _ hbr).1
                        have HBRU := Lib.hid hbr; clear hbr hbr8 hyc hAw2 hyy
                        have hu0 : (0 : Int) ≤ (u : Int) := by omega
                        have hun : (u : Int) < (n2 : Int) := by omega
                        obtain ⟨yb, yd⟩ := yy
                        dsimp only at z2 hla
                        have hS0 : wr.drew.cell? ⟨gb, m2 * 3 + 1, none⟩ = some (.slice (some ⟨b2, o2, none⟩) n2 x2.cw) ∧ wr.drew.cell? ⟨b2, o2 + u * 2, none⟩ = some (.int .i64 yb) ∧ wr.drew.cell? ⟨pb, 0, none⟩ = some (.int .i64 y1) := ⟨z1, z2, z3⟩
                        cases la
                        · clear hS0
                          have HFIN : Hid ((false && !((x2.t.ws.drop (u + 1)).any (fun u => u.1 == y1) || REST)) = LB) := Lib.hid (by simpa using hla)
                          clear hla
                          go_wp2_with fail
                          refine wp_region_E (fun _ : World => True) 15 (by kernel_rfl) ?_
                          refine wpE_take 0 _ (v := ?_) [1, 2, 3, 4, 5, 6, 7, 8, 9, 10, 11, 12, 13, 14, 15] rfl (by kernel_rfl) (by kernel_rfl) (by kernel_rfl) (by kernel_rfl) (fun _ _ _ h => h) trivial (Or.inl ⟨by rfl, ?_⟩) ?_
                          rotate_left
                          · (intro V _; go_simp; try with_reducible rfl)
                          simp only [Act.put]
                          refine wpE_take 1 _ (v := ?_) [2, 3, 4, 5, 6, 7, 8, 9, 10, 11, 12, 13, 14, 15] rfl (by kernel_rfl) (by kernel_rfl) (by kernel_rfl) (by kernel_rfl) (fun _ _ _ h => h) trivial (Or.inl ⟨by rfl, ?_⟩) ?_
                          rotate_left
                          · (intro V _; go_simp; try with_reducible rfl)
                          simp only [Act.put]
                          refine wpE_take 2 _ (v := undef) [4, 5, 6, 8, 9, 10, 13, 14, 15] rfl (by kernel_rfl) (by kernel_rfl) (by kernel_rfl) (by kernel_rfl) (fun _ _ _ h => h) trivial (Or.inr ⟨by kernel_rfl, rfl⟩) ?_
                          simp only [Act.put]
                          refine wpE_take 3 _ (v := undef) [4, 5, 6, 8, 9, 10, 13, 14, 15] rfl (by kernel_rfl) (by kernel_rfl) (by kernel_rfl) (by kernel_rfl) (fun _ _ _ h => h) trivial (Or.inr ⟨by kernel_rfl, rfl⟩) ?_
                          simp only [Act.put]
                          refine wpE_take 4 _ (v := undef) [5, 6, 8, 9, 10, 13, 14, 15] rfl (by kernel_rfl) (by kernel_rfl) (by kernel_rfl) (by kernel_rfl) (fun _ _ _ h => h) trivial (Or.inr ⟨by kernel_rfl, rfl⟩) ?_
                          simp only [Act.put]
                          refine wpE_take 5 _ (v := undef) [6, 8, 9, 10, 13, 14, 15] rfl (by kernel_rfl) (by kernel_rfl) (by kernel_rfl) (by kernel_rfl) (fun _ _ _ h => h) trivial (Or.inr ⟨by kernel_rfl, rfl⟩) ?_
                          simp only [Act.put]
                          refine wpE_take 6 _ (v := undef) [8, 9, 10, 13, 14, 15] rfl (by kernel_rfl) (by kernel_rfl) (by kernel_rfl) (by kernel_rfl) (fun _ _ _ h => h) trivial (Or.inr ⟨by kernel_rfl, rfl⟩) ?_
                          simp only [Act.put]
                          refine wpE_take 7 _ (v := undef) [8, 9, 10, 13, 14, 15] rfl (by kernel_rfl) (by kernel_rfl) (by kernel_rfl) (by kernel_rfl) (fun _ _ _ h => h) trivial (Or.inr ⟨by kernel_rfl, rfl⟩) ?_
                          simp only [Act.put]
                          refine wpE_take 8 _ (v := undef) [9, 10, 13, 14, 15] rfl (by kernel_rfl) (by kernel_rfl) (by kernel_rfl) (by kernel_rfl) (fun _ _ _ h => h) trivial (Or.inr ⟨by kernel_rfl, rfl⟩) ?_
                          simp only [Act.put]
                          refine wpE_take 9 _ (v := undef) [10, 13, 14, 15] rfl (by kernel_rfl) (by kernel_rfl) (by kernel_rfl) (by kernel_rfl) (fun _ _ _ h => h) trivial (Or.inr ⟨by kernel_rfl, rfl⟩) ?_
                          simp only [Act.put]
                          refine wpE_take 10 _ (v := undef) [13, 14, 15] rfl (by kernel_rfl) (by kernel_rfl) (by kernel_rfl) (by kernel_rfl) (fun _ _ _ h => h) trivial (Or.inr ⟨by kernel_rfl, rfl⟩) ?_
                          simp only [Act.put]
                          refine wpE_take 11 _ (v := undef) [12, 13, 14, 15] rfl (by kernel_rfl) (by kernel_rfl) (by kernel_rfl) (by kernel_rfl) (fun _ _ _ h => h) trivial (Or.inr ⟨by kernel_rfl, rfl⟩) ?_
                          simp only [Act.put]
                          refine wpE_take 12 _ (v := undef) [13, 14, 15] rfl (by kernel_rfl) (by kernel_rfl) (by kernel_rfl) (by kernel_rfl) (fun _ _ _ h => h) trivial (Or.inr ⟨by kernel_rfl, rfl⟩) ?_
                          simp only [Act.put]
                          refine wpE_take 13 _ (v := undef) [14, 15] rfl (by kernel_rfl) (by kernel_rfl) (by kernel_rfl) (by kernel_rfl) (fun _ _ _ h => h) trivial (Or.inr ⟨by kernel_rfl, rfl⟩) ?_
                          simp only [Act.put]
                          refine wpE_take 14 _ (v := ?_) [15] rfl (by kernel_rfl) (by kernel_rfl) (by kernel_rfl) (by kernel_rfl) (fun _ _ _ h => h) trivial (Or.inl ⟨by rfl, ?_⟩) ?_
                          rotate_left
                          · (intro V _; go_simp; try with_reducible rfl)
                          simp only [Act.put]
                          refine wpE_last (by kernel_rfl) rfl (fun K hK => ?_)
                          go_simp
                          refine hK.out _ _ ?_
                          clear hK K
                          refine wpE_done (by kernel_rfl) ?_ _
                          go_wp2
                          go_roundw
                          case rel => exact ⟨u + 1, false, by omega, by go_num, rfl, HFIN.out, by first | exact HBRU.out.drew | exact HBRU.out⟩
                          case measure => simp [intOf]; omega
                        · by_cases hyb : yb = y1
                          · have HFIN : Hid ((false && !((x2.t.ws.drop (u + 1)).any (fun u => u.1 == y1) || REST)) = LB) := Lib.hid (by rw [show (yb == y1) = true by simpa using hyb, Bool.true_or] at hla; simpa using hla)
                            have hyb2 : (yb != y1) = false := by simpa using hyb
                            clear hla
                            go_wp2_with fail
                            first | (go_region_held (fun V : World => V.cell? ⟨gb, m2 * 3 + 1, none⟩ = some (.slice (some ⟨b2, o2, none⟩) n2 x2.cw) ∧ V.cell? ⟨b2, o2 + u * 2, none⟩ = some (.int .i64 yb) ∧ V.cell? ⟨pb, 0, none⟩ = some (.int .i64 y1)) (assumption) (fail)) | fail
                            all_goals
                              go_wp2
                              go_roundw
                              case rel => exact ⟨u + 1, false, by omega, by go_num, by first | rfl | rw [hyb2], HFIN.out, by first | exact HBRU.out.drew | exact HBRU.out⟩
                              case measure => simp [intOf]; omega
                          · have HFIN : Hid ((true && !((x2.t.ws.drop (u + 1)).any (fun u => u.1 == y1) || REST)) = LB) := Lib.hid (by rw [show (yb == y1) = false by simpa using hyb, Bool.false_or] at hla; exact hla)
                            have hyb2 : (yb != y1) = true := by simpa using hyb
                            clear hla
                            go_wp2_with fail
                            first | (go_region_held (fun V : World => V.cell? ⟨gb, m2 * 3 + 1, none⟩ = some (.slice (some ⟨b2, o2, none⟩) n2 x2.cw) ∧ V.cell? ⟨b2, o2 + u * 2, none⟩ = some (.int .i64 yb) ∧ V.cell? ⟨pb, 0, none⟩ = some (.int .i64 y1)) (assumption) (fail)) | fail
                            all_goals
                              go_wp2
                              go_roundw
                              case rel => exact ⟨u + 1, true, by omega, by go_num, by first | rfl | rw [hyb2], HFIN.out, by first | exact HBRU.out.drew | exact HBRU.out⟩
                              case measure => simp [intOf]; omega
                      · obtain rfl : u = n2 := by omega
                        have hnext : (la && !REST) = LB := by
                          rw [List.drop_of_length_le (by rw [HN2'.out]; exact Nat.le_refl _), List.any_nil, Bool.false_or] at hla
                          exact hla
                        rw [HREST.out] at hnext
                        have HNEXT := Lib.hid hnext; clear hnext hla hbr8
                        have HBRU := Lib.hid hbr; clear hbr
                        go_wp2
                        go_roundw
                        case rel => exact ⟨m2 + 1, la, by omega, by omega, by go_num, rfl, HNEXT.out, HBRU.out⟩
                        case measure => simp [intOf]; omega
                  · obtain rfl : m2 = L.length := by omega
                    have hfin : la = LB := by
                      have := HLA.out
                      rw [List.drop_of_length_le (by rw [List.length_map]; exact Nat.le_refl _), List.any_nil, Bool.not_false, Bool.and_true] at this
                      exact this
                    subst hfin
                    have hbr8 := HBB.out.trans (hbr.mono HBB.out.size)
                    have z3 := (HBOXV.out _ hbr).1
                    have z0 := HP8.out.2 _ hbr8
                    have hrd := read_hr w3 _ F lp p s R nb k _ g4 _ L (HK8.out.later hbr8) y1 hin1 hin2 (by omega)
                    have HRD := Lib.hid hrd; clear hrd
                    have HBR8 := Lib.hid hbr8; clear hbr8
                    have HBRR := Lib.hid hbr; clear hbr
                    go_wp2_with fail
                    with_reducible refine HRD.out.mono ?_
                    rintro e w10 ⟨qb, rfl, hh10, hb10⟩
                    have hbrw := HBRR.out.trans (hb10.mono HBRR.out.size)
                    have hbr10 := HBR8.out.trans (hb10.mono HBR8.out.size)
                    have z4 := (HBOXV.out _ hbrw).2
                    have u2 := run_text w10 w8.heap.size A2 256 c2 y2 (HDAT.out _ hbr10)
                    have HBR10 := Lib.hid hbr10; clear hbr10 hbrw hb10 z0 z3 HRD
                    cases la
                    · have u1 := run_text w10 w10.heap.size _ 256 256 _ hh10
                      clear hh10
                      go_wp2
                      go_roundw
                      case rel => exact ⟨j + 1, by omega, by go_num, HBR10.out⟩
                      case measure => simp [intOf]; omega
                    · have hboth : rv = false ∧ laterB (L.map (·.t)) q y1 = false := by
                        have := HLB.out
                        revert this
                        cases rv <;> cases laterB (L.map (·.t)) q y1 <;> simp
                      rw [HREAD.out (HRV.out ▸ hboth.1) hboth.2] at hh10
                      have u1 := run_text w10 w10.heap.size _ 256 256 _ hh10
                      clear hh10 hboth
                      go_wp2
                      go_roundw
                      case rel => exact ⟨j + 1, by omega, by go_num, HBR10.out⟩
                      case measure => simp [intOf]; omega
              · obtain rfl : j = nx := by omega
                have HBE := Lib.hid hbr; clear hbr
                go_wp2
                go_roundw
                case rel => exact ⟨q + 1, by omega, by go_num, HBE.out⟩
                case measure => simp [intOf]; omega
          · obtain rfl : q = L.length := by omega
            have hbe := HBW8.out.trans (hbr.mono HBW8.out.size)
            have HBE := Lib.hid hbe; clear hbe hbr
            go_wp2
            go_ret
            exact ⟨rfl, HBE.out⟩

theorem walks : Walks 7 Try.f7 All := by
  intro H enc W base args ds p hval hA hsz _
  rw [Try.params7] at hA hval hsz
  obtain ⟨v0, vs0, d0, ds0, p0, q0, hargs, rfl, rfl, h0, r0⟩ := trodAll_cons hA
  obtain ⟨v1, vs1, d1, ds1, p1, q1, rfl, rfl, rfl, h1, r1⟩ := trodAll_cons r0
  obtain ⟨rfl, rfl, rfl⟩ := trodAll_nil r1
  obtain rfl : args = #[v0, v1] := by cases args; simp_all
  obtain ⟨B, S, L, rfl⟩ := area_by_value (hval 0 _ v0 rfl rfl) h0
  have hw : (d1.weights Try.prog 51).all (· ≤ reachBytes) = true := List.all_eq_true.2 fun x hx => List.all_eq_true.1 hsz _ (DataW.weights_mem_each (j := 1) rfl rfl x hx)
  obtain ⟨A, n, c, xs, rfl, hx, hn, hc⟩ := deedsL_of (hval 1 _ v1 rfl rfl) h1 hw
  cases hm : mayB B
  · exact walk_bad B S L _ W (fun w1 => opened_none B S L w1 hm)
  · simp [mayB] at hm
    obtain ⟨nb, rfl⟩ : ∃ nb : Nat, B = (nb : Int) := ⟨B.toNat, by omega⟩
    cases ha : okArea nb S L
    · exact walk_bad _ S L _ W (fun w1 => opened_not nb S L w1 (by omega) (by omega) ha)
    · simp [okArea] at ha
      obtain ⟨s, rfl⟩ : ∃ s : Nat, S = (s : Int) := ⟨S.toNat, by omega⟩
      obtain ⟨l, rfl⟩ : ∃ l : Nat, L = (l : Int) := ⟨L.toNat, by omega⟩
      exact walk_good nb s l A n c xs W hx hn hc (by omega) (by omega) (by omega) (by omega)

set_option maxRecDepth 100000 in
theorem proved : Rows.LogHomeSaid :=
  OpenClaim.holds_of_wide 7 Try.f7 rfl rfl rfl rfl rfl rfl rfl ⟨rfl, rfl, rfl, rfl, rfl⟩ rfl rfl rfl rfl rfl (by kernel_rfl) Try.func7 (by kernel_rfl)
    (of_decide_eq_true (by kernel_rfl)) (by unfold Func.isWrapper; first | (rw [if_pos (by decide +kernel)]; kernel_rfl) | (rw [if_neg (by decide +kernel)]; exact ⟨rfl, rfl⟩))
    (fun os started H enc _ => lifted (s := Rows.logHomeSpec) walks (by kernel_rfl) rfl rfl (fun H ds hl => by match ds, hl with | [d1, d2], _ => rfl) (by kernel_rfl) Try.func7 os started H enc
      (ChangeSpec.witness6 (enc := enc) (C := Try.checked) false ⟨#[], #[.agg #[.int .i64 0, .int .i64 0, .int .i64 0], .slice none 0 0], []⟩ 8 (by kernel_rfl) (by kernel_rfl) (by kernel_rfl) (by kernel_rfl)))
#print axioms proved
end Go.Proofs.Ytgffcjceeiokfaa.LogHome
