/- LogReopens: for every area and every deeds, a log whose records are home is opened anew where it was: the same Seq and place, and all of its room. -/
import Derived.Test.YtgffcjceeiokfaaLgKnown
import Derived.Deep.RegionHeld
namespace Go.Proofs.Ytgffcjceeiokfaa.LogReopens
set_option maxRecDepth 20000
open Go.ChangeShapes Go.WideShapes Go.ChangeAt Go.RowKit
open Go.Proofs.Ytgffcjceeiokfaa.Mem Go.Proofs.Ytgffcjceeiokfaa.Lift Go.Proofs.Ytgffcjceeiokfaa.Disk Go.Proofs.Ytgffcjceeiokfaa.Log
open Go.Proofs.Ytgffcjceeiokfaa.Rec (Tx TxAt)

set_option maxRecDepth 100000 in
set_option maxHeartbeats 1000000 in
/-- Where no log is made. -/
theorem walk_bad (B S L : Int) (v : Value) (w : World) (h : ∀ w1, Calls Try.prog 36 #[.agg #[.int .i64 B, .int .i64 S, .int .i64 L]] w1 fun e w' => e = .returned (.tuple #[.agg #[.pointer none, .pointer none, .pointer none], .bool false]) ∧ Below w1.heap.size w1 w') :
    Calls Try.prog 8 #[.agg #[.int .i64 B, .int .i64 S, .int .i64 L], v] w fun e w' => e = .returned (.bool true) ∧ Below w.heap.size w w' := by
  have hx0 : Hid ((w.alloc (.cells #[.int .i64 B, .int .i64 S, .int .i64 L] 50)).heap[w.heap.size]? = some (.cells #[.int .i64 B, .int .i64 S, .int .i64 L] 50 (0, 0))) := Lib.hid (heap_alloc_new w _)
  have hb0 : Hid (Below w.heap.size w (w.alloc (.cells #[.int .i64 B, .int .i64 S, .int .i64 L] 50))) := Lib.hid ((Below.refl _ _).alloc (Nat.le_refl _) _)
  have HOP := Lib.hid h; clear h
  go_enter Try.func8, Try.ntmps8
  go_wp2_with fail
  generalize w.alloc (.cells #[.int .i64 B, .int .i64 S, .int .i64 L] 50) = W at hx0 hb0 ⊢
  with_reducible refine (Log.alive_any W).mono ?_
  rintro e w1 ⟨rfl, hb1⟩
  have hx1 := (hb1.block _ (Array.getElem?_eq_some_iff.1 hx0.out).1).trans hx0.out
  have q0 : w1.cell? ⟨w.heap.size, 0, none⟩ = some (.int .i64 B) := cell_of_row w1 _ 0 _ _ _ hx1
  have q1 : w1.cell? ⟨w.heap.size, 1, none⟩ = some (.int .i64 S) := cell_of_row w1 _ 1 _ _ _ hx1
  have q2 : w1.cell? ⟨w.heap.size, 2, none⟩ = some (.int .i64 L) := cell_of_row w1 _ 2 _ _ _ hx1
  have HB1 : Hid (Below w.heap.size w w1) := Lib.hid (hb0.out.trans (hb1.mono hb0.out.size))
  clear hx1 hb1 hx0 hb0
  have hop := HOP.out w1
  have HOP1 := Lib.hid hop; clear hop HOP
  go_wp2_with fail
  with_reducible refine HOP1.out.mono ?_
  rintro e w2 ⟨rfl, hb2⟩
  have HB2 : Hid (Below w.heap.size w w2) := Lib.hid (HB1.out.trans (hb2.mono HB1.out.size))
  clear hb2 HOP1 q0 q1 q2 HB1
  go_wp2
  go_ret
  exact ⟨rfl, HB2.out.alloc HB2.out.size _⟩

set_option maxRecDepth 100000 in
set_option maxHeartbeats 4000000 in
theorem walk_good (nb s l : Nat) (A : Option Addr) (n c : Nat) (xs : List DeedL) (w : World) (hx : DeedsL w w.heap.size A n xs) (hnc : n ≤ c) (hcm : c ≤ maxLen) (hn2 : nb ≤ 1024) (h8 : 8 ≤ l) (hl2 : l ≤ 1024) (hs : s + l ≤ nb) :
    Calls Try.prog 8 #[.agg #[.int .i64 (nb : Int), .int .i64 (s : Int), .int .i64 (l : Int)], .slice A n c] w fun e w' => e = .returned (.bool true) ∧ Below w.heap.size w w' := by
  have hx0 : Hid ((w.alloc (.cells #[.int .i64 (nb : Int), .int .i64 (s : Int), .int .i64 (l : Int)] 50)).heap[w.heap.size]? = some (.cells #[.int .i64 (nb : Int), .int .i64 (s : Int), .int .i64 (l : Int)] 50 (0, 0))) := Lib.hid (heap_alloc_new w _)
  have hb0 : Hid (Below w.heap.size w (w.alloc (.cells #[.int .i64 (nb : Int), .int .i64 (s : Int), .int .i64 (l : Int)] 50))) := Lib.hid ((Below.refl _ _).alloc (Nat.le_refl _) _)
  have HS := Lib.hid hs; clear hs
  have HL2 := Lib.hid hl2; clear hl2
  have HX := Lib.hid hx; clear hx
  have H8 := Lib.hid h8; clear h8
  have HN2 := Lib.hid hn2; clear hn2
  go_enter Try.func8, Try.ntmps8
  go_wp2_with fail
  generalize w.alloc (.cells #[.int .i64 (nb : Int), .int .i64 (s : Int), .int .i64 (l : Int)] 50) = W at hx0 hb0 ⊢
  with_reducible refine (Log.alive_any W).mono ?_
  rintro e w1 ⟨rfl, hb1⟩
  have hx1 := (hb1.block _ (Array.getElem?_eq_some_iff.1 hx0.out).1).trans hx0.out
  have q0 : w1.cell? ⟨w.heap.size, 0, none⟩ = some (.int .i64 (nb : Int)) := cell_of_row w1 _ 0 _ _ _ hx1
  have q1 : w1.cell? ⟨w.heap.size, 1, none⟩ = some (.int .i64 (s : Int)) := cell_of_row w1 _ 1 _ _ _ hx1
  have q2 : w1.cell? ⟨w.heap.size, 2, none⟩ = some (.int .i64 (l : Int)) := cell_of_row w1 _ 2 _ _ _ hx1
  have HB1 : Hid (Below w.heap.size w w1) := Lib.hid (hb0.out.trans (hb1.mono hb0.out.size))
  have HX1 := Lib.hid hx1
  have hlt1 : w.heap.size < w1.heap.size := (Array.getElem?_eq_some_iff.1 hx1).1
  have HLT1 := Lib.hid hlt1; clear hlt1
  clear hx1 hb1 hx0 hb0
  have hop := opened_ok nb s l w1 HN2.out H8.out HS.out
  have HOP := Lib.hid hop; clear hop
  go_wp2_with fail
  with_reducible refine HOP.out.mono ?_
  rintro e w2 ⟨p, r, lp, m, F, G, rfl, hfr, hb2⟩
  have HFR := Lib.hid hfr
  have HB2 : Hid (Below w.heap.size w w2) := Lib.hid (HB1.out.trans (hb2.mono HB1.out.size))
  have HX2 := Lib.hid ((hb2.block _ (by have := HLT1.out; omega)).trans HX1.out)
  have hlp2 : lp < w2.heap.size := (Array.getElem?_eq_some_iff.1 hfr.log).1
  have HLP2 := Lib.hid hlp2; clear hlp2
  obtain ⟨w3, hw3⟩ : ∃ y, y = w2.alloc (.cells #[.pointer (some ⟨p, 0, none⟩), .pointer (some ⟨lp, 0, none⟩), .pointer (some ⟨m, 0, none⟩)] 59) := ⟨_, rfl⟩
  have hb3 : Below w2.heap.size w2 w3 := hw3 ▸ (Below.refl _ _).alloc (Nat.le_refl _) _
  have hv3 : w3.heap[w2.heap.size]? = some (.cells #[.pointer (some ⟨p, 0, none⟩), .pointer (some ⟨lp, 0, none⟩), .pointer (some ⟨m, 0, none⟩)] 59 (0, 0)) := hw3 ▸ heap_alloc_new w2 _
  have hg3 := HFR.out.known hb3 H8.out HL2.out HS.out
  have HG3 := Lib.hid hg3; clear hg3
  have hfew := few_any A n c w3 hnc hcm (fun h => by obtain ⟨b, off, e, _⟩ := HX.out.2.1 h; exact ⟨b, off, e⟩)
  have hBw : Below w.heap.size w w3 := HB2.out.trans (hb3.mono HB2.out.size)
  have hx3 := (HX.out.below hBw).take (k := fewL n) (by unfold fewL; split <;> omega)
  have hN24 : fewL n ≤ 24 := by unfold fewL; split <;> omega
  obtain ⟨N, hN⟩ : ∃ N, N = fewL n := ⟨_, rfl⟩
  rw [← hN] at hfew hx3 hN24
  have hxa3 := (hb3.block _ (Array.getElem?_eq_some_iff.1 HX2.out).1).trans HX2.out
  have HBW := Lib.hid hBw; clear hBw
  have HFEW := Lib.hid hfew; clear hfew
  have HX3 := Lib.hid hx3; clear hx3
  have HV3 := Lib.hid hv3; clear hv3
  have HXA3 := Lib.hid hxa3; clear hxa3
  have HB3 := Lib.hid hb3; clear hb3 hb2 hfr HOP
  clear q0 q1 q2 HX1 hN HX hnc hcm
  obtain ⟨R, hR⟩ : ∃ R, R = l - 1 := ⟨_, rfl⟩
  rw [← hR] at HG3
  have hRb : R ≤ 1023 := by have := HL2.out; omega
  have HR := Lib.hid hR; clear hR
  have HW3 := Lib.hid hw3; clear hw3
  go_wp2_with fail
  rw [← HW3.out]
  clear HW3
  with_reducible refine HFEW.out.mono ?_
  rintro e w5 ⟨rfl, rfl⟩
  clear HFEW
  -- the facts of a later world
  have hlater : ∀ V g nb' cb, Known w3 V lp p s R nb F g nb' cb → V.heap[w2.heap.size]? = some (.cells #[.pointer (some ⟨p, 0, none⟩), .pointer (some ⟨lp, 0, none⟩), .pointer (some ⟨m, 0, none⟩)] 59 (0, 0)) ∧ V.heap[w.heap.size]? = some (.cells #[.int .i64 (nb : Int), .int .i64 (s : Int), .int .i64 (l : Int)] 50 (0, 0)) ∧ DeedsL V w.heap.size A N (xs.take N) ∧ Below w.heap.size w V := fun V g nb' cb hg => by
    have hT := hg.turns
    have hFw : ∀ q, F q → q < w2.heap.size := fun q hq => HFR.out.one.lt q hq
    have hFl : ∀ q, F q → w1.heap.size + 3 ≤ q := fun q hq => (HFR.out.lowF q hq).1
    have hl := HFR.out.low.1
    have h1 := HLT1.out
    have h2 := HLP2.out
    have h3 := (Array.getElem?_eq_some_iff.1 HV3.out).1
    have hbl : Below w.heap.size w3 V := hT.below (fun k hk => by
      rcases hk with e | e
      · have := hFl k e; omega
      · omega) (by omega)
    refine ⟨(hT.block _ (by omega) (fun e => by
      rcases e with e | e
      · have := hFw _ e; omega
      · omega)).trans HV3.out, (hT.block _ (by omega) (fun e => by
      rcases e with e | e
      · have := hFl _ e; omega
      · omega)).trans HXA3.out, HX3.out.below hbl, HBW.out.trans hbl⟩
  have hfix : ∀ V g nb' cb, Known w3 V lp p s R nb F g nb' cb → (V.cell? ⟨w2.heap.size, 1, none⟩ = some (.pointer (some ⟨lp, 0, none⟩)) ∧ V.cell? ⟨w2.heap.size, 0, none⟩ = some (.pointer (some ⟨p, 0, none⟩))) ∧ V.cell? ⟨w.heap.size, 1, none⟩ = some (.int .i64 (s : Int)) ∧ V.cell? ⟨w.heap.size, 2, none⟩ = some (.int .i64 (l : Int)) := fun V g nb' cb hg => by
    obtain ⟨e1, e2, -⟩ := hlater V g nb' cb hg
    exact ⟨⟨cell_of_row V _ 1 _ _ _ e1, cell_of_row V _ 0 _ _ _ e1⟩, cell_of_row V _ 1 _ _ _ e2, cell_of_row V _ 2 _ _ _ e2⟩
  have HFIX := Lib.hid hfix; clear hfix
  have HLATER := Lib.hid hlater; clear hlater
  have HFL : Hid (∀ q, F q → w.heap.size ≤ q) := Lib.hid (fun q hq => by have := (HFR.out.lowF q hq).1; have := HLT1.out; omega)
  have HLPL : Hid (w.heap.size ≤ lp) := Lib.hid (by have := HFR.out.low.1; have := HLT1.out; omega)
  clear HFR
  go_wp2_with fail
  go_loopw [8] (fun i wr => ∃ (k : Nat) (g : Lg), k ≤ N ∧ i = .int .i64 (k : Int) ∧ g.seq ≤ k + 1 ∧ g.headed s ∧ Known w3 wr lp p s R nb F g k (1 + 3000 * k)) (fun i _ => N - (intOf i).toNat)
  case atStart => exact ⟨0, Lg.fresh nb s, by omega, rfl, by simp [Lg.fresh], fresh_headed nb s (by have := HS.out; have := H8.out; omega), HG3.out⟩
  case round =>
    obtain ⟨k, g, hk, rfl, hsq, hh, hg⟩ := hrel
    have HH := Lib.hid hh; clear hh
    rcases Nat.lt_or_ge k N with hlt | hge
    · obtain ⟨b, off, rfl, hbl, hcells⟩ := HX3.out.2.1 (by omega)
      have hxl : (xs.take N).length = N := HX3.out.1
      obtain ⟨x, hx⟩ : ∃ x, x = (xs.take N)[k]'(by omega) := ⟨_, rfl⟩
      have hxi : x.Is w3 w.heap.size := hx ▸ HX3.out.2.2 _ (List.getElem_mem _)
      have hS : ∀ V g nb' cb, Known w3 V lp p s R nb F g nb' cb → V.cell? ⟨w2.heap.size, 1, none⟩ = some (.pointer (some ⟨lp, 0, none⟩)) ∧ V.cell? ⟨b, off + k * 5 + 1 + 1, none⟩ = some (.slice x.Aw x.nw x.cw) ∧ V.cell? ⟨b, off + k * 5 + 1 + 2, none⟩ = some (.slice x.Ar x.nr x.cr) := fun V g nb' cb hgV => by
        obtain ⟨e1, e2, e3, e4⟩ := HLATER.out V g nb' cb hgV
        obtain ⟨b2, off2, ee, _, hc2⟩ := e3.2.1 (by omega)
        injection ee with ee
        injection ee with ee1 ee2
        subst ee1 ee2
        have g2 := hc2 k (by omega) 2 (by omega)
        have g3 := hc2 k (by omega) 3 (by omega)
        rw [← hx] at g2 g3
        exact ⟨cell_of_row V _ 1 _ _ _ e1, g2, g3⟩
      have HSS := Lib.hid hS
      have hkN : (k : Int) < (N : Int) := by omega
      have HIT := Lib.hid hxi.txn
      have HGR := Lib.hid hg; clear hg
      clear hcells hx hxi hxl
      have hap := append_kn w3 wr.drew lp p s R nb k (1 + 3000 * k) F g (HGR.out.later (Below.refl _ wr).drew) x.t x.Aw x.Ar x.nw x.cw x.nr x.cr w.heap.size HIT.out HBW.out.size HFL.out HLPL.out (by omega) (by omega) (by omega)
      have hh2 := Lg.headed_app (n := nb) (r := R) x.t HH.out
      have hsq2 := Lg.app_seq nb s R g x.t
      have hcode : (g.app nb s R x.t).2.1 = 9 ∨ (g.app nb s R x.t).2.1 ≠ 9 := by omega
      generalize g.app nb s R x.t = ans at hap hh2 hsq2 hcode
      obtain ⟨a0, b0, g2⟩ := ans
      simp only at hap hh2 hsq2 hcode
      have HAP := Lib.hid hap; clear hap
      have HH2 := Lib.hid hh2; clear hh2
      have h0 := HSS.out wr.drew _ _ _ (HGR.out.later (Below.refl _ wr).drew)
      go_wp2_with fail
      go_region_held (fun V => V.cell? ⟨w2.heap.size, 1, none⟩ = some (.pointer (some ⟨lp, 0, none⟩)) ∧ V.cell? ⟨b, off + k * 5 + 1 + 1, none⟩ = some (.slice x.Aw x.nw x.cw) ∧ V.cell? ⟨b, off + k * 5 + 1 + 2, none⟩ = some (.slice x.Ar x.nr x.cr)) (assumption)
        (first
          | (go_at_call 43
             with_reducible refine HAP.out.mono ?_
             rintro e w5 ⟨rfl, hk5⟩
             have h5 : w5.cell? ⟨w2.heap.size, 1, none⟩ = some (.pointer (some ⟨lp, 0, none⟩)) ∧ w5.cell? ⟨b, off + k * 5 + 1 + 1, none⟩ = some (.slice x.Aw x.nw x.cw) ∧ w5.cell? ⟨b, off + k * 5 + 1 + 2, none⟩ = some (.slice x.Ar x.nr x.cr) := HSS.out w5 _ _ _ hk5
             have HK5 := Lib.hid hk5
             clear hk5))
      all_goals
        clear h0 HAP HGR HSS HIT h5
        rcases hcode with rfl | hne
        · have hho := home_kn w3 w5 lp p s R nb (k + 1) (1 + 3000 * k + 60) F g2 HK5.out (by omega)
          have HHO := Lib.hid hho; clear hho
          have hd3 := Lg.headed_home HK5.out HH2.out
          have HD3 := Lib.hid hd3; clear hd3
          obtain ⟨⟨y1, -⟩, -⟩ := HFIX.out w5 _ _ _ HK5.out
          go_wp2_with fail
          with_reducible refine HHO.out.mono ?_
          rintro e w6 ⟨rfl, h6⟩
          have HK6 := Lib.hid (h6.more (Nat.le_refl _) (show 1 + 3000 * k + 60 + 58 * (k + 1) + 1 ≤ 1 + 3000 * (k + 1) by omega)); clear h6 HHO HK5 y1
          have hsq3 : (g2.home s).seq ≤ k + 1 + 1 := by rw [(Lg.home_seq s g2).1]; omega
          go_wp2
          go_roundw
          case rel => exact ⟨k + 1, g2.home s, by omega, by go_num, hsq3, HD3.out, HK6.out⟩
          case measure => simp [intOf]; omega
        · have hne1 : ¬ (b0 : Int) = 9 := by omega
          have HK6 := Lib.hid (HK5.out.more (Nat.le_refl _) (show 1 + 3000 * k + 60 ≤ 1 + 3000 * (k + 1) by omega)); clear HK5
          go_wp2
          go_roundw
          case rel => exact ⟨k + 1, g2, by omega, by go_num, by omega, HH2.out, HK6.out⟩
          case measure => simp [intOf]; omega
    · obtain rfl : k = N := by omega
      have hho := home_kn w3 wr lp p s R nb k (1 + 3000 * k) F g hg (by omega)
      have HHO := Lib.hid hho; clear hho
      have hd3 := Lg.headed_home hg HH.out
      have HD3 := Lib.hid hd3; clear hd3
      have hnone := Lg.home_none s g
      have hsq3 := (Lg.home_seq s g).1
      obtain ⟨⟨y1, -⟩, -⟩ := HFIX.out wr _ _ _ hg
      clear hg HH
      generalize g.home s = g4 at HHO HD3 hnone hsq3
      have HD4 := Lib.hid (HD3.out hnone); clear HD3 hnone
      have HSQ4 : Hid (g4.seq ≤ k + 1) := Lib.hid (by omega)
      clear hsq3 hsq
      go_wp2_with fail
      with_reducible refine HHO.out.mono ?_
      rintro e w6 ⟨rfl, h6⟩
      have HK6 := Lib.hid h6; clear h6 HHO y1
      obtain ⟨⟨y1, y0⟩, y2, y3⟩ := HFIX.out w6 _ _ _ HK6.out
      have HNX := Lib.hid (next_kn w3 w6 lp p s R nb _ _ F g4 HK6.out)
      clear y0 y2 y3
      go_wp2_with fail
      with_reducible refine HNX.out.mono ?_
      rintro e w7 ⟨rfl, hb7⟩
      have HK7 := Lib.hid (HK6.out.later hb7); clear hb7 HNX HK6 y1
      obtain ⟨⟨y1, y0⟩, y2, y3⟩ := HFIX.out w7 _ _ _ HK7.out
      have hop : Calls Try.prog 33 #[.pointer (some ⟨p, 0, none⟩), .int .i64 (s : Int), .int .i64 (l : Int)] w7 fun e w' => ∃ lq, e = .returned (.tuple #[.pointer (some ⟨lq, 0, none⟩), .int .i64 0]) ∧ LogAt w' lq p (s : Int) ((l : Int) - 1) g4.seq g4.pl 0 (.slice none 0 0) ∧ Below w7.heap.size w7 w' := by
        obtain ⟨c7, F7, hD7, hc7, -⟩ := HK7.out.at
        have hsz := HK7.out.size
        have hrg := HK7.out.ring
        have hRr := HR.out
        have h88 := H8.out
        have hl22 := HL2.out
        have hss := HS.out
        have hsq := HSQ4.out
        have := open_d s l s l rfl rfl g4.d p c7 F7 w7 hD7 (by omega) h88 (by omega) (by rw [HD4.out]; exact okH_head _ _ _ (by omega) (by omega) (by omega))
        rw [HD4.out, seqH_head _ _ (by omega), plH_head _ _ (by omega)] at this
        exact this.mono fun e w' ⟨lq, e1, e2, _, e4⟩ => ⟨lq, e1, e2, e4⟩
      have HOP2 := Lib.hid hop; clear hop
      clear y1
      go_wp2_with fail
      with_reducible refine HOP2.out.mono ?_
      rintro e w8 ⟨lq, rfl, hl8, hb8⟩
      have HK8 := Lib.hid (HK7.out.later hb8); clear HK7 HOP2 y0 y2 y3
      have HL8 := Lib.hid hl8; clear hl8 hb8
      have HNX := Lib.hid (next_any lq p g4.seq g4.pl 0 (s : Int) ((l : Int) - 1) _ w8 HL8.out)
      go_wp2_with fail
      with_reducible refine HNX.out.mono ?_
      rintro e w9 ⟨rfl, hb9⟩
      have HK9 := Lib.hid (HK8.out.later hb9)
      have hl9 : LogAt w9 lq p (s : Int) ((l : Int) - 1) g4.seq g4.pl 0 (.slice none 0 0) := (hb9.block _ (Array.getElem?_eq_some_iff.1 HL8.out).1).trans HL8.out
      have hl9d : LogAt w9.drew lq p (s : Int) ((l : Int) - 1) g4.seq g4.pl 0 (.slice none 0 0) := hl9
      have hrm : Calls Try.prog 42 #[.pointer (some ⟨lq, 0, none⟩)] w9.drew fun e w' => e = .returned (.int .i64 ((l : Int) - 1)) ∧ Below w9.drew.heap.size w9.drew w' :=
        (room_any lq p g4.seq g4.pl 0 (s : Int) ((l : Int) - 1) _ w9.drew hl9d (by have := HL2.out; have := H8.out; omega) (by omega)).mono fun e w' h => ⟨h.1.trans (by rw [show (l : Int) - 1 - ((0 : Nat) : Int) = (l : Int) - 1 by omega]), h.2⟩
      have HRM := Lib.hid hrm; clear hrm hl9 hl9d hb9 HNX HL8 HK8
      have h0 := (HFIX.out w9.drew _ _ _ (HK9.out.later (Below.refl _ w9).drew)).2.2
      have hfx : ∀ V, Below w9.drew.heap.size w9.drew V → V.cell? ⟨w.heap.size, 2, none⟩ = some (.int .i64 (l : Int)) ∧ Below w.heap.size w V := fun V hb => by
        have hk := (HK9.out.later (Below.refl _ w9).drew).later hb
        exact ⟨(HFIX.out V _ _ _ hk).2.2, (HLATER.out V _ _ _ hk).2.2.2⟩
      have HFX := Lib.hid hfx; clear hfx
      have hw1 : IntKind.i64.wrap ((l : Int) - 1) = (l : Int) - 1 := IntWalk.i64_in _ (by have := HL2.out; have := H8.out; omega)
      go_wp2_with fail
      go_region_held (fun V => V.cell? ⟨w.heap.size, 2, none⟩ = some (.int .i64 (l : Int))) (assumption)
        (first
          | (go_at_call 42
             with_reducible refine HRM.out.mono ?_
             rintro e w10 ⟨rfl, hb10⟩
             obtain ⟨h10, hw10⟩ := HFX.out w10 hb10
             have HW10 := Lib.hid hw10
             clear hw10 hb10))
      all_goals
        go_wp2
        go_ret
        exact ⟨rfl, HW10.out⟩

theorem walks : Walks 8 Try.f8 All := by
  intro H enc W base args ds p hval hA hsz _
  rw [Try.params8] at hA hval hsz
  obtain ⟨v0, vs0, d0, ds0, p0, q0, hargs, rfl, rfl, h0, r0⟩ := trodAll_cons hA
  obtain ⟨v1, vs1, d1, ds1, p1, q1, rfl, rfl, rfl, h1, r1⟩ := trodAll_cons r0
  obtain ⟨rfl, rfl, rfl⟩ := trodAll_nil r1
  obtain rfl : args = #[v0, v1] := by cases args; simp_all
  obtain ⟨B, S, L, rfl⟩ := area_by_value (hval 0 _ v0 rfl rfl) h0
  have hw : (d1.weights Try.prog 51).all (· ≤ reachBytes) = true := List.all_eq_true.2 fun x hx => List.all_eq_true.1 hsz _ (DataW.weights_mem_each (j := 1) rfl rfl x hx)
  obtain ⟨A, n, c, xs, rfl, hx, hn, hc⟩ := deedsL_of (hval 1 _ v1 rfl rfl) h1 hw
  cases hm : mayB B
  · exact walk_bad B S L _ W (fun w1 => opened_none B S L w1 hm)
  · simp [mayB] at hm
    obtain ⟨nb, rfl⟩ : ∃ nb : Nat, B = (nb : Int) := ⟨B.toNat, by omega⟩
    cases ha : okArea nb S L
    · exact walk_bad _ S L _ W (fun w1 => opened_not nb S L w1 (by omega) (by omega) ha)
    · simp [okArea] at ha
      obtain ⟨s, rfl⟩ : ∃ s : Nat, S = (s : Int) := ⟨S.toNat, by omega⟩
      obtain ⟨l, rfl⟩ : ∃ l : Nat, L = (l : Int) := ⟨L.toNat, by omega⟩
      exact walk_good nb s l A n c xs W hx hn hc (by omega) (by omega) (by omega) (by omega)

set_option maxRecDepth 100000 in
theorem proved : Rows.LogReopensSaid :=
  OpenClaim.holds_of_wide 8 Try.f8 rfl rfl rfl rfl rfl rfl rfl ⟨rfl, rfl, rfl, rfl, rfl⟩ rfl rfl rfl rfl rfl (by kernel_rfl) Try.func8 (by kernel_rfl)
    (of_decide_eq_true (by kernel_rfl)) (by unfold Func.isWrapper; first | (rw [if_pos (by decide +kernel)]; kernel_rfl) | (rw [if_neg (by decide +kernel)]; exact ⟨rfl, rfl⟩))
    (fun os started H enc _ => lifted (s := Rows.logReopensSpec) walks (by kernel_rfl) rfl rfl (fun H ds hl => by match ds, hl with | [d1, d2], _ => rfl) (by kernel_rfl) Try.func8 os started H enc
      (ChangeSpec.witness6 (enc := enc) (C := Try.checked) false ⟨#[], #[.agg #[.int .i64 0, .int .i64 0, .int .i64 0], .slice none 0 0], []⟩ 8 (by kernel_rfl) (by kernel_rfl) (by kernel_rfl) (by kernel_rfl)))
#print axioms proved
end Go.Proofs.Ytgffcjceeiokfaa.LogReopens
