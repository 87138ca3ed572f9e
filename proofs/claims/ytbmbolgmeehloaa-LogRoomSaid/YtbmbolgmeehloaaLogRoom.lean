/- LogRoom: for every area and every deeds, Room goes down by a record's blocks and comes back on the way home, and numbers rise by one. -/
import Derived.Test.YtbmbolgmeehloaaLgGoes
import Derived.Deep.RegionHeld
namespace Go.Proofs.Ytbmbolgmeehloaa.LogRoom
set_option maxRecDepth 20000
open Go.ChangeShapes Go.WideShapes Go.ChangeAt Go.RowKit
open Go.Proofs.Ytbmbolgmeehloaa.Mem Go.Proofs.Ytbmbolgmeehloaa.Lift Go.Proofs.Ytbmbolgmeehloaa.Disk Go.Proofs.Ytbmbolgmeehloaa.Log
open Go.Proofs.Ytbmbolgmeehloaa.Rec (Tx TxAt)

theorem and3 (x : Int) : ∃ k : Nat, k < 4 ∧ bits .and .i64 x 3 = (k : Int) := by
  have e : (BitVec.ofInt 64 3).toNat = 3 := by decide
  have hk : (BitVec.ofInt 64 x &&& BitVec.ofInt 64 3).toNat < 2 ^ 2 := by
    rw [BitVec.toNat_and, e]
    exact Nat.and_lt_two_pow _ (by omega)
  refine ⟨_, hk, ?_⟩
  show IntKind.i64.wrap ((BitVec.ofInt 64 x &&& BitVec.ofInt 64 3).toNat : Int) = _
  exact IntWalk.i64_in _ (by omega)

set_option maxRecDepth 100000 in
set_option maxHeartbeats 1000000 in
/-- Where no log is made. -/
theorem walk_bad (B S L : Int) (v : Value) (w : World) (h : ∀ w1, Calls Try.prog 34 #[.agg #[.int .i64 B, .int .i64 S, .int .i64 L]] w1 fun e w' => e = .returned (.tuple #[.agg #[.pointer none, .pointer none, .pointer none], .bool false]) ∧ Below w1.heap.size w1 w') :
    Calls Try.prog 8 #[.agg #[.int .i64 B, .int .i64 S, .int .i64 L], v] w fun e w' => e = .returned (.bool true) ∧ Below w.heap.size w w' := by
  have hx0 : Hid ((w.alloc (.cells #[.int .i64 B, .int .i64 S, .int .i64 L] 50)).heap[w.heap.size]? = some (.cells #[.int .i64 B, .int .i64 S, .int .i64 L] 50 (0, 0))) := Lib.hid (heap_alloc_new w _)
  have hb0 : Hid (Below w.heap.size w (w.alloc (.cells #[.int .i64 B, .int .i64 S, .int .i64 L] 50))) := Lib.hid ((Below.refl _ _).alloc (Nat.le_refl _) _)
  have HOP := Lib.hid h; clear h
  go_enter Try.func8, Try.ntmps8
  go_wp2_with fail
  generalize w.alloc (.cells #[.int .i64 B, .int .i64 S, .int .i64 L] 50) = W at hx0 hb0 ⊢
  with_reducible refine (Log.alive_any W).mono ?_
  rintro e w1 ⟨rfl, hb1⟩
  have hx1 := (hb1.block _ (Array.getElem?_eq_some_iff.1 hx0.out).1).trans hx0.out
  have q0 : w1.cell? ⟨w.heap.size, 0, none⟩ = some (.int .i64 B) := cell_of_row w1 _ 0 _ _ _ hx1
  have q1 : w1.cell? ⟨w.heap.size, 1, none⟩ = some (.int .i64 S) := cell_of_row w1 _ 1 _ _ _ hx1
  have q2 : w1.cell? ⟨w.heap.size, 2, none⟩ = some (.int .i64 L) := cell_of_row w1 _ 2 _ _ _ hx1
  have HB1 : Hid (Below w.heap.size w w1) := Lib.hid (hb0.out.trans (hb1.mono hb0.out.size))
  clear hx1 hb1 hx0 hb0
  have hop := HOP.out w1
  have HOP1 := Lib.hid hop; clear hop HOP
  go_wp2_with fail
  with_reducible refine HOP1.out.mono ?_
  rintro e w2 ⟨rfl, hb2⟩
  have HB2 : Hid (Below w.heap.size w w2) := Lib.hid (HB1.out.trans (hb2.mono HB1.out.size))
  clear hb2 HOP1 q0 q1 q2 HB1
  go_wp2
  go_ret
  exact ⟨rfl, HB2.out.alloc HB2.out.size _⟩

set_option maxRecDepth 100000 in
set_option maxHeartbeats 4000000 in
theorem walk_good (nb s l : Nat) (A : Option Addr) (n c : Nat) (xs : List DeedL) (w : World) (hx : DeedsL w w.heap.size A n xs) (hnc : n ≤ c) (hcm : c ≤ maxLen) (hn2 : nb ≤ 1024) (h8 : 8 ≤ l) (hl2 : l ≤ 1024) (hs : s + l ≤ nb) :
    Calls Try.prog 8 #[.agg #[.int .i64 (nb : Int), .int .i64 (s : Int), .int .i64 (l : Int)], .slice A n c] w fun e w' => e = .returned (.bool true) ∧ Below w.heap.size w w' := by
  have hx0 : Hid ((w.alloc (.cells #[.int .i64 (nb : Int), .int .i64 (s : Int), .int .i64 (l : Int)] 50)).heap[w.heap.size]? = some (.cells #[.int .i64 (nb : Int), .int .i64 (s : Int), .int .i64 (l : Int)] 50 (0, 0))) := Lib.hid (heap_alloc_new w _)
  have hb0 : Hid (Below w.heap.size w (w.alloc (.cells #[.int .i64 (nb : Int), .int .i64 (s : Int), .int .i64 (l : Int)] 50))) := Lib.hid ((Below.refl _ _).alloc (Nat.le_refl _) _)
  have HS := Lib.hid hs; clear hs
  have HL2 := Lib.hid hl2; clear hl2
  have HX := Lib.hid hx; clear hx
  have H8 := Lib.hid h8; clear h8
  have HN2 := Lib.hid hn2; clear hn2
  go_enter Try.func8, Try.ntmps8
  go_wp2_with fail
  generalize w.alloc (.cells #[.int .i64 (nb : Int), .int .i64 (s : Int), .int .i64 (l : Int)] 50) = W at hx0 hb0 ⊢
  with_reducible refine (Log.alive_any W).mono ?_
  rintro e w1 ⟨rfl, hb1⟩
  have hx1 := (hb1.block _ (Array.getElem?_eq_some_iff.1 hx0.out).1).trans hx0.out
  have q0 : w1.cell? ⟨w.heap.size, 0, none⟩ = some (.int .i64 (nb : Int)) := cell_of_row w1 _ 0 _ _ _ hx1
  have q1 : w1.cell? ⟨w.heap.size, 1, none⟩ = some (.int .i64 (s : Int)) := cell_of_row w1 _ 1 _ _ _ hx1
  have q2 : w1.cell? ⟨w.heap.size, 2, none⟩ = some (.int .i64 (l : Int)) := cell_of_row w1 _ 2 _ _ _ hx1
  have HB1 : Hid (Below w.heap.size w w1) := Lib.hid (hb0.out.trans (hb1.mono hb0.out.size))
  have HX1 := Lib.hid hx1
  have hlt1 : w.heap.size < w1.heap.size := (Array.getElem?_eq_some_iff.1 hx1).1
  have HLT1 := Lib.hid hlt1; clear hlt1
  clear hx1 hb1 hx0 hb0
  have hop := opened_ok nb s l w1 HN2.out H8.out HS.out
  have HOP := Lib.hid hop; clear hop
  go_wp2_with fail
  with_reducible refine HOP.out.mono ?_
  rintro e w2 ⟨p, r, lp, m, F, G, rfl, hfr, hb2⟩
  have HFR := Lib.hid hfr
  have HB2 : Hid (Below w.heap.size w w2) := Lib.hid (HB1.out.trans (hb2.mono HB1.out.size))
  have HX2 := Lib.hid ((hb2.block _ (by have := HLT1.out; omega)).trans HX1.out)
  have hlp2 : lp < w2.heap.size := (Array.getElem?_eq_some_iff.1 hfr.log).1
  have HLP2 := Lib.hid hlp2; clear hlp2
  obtain ⟨w3, hw3⟩ : ∃ y, y = w2.alloc (.cells #[.pointer (some ⟨p, 0, none⟩), .pointer (some ⟨lp, 0, none⟩), .pointer (some ⟨m, 0, none⟩)] 59) := ⟨_, rfl⟩
  have hb3 : Below w2.heap.size w2 w3 := hw3 ▸ (Below.refl _ _).alloc (Nat.le_refl _) _
  have hv3 : w3.heap[w2.heap.size]? = some (.cells #[.pointer (some ⟨p, 0, none⟩), .pointer (some ⟨lp, 0, none⟩), .pointer (some ⟨m, 0, none⟩)] 59 (0, 0)) := hw3 ▸ heap_alloc_new w2 _
  have hg3 := HFR.out.living hb3 H8.out HL2.out HS.out
  have HG3 := Lib.hid hg3; clear hg3
  have hfew := few_any A n c w3 hnc hcm (fun h => by obtain ⟨b, off, e, _⟩ := HX.out.2.1 h; exact ⟨b, off, e⟩)
  have hBw : Below w.heap.size w w3 := HB2.out.trans (hb3.mono HB2.out.size)
  have hx3 := (HX.out.below hBw).take (k := fewL n) (by unfold fewL; split <;> omega)
  have hN24 : fewL n ≤ 24 := by unfold fewL; split <;> omega
  obtain ⟨N, hN⟩ : ∃ N, N = fewL n := ⟨_, rfl⟩
  rw [← hN] at hfew hx3 hN24
  have hxa3 := (hb3.block _ (Array.getElem?_eq_some_iff.1 HX2.out).1).trans HX2.out
  have t2 : w3.cell? ⟨w.heap.size, 2, none⟩ = some (.int .i64 (l : Int)) := cell_of_row w3 _ 2 _ _ _ hxa3
  have HBW := Lib.hid hBw; clear hBw
  have HFEW := Lib.hid hfew; clear hfew
  have HX3 := Lib.hid hx3; clear hx3
  have HV3 := Lib.hid hv3; clear hv3
  have HXA3 := Lib.hid hxa3; clear hxa3
  have HB3 := Lib.hid hb3; clear hb3 hb2 hfr HOP
  clear q0 q1 q2 HX1 hN HX hnc hcm
  obtain ⟨R, hR⟩ : ∃ R, R = l - 1 := ⟨_, rfl⟩
  rw [← hR] at HG3
  have hRI : (l : Int) - 1 = (R : Int) := by have := H8.out; omega
  have hRb : R ≤ 1023 := by have := HL2.out; omega
  have HR := Lib.hid hR; clear hR
  rw [hw3] at t2
  have HW3 := Lib.hid hw3; clear hw3
  go_wp2_with fail
  rw [← HW3.out] at t2 ⊢
  clear HW3
  with_reducible refine HFEW.out.mono ?_
  rintro e w5 ⟨rfl, rfl⟩
  clear HFEW t2
  -- the facts of a later world
  have hlater : ∀ V sq us nb' cb, Living w3 V lp p s R nb F sq us nb' cb → V.heap[w2.heap.size]? = some (.cells #[.pointer (some ⟨p, 0, none⟩), .pointer (some ⟨lp, 0, none⟩), .pointer (some ⟨m, 0, none⟩)] 59 (0, 0)) ∧ V.heap[w.heap.size]? = some (.cells #[.int .i64 (nb : Int), .int .i64 (s : Int), .int .i64 (l : Int)] 50 (0, 0)) ∧ DeedsL V w.heap.size A N (xs.take N) ∧ Below w.heap.size w V := fun V sq us nb' cb hg => by
    have hT := hg.turns
    have hFw : ∀ q, F q → q < w2.heap.size := fun q hq => HFR.out.one.lt q hq
    have hFl : ∀ q, F q → w1.heap.size + 3 ≤ q := fun q hq => (HFR.out.lowF q hq).1
    have hl := HFR.out.low.1
    have h1 := HLT1.out
    have h2 := HLP2.out
    have h3 := (Array.getElem?_eq_some_iff.1 HV3.out).1
    have hbl : Below w.heap.size w3 V := hT.below (fun k hk => by
      rcases hk with e | e
      · have := hFl k e; omega
      · omega) (by omega)
    refine ⟨(hT.block _ (by omega) (fun e => by
      rcases e with e | e
      · have := hFw _ e; omega
      · omega)).trans HV3.out, (hT.block _ (by omega) (fun e => by
      rcases e with e | e
      · have := hFl _ e; omega
      · omega)).trans HXA3.out, HX3.out.below hbl, HBW.out.trans hbl⟩
  have hfix : ∀ V sq us nb' cb, Living w3 V lp p s R nb F sq us nb' cb → V.cell? ⟨w2.heap.size, 1, none⟩ = some (.pointer (some ⟨lp, 0, none⟩)) ∧ V.cell? ⟨w.heap.size, 2, none⟩ = some (.int .i64 (l : Int)) := fun V sq us nb' cb hg => by
    obtain ⟨e1, e2, -⟩ := hlater V sq us nb' cb hg
    exact ⟨cell_of_row V _ 1 _ _ _ e1, cell_of_row V _ 2 _ _ _ e2⟩
  have HFIX := Lib.hid hfix; clear hfix
  have HLATER := Lib.hid hlater; clear hlater
  have HFL : Hid (∀ q, F q → w.heap.size ≤ q) := Lib.hid (fun q hq => by have := (HFR.out.lowF q hq).1; have := HLT1.out; omega)
  have HLPL : Hid (w.heap.size ≤ lp) := Lib.hid (by have := HFR.out.low.1; have := HLT1.out; omega)
  clear HFR
  go_wp2_with fail
  go_loopw [7, 8, 10] (fun rm nx i wr => ∃ k seq used : Nat, k ≤ N ∧ i = .int .i64 (k : Int) ∧ rm = .int .i64 ((R : Int) - (used : Int)) ∧ nx = .int .u64 (seq : Int) ∧ used ≤ R ∧ seq ≤ k + 1 ∧ Living w3 wr lp p s R nb F seq used k (1 + 1500 * k)) (fun _ _ i _ => N - (intOf i).toNat)
  case atStart => exact ⟨0, 1, 0, by omega, rfl, by simp, rfl, by omega, by omega, HG3.out⟩
  case round =>
    obtain ⟨k, seq, used, hk, rfl, rfl, rfl, hus, hsq, hg⟩ := hrel
    rcases Nat.lt_or_ge k N with hlt | hge
    · obtain ⟨b, off, rfl, hbl, hcells⟩ := HX3.out.2.1 (by omega)
      have hxl : (xs.take N).length = N := HX3.out.1
      obtain ⟨x, hx⟩ : ∃ x, x = (xs.take N)[k]'(by omega) := ⟨_, rfl⟩
      have hxi : x.Is w3 w.heap.size := hx ▸ HX3.out.2.2 _ (List.getElem_mem _)
      have hS : ∀ V sq us nb' cb, Living w3 V lp p s R nb F sq us nb' cb → V.cell? ⟨w2.heap.size, 1, none⟩ = some (.pointer (some ⟨lp, 0, none⟩)) ∧ V.cell? ⟨b, off + k * 5 + 1 + 1, none⟩ = some (.slice x.Aw x.nw x.cw) ∧ V.cell? ⟨b, off + k * 5 + 1 + 2, none⟩ = some (.slice x.Ar x.nr x.cr) ∧ V.cell? ⟨b, off + k * 5, none⟩ = some (.int .i64 x.op) := fun V sq us nb' cb hgV => by
        obtain ⟨e1, e2, e3, e4⟩ := HLATER.out V sq us nb' cb hgV
        obtain ⟨b2, off2, ee, _, hc2⟩ := e3.2.1 (by omega)
        injection ee with ee
        injection ee with ee1 ee2
        subst ee1 ee2
        have g0 := hc2 k (by omega) 0 (by omega)
        have g2 := hc2 k (by omega) 2 (by omega)
        have g3 := hc2 k (by omega) 3 (by omega)
        rw [← hx] at g0 g2 g3
        exact ⟨cell_of_row V _ 1 _ _ _ e1, g2, g3, g0⟩
      have HSS := Lib.hid hS
      obtain ⟨z1, -, -, z0⟩ := hS wr _ _ _ _ hg
      obtain ⟨k3, hk3, hand⟩ := and3 x.op
      have hkN : (k : Int) < (N : Int) := by omega
      have HIT := Lib.hid hxi.txn
      have HGR := Lib.hid hg; clear hg
      clear hcells hx hxi hxl
      by_cases h1 : k3 = 1
      · subst h1
        have hho := home_lv w3 wr lp p s R nb seq used k (1 + 1500 * k) F HGR.out (by omega) (by omega)
        have HHO := Lib.hid hho; clear hho
        go_wp2_with fail
        with_reducible refine HHO.out.mono ?_
        rintro e w6 ⟨rfl, h6⟩
        have HT : Hid (Living w3 w6 lp p s R nb F seq 0 (k + 1) (1 + 1500 * (k + 1))) := Lib.hid (h6.more (Nat.le_succ _) (by omega))
        obtain ⟨-, y2⟩ := HFIX.out w6 _ _ _ _ h6
        clear h6 HHO HGR HSS HIT z1 z0
        have HNX := Lib.hid (next_lv w3 w6 lp p s R nb seq 0 (k + 1) (1 + 1500 * (k + 1)) F HT.out)
        obtain ⟨y1, -⟩ := HFIX.out w6 _ _ _ _ HT.out
        go_wp2_with fail
        with_reducible refine HNX.out.mono ?_
        rintro e v7 ⟨pl, hpl, rfl, h7⟩
        have hrm : Calls Try.prog 40 #[.pointer (some ⟨lp, 0, none⟩)] v7 fun e w' => e = .returned (.int .i64 ((R : Int))) ∧ 0 ≤ R ∧ Living w3 w' lp p s R nb F seq 0 (k + 1) (1 + 1500 * (k + 1)) :=
          (room_lv w3 v7 lp p s R nb seq 0 (k + 1) (1 + 1500 * (k + 1)) F h7).mono fun e w' h => ⟨h.1.trans (by rw [show (R : Int) - ((0 : Nat) : Int) = (R : Int) by omega]), h.2⟩
        have HRM := Lib.hid hrm; clear hrm
        clear y1
        obtain ⟨y1, -⟩ := HFIX.out v7 _ _ _ _ h7
        clear HNX HT h7
        go_wp2_with fail
        with_reducible refine HRM.out.mono ?_
        rintro e v8 ⟨rfl, hur, h8⟩
        obtain ⟨-, y2⟩ := HFIX.out v8 _ _ _ _ h8
        have HT8 := Lib.hid h8; clear h8
        have hp0 : ¬ (pl : Int) < 0 := by omega
        have hp1 : ¬ (R : Int) ≤ (pl : Int) := by omega
        clear HRM y1
        go_wp2
        go_roundw
        case rel => exact ⟨k + 1, seq, 0, by omega, by go_num, by first | rfl | (congr 1; omega) | (simp; done) | (simp; omega), by first | rfl | (congr 1; omega) | (simp; done) | (simp; omega), by omega, by omega, HT8.out⟩
        case measure => simp [intOf]; omega
      · have hne : ¬ (k3 : Int) = 1 := by omega
        have hne2 : ((k3 : Int) == 1) = false := by simpa using hne
        have hap : Calls Try.prog 41 #[.pointer (some ⟨lp, 0, none⟩), .slice x.Aw x.nw x.cw, .slice x.Ar x.nr x.cr] wr.drew fun e w' => ∃ a0 b0 : Int, e = .returned (.tuple #[.int .u64 a0, .int .i64 b0]) ∧
            ((a0 = (seq : Int) ∧ b0 = 0 ∧ used + (x.nw + 2) ≤ R ∧ Living w3 w' lp p s R nb F (seq + 1) (used + (x.nw + 2)) (k + 1) (1 + 1500 * (k + 1))) ∨ (a0 = 0 ∧ b0 = 17 ∧ Living w3 w' lp p s R nb F seq used (k + 1) (1 + 1500 * (k + 1))) ∨ (a0 = 0 ∧ b0 = 9 ∧ ¬ used + (x.nw + 2) ≤ R ∧ Living w3 w' lp p s R nb F seq used (k + 1) (1 + 1500 * (k + 1)))) :=
          (append_lv w3 wr.drew lp p s R nb seq used k (1 + 1500 * k) F (HGR.out.later (Below.refl _ wr).drew) x.t x.Aw x.Ar x.nw x.cw x.nr x.cr w.heap.size HIT.out HBW.out.size HFL.out HLPL.out (by omega) (by omega) (by omega)).mono fun e w' h => by
            rcases h with ⟨h1, h2, h3⟩ | ⟨h1, h3⟩ | ⟨h1, h2, h3⟩
            · exact ⟨_, _, h1, .inl ⟨rfl, rfl, h2, h3.more (Nat.le_refl _) (by omega)⟩⟩
            · exact ⟨_, _, h1, .inr (.inl ⟨rfl, rfl, h3.more (Nat.le_succ _) (by omega)⟩)⟩
            · exact ⟨_, _, h1, .inr (.inr ⟨rfl, rfl, h2, h3.more (Nat.le_succ _) (by omega)⟩)⟩
        have HAP := Lib.hid hap; clear hap
        have h0 := HSS.out wr.drew _ _ _ _ (HGR.out.later (Below.refl _ wr).drew)
        have hnw47 : x.nw ≤ 140737488355328 := HIT.out.fits.2.1
        go_wp2_with fail
        go_region_held (fun V => V.cell? ⟨w2.heap.size, 1, none⟩ = some (.pointer (some ⟨lp, 0, none⟩)) ∧ V.cell? ⟨b, off + k * 5 + 1 + 1, none⟩ = some (.slice x.Aw x.nw x.cw) ∧ V.cell? ⟨b, off + k * 5 + 1 + 2, none⟩ = some (.slice x.Ar x.nr x.cr) ∧ V.cell? ⟨b, off + k * 5, none⟩ = some (.int .i64 x.op)) (assumption)
          (first
            | (go_at_call 41
               with_reducible refine HAP.out.mono ?_
               rintro e w5 ⟨a0, b0, rfl, hapd⟩
               have h5 : w5.cell? ⟨w2.heap.size, 1, none⟩ = some (.pointer (some ⟨lp, 0, none⟩)) ∧ w5.cell? ⟨b, off + k * 5 + 1 + 1, none⟩ = some (.slice x.Aw x.nw x.cw) ∧ w5.cell? ⟨b, off + k * 5 + 1 + 2, none⟩ = some (.slice x.Ar x.nr x.cr) ∧ w5.cell? ⟨b, off + k * 5, none⟩ = some (.int .i64 x.op) := by
                 rcases hapd with ⟨-, -, -, hh⟩ | ⟨-, -, hh⟩ | ⟨-, -, -, hh⟩ <;> exact HSS.out w5 _ _ _ _ hh
               have HAPD := Lib.hid hapd
               clear hapd))
        all_goals
          obtain ⟨-, u1, -, -⟩ := h5
          clear h0 HAP HGR HSS HIT z1 z0
          rcases HAPD.out with ⟨ha, hb0, hfit, h6⟩ | ⟨ha, hb0, h6⟩ | ⟨ha, hb0, hfit, h6⟩
          · subst ha hb0
            have HT := Lib.hid h6; clear h6 HAPD
            have hq : ¬ (R : Int) - (used : Int) < (x.nw : Int) + 2 := by omega
            have hwn : IntKind.i64.wrap ((R : Int) - (used : Int) - ((x.nw : Int) + 2)) = (R : Int) - (used : Int) - ((x.nw : Int) + 2) := IntWalk.i64_in _ (by omega)
            have HNX := Lib.hid (next_lv w3 w5 lp p s R nb (seq + 1) (used + (x.nw + 2)) (k + 1) (1 + 1500 * (k + 1)) F HT.out)
            obtain ⟨y1, -⟩ := HFIX.out w5 _ _ _ _ HT.out
            go_wp2_with fail
            with_reducible refine HNX.out.mono ?_
            rintro e v7 ⟨pl, hpl, rfl, h7⟩
            have hrm : Calls Try.prog 40 #[.pointer (some ⟨lp, 0, none⟩)] v7 fun e w' => e = .returned (.int .i64 ((R : Int) - (used : Int) - ((x.nw : Int) + 2))) ∧ (used + (x.nw + 2)) ≤ R ∧ Living w3 w' lp p s R nb F (seq + 1) (used + (x.nw + 2)) (k + 1) (1 + 1500 * (k + 1)) :=
              (room_lv w3 v7 lp p s R nb (seq + 1) (used + (x.nw + 2)) (k + 1) (1 + 1500 * (k + 1)) F h7).mono fun e w' h => ⟨h.1.trans (by rw [show (R : Int) - (((used + (x.nw + 2)) : Nat) : Int) = (R : Int) - (used : Int) - ((x.nw : Int) + 2) by omega]), h.2⟩
            have HRM := Lib.hid hrm; clear hrm
            clear y1
            obtain ⟨y1, -⟩ := HFIX.out v7 _ _ _ _ h7
            clear HNX HT h7
            go_wp2_with fail
            with_reducible refine HRM.out.mono ?_
            rintro e v8 ⟨rfl, hur, h8⟩
            obtain ⟨-, y2⟩ := HFIX.out v8 _ _ _ _ h8
            have HT8 := Lib.hid h8; clear h8
            have hp0 : ¬ (pl : Int) < 0 := by omega
            have hp1 : ¬ (R : Int) ≤ (pl : Int) := by omega
            clear HRM y1
            go_wp2
            go_roundw
            case rel => exact ⟨k + 1, (seq + 1), (used + (x.nw + 2)), by omega, by go_num, by first | rfl | (congr 1; omega) | (simp; done) | (simp; omega), by first | rfl | (congr 1; omega) | (simp; done) | (simp; omega), by omega, by omega, HT8.out⟩
            case measure => simp [intOf]; omega
          · subst ha hb0
            have HT := Lib.hid h6; clear h6 HAPD
            have HNX := Lib.hid (next_lv w3 w5 lp p s R nb seq used (k + 1) (1 + 1500 * (k + 1)) F HT.out)
            obtain ⟨y1, -⟩ := HFIX.out w5 _ _ _ _ HT.out
            go_wp2_with fail
            with_reducible refine HNX.out.mono ?_
            rintro e v7 ⟨pl, hpl, rfl, h7⟩
            have hrm : Calls Try.prog 40 #[.pointer (some ⟨lp, 0, none⟩)] v7 fun e w' => e = .returned (.int .i64 ((R : Int) - (used : Int))) ∧ used ≤ R ∧ Living w3 w' lp p s R nb F seq used (k + 1) (1 + 1500 * (k + 1)) :=
              (room_lv w3 v7 lp p s R nb seq used (k + 1) (1 + 1500 * (k + 1)) F h7).mono fun e w' h => ⟨h.1.trans (by rw [show (R : Int) - ((used : Nat) : Int) = (R : Int) - (used : Int) by omega]), h.2⟩
            have HRM := Lib.hid hrm; clear hrm
            clear y1
            obtain ⟨y1, -⟩ := HFIX.out v7 _ _ _ _ h7
            clear HNX HT h7
            go_wp2_with fail
            with_reducible refine HRM.out.mono ?_
            rintro e v8 ⟨rfl, hur, h8⟩
            obtain ⟨-, y2⟩ := HFIX.out v8 _ _ _ _ h8
            have HT8 := Lib.hid h8; clear h8
            have hp0 : ¬ (pl : Int) < 0 := by omega
            have hp1 : ¬ (R : Int) ≤ (pl : Int) := by omega
            clear HRM y1
            go_wp2
            go_roundw
            case rel => exact ⟨k + 1, seq, used, by omega, by go_num, by first | rfl | (congr 1; omega) | (simp; done) | (simp; omega), by first | rfl | (congr 1; omega) | (simp; done) | (simp; omega), by omega, by omega, HT8.out⟩
            case measure => simp [intOf]; omega
          · subst ha hb0
            have HT := Lib.hid h6; clear h6 HAPD
            have hq : ¬ (x.nw : Int) + 2 ≤ (R : Int) - (used : Int) := by omega
            have HNX := Lib.hid (next_lv w3 w5 lp p s R nb seq used (k + 1) (1 + 1500 * (k + 1)) F HT.out)
            obtain ⟨y1, -⟩ := HFIX.out w5 _ _ _ _ HT.out
            go_wp2_with fail
            with_reducible refine HNX.out.mono ?_
            rintro e v7 ⟨pl, hpl, rfl, h7⟩
            have hrm : Calls Try.prog 40 #[.pointer (some ⟨lp, 0, none⟩)] v7 fun e w' => e = .returned (.int .i64 ((R : Int) - (used : Int))) ∧ used ≤ R ∧ Living w3 w' lp p s R nb F seq used (k + 1) (1 + 1500 * (k + 1)) :=
              (room_lv w3 v7 lp p s R nb seq used (k + 1) (1 + 1500 * (k + 1)) F h7).mono fun e w' h => ⟨h.1.trans (by rw [show (R : Int) - ((used : Nat) : Int) = (R : Int) - (used : Int) by omega]), h.2⟩
            have HRM := Lib.hid hrm; clear hrm
            clear y1
            obtain ⟨y1, -⟩ := HFIX.out v7 _ _ _ _ h7
            clear HNX HT h7
            go_wp2_with fail
            with_reducible refine HRM.out.mono ?_
            rintro e v8 ⟨rfl, hur, h8⟩
            obtain ⟨-, y2⟩ := HFIX.out v8 _ _ _ _ h8
            have HT8 := Lib.hid h8; clear h8
            have hp0 : ¬ (pl : Int) < 0 := by omega
            have hp1 : ¬ (R : Int) ≤ (pl : Int) := by omega
            clear HRM y1
            go_wp2
            go_roundw
            case rel => exact ⟨k + 1, seq, used, by omega, by go_num, by first | rfl | (congr 1; omega) | (simp; done) | (simp; omega), by first | rfl | (congr 1; omega) | (simp; done) | (simp; omega), by omega, by omega, HT8.out⟩
            case measure => simp [intOf]; omega
    · obtain rfl : k = N := by omega
      obtain ⟨-, -, -, hbw⟩ := HLATER.out wr _ _ _ _ hg
      have HBWR := Lib.hid hbw; clear hbw
      clear hg
      go_wp2
      go_ret
      exact ⟨rfl, HBWR.out⟩

theorem walks : Walks 8 Try.f8 All := by
  intro H enc W base args ds p hval hA hsz _
  rw [Try.params8] at hA hval hsz
  obtain ⟨v0, vs0, d0, ds0, p0, q0, hargs, rfl, rfl, h0, r0⟩ := trodAll_cons hA
  obtain ⟨v1, vs1, d1, ds1, p1, q1, rfl, rfl, rfl, h1, r1⟩ := trodAll_cons r0
  obtain ⟨rfl, rfl, rfl⟩ := trodAll_nil r1
  obtain rfl : args = #[v0, v1] := by cases args; simp_all
  obtain ⟨B, S, L, rfl⟩ := area_by_value (hval 0 _ v0 rfl rfl) h0
  have hw : (d1.weights Try.prog 51).all (· ≤ reachBytes) = true := List.all_eq_true.2 fun x hx => List.all_eq_true.1 hsz _ (DataW.weights_mem_each (j := 1) rfl rfl x hx)
  obtain ⟨A, n, c, xs, rfl, hx, hn, hc⟩ := deedsL_of (hval 1 _ v1 rfl rfl) h1 hw
  cases hm : mayB B
  · exact walk_bad B S L _ W (fun w1 => opened_none B S L w1 hm)
  · simp [mayB] at hm
    obtain ⟨nb, rfl⟩ : ∃ nb : Nat, B = (nb : Int) := ⟨B.toNat, by omega⟩
    cases ha : okArea nb S L
    · exact walk_bad _ S L _ W (fun w1 => opened_not nb S L w1 (by omega) (by omega) ha)
    · simp [okArea] at ha
      obtain ⟨s, rfl⟩ : ∃ s : Nat, S = (s : Int) := ⟨S.toNat, by omega⟩
      obtain ⟨l, rfl⟩ : ∃ l : Nat, L = (l : Int) := ⟨L.toNat, by omega⟩
      exact walk_good nb s l A n c xs W hx hn hc (by omega) (by omega) (by omega) (by omega)

set_option maxRecDepth 100000 in
theorem proved : Rows.LogRoomSaid :=
  OpenClaim.holds_of_wide 8 Try.f8 rfl rfl rfl rfl rfl rfl rfl ⟨rfl, rfl, rfl, rfl, rfl⟩ rfl rfl rfl rfl rfl (by kernel_rfl) Try.func8 (by kernel_rfl)
    (of_decide_eq_true (by kernel_rfl)) (by unfold Func.isWrapper; first | (rw [if_pos (by decide +kernel)]; kernel_rfl) | (rw [if_neg (by decide +kernel)]; exact ⟨rfl, rfl⟩))
    (fun os started H enc _ => lifted (s := Rows.logRoomSpec) walks (by kernel_rfl) rfl rfl (fun H ds hl => by match ds, hl with | [d1, d2], _ => rfl) (by kernel_rfl) Try.func8 os started H enc
      (ChangeSpec.witness6 (enc := enc) (C := Try.checked) false ⟨#[], #[.agg #[.int .i64 0, .int .i64 0, .int .i64 0], .slice none 0 0], []⟩ 8 (by kernel_rfl) (by kernel_rfl) (by kernel_rfl) (by kernel_rfl)))
#print axioms proved
end Go.Proofs.Ytbmbolgmeehloaa.LogRoom
