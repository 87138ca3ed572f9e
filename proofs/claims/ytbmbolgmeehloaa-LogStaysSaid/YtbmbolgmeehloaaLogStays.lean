/- LogStays: for every area and every deeds, records that are appended and synced leave every block outside of the ring as it was, and nothing pending. -/
import Derived.Test.YtbmbolgmeehloaaLgGo
import Derived.Deep.RegionHeld
namespace Go.Proofs.Ytbmbolgmeehloaa.LogStays
set_option maxRecDepth 20000
open Go.ChangeShapes Go.WideShapes Go.ChangeAt Go.RowKit
open Go.Proofs.Ytbmbolgmeehloaa.Mem Go.Proofs.Ytbmbolgmeehloaa.Lift Go.Proofs.Ytbmbolgmeehloaa.Disk Go.Proofs.Ytbmbolgmeehloaa.Log
open Go.Proofs.Ytbmbolgmeehloaa.Rec (Tx TxAt)

theorem owned_turns {w w' : World} {base : Nat} {v : Value} {bs : List UInt8} (h : Owned w base v bs) {F : Nat → Prop} (hb : Turns F w w') (hF : ∀ k, v.ownBlock = some k → ¬ F k) : Owned w' base v bs := by
  obtain ⟨h1, h2⟩ := h
  refine ⟨h1, ?_⟩
  rcases h2 with h2 | ⟨g, cap, cur, rfl, hg, hh, r⟩
  · exact .inl h2
  · exact .inr ⟨g, cap, cur, rfl, hg, (hb.block g (Array.getElem?_eq_some_iff.1 hh).1 (hF g rfl)).trans hh, r⟩
/-- The address of the part of a slice from T on. -/
def tailA (g c T : Nat) : Option Addr := if c = T then some ⟨g, 0, none⟩ else some ⟨g, T, none⟩
theorem run_headS (V : World) (g N c H : Nat) (hc : H ≤ c) :
    (Instr.slice 33 (.slice (some ⟨g, 0, none⟩) N c) none (some (.int .i64 (H : Int))) none).run Try.prog V = .ok (.slice (some ⟨g, 0, none⟩) H c) V := by
  have h := run_slice_h (P := Try.prog) V 33 (some ⟨g, 0, none⟩) N c (by rw [Try.underlying33]; rfl) .i64 (H : Int) (by omega) (by omega)
  rw [h]
  have hs : (sizeOf (Try.prog.elem 33)).run Try.prog V = .ok 1 V := by rfl
  rw [hs]
  simp [Result.andThen, sliced, Addr.add_mid]
theorem run_headA (V : World) (g N c H : Nat) (hc : H ≤ c) :
    (Instr.sliceAt 33 (.slice (some ⟨g, 0, none⟩) N c) none (some (.int .i64 (H : Int))) none).run Try.prog V = .ok (.slice (some ⟨g, 0, none⟩) H c) V := by
  rw [run_sliceAt_slice (P := Try.prog) V 33 _ _ _ _ (by rw [Try.underlying33]; rfl)]
  exact run_headS V g N c H hc
theorem run_tailS (V : World) (g N c T : Nat) (hT : T ≤ N) :
    (Instr.slice 33 (.slice (some ⟨g, 0, none⟩) N c) (some (.int .i64 (T : Int))) none none).run Try.prog V = .ok (.slice (tailA g c T) (N - T) (c - T)) V := by
  have h := run_slice_l (P := Try.prog) V 33 (some ⟨g, 0, none⟩) N c (by rw [Try.underlying33]; rfl) .i64 (T : Int) (by omega) (by omega)
  rw [h]
  have hs : (sizeOf (Try.prog.elem 33)).run Try.prog V = .ok 1 V := by rfl
  rw [hs]
  unfold tailA
  simp only [Result.andThen, sliced, Int.toNat_natCast, Nat.mul_one, Option.map_some, Addr.add_mid, Nat.zero_add]
theorem run_tailAt (V : World) (g N c T : Nat) (hT : T ≤ N) :
    (Instr.sliceAt 33 (.slice (some ⟨g, 0, none⟩) N c) (some (.int .i64 (T : Int))) none none).run Try.prog V = .ok (.slice (tailA g c T) (N - T) (c - T)) V := by
  rw [run_sliceAt_slice (P := Try.prog) V 33 _ _ _ _ (by rw [Try.underlying33]; rfl)]
  exact run_tailS V g N c T hT
theorem holds_tail {w : World} {B g N c T : Nat} {bs : List UInt8} (h : Holds w B (some ⟨g, 0, none⟩) N bs) (hT : T ≤ N) (hN : N ≤ c) : Holds w B (tailA g c T) (N - T) (bs.drop T) := by
  refine ⟨by rw [List.length_drop, h.1], fun h0 => ?_⟩
  obtain ⟨b, off, e, hl, hc⟩ := h.2 (by omega)
  injection e with e
  injection e with e1 e2
  subst e1 e2
  refine ⟨g, T, by unfold tailA; rw [if_neg (by omega)], hl, fun j hj => ?_⟩
  rw [List.length_drop] at hj
  have := hc (T + j) (by omega)
  rw [Nat.zero_add] at this
  rw [this, List.getElem_drop]

set_option maxRecDepth 100000 in
set_option maxHeartbeats 1000000 in
/-- Where no log is made. -/
theorem walk_bad (B S L : Int) (v : Value) (w : World) (h : ∀ w1, Calls Try.prog 34 #[.agg #[.int .i64 B, .int .i64 S, .int .i64 L]] w1 fun e w' => e = .returned (.tuple #[.agg #[.pointer none, .pointer none, .pointer none], .bool false]) ∧ Below w1.heap.size w1 w') :
    Calls Try.prog 10 #[.agg #[.int .i64 B, .int .i64 S, .int .i64 L], v] w fun e w' => e = .returned (.bool true) ∧ Below w.heap.size w w' := by
  have hx0 : Hid ((w.alloc (.cells #[.int .i64 B, .int .i64 S, .int .i64 L] 50)).heap[w.heap.size]? = some (.cells #[.int .i64 B, .int .i64 S, .int .i64 L] 50 (0, 0))) := Lib.hid (heap_alloc_new w _)
  have hb0 : Hid (Below w.heap.size w (w.alloc (.cells #[.int .i64 B, .int .i64 S, .int .i64 L] 50))) := Lib.hid ((Below.refl _ _).alloc (Nat.le_refl _) _)
  have HOP := Lib.hid h; clear h
  go_enter Try.func10, Try.ntmps10
  go_wp2_with fail
  generalize w.alloc (.cells #[.int .i64 B, .int .i64 S, .int .i64 L] 50) = W at hx0 hb0 ⊢
  with_reducible refine (Log.alive_any W).mono ?_
  rintro e w1 ⟨rfl, hb1⟩
  have hx1 := (hb1.block _ (Array.getElem?_eq_some_iff.1 hx0.out).1).trans hx0.out
  have q0 : w1.cell? ⟨w.heap.size, 0, none⟩ = some (.int .i64 B) := cell_of_row w1 _ 0 _ _ _ hx1
  have q1 : w1.cell? ⟨w.heap.size, 1, none⟩ = some (.int .i64 S) := cell_of_row w1 _ 1 _ _ _ hx1
  have q2 : w1.cell? ⟨w.heap.size, 2, none⟩ = some (.int .i64 L) := cell_of_row w1 _ 2 _ _ _ hx1
  have HB1 : Hid (Below w.heap.size w w1) := Lib.hid (hb0.out.trans (hb1.mono hb0.out.size))
  clear hx1 hb1 hx0 hb0
  have hop := HOP.out w1
  have HOP1 := Lib.hid hop; clear hop HOP
  go_wp2_with fail
  with_reducible refine HOP1.out.mono ?_
  rintro e w2 ⟨rfl, hb2⟩
  have HB2 : Hid (Below w.heap.size w w2) := Lib.hid (HB1.out.trans (hb2.mono HB1.out.size))
  clear hb2 HOP1 q0 q1 q2 HB1
  go_wp2
  go_ret
  exact ⟨rfl, HB2.out.alloc HB2.out.size _⟩

set_option maxRecDepth 100000 in
set_option maxHeartbeats 4000000 in
theorem walk_good (nb s l : Nat) (A : Option Addr) (n c : Nat) (xs : List DeedL) (w : World) (hx : DeedsL w w.heap.size A n xs) (hnc : n ≤ c) (hcm : c ≤ maxLen) (hn2 : nb ≤ 1024) (h8 : 8 ≤ l) (hl2 : l ≤ 1024) (hs : s + l ≤ nb) :
    Calls Try.prog 10 #[.agg #[.int .i64 (nb : Int), .int .i64 (s : Int), .int .i64 (l : Int)], .slice A n c] w fun e w' => e = .returned (.bool true) ∧ Below w.heap.size w w' := by
  have hx0 : Hid ((w.alloc (.cells #[.int .i64 (nb : Int), .int .i64 (s : Int), .int .i64 (l : Int)] 50)).heap[w.heap.size]? = some (.cells #[.int .i64 (nb : Int), .int .i64 (s : Int), .int .i64 (l : Int)] 50 (0, 0))) := Lib.hid (heap_alloc_new w _)
  have hb0 : Hid (Below w.heap.size w (w.alloc (.cells #[.int .i64 (nb : Int), .int .i64 (s : Int), .int .i64 (l : Int)] 50))) := Lib.hid ((Below.refl _ _).alloc (Nat.le_refl _) _)
  have HS := Lib.hid hs; clear hs
  have HL2 := Lib.hid hl2; clear hl2
  have HX := Lib.hid hx; clear hx
  have H8 := Lib.hid h8; clear h8
  have HN2 := Lib.hid hn2; clear hn2
  go_enter Try.func10, Try.ntmps10
  go_wp2_with fail
  generalize w.alloc (.cells #[.int .i64 (nb : Int), .int .i64 (s : Int), .int .i64 (l : Int)] 50) = W at hx0 hb0 ⊢
  with_reducible refine (Log.alive_any W).mono ?_
  rintro e w1 ⟨rfl, hb1⟩
  have hx1 := (hb1.block _ (Array.getElem?_eq_some_iff.1 hx0.out).1).trans hx0.out
  have q0 : w1.cell? ⟨w.heap.size, 0, none⟩ = some (.int .i64 (nb : Int)) := cell_of_row w1 _ 0 _ _ _ hx1
  have q1 : w1.cell? ⟨w.heap.size, 1, none⟩ = some (.int .i64 (s : Int)) := cell_of_row w1 _ 1 _ _ _ hx1
  have q2 : w1.cell? ⟨w.heap.size, 2, none⟩ = some (.int .i64 (l : Int)) := cell_of_row w1 _ 2 _ _ _ hx1
  have HB1 : Hid (Below w.heap.size w w1) := Lib.hid (hb0.out.trans (hb1.mono hb0.out.size))
  have HX1 := Lib.hid hx1
  have hlt1 : w.heap.size < w1.heap.size := (Array.getElem?_eq_some_iff.1 hx1).1
  have HLT1 := Lib.hid hlt1; clear hlt1
  clear hx1 hb1 hx0 hb0
  have hop := opened_ok nb s l w1 HN2.out H8.out HS.out
  have HOP := Lib.hid hop; clear hop
  go_wp2_with fail
  with_reducible refine HOP.out.mono ?_
  rintro e w2 ⟨p, r, lp, m, F, G, rfl, hfr, hb2⟩
  have HFR := Lib.hid hfr
  have HB2 : Hid (Below w.heap.size w w2) := Lib.hid (HB1.out.trans (hb2.mono HB1.out.size))
  have HX2 := Lib.hid ((hb2.block _ (by have := HLT1.out; omega)).trans HX1.out)
  have hlp2 : lp < w2.heap.size := (Array.getElem?_eq_some_iff.1 hfr.log).1
  have HLP2 := Lib.hid hlp2; clear hlp2
  obtain ⟨w3, hw3⟩ : ∃ y, y = w2.alloc (.cells #[.pointer (some ⟨p, 0, none⟩), .pointer (some ⟨lp, 0, none⟩), .pointer (some ⟨m, 0, none⟩)] 59) := ⟨_, rfl⟩
  have hb3 : Below w2.heap.size w2 w3 := hw3 ▸ (Below.refl _ _).alloc (Nat.le_refl _) _
  have hv3 : w3.heap[w2.heap.size]? = some (.cells #[.pointer (some ⟨p, 0, none⟩), .pointer (some ⟨lp, 0, none⟩), .pointer (some ⟨m, 0, none⟩)] 59 (0, 0)) := hw3 ▸ heap_alloc_new w2 _
  have hg3 := HFR.out.going hb3 H8.out HL2.out HS.out
  have him := image_go w3 w3 lp p s (l - 1) 1 1 0 nb _ F true hg3 (by omega) (freshD_size nb s)
  have HIM := Lib.hid him; clear him hg3
  have HV3 := Lib.hid hv3; clear hv3
  have HB3 := Lib.hid hb3; clear hb3 hb2 hfr HOP
  clear q0 q1 q2 HX1
  have HW3 := Lib.hid hw3; clear hw3
  go_wp2_with fail
  rw [← HW3.out]
  clear HW3
  with_reducible refine HIM.out.mono ?_
  rintro e w4 ⟨d4, A4, c4, hst4, rfl, ho4, hb4⟩
  have hxn : n = 0 ∨ 0 < n := by omega
  have hb4' : Below w2.heap.size w2 w4 := HB3.out.trans (hb4.mono HB3.out.size)
  have hg4 := HFR.out.going hb4' H8.out HL2.out HS.out
  have hBw : Below w.heap.size w w4 := HB2.out.trans (hb4'.mono HB2.out.size)
  have hfew := few_any A n c w4 hnc hcm (fun h => by obtain ⟨b, off, e, _⟩ := HX.out.2.1 h; exact ⟨b, off, e⟩)
  have hx4 := (HX.out.below hBw).take (k := fewL n) (by unfold fewL; split <;> omega)
  have hN24 : fewL n ≤ 24 := by unfold fewL; split <;> omega
  obtain ⟨N, hN⟩ : ∃ N, N = fewL n := ⟨_, rfl⟩
  rw [← hN] at hfew hx4 hN24
  have hv4 := (hb4.block _ (Array.getElem?_eq_some_iff.1 HV3.out).1).trans HV3.out
  have hxa4 := (hb4'.block _ (Array.getElem?_eq_some_iff.1 HX2.out).1).trans HX2.out
  have HG4 := Lib.hid hg4; clear hg4
  have HBW := Lib.hid hBw; clear hBw
  have HFEW := Lib.hid hfew; clear hfew
  have HX4 := Lib.hid hx4; clear hx4
  have HV4 := Lib.hid hv4; clear hv4
  have HXA4 := Lib.hid hxa4; clear hxa4
  have HST4 := Lib.hid hst4; clear hst4
  have HO4 := Lib.hid ho4; clear ho4
  have hA4 : w3.heap.size < w4.heap.size ∧ w2.heap.size < w3.heap.size := ⟨by
    obtain ⟨g, cap, hv, hg1, hg2, _⟩ := Owned.row HO4.out (by rw [Go.Proofs.Ytbmbolgmeehloaa.Rec.Owned.len HO4.out |>.symm]; have := H8.out; have := HS.out; omega)
    omega, by have := (Array.getElem?_eq_some_iff.1 HV3.out).1; omega⟩
  have HA4 := Lib.hid hA4; clear hA4
  clear hb4 hb4' hN hxn HIM HB3 HV3 HX2 HX hnc hcm
  go_wp2_with fail
  with_reducible refine HFEW.out.mono ?_
  rintro e w5 ⟨rfl, rfl⟩
  clear HFEW
  -- the facts of a later world
  have hlater : ∀ V sq cb nb' b, Going w4 V lp p s (l - 1) (freshD nb s) F sq cb nb' b → V.heap[w2.heap.size]? = some (.cells #[.pointer (some ⟨p, 0, none⟩), .pointer (some ⟨lp, 0, none⟩), .pointer (some ⟨m, 0, none⟩)] 59 (0, 0)) ∧ V.heap[w.heap.size]? = some (.cells #[.int .i64 (nb : Int), .int .i64 (s : Int), .int .i64 (l : Int)] 50 (0, 0)) ∧ DeedsL V w.heap.size A N (xs.take N) ∧ Owned V w3.heap.size (.slice A4 (256 * nb) c4) d4.image.flatten ∧ Below w.heap.size w V := fun V sq cb nb' b hg => by
    have hT := hg.turns
    have hFw : ∀ q, F q → q < w2.heap.size := fun q hq => HFR.out.one.lt q hq
    have hFl : ∀ q, F q → w1.heap.size + 3 ≤ q := fun q hq => (HFR.out.lowF q hq).1
    have hl := HFR.out.low.1
    have h1 := HLT1.out
    have h2 := HLP2.out
    have h3 := HA4.out
    have hbl : Below w.heap.size w4 V := hT.below (fun k hk => by
      rcases hk with e | e
      · have := hFl k e; omega
      · omega) (by omega)
    refine ⟨(hT.block _ (by omega) (fun e => by
      rcases e with e | e
      · have := hFw _ e; omega
      · omega)).trans HV4.out, (hT.block _ (by omega) (fun e => by
      rcases e with e | e
      · have := hFl _ e; omega
      · omega)).trans HXA4.out, HX4.out.below hbl, ?_, HBW.out.trans hbl⟩
    exact owned_turns HO4.out hT (fun k hk e => by
      have hk1 := (Owned.base_le HO4.out) k hk
      rcases e with e | e
      · have := hFw _ e; omega
      · omega) 
  have HLATER := Lib.hid hlater; clear hlater
  have HFL : Hid (∀ q, F q → w.heap.size ≤ q) := Lib.hid (fun q hq => by have := (HFR.out.lowF q hq).1; have := HLT1.out; omega)
  have HLPL : Hid (w.heap.size ≤ lp) := Lib.hid (by have := HFR.out.low.1; have := HLT1.out; omega)
  clear HFR
  go_wp2_with fail
  go_loopw [9] (fun i wr => ∃ k : Nat, k ≤ N ∧ i = .int .i64 (k : Int) ∧ Going w4 wr lp p s (l - 1) (freshD nb s) F (k + 1) (1 + 60 * k) k true) (fun i _ => N - (intOf i).toNat)
  case atStart => exact ⟨0, by omega, rfl, HG4.out⟩
  case round =>
    obtain ⟨k, hk, rfl, hg⟩ := hrel
    rcases Nat.lt_or_ge k N with hlt | hge
    · obtain ⟨b, off, rfl, hbl, hcells⟩ := HX4.out.2.1 (by omega)
      have hxl : (xs.take N).length = N := HX4.out.1
      obtain ⟨x, hx⟩ : ∃ x, x = (xs.take N)[k]'(by omega) := ⟨_, rfl⟩
      have hxi : x.Is w4 w.heap.size := hx ▸ HX4.out.2.2 _ (List.getElem_mem _)
      have hS : ∀ V sq cb nb' b', Going w4 V lp p s (l - 1) (freshD nb s) F sq cb nb' b' → V.cell? ⟨w2.heap.size, 1, none⟩ = some (.pointer (some ⟨lp, 0, none⟩)) ∧ V.cell? ⟨b, off + k * 5 + 1 + 1, none⟩ = some (.slice x.Aw x.nw x.cw) ∧ V.cell? ⟨b, off + k * 5 + 1 + 2, none⟩ = some (.slice x.Ar x.nr x.cr) := fun V sq cb nb' b' hgV => by
        obtain ⟨e1, e2, e3, e4, e5⟩ := HLATER.out V sq cb nb' b' hgV
        obtain ⟨b2, off2, ee, _, hc2⟩ := e3.2.1 (by omega)
        injection ee with ee
        injection ee with ee1 ee2
        subst ee1 ee2
        have g2 := hc2 k (by omega) 2 (by omega)
        have g3 := hc2 k (by omega) 3 (by omega)
        rw [← hx] at g2 g3
        exact ⟨cell_of_row V _ 1 _ _ _ e1, g2, g3⟩
      have HSS := Lib.hid hS
      have h0 := hS wr.drew _ _ _ _ (hg.later (Below.refl _ wr).drew)
      have hap := append_go w4 wr.drew lp p s (l - 1) (k + 1) (1 + 60 * k) k (freshD nb s) F true (hg.later (Below.refl _ wr).drew) x.t x.Aw x.Ar x.nw x.cw x.nr x.cr w.heap.size hxi.txn HBW.out.size HFL.out HLPL.out (by omega) (by omega) (by omega)
      have HAP := Lib.hid hap; clear hap
      have HGR := Lib.hid hg; clear hg
      clear hS hcells hx hxi hxl
      go_wp2_with fail
      go_region_held (fun V => V.cell? ⟨w2.heap.size, 1, none⟩ = some (.pointer (some ⟨lp, 0, none⟩)) ∧ V.cell? ⟨b, off + k * 5 + 1 + 1, none⟩ = some (.slice x.Aw x.nw x.cw) ∧ V.cell? ⟨b, off + k * 5 + 1 + 2, none⟩ = some (.slice x.Ar x.nr x.cr)) (assumption)
        (first
          | (go_at_call 41
             with_reducible refine HAP.out.mono ?_
             rintro e w5 ⟨z1, z2, rfl, hg5⟩
             have HG5 := Lib.hid hg5
             have h5 := HSS.out w5 _ _ _ _ hg5
             clear hg5))
      all_goals
        have hsy := sync_go w4 w5 lp p s (l - 1) (k + 1 + 1) (1 + 60 * k + 60) (k + 1) (freshD nb s) F false HG5.out (by omega)
        have HSY := Lib.hid hsy; clear hsy
        obtain ⟨s1, -, -⟩ := h5
        go_wp2_with fail
        with_reducible refine HSY.out.mono ?_
        rintro e w6 ⟨rfl, hg6⟩
        have HG6 : Hid (Going w4 w6 lp p s (l - 1) (freshD nb s) F (k + 1 + 1) (1 + 60 * (k + 1)) (k + 1) true) := Lib.hid (hg6.more (Nat.le_refl _) (by omega) (Nat.le_refl _) id)
        clear hg6 HSY s1 h0 HAP HGR HG5
        go_wp2
        go_roundw
        case rel => exact ⟨k + 1, by omega, by go_num, HG6.out⟩
        case measure => simp [intOf]; omega
    · obtain rfl : k = N := by omega
      have hFA : ∀ V sq cb nb' b', Going w4 V lp p s (l - 1) (freshD nb s) F sq cb nb' b' → V.cell? ⟨w2.heap.size, 0, none⟩ = some (.pointer (some ⟨p, 0, none⟩)) ∧ V.cell? ⟨w.heap.size, 1, none⟩ = some (.int .i64 (s : Int)) ∧ V.cell? ⟨w.heap.size, 2, none⟩ = some (.int .i64 (l : Int)) := fun V sq cb nb' b' hgV => by
        obtain ⟨e1, e2, e3, e4, e5⟩ := HLATER.out V sq cb nb' b' hgV
        exact ⟨cell_of_row V _ 0 _ _ _ e1, cell_of_row V _ 1 _ _ _ e2, cell_of_row V _ 2 _ _ _ e2⟩
      have HFA := Lib.hid hFA; clear hFA
      obtain ⟨t0, t1, t2⟩ := HFA.out wr _ _ _ _ hg
      have him := image_go w4 wr lp p s (l - 1) (k + 1) (1 + 60 * k) k nb (freshD nb s) F true hg (by omega) (freshD_size nb s)
      have HIM := Lib.hid him; clear him
      have HGR := Lib.hid hg; clear hg
      clear t1 t2
      go_wp2_with fail
      with_reducible refine HIM.out.mono ?_
      rintro e w7 ⟨d7, A7, c7, hst7, rfl, ho7, hb7⟩
      have HG7 := Lib.hid (HGR.out.later hb7)
      obtain ⟨t0, t1, t2⟩ := HFA.out w7 _ _ _ _ HG7.out
      obtain ⟨-, -, -, ho4, hbw⟩ := HLATER.out w7 _ _ _ _ HG7.out
      have HO7 := Lib.hid ho7; clear ho7
      have HO4' := Lib.hid ho4; clear ho4
      have HBW7 := Lib.hid hbw; clear hbw
      have HST7 := Lib.hid hst7; clear hst7
      clear hb7 HIM HGR
      obtain ⟨P, hP⟩ : ∃ P : Nat, P = 256 * s := ⟨_, rfl⟩
      have hPI : (256 : Int) * (s : Int) = (P : Int) := by omega
      have hsn : s + l ≤ nb := HS.out
      have hl8 : 8 ≤ l := H8.out
      have hnb : nb ≤ 1024 := HN2.out
      have hPb : P ≤ 262144 := by omega
      have HP := Lib.hid hP; clear hP
      have HSN := Lib.hid hsn
      have HNB := Lib.hid hnb
      have HL8 := Lib.hid hl8
      clear hsn hl8 hnb hge hk
      go_wp2_with fail
      -- the numbers of the last line
      obtain ⟨M, hM⟩ : ∃ M : Nat, M = 256 * nb := ⟨_, rfl⟩
      obtain ⟨Q, hQ⟩ : ∃ Q : Nat, Q = 256 * l := ⟨_, rfl⟩
      obtain ⟨Hd, hHd⟩ : ∃ x : Nat, x = 256 * (s + 1) := ⟨_, rfl⟩
      obtain ⟨T, hT⟩ : ∃ x : Nat, x = 256 * (s + 1 + (l - 1)) := ⟨_, rfl⟩
      have hw1 : IntKind.i64.wrap ((P : Int) + 256) = (Hd : Int) := by rw [IntKind.wrap_i64]; have := HP.out; omega
      have hw2 : IntKind.i64.wrap (256 * (l : Int)) = (Q : Int) := by rw [IntKind.wrap_i64]; have := HSN.out; have := HNB.out; omega
      have hw3 : IntKind.i64.wrap ((P : Int) + (Q : Int)) = (T : Int) := by rw [IntKind.wrap_i64]; have := HP.out; have := HSN.out; have := HNB.out; have := HL8.out; omega
      have hHM : Hd ≤ M := by have := HSN.out; have := HL8.out; omega
      have hTM : T ≤ M := by have := HSN.out; have := HL8.out; omega
      have hM0 : 0 < M := by have := HSN.out; have := HL8.out; omega
      rw [← hM]
      have ho7 := HO7.out
      have ho4 := HO4'.out
      rw [← hM] at ho7 ho4
      obtain ⟨g7, cap7, hv7, -, -, hc7, -⟩ := Owned.row ho7 (by rw [← Go.Proofs.Ytbmbolgmeehloaa.Rec.Owned.len ho7]; exact hM0)
      obtain ⟨g4, cap4, hv4, -, -, hc4, -⟩ := Owned.row ho4 (by rw [← Go.Proofs.Ytbmbolgmeehloaa.Rec.Owned.len ho4]; exact hM0)
      rw [← Go.Proofs.Ytbmbolgmeehloaa.Rec.Owned.len ho7] at hv7 hc7
      rw [← Go.Proofs.Ytbmbolgmeehloaa.Rec.Owned.len ho4] at hv4 hc4
      injection hv7 with e1 e2 e3
      clear e2
      subst e1 e3
      injection hv4 with e1 e2 e3
      clear e2
      subst e1 e3
      have r7 := Go.Proofs.Ytbmbolgmeehloaa.Rec.Owned.reads ho7
      have r4 := Go.Proofs.Ytbmbolgmeehloaa.Rec.Owned.reads ho4
      have hok : (freshD nb s).Ok := by
        have h0 := Dk.new_ok nb
        exact Dk.flush_ok _ (Dk.write_ok _ h0 s (headH 1 0) (by simp [Dk.Dk.new]; have := HSN.out; have := HL8.out; omega) (headH_len 1 0))
      have eh : d7.image.flatten.take Hd = d4.image.flatten.take Hd := by rw [hHd, HST7.out.head hok, HST4.out.head hok]
      have et : d7.image.flatten.drop T = d4.image.flatten.drop T := by rw [hT, HST7.out.tail hok, HST4.out.tail hok]
      have k7h := Holds.take r7 hHM
      have k4h := Holds.take r4 hHM
      have k7t := holds_tail r7 hTM hc7
      have k4t := holds_tail r4 hTM hc4
      rw [eh] at k7h
      rw [et] at k7t
      generalize d4.image.flatten.take Hd = U at k7h k4h
      generalize d4.image.flatten.drop T = V0 at k7t k4t
      have hS : (fun V : World => V.cell? ⟨w2.heap.size, 0, none⟩ = some (.pointer (some ⟨p, 0, none⟩)) ∧ V.cell? ⟨w.heap.size, 2, none⟩ = some (.int .i64 (l : Int)) ∧
        (convert 33 9 (.slice (some ⟨g7, 0, none⟩) Hd c7)).run Try.prog V = .ok (.string ⟨U.toArray⟩) V ∧ (convert 33 9 (.slice (some ⟨g4, 0, none⟩) Hd c4)).run Try.prog V = .ok (.string ⟨U.toArray⟩) V ∧
        (convert 33 9 (.slice (tailA g7 c7 T) (M - T) (c7 - T))).run Try.prog V = .ok (.string ⟨V0.toArray⟩) V ∧ (convert 33 9 (.slice (tailA g4 c4 T) (M - T) (c4 - T))).run Try.prog V = .ok (.string ⟨V0.toArray⟩) V ∧
        (Instr.slice 33 (.slice (some ⟨g7, 0, none⟩) M c7) none (some (.int .i64 (Hd : Int))) none).run Try.prog V = .ok (.slice (some ⟨g7, 0, none⟩) Hd c7) V ∧ (Instr.slice 33 (.slice (some ⟨g4, 0, none⟩) M c4) none (some (.int .i64 (Hd : Int))) none).run Try.prog V = .ok (.slice (some ⟨g4, 0, none⟩) Hd c4) V ∧
        (Instr.slice 33 (.slice (some ⟨g7, 0, none⟩) M c7) (some (.int .i64 (T : Int))) none none).run Try.prog V = .ok (.slice (tailA g7 c7 T) (M - T) (c7 - T)) V ∧ (Instr.slice 33 (.slice (some ⟨g4, 0, none⟩) M c4) (some (.int .i64 (T : Int))) none none).run Try.prog V = .ok (.slice (tailA g4 c4 T) (M - T) (c4 - T)) V ∧
        (Instr.sliceAt 33 (.slice (some ⟨g7, 0, none⟩) M c7) none (some (.int .i64 (Hd : Int))) none).run Try.prog V = .ok (.slice (some ⟨g7, 0, none⟩) Hd c7) V ∧ (Instr.sliceAt 33 (.slice (some ⟨g4, 0, none⟩) M c4) none (some (.int .i64 (Hd : Int))) none).run Try.prog V = .ok (.slice (some ⟨g4, 0, none⟩) Hd c4) V ∧
        (Instr.sliceAt 33 (.slice (some ⟨g7, 0, none⟩) M c7) (some (.int .i64 (T : Int))) none none).run Try.prog V = .ok (.slice (tailA g7 c7 T) (M - T) (c7 - T)) V ∧ (Instr.sliceAt 33 (.slice (some ⟨g4, 0, none⟩) M c4) (some (.int .i64 (T : Int))) none none).run Try.prog V = .ok (.slice (tailA g4 c4 T) (M - T) (c4 - T)) V) w7.drew :=
        ⟨t0, t2, run_text w7.drew w7.heap.size _ Hd c7 U k7h, run_text w7.drew w7.heap.size _ Hd c4 U k4h, run_text w7.drew w7.heap.size _ (M - T) (c7 - T) V0 k7t, run_text w7.drew w7.heap.size _ (M - T) (c4 - T) V0 k4t,
          run_headS _ _ _ _ _ (by omega), run_headS _ _ _ _ _ (by omega), run_tailS _ _ _ _ _ hTM, run_tailS _ _ _ _ _ hTM, run_headA _ _ _ _ _ (by omega), run_headA _ _ _ _ _ (by omega), run_tailAt _ _ _ _ _ hTM, run_tailAt _ _ _ _ _ hTM⟩
      have hpe := pending_go w4 w7.drew lp p s (l - 1) (k + 1) (1 + 60 * k) k (freshD nb s) F (HG7.out.later (Below.refl _ w7).drew)
      have HPE := Lib.hid hpe; clear hpe
      clear t0 t1 t2 r7 r4 k7h k4h k7t k4t eh et ho7 ho4 hc7 hc4 hHM hTM hM0 hM hQ hHd hT hok hPb HO7 HO4' HST7 HLATER HFA HG4 HV4 HXA4 HX4 HFL HLPL HO4
      first
        | (go_region_held (fun V : World => V.cell? ⟨w2.heap.size, 0, none⟩ = some (.pointer (some ⟨p, 0, none⟩)) ∧ V.cell? ⟨w.heap.size, 2, none⟩ = some (.int .i64 (l : Int)) ∧
            (convert 33 9 (.slice (some ⟨g7, 0, none⟩) Hd c7)).run Try.prog V = .ok (.string ⟨U.toArray⟩) V ∧ (convert 33 9 (.slice (some ⟨g4, 0, none⟩) Hd c4)).run Try.prog V = .ok (.string ⟨U.toArray⟩) V ∧
            (convert 33 9 (.slice (tailA g7 c7 T) (M - T) (c7 - T))).run Try.prog V = .ok (.string ⟨V0.toArray⟩) V ∧ (convert 33 9 (.slice (tailA g4 c4 T) (M - T) (c4 - T))).run Try.prog V = .ok (.string ⟨V0.toArray⟩) V ∧
            (Instr.slice 33 (.slice (some ⟨g7, 0, none⟩) M c7) none (some (.int .i64 (Hd : Int))) none).run Try.prog V = .ok (.slice (some ⟨g7, 0, none⟩) Hd c7) V ∧ (Instr.slice 33 (.slice (some ⟨g4, 0, none⟩) M c4) none (some (.int .i64 (Hd : Int))) none).run Try.prog V = .ok (.slice (some ⟨g4, 0, none⟩) Hd c4) V ∧
            (Instr.slice 33 (.slice (some ⟨g7, 0, none⟩) M c7) (some (.int .i64 (T : Int))) none none).run Try.prog V = .ok (.slice (tailA g7 c7 T) (M - T) (c7 - T)) V ∧ (Instr.slice 33 (.slice (some ⟨g4, 0, none⟩) M c4) (some (.int .i64 (T : Int))) none none).run Try.prog V = .ok (.slice (tailA g4 c4 T) (M - T) (c4 - T)) V ∧
            (Instr.sliceAt 33 (.slice (some ⟨g7, 0, none⟩) M c7) none (some (.int .i64 (Hd : Int))) none).run Try.prog V = .ok (.slice (some ⟨g7, 0, none⟩) Hd c7) V ∧ (Instr.sliceAt 33 (.slice (some ⟨g4, 0, none⟩) M c4) none (some (.int .i64 (Hd : Int))) none).run Try.prog V = .ok (.slice (some ⟨g4, 0, none⟩) Hd c4) V ∧
            (Instr.sliceAt 33 (.slice (some ⟨g7, 0, none⟩) M c7) (some (.int .i64 (T : Int))) none none).run Try.prog V = .ok (.slice (tailA g7 c7 T) (M - T) (c7 - T)) V ∧ (Instr.sliceAt 33 (.slice (some ⟨g4, 0, none⟩) M c4) (some (.int .i64 (T : Int))) none none).run Try.prog V = .ok (.slice (tailA g4 c4 T) (M - T) (c4 - T)) V) (assumption)
            (first
              | (go_at_call 17
                 with_reducible refine HPE.out.mono ?_
                 rintro e w8 ⟨rfl, rfl⟩)))
        | fail
      all_goals
        go_wp2
        go_ret
        exact ⟨rfl, HBW7.out.drew⟩

theorem walks : Walks 10 Try.f10 All := by
  intro H enc W base args ds p hval hA hsz _
  rw [Try.params10] at hA hval hsz
  obtain ⟨v0, vs0, d0, ds0, p0, q0, hargs, rfl, rfl, h0, r0⟩ := trodAll_cons hA
  obtain ⟨v1, vs1, d1, ds1, p1, q1, rfl, rfl, rfl, h1, r1⟩ := trodAll_cons r0
  obtain ⟨rfl, rfl, rfl⟩ := trodAll_nil r1
  obtain rfl : args = #[v0, v1] := by cases args; simp_all
  obtain ⟨B, S, L, rfl⟩ := area_by_value (hval 0 _ v0 rfl rfl) h0
  have hw : (d1.weights Try.prog 51).all (· ≤ reachBytes) = true := List.all_eq_true.2 fun x hx => List.all_eq_true.1 hsz _ (DataW.weights_mem_each (j := 1) rfl rfl x hx)
  obtain ⟨A, n, c, xs, rfl, hx, hn, hc⟩ := deedsL_of (hval 1 _ v1 rfl rfl) h1 hw
  cases hm : mayB B
  · exact walk_bad B S L _ W (fun w1 => opened_none B S L w1 hm)
  · simp [mayB] at hm
    obtain ⟨nb, rfl⟩ : ∃ nb : Nat, B = (nb : Int) := ⟨B.toNat, by omega⟩
    cases ha : okArea nb S L
    · exact walk_bad _ S L _ W (fun w1 => opened_not nb S L w1 (by omega) (by omega) ha)
    · simp [okArea] at ha
      obtain ⟨s, rfl⟩ : ∃ s : Nat, S = (s : Int) := ⟨S.toNat, by omega⟩
      obtain ⟨l, rfl⟩ : ∃ l : Nat, L = (l : Int) := ⟨L.toNat, by omega⟩
      exact walk_good nb s l A n c xs W hx hn hc (by omega) (by omega) (by omega) (by omega)

set_option maxRecDepth 100000 in
theorem proved : Rows.LogStaysSaid :=
  OpenClaim.holds_of_wide 10 Try.f10 rfl rfl rfl rfl rfl rfl rfl ⟨rfl, rfl, rfl, rfl, rfl⟩ rfl rfl rfl rfl rfl (by kernel_rfl) Try.func10 (by kernel_rfl)
    (of_decide_eq_true (by kernel_rfl)) (by unfold Func.isWrapper; first | (rw [if_pos (by decide +kernel)]; kernel_rfl) | (rw [if_neg (by decide +kernel)]; exact ⟨rfl, rfl⟩))
    (fun os started H enc _ => lifted (s := Rows.logStaysSpec) walks (by kernel_rfl) rfl rfl (fun H ds hl => by match ds, hl with | [d1, d2], _ => rfl) (by kernel_rfl) Try.func10 os started H enc
      (ChangeSpec.witness6 (enc := enc) (C := Try.checked) false ⟨#[], #[.agg #[.int .i64 0, .int .i64 0, .int .i64 0], .slice none 0 0], []⟩ 8 (by kernel_rfl) (by kernel_rfl) (by kernel_rfl) (by kernel_rfl)))
#print axioms proved
end Go.Proofs.Ytbmbolgmeehloaa.LogStays
