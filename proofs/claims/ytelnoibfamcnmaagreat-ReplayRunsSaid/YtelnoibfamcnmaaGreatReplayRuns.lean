/- ReplayRuns: for every area, records and bits, the chain of a log behind a crash, and what its recovery writes, is what the document says. -/
import Derived.Test.YtelnoibfamcnmaaGreatRpRef
namespace Go.Proofs.YtelnoibfamcnmaaGreat.ReplayRuns
set_option maxRecDepth 20000
open Go.ChangeShapes Go.WideShapes Go.ChangeAt Go.RowKit
open Go.Proofs.YtelnoibfamcnmaaGreat.Mem Go.Proofs.YtelnoibfamcnmaaGreat.Lift Go.Proofs.YtelnoibfamcnmaaGreat.Crc Go.Proofs.YtelnoibfamcnmaaGreat.Disk Go.Proofs.YtelnoibfamcnmaaGreat.Log Go.Proofs.YtelnoibfamcnmaaGreat.Rp
open Go.Proofs.YtelnoibfamcnmaaGreat.Rec (Tx Wt TxAt)

theorem runs_plain {n s r : Nat} {g : Lg} {s0 p0 : Nat} (h : Inv n s r g s0 p0) (hq : g.seq ≤ 1048576) (bits : List UInt8) :
    (g.d.crash bits).Ok ∧ (g.d.crash bits).stable.length = n ∧ okH ((g.d.crash bits).read s) r = true ∧ Rising (chainD (g.d.crash bits) s r) := by
  refine ⟨Dk.crash_ok _ h.ok bits, by rw [Dk.size_crash]; exact h.size, by rw [crash_head h bits]; exact head_good h (by omega), fun i j t u hi hj hij => ?_⟩
  have hs := (crash_chain h (by omega) bits).2
  rw [hs i t hi, hs j u hj]
  omega
theorem stable_len (d : Dk.Dk) (h : d.Ok) : d.stable.flatten.length = 256 * d.stable.length := by
  have := h.len
  generalize d.stable = l at this
  clear h
  induction l with
  | nil => rfl
  | cons b l ih =>
    rw [List.flatten_cons, List.length_append, this b (List.mem_cons_self ..), ih (fun c hc => this c (List.mem_cons_of_mem _ hc)), List.length_cons]
    omega

set_option maxRecDepth 100000 in
set_option maxHeartbeats 4000000 in
theorem walk_bad (B S L : Int) (v u : Value) (w : World) (h : ∀ w1, Calls Tryz.prog 5 #[.agg #[.int .i64 B, .int .i64 S, .int .i64 L], v] w1 (Unfilled w1)) :
    Calls Tryz.prog 3 #[.agg #[.int .i64 B, .int .i64 S, .int .i64 L], v, u] w fun e w' => e = .returned (.bool true) ∧ Below w.heap.size w w' := by
  have hx0 : Hid ((w.alloc (.cells #[.int .i64 B, .int .i64 S, .int .i64 L] 23)).heap[w.heap.size]? = some (.cells #[.int .i64 B, .int .i64 S, .int .i64 L] 23 (0, 0))) := Lib.hid (heap_alloc_new w _)
  have hb0 : Hid (Below w.heap.size w (w.alloc (.cells #[.int .i64 B, .int .i64 S, .int .i64 L] 23))) := Lib.hid ((Below.refl _ _).alloc (Nat.le_refl _) _)
  have HOP := Lib.hid h; clear h
  go_enter Tryz.func3, Tryz.ntmps3
  go_wp2_with fail
  generalize w.alloc (.cells #[.int .i64 B, .int .i64 S, .int .i64 L] 23) = W at hx0 hb0 ⊢
  with_reducible refine (Rp.alive_any W).mono ?_
  rintro e w1 ⟨rfl, hb1⟩
  have hx1 := (hb1.block _ (Array.getElem?_eq_some_iff.1 hx0.out).1).trans hx0.out
  have hz1 : w.heap.size < w1.heap.size := (Array.getElem?_eq_some_iff.1 hx1).1
  have hbox : ∀ V, Below w1.heap.size w1 V → V.cell? ⟨w.heap.size, 0, none⟩ = some (.int .i64 B) ∧ V.cell? ⟨w.heap.size, 1, none⟩ = some (.int .i64 S) ∧ V.cell? ⟨w.heap.size, 2, none⟩ = some (.int .i64 L) := fun V hV => by
    have e0 := (hV.block _ hz1).trans hx1
    exact ⟨cell_of_row V _ 0 _ _ _ e0, cell_of_row V _ 1 _ _ _ e0, cell_of_row V _ 2 _ _ _ e0⟩
  obtain ⟨q0, q1, q2⟩ := hbox w1 (Below.refl _ _)
  have HBOX := Lib.hid hbox; clear hbox
  have HB1 : Hid (Below w.heap.size w w1) := Lib.hid (hb0.out.trans (hb1.mono hb0.out.size))
  clear hx1 hb1 hx0 hb0
  have hop := HOP.out w1
  have HOP1 := Lib.hid hop; clear hop HOP
  go_wp2_with fail
  with_reducible refine HOP1.out.mono ?_
  rintro e w2 ⟨rfl, hb2⟩
  clear HOP1 q0 q1 q2
  obtain ⟨-, q1, q2⟩ := HBOX.out w2 hb2
  have hsc : Calls Tryz.prog 6 #[.pointer none, .int .i64 S, .int .i64 L] w2 fun e w' => e = .returned (.tuple #[.slice none 0 0, .int .i64 1]) ∧ Below w2.heap.size w2 w' := scan_bad S L none 1 (by omega) w2 (fun W _ => nil_open S L W)
  have HSC := Lib.hid hsc; clear hsc
  have HB2 := Lib.hid hb2; clear hb2
  go_wp2_with fail
  with_reducible refine HSC.out.mono ?_
  rintro e w3 ⟨rfl, hb3⟩
  clear HSC q1 q2
  have hb13 := HB2.out.trans (hb3.mono HB2.out.size)
  obtain ⟨-, q1, q2⟩ := HBOX.out w3 hb13
  have hrc : Calls Tryz.prog 7 #[.pointer none, .int .i64 S, .int .i64 L] w3 fun e w' => e = .returned (.tuple #[.int .i64 0, .int .i64 1]) ∧ Below w3.heap.size w3 w' := recover_bad S L none 1 (by omega) w3 (fun W _ => nil_open S L W)
  have HRC := Lib.hid hrc; clear hrc
  have HB13 := Lib.hid hb13; clear hb13 hb3
  go_wp2_with fail
  with_reducible refine HRC.out.mono ?_
  rintro e w4 ⟨rfl, hb4⟩
  clear HRC q1 q2
  have HEND := Lib.hid (HB1.out.trans ((HB13.out.trans (hb4.mono HB13.out.size)).mono HB1.out.size)); clear hb4
  go_wp2
  go_ret
  exact ⟨rfl, HEND.out⟩

set_option maxRecDepth 100000 in
set_option maxHeartbeats 4000000 in
theorem walk_good (nb s l : Nat) (A : Option Addr) (n c : Nat) (xs : List TxL) (Ab : Option Addr) (bn bc : Nat) (bits : List UInt8) (w : World) (hx : TxsL w w.heap.size A n xs) (hnc : n ≤ c) (hcm : c ≤ maxLen) (hbt : Holds w w.heap.size Ab bn bits) (hbn : bn ≤ maxLen) (hn2 : nb ≤ 1024) (h8 : 8 ≤ l) (hl2 : l ≤ 1024) (hs : s + l ≤ nb) :
    Calls Tryz.prog 3 #[.agg #[.int .i64 (nb : Int), .int .i64 (s : Int), .int .i64 (l : Int)], .slice A n c, .slice Ab bn bc] w fun e w' => e = .returned (.bool true) ∧ Below w.heap.size w w' := by
  have hx0 : Hid ((w.alloc (.cells #[.int .i64 (nb : Int), .int .i64 (s : Int), .int .i64 (l : Int)] 23)).heap[w.heap.size]? = some (.cells #[.int .i64 (nb : Int), .int .i64 (s : Int), .int .i64 (l : Int)] 23 (0, 0))) := Lib.hid (heap_alloc_new w _)
  have hb0 : Hid (Below w.heap.size w (w.alloc (.cells #[.int .i64 (nb : Int), .int .i64 (s : Int), .int .i64 (l : Int)] 23))) := Lib.hid ((Below.refl _ _).alloc (Nat.le_refl _) _)
  have HX := Lib.hid hx; clear hx
  have HBT := Lib.hid hbt; clear hbt
  go_enter Tryz.func3, Tryz.ntmps3
  go_wp2_with fail
  generalize w.alloc (.cells #[.int .i64 (nb : Int), .int .i64 (s : Int), .int .i64 (l : Int)] 23) = W at hx0 hb0 ⊢
  with_reducible refine (Rp.alive_any W).mono ?_
  rintro e w1 ⟨rfl, hb1⟩
  have hwW : w.heap.size < W.heap.size := (Array.getElem?_eq_some_iff.1 hx0.out).1
  have hz1 : w.heap.size < w1.heap.size := by have := hb1.size; omega
  have hx1 := (hb1.block _ hwW).trans hx0.out
  have hbox : ∀ V, Below w1.heap.size w1 V → V.cell? ⟨w.heap.size, 0, none⟩ = some (.int .i64 (nb : Int)) ∧ V.cell? ⟨w.heap.size, 1, none⟩ = some (.int .i64 (s : Int)) ∧ V.cell? ⟨w.heap.size, 2, none⟩ = some (.int .i64 (l : Int)) := fun V hV => by
    have e0 := (hV.block _ hz1).trans hx1
    exact ⟨cell_of_row V _ 0 _ _ _ e0, cell_of_row V _ 1 _ _ _ e0, cell_of_row V _ 2 _ _ _ e0⟩
  obtain ⟨q0, q1, q2⟩ := hbox w1 (Below.refl _ _)
  have HBOX := Lib.hid hbox; clear hbox
  have hb1w := hb0.out.trans (hb1.mono hb0.out.size)
  have hfi := filled_ok nb s l A n c xs w1 ((HX.out.below hb1w).more hb1w.size) hnc hcm hn2 h8 hl2 hs
  obtain ⟨g, hg⟩ : ∃ g, g = fillG nb s (l - 1) ((xs.take (few16 n)).map (·.t)) := ⟨_, rfl⟩
  have hlen : ((xs.take (few16 n)).map (·.t)).length ≤ 16 := by rw [List.length_map, List.length_take]; unfold few16; split <;> omega
  obtain ⟨⟨s0, p0, hinv⟩, hsq⟩ := fillG_inv nb s (l - 1) (by omega) ((xs.take (few16 n)).map (·.t)) (by omega)
  rw [← hg] at hfi hinv hsq
  have hsq : g.seq ≤ 17 := by omega
  clear hg hlen
  obtain ⟨r, hr⟩ : ∃ r, r = l - 1 := ⟨_, rfl⟩
  rw [← hr] at hfi hinv
  obtain ⟨k1, k2, k3, k4⟩ := runs_plain hinv (by omega) bits
  have hroom := hinv.room
  obtain ⟨D, hDe⟩ : ∃ D, D = g.d.crash bits := ⟨_, rfl⟩
  rw [← hDe] at k1 k2 k3 k4
  have hDf : D.fuse = none := by rw [hDe]; rfl
  have hDp : D.pend = [] := by rw [hDe]; rfl
  obtain ⟨N, hN⟩ : ∃ N, N = 256 * nb := ⟨_, rfl⟩
  obtain ⟨im, him⟩ : ∃ im, im = D.stable.flatten := ⟨_, rfl⟩
  have himl : im.length = N := by rw [him, stable_len D k1, k2, hN]
  obtain ⟨ts, hts⟩ : ∃ ts, ts = chainD D s r := ⟨_, rfl⟩
  obtain ⟨nl, hnl⟩ : ∃ nl, nl = ts.length := ⟨_, rfl⟩
  have hnl2 : nl ≤ 1024 := by
    have h1 := chainD_sum D k1 s r (by omega) (by omega)
    rw [← hts, ← hnl] at h1
    omega
  obtain ⟨R, hRe⟩ : ∃ R, R = recD D s r := ⟨_, rfl⟩
  have hRp : R.pend = [] := hRe ▸ (recD_calm D k1 s r hDf).2
  have HFI := Lib.hid hfi; clear hfi
  have HB1 := Lib.hid hb1w; clear hb1w hb1 hx0 hb0 hx1
  have HR := Lib.hid hr; clear hr
  have HDE := Lib.hid hDe; clear hDe
  have HRE := Lib.hid hRe; clear hRe
  have HRP := Lib.hid hRp; clear hRp
  have HDP := Lib.hid hDp; clear hDp
  have HDF := Lib.hid hDf; clear hDf
  have HTS := Lib.hid hts; clear hts
  have HNL := Lib.hid hnl; clear hnl
  have HIM := Lib.hid him; clear him
  have HIML := Lib.hid himl; clear himl
  have HN := Lib.hid hN; clear hN
  have K1 := Lib.hid k1; clear k1
  have K3 := Lib.hid k3; clear k3
  have K4 := Lib.hid k4; clear k4 hinv hsq
  have hN0 : 0 < N := by rw [HN.out]; omega
  go_wp2_with fail
  with_reducible refine HFI.out.mono ?_
  rintro e w2 ⟨p, lp, v, L, rfl, hfd⟩
  clear HFI q0 q1 q2
  obtain ⟨cd, F, A2, c2, hD, hcd, hF, -, -, -, rfl, -, -⟩ := hfd.parts
  have hb12 := hfd.below
  have hz2 := hb12.size
  have hbw2 := HB1.out.trans (hb12.mono HB1.out.size)
  have hst := Rp.Homing.crash (Homing.start hD) (by omega) Ab bn bc w.heap.size bits (fun V hV => HBT.out.below (hbw2.trans hV)) (fun q e => by have := hF q e; omega) (by omega) hbn
  rw [← HDE.out] at hst
  have HST := Lib.hid hst; clear hst hD hfd
  have HF := Lib.hid hF; clear hF
  have HB12 := Lib.hid hb12; clear hb12 hbw2
  go_wp2_with fail
  with_reducible refine HST.out.mono ?_
  rintro e w3 ⟨rfl, hh3⟩
  clear HST
  have hb13 := HB12.out.trans (hh3.turns.below HF.out hz2)
  have hz3 := hb13.size
  obtain ⟨F3, hD3, hF3, -⟩ := hh3
  have hF3l : ∀ q, F3 q → q < w3.heap.size := fun q e => hD3.lt q e
  have hF3w : ∀ q, F3 q → w1.heap.size ≤ q := fun q e => by
    rcases hF3 q e with e | e
    · exact HF.out q e
    · omega
  have hstb : Calls Tryz.prog 10 #[.pointer (some ⟨p, 0, none⟩)] w3 fun e w' => ∃ b c, e = .returned (.slice (some ⟨b, 0, none⟩) N c) ∧ Holds w' w'.heap.size (some ⟨b, 0, none⟩) N im ∧ Below w3.heap.size w3 w' := by
    have h1 := stable_d D p 0 F3 w3 hD3
    rw [← HIM.out] at h1
    refine h1.mono ?_
    rintro e w' ⟨A, c, rfl, ho, hb⟩
    obtain ⟨g, cap, hv, -, -, -, -⟩ := Owned.row ho (by rw [HIML.out]; exact hN0)
    injection hv with e1 e2 e3
    subst e1 e3
    have := Go.Proofs.YtelnoibfamcnmaaGreat.Rec.Owned.reads ho
    rw [HIML.out] at this ⊢
    exact ⟨g, c, rfl, this, hb⟩
  have HSTB := Lib.hid hstb; clear hstb
  have HD3 := Lib.hid hD3; clear hD3 hF3
  have HB13 := Lib.hid hb13; clear hb13
  have HF3L := Lib.hid hF3l; clear hF3l
  have HF3W := Lib.hid hF3w; clear hF3w
  go_wp2_with fail
  with_reducible refine HSTB.out.mono ?_
  rintro e w4 ⟨b4, c4, rfl, hh4, hb4⟩
  clear HSTB
  have hz4 := hb4.size
  have hlo := rload_d ⟨b4, 0, none⟩ N nb c4 w4.heap.size im w4 HN.out (by omega) hn2 hh4 (Nat.le_refl _) D HIM.out k2 K1.out HDF.out HDP.out
  have HLO := Lib.hid hlo; clear hlo hh4
  have HB34 := Lib.hid hb4; clear hb4
  go_wp2_with fail
  with_reducible refine HLO.out.mono ?_
  rintro e w5 ⟨rp, G, rfl, hG5, hGlo, hb5⟩
  clear HLO
  have hz5 := hb5.size
  have hb35 := HB34.out.trans (hb5.mono HB34.out.size)
  have hb15 := HB13.out.trans (hb35.mono HB13.out.size)
  obtain ⟨-, q1, q2⟩ := HBOX.out w5 hb15
  have hsc : Calls Tryz.prog 6 #[.pointer (some ⟨p, 0, none⟩), .int .i64 (s : Int), .int .i64 (l : Int)] w5 (ScanAt w5 nb s r ts) := by
    have h1 := scan_ok s l D p 0 F3 w5 (HD3.out.later hb35) (by omega) h8 hl2 (by omega) (by rw [← HR.out]; exact K3.out)
    rw [← HR.out, k2, ← HTS.out] at h1
    exact h1
  have HSC := Lib.hid hsc; clear hsc
  have HG5 := Lib.hid hG5; clear hG5
  have HGLO := Lib.hid hGlo; clear hGlo
  have HB35 := Lib.hid hb35; clear hb35 hb5
  have HB15 := Lib.hid hb15; clear hb15
  go_wp2_with fail
  refine HSC.out.mono ?_
  rintro e w6 ⟨A6, c6, L6, rfl, hlive6, hmap6, -, hb6⟩
  clear HSC q1 q2
  have hz6 := hb6.size
  have hl6 := ListAt.of hlive6
  have hl6n : L6.length = nl := by rw [HNL.out, ← hmap6, List.length_map]
  rw [← HNL.out]
  have hb16 := HB15.out.trans (hb6.mono HB15.out.size)
  obtain ⟨-, q1, q2⟩ := HBOX.out w6 hb16
  have hsc2 : Calls Tryz.prog 11 #[.pointer (some ⟨rp, 0, none⟩), .int .i64 (s : Int), .int .i64 (l : Int)] w6 (ScanAt w6 nb s r ts) := by
    have h1 := scanr_ok s l D rp 0 G w6 (HG5.out.later hb6) (by omega) h8 hl2 (by omega) (by rw [← HR.out]; exact K3.out)
    rw [← HR.out, k2, ← HTS.out] at h1
    exact h1
  have HSC2 := Lib.hid hsc2; clear hsc2
  have HL6 := Lib.hid hl6; clear hl6 hlive6
  have HM6 := Lib.hid hmap6; clear hmap6
  have HN6 := Lib.hid hl6n; clear hl6n
  have HB56 := Lib.hid hb6; clear hb6
  have HB16 := Lib.hid hb16; clear hb16
  go_wp2_with fail
  refine HSC2.out.mono ?_
  rintro e w7 ⟨A7, c7, L7, rfl, hlive7, hmap7, -, hb7⟩
  clear HSC2 q1 q2
  have hz7 := hb7.size
  have hl7 := ListAt.of hlive7
  rw [← HNL.out]
  have hb57 := HB56.out.trans (hb7.mono HB56.out.size)
  have hb37 := HB35.out.trans (hb57.mono HB35.out.size)
  have hsa := sameall_eq w7 A6 A7 nl c6 c7 L6 L7 (HL6.out.later hb7) hl7 HN6.out (by rw [HM6.out, hmap7]) (by omega)
  have HSA := Lib.hid hsa; clear hsa hl7 hlive7
  have HB57 := Lib.hid hb57; clear hb57
  have HB37 := Lib.hid hb37; clear hb37
  have HB67 := Lib.hid hb7; clear hb7
  have hpd : ∀ V, Below w7.heap.size w7 V → Calls Tryz.prog 13 #[.pointer (some ⟨p, 0, none⟩)] V fun e w' => e = .returned (.int .i64 0) ∧ V = w' := fun V hV => by
    have h1 := pending_d D p 0 F3 V (HD3.out.later (HB37.out.trans (hV.mono HB37.out.size)))
    rw [HDP.out] at h1
    exact h1
  have HPD := Lib.hid hpd; clear hpd
  go_wp2_with fail
  with_reducible refine HSA.out.mono ?_
  rintro e w8 ⟨rfl, hb78⟩
  clear HSA
  have hpd8 := HPD.out w8 hb78
  have HPD8 := Lib.hid hpd8; clear hpd8 HPD
  have HB78 := Lib.hid hb78; clear hb78
  go_wp2_with fail
  with_reducible refine HPD8.out.mono ?_
  rintro e w9 ⟨rfl, rfl⟩
  clear HPD8
  have hb38 := HB37.out.trans (HB78.out.mono HB37.out.size)
  have hb58 := HB57.out.trans (HB78.out.mono HB57.out.size)
  have hb18 := HB13.out.trans (hb38.mono HB13.out.size)
  obtain ⟨-, q1, q2⟩ := HBOX.out w8 hb18
  have hrc : Calls Tryz.prog 7 #[.pointer (some ⟨p, 0, none⟩), .int .i64 (s : Int), .int .i64 (l : Int)] w8 fun e w' => e = .returned (.tuple #[.int .i64 (nl : Int), .int .i64 0]) ∧ Homing w8 p F3 w' R (0 + 62464) := by
    have h1 := recover_ok s l D p 0 F3 w8 (HD3.out.later hb38) (by omega) h8 hl2 (by omega) (by rw [← HR.out]; exact K3.out)
    rw [← HR.out, ← HTS.out, ← HNL.out, ← HRE.out] at h1
    exact h1
  have hG8 := HG5.out.later hb58
  have HRC := Lib.hid hrc; clear hrc
  have HG8 := Lib.hid hG8; clear hG8
  have HB18 := Lib.hid hb18; clear hb18 hb38 hb58
  go_wp2_with fail
  with_reducible refine HRC.out.mono ?_
  rintro e w9 ⟨rfl, hh9⟩
  clear HRC q1 q2
  have hT9 := hh9.turns
  have hb19 := HB18.out.trans (hT9.below HF3W.out HB18.out.size)
  obtain ⟨-, q1, q2⟩ := HBOX.out w9 hb19
  have hap : ∀ q, G q → ¬ F3 q := fun q e e' => by have := HGLO.out q e; have := HF3L.out q e'; omega
  have hG9 : RefDisk w9 rp D 0 G := HG8.out.turns hT9 hap
  obtain ⟨F9, hD9, hF9, -⟩ := hh9
  have hap9 : ∀ q, F9 q → ¬ G q := fun q e e' => by
    rcases hF9 q e with e | e
    · exact hap q e' e
    · have := HG8.out.lt q e'; omega
  have hrc2 : Calls Tryz.prog 14 #[.pointer (some ⟨rp, 0, none⟩), .int .i64 (s : Int), .int .i64 (l : Int)] w9 fun e w' => e = .returned (.tuple #[.int .i64 (nl : Int), .int .i64 0]) ∧ RHoming w9 rp G w' R (0 + 62464) := by
    have h1 := recoverr_ok s l D rp 0 G w9 hG9 (by omega) h8 hl2 (by omega) (by rw [← HR.out]; exact K3.out) (by rw [← HR.out]; exact K4.out)
    rw [← HR.out, ← HTS.out, ← HNL.out, ← HRE.out] at h1
    exact h1
  have HRC2 := Lib.hid hrc2; clear hrc2 hG9 hF9 hap
  have HD9 := Lib.hid hD9; clear hD9
  have HAP9 := Lib.hid hap9; clear hap9
  have HB19 := Lib.hid hb19; clear hb19 hT9
  go_wp2_with fail
  with_reducible refine HRC2.out.mono ?_
  rintro e w10 ⟨rfl, hr10⟩
  clear HRC2 q1 q2
  have hT10 := hr10.turns
  have hb110 := HB19.out.trans (hT10.below (fun q e => by have := HGLO.out q e; have := HB15.out.size; omega) HB19.out.size)
  have hD10 : DiskAt w10 p R (0 + 62464) F9 := HD9.out.turns hT10 HAP9.out
  obtain ⟨G10, hG10, -, -⟩ := hr10
  have hbd : Below w10.heap.size w10 w10.drew := (Below.refl _ w10).drew
  have hi1 := image_d R p _ F9 w10.drew (hD10.later hbd) (by omega)
  unfold ptr at hi1
  obtain ⟨wt, hwt⟩ : ∃ wt, wt = R.image.flatten := ⟨_, rfl⟩
  rw [← hwt] at hi1
  have hi2 : ∀ V, Below w10.heap.size w10 V → Calls Tryz.prog 16 #[.pointer (some ⟨rp, 0, none⟩)] V fun e w' => ∃ v, e = .returned v ∧ Owned w' V.heap.size v wt ∧ Below V.heap.size V w' := fun V hV => by
    have h1 := rimage_d R rp _ G10 V (hG10.later hV) (by omega)
    rw [← hwt] at h1
    exact h1
  have hpd : ∀ V, Below w10.heap.size w10 V → Calls Tryz.prog 13 #[.pointer (some ⟨p, 0, none⟩)] V fun e w' => e = .returned (.int .i64 0) ∧ V = w' := fun V hV => by
    have h1 := pending_d R p _ F9 V (hD10.later hV)
    rw [HRP.out] at h1
    exact h1
  have HI1 := Lib.hid hi1; clear hi1
  have HI2 := Lib.hid hi2; clear hi2 hG10
  have HPD := Lib.hid hpd; clear hpd hD10 hwt
  have HB110 := Lib.hid hb110; clear hb110 hT10 hbd
  go_wp2_with fail
  go_region_held (fun _ => True) (exact trivial)
    (first
      | (go_at_call 15
         with_reducible refine HI1.out.mono ?_
         rintro e wa ⟨Aa, ca, rfl, hoa, hba⟩
         have hba' : Below w10.heap.size w10 wa := (Below.refl w10.heap.size w10).drew.trans hba
         have hra := Go.Proofs.YtelnoibfamcnmaaGreat.Rec.Owned.reads hoa
         have ua := run_text wa wa.heap.size Aa wt.length ca wt hra
         have hi2a := HI2.out wa hba'
         have HI2A := Lib.hid hi2a
         have HRA := Lib.hid hra
         have HBA := Lib.hid hba'
         clear hba hba' hoa hra hi2a)
      | (go_at_call 16
         with_reducible refine HI2A.out.mono ?_
         rintro e wb ⟨vb, rfl, hob, hbb⟩
         obtain ⟨Ab2, cb2, rfl⟩ := Go.Proofs.YtelnoibfamcnmaaGreat.Rec.Owned.shape hob
         have hbb' : Below w10.heap.size w10 wb := HBA.out.trans (hbb.mono HBA.out.size)
         have ub1 := run_text wb wa.heap.size Aa wt.length ca wt (HRA.out.below hbb)
         have ub2 := run_text wb wb.heap.size Ab2 wt.length cb2 wt (Go.Proofs.YtelnoibfamcnmaaGreat.Rec.Owned.reads hob)
         have hpdb := HPD.out wb hbb'
         have HPDB := Lib.hid hpdb
         have HBB := Lib.hid hbb'
         clear hbb hbb' hob hpdb)
      | (go_at_call 13
         with_reducible refine HPDB.out.mono ?_
         rintro e wz ⟨rfl, rfl⟩))
  all_goals
    go_wp2
    go_ret
    exact ⟨by simp, HB1.out.trans ((HB110.out.trans (HBB.out.mono HB110.out.size)).mono HB1.out.size)⟩

theorem walks : Walks 3 Tryz.f3 All := by
  intro H enc W base args ds p hval hA hsz _
  rw [Tryz.params3] at hA hval hsz
  obtain ⟨v0, vs0, d0, ds0, p0, q0, hargs, rfl, rfl, h0, r0⟩ := trodAll_cons hA
  obtain ⟨v1, vs1, d1, ds1, p1, q1, rfl, rfl, rfl, h1, r1⟩ := trodAll_cons r0
  obtain ⟨v2, vs2, d2, ds2, p2, q2, rfl, rfl, rfl, h2, r2⟩ := trodAll_cons r1
  obtain ⟨rfl, rfl, rfl⟩ := trodAll_nil r2
  obtain rfl : args = #[v0, v1, v2] := by cases args; simp_all
  obtain ⟨B, S, L, rfl⟩ := area5_by_value (hval 0 _ v0 rfl rfl) h0
  have hw : (d1.weights Tryz.prog 24).all (· ≤ reachBytes) = true := List.all_eq_true.2 fun x hx => List.all_eq_true.1 hsz _ (DataW.weights_mem_each (j := 1) rfl rfl x hx)
  obtain ⟨A, n, c, xs, rfl, hx, hn, hc⟩ := txs_of (hval 1 _ v1 rfl rfl) h1 hw
  obtain ⟨Ab, bn, bc, bits, rfl, hb, hbn, hbc⟩ := bits_of (hval 2 _ v2 rfl rfl) h2
  cases hm : mayB B
  · exact walk_bad B S L _ _ W (fun w1 => filled_none B S L _ w1 hm)
  · simp [mayB] at hm
    obtain ⟨nb, rfl⟩ : ∃ nb : Nat, B = (nb : Int) := ⟨B.toNat, by omega⟩
    cases ha : okArea nb S L
    · exact walk_bad _ S L _ _ W (fun w1 => filled_not nb S L _ w1 (by omega) (by omega) ha)
    · simp [okArea] at ha
      obtain ⟨s, rfl⟩ : ∃ s : Nat, S = (s : Int) := ⟨S.toNat, by omega⟩
      obtain ⟨l, rfl⟩ : ∃ l : Nat, L = (l : Int) := ⟨L.toNat, by omega⟩
      exact walk_good nb s l A n c xs Ab bn bc bits W hx hn hc hb (by omega) (by omega) (by omega) (by omega) (by omega)

set_option maxRecDepth 100000 in
theorem proved : Rows.ReplayRunsSaid :=
  OpenClaim.holds_of_wide 3 Tryz.f3 rfl rfl rfl rfl rfl rfl rfl ⟨rfl, rfl, rfl, rfl, rfl⟩ rfl rfl rfl rfl rfl (by kernel_rfl) Tryz.func3 (by kernel_rfl)
    (of_decide_eq_true (by kernel_rfl)) (by unfold Func.isWrapper; first | (rw [if_pos (by decide +kernel)]; kernel_rfl) | (rw [if_neg (by decide +kernel)]; exact ⟨rfl, rfl⟩))
    (fun os started H enc _ => lifted (s := Rows.replayRunsSpec) walks (by kernel_rfl) rfl rfl (fun H ds hl => by match ds, hl with | [d1, d2, d3], _ => rfl) (by kernel_rfl) Tryz.func3 os started H enc
      (ChangeSpec.witness6 (enc := enc) (C := Tryz.checked) false ⟨#[], #[.agg #[.int .i64 0, .int .i64 0, .int .i64 0], .slice none 0 0, .slice none 0 0], []⟩ 8 (by kernel_rfl) (by kernel_rfl) (by kernel_rfl) (by kernel_rfl)))
#print axioms proved
end Go.Proofs.YtelnoibfamcnmaaGreat.ReplayRuns
