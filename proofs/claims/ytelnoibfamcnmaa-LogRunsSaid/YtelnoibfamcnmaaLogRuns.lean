/- Law 4: both logs run alike. -/
import Derived.Test.YtelnoibfamcnmaaLgDoA
import Derived.Test.YtelnoibfamcnmaaDkTwin
import Derived.Test.YtelnoibfamcnmaaLift
namespace Go.Proofs.Ytelnoibfamcnmaa.LogRuns
set_option maxRecDepth 20000
open Go.ChangeShapes Go.WideShapes Go.ChangeAt Go.RowKit
open Go.Proofs.Ytelnoibfamcnmaa.Mem Go.Proofs.Ytelnoibfamcnmaa.Lift Go.Proofs.Ytelnoibfamcnmaa.Crc Go.Proofs.Ytelnoibfamcnmaa.Disk Go.Proofs.Ytelnoibfamcnmaa.Log

set_option maxRecDepth 100000 in
set_option maxHeartbeats 4000000 in
theorem walk_bad (A : Option Addr) (n0 c0 : Nat) (B S L : Int) (w : World) (hb : mayB B = false) :
    Calls Try.prog 5 #[.agg #[.int .i64 B, .int .i64 S, .int .i64 L], .slice A n0 c0] w fun e w' => e = .returned (.bool true) ∧ Below w.heap.size w w' := by
  have hb1 : Below w.heap.size w (w.alloc (.cells #[.int .i64 B, .int .i64 S, .int .i64 L] 50)) := (Below.refl w.heap.size w).alloc (Nat.le_refl _) _
  have hx1 : (w.alloc (.cells #[.int .i64 B, .int .i64 S, .int .i64 L] 50)).heap[w.heap.size]? = some (.cells #[.int .i64 B, .int .i64 S, .int .i64 L] 50 (0, 0)) := heap_alloc_new w _
  have HB1 := Lib.hid hb1; clear hb1
  have HX1 := Lib.hid hx1; clear hx1
  have HM := Lib.hid hb; clear hb
  go_enter Try.func5, Try.ntmps5
  go_wp2_with fail
  generalize w.alloc (.cells #[.int .i64 B, .int .i64 S, .int .i64 L] 50) = W at HB1 HX1 ⊢
  refine (Go.Proofs.Ytelnoibfamcnmaa.Log.alive_any _).mono ?_
  rintro e w1 ⟨rfl, hb⟩
  have hx2 := (hb.block _ (Array.getElem?_eq_some_iff.1 HX1.out).1).trans HX1.out
  have q0 : w1.cell? ⟨w.heap.size, 0, none⟩ = some (.int .i64 B) := cell_of_row w1 _ 0 _ _ _ hx2
  have q1 : w1.cell? ⟨w.heap.size, 1, none⟩ = some (.int .i64 S) := cell_of_row w1 _ 1 _ _ _ hx2
  have q2 : w1.cell? ⟨w.heap.size, 2, none⟩ = some (.int .i64 L) := cell_of_row w1 _ 2 _ _ _ hx2
  have HB2 : Hid (Below w.heap.size w w1) := Lib.hid (HB1.out.trans (hb.mono HB1.out.size))
  have HX2 := Lib.hid hx2
  clear hb hx2 HX1 HB1
  go_wp2_with fail
  with_reducible refine (new_bad B w1 HM.out).mono ?_
  rintro e w2 ⟨rfl, rfl⟩
  go_wp2_with fail
  with_reducible refine (rnew_bad B w1 HM.out).mono ?_
  rintro e w2 ⟨rfl, rfl⟩
  go_wp2_with fail
  with_reducible refine (open_nil S L w1).mono ?_
  rintro e w3 ⟨rfl, hb3⟩
  have hx3 := (hb3.block _ (Array.getElem?_eq_some_iff.1 HX2.out).1).trans HX2.out
  have q1 : w3.cell? ⟨w.heap.size, 1, none⟩ = some (.int .i64 S) := cell_of_row w3 _ 1 _ _ _ hx3
  have q2 : w3.cell? ⟨w.heap.size, 2, none⟩ = some (.int .i64 L) := cell_of_row w3 _ 2 _ _ _ hx3
  have HB3 : Hid (Below w.heap.size w w3) := Lib.hid (HB2.out.trans (hb3.mono HB2.out.size))
  clear hb3 hx3 HX2 HB2
  go_wp2_with fail
  with_reducible refine (format_nil S L w3).mono ?_
  rintro e w4 ⟨rfl, hb4⟩
  have HB4 : Hid (Below w.heap.size w w4) := Lib.hid (HB3.out.trans (hb4.mono HB3.out.size))
  clear hb4 HB3
  go_wp2
  go_ret
  exact ⟨rfl, HB4.out⟩

set_option maxRecDepth 100000 in
set_option maxHeartbeats 4000000 in
theorem walk_not (A : Option Addr) (n0 c0 nb : Nat) (S L : Int) (w : World) (hn1 : 1 ≤ nb) (hn2 : nb ≤ 1024) (ha : okArea nb S L = false) :
    Calls Try.prog 5 #[.agg #[.int .i64 (nb : Int), .int .i64 S, .int .i64 L], .slice A n0 c0] w fun e w' => e = .returned (.bool true) ∧ Below w.heap.size w w' := by
  have hb1 : Below w.heap.size w (w.alloc (.cells #[.int .i64 (nb : Int), .int .i64 S, .int .i64 L] 50)) := (Below.refl w.heap.size w).alloc (Nat.le_refl _) _
  have hx1 : (w.alloc (.cells #[.int .i64 (nb : Int), .int .i64 S, .int .i64 L] 50)).heap[w.heap.size]? = some (.cells #[.int .i64 (nb : Int), .int .i64 S, .int .i64 L] 50 (0, 0)) := heap_alloc_new w _
  have HB1 := Lib.hid hb1; clear hb1
  have HX1 := Lib.hid hx1; clear hx1
  have hsn : (Dk.Dk.new nb).stable.length = nb := by simp [Dk.Dk.new]
  have HSN := Lib.hid hsn; clear hsn
  have HN1 := Lib.hid hn1; clear hn1
  have HN2 := Lib.hid hn2; clear hn2
  have HA := Lib.hid ha; clear ha
  go_enter Try.func5, Try.ntmps5
  go_wp2_with fail
  generalize w.alloc (.cells #[.int .i64 (nb : Int), .int .i64 S, .int .i64 L] 50) = W at HB1 HX1 ⊢
  refine (Go.Proofs.Ytelnoibfamcnmaa.Log.alive_any _).mono ?_
  rintro e w1 ⟨rfl, hb⟩
  have hx2 := (hb.block _ (Array.getElem?_eq_some_iff.1 HX1.out).1).trans HX1.out
  have hz1 : w.heap.size < w1.heap.size := (Array.getElem?_eq_some_iff.1 hx2).1
  have q0 : w1.cell? ⟨w.heap.size, 0, none⟩ = some (.int .i64 (nb : Int)) := cell_of_row w1 _ 0 _ _ _ hx2
  have HB2 : Hid (Below w.heap.size w w1) := Lib.hid (HB1.out.trans (hb.mono HB1.out.size))
  have HX2 := Lib.hid hx2; clear hx2
  have HZ1 := Lib.hid hz1; clear hz1
  clear hb HX1 HB1
  go_wp2_with fail
  with_reducible refine (new_d (nb : Int) nb 0 w1 rfl HN1.out HN2.out).mono ?_
  rintro e w2 ⟨p, F, rfl, hD, hF, hb2⟩
  unfold ptr
  have hx3 := (hb2.block _ HZ1.out).trans HX2.out
  have q0' : w2.cell? ⟨w.heap.size, 0, none⟩ = some (.int .i64 (nb : Int)) := cell_of_row w2 _ 0 _ _ _ hx3
  have HD2 := Lib.hid hD; clear hD
  have HF2 := Lib.hid hF; clear hF
  have HBB2 := Lib.hid hb2; clear hb2
  clear hx3 q0
  go_wp2_with fail
  with_reducible refine (rnew_d nb w2 HN1.out HN2.out).mono ?_
  rintro e w3 ⟨r, G, rfl, hR, hG, hb3⟩
  unfold ptr
  have hduo := duo_new (w := w1) HD2.out HF2.out HBB2.out hR hG hb3
  have HDUO := Lib.hid hduo
  have HBB3 : Hid (Below w1.heap.size w1 w3) := Lib.hid hduo.below
  clear hR hG hb3 HD2 HF2 HBB2 q0' hduo
  have y := (HBB3.out.block _ HZ1.out).trans HX2.out
  have s1 : w3.cell? ⟨w.heap.size, 1, none⟩ = some (.int .i64 S) := cell_of_row w3 _ 1 _ _ _ y
  have s2 : w3.cell? ⟨w.heap.size, 2, none⟩ = some (.int .i64 L) := cell_of_row w3 _ 2 _ _ _ y
  clear y
  have hfm := format_not S L _ p 0 F w3 HDUO.out.one (by rw [HSN.out]; exact HA.out)
  unfold ptr at hfm
  have HFM := Lib.hid hfm; clear hfm
  go_wp2_with fail
  with_reducible refine HFM.out.mono ?_
  rintro e w4 ⟨rfl, hb4⟩
  have hduo := HDUO.out.below' hb4
  have HDUO4 := Lib.hid hduo
  have HBB4 : Hid (Below w1.heap.size w1 w4) := Lib.hid hduo.below
  clear hb4 HFM s1 s2 hduo HDUO HBB3
  have y := (HBB4.out.block _ HZ1.out).trans HX2.out
  have s1 : w4.cell? ⟨w.heap.size, 1, none⟩ = some (.int .i64 S) := cell_of_row w4 _ 1 _ _ _ y
  have s2 : w4.cell? ⟨w.heap.size, 2, none⟩ = some (.int .i64 L) := cell_of_row w4 _ 2 _ _ _ y
  have s0 : w4.cell? ⟨w.heap.size, 0, none⟩ = some (.int .i64 (nb : Int)) := cell_of_row w4 _ 0 _ _ _ y
  clear y
  have hfr := formatr_not S L _ r 0 G w4 HDUO4.out.two (by rw [HSN.out]; exact HN2.out) (by rw [HSN.out]; exact HA.out)
  have HFR := Lib.hid hfr; clear hfr
  go_wp2_with fail
  with_reducible refine HFR.out.mono ?_
  rintro e w5 ⟨rfl, rfl⟩
  clear HFR
  have hop := opened_not nb S L w4 HN1.out HN2.out HA.out
  have HOP := Lib.hid hop; clear hop
  go_wp2_with fail
  with_reducible refine HOP.out.mono ?_
  rintro e w6 ⟨rfl, hb6⟩
  have hba := hb6.trans ((Below.refl w6.heap.size w6).alloc (Nat.le_refl _) (.cells #[.pointer none, .pointer none, .pointer none] 59) |>.mono hb6.size)
  have hduo6 := HDUO4.out.below' hba
  have y := (hduo6.below.block _ HZ1.out).trans HX2.out
  have s1' := cell_of_row _ w.heap.size 1 _ _ _ y
  have s2' := cell_of_row _ w.heap.size 2 _ _ _ y
  have HDUO6 := Lib.hid hduo6
  clear hba HOP s0 s1 s2 HDUO4 HBB4 y hduo6 hb6
  go_wp2_with fail
  generalize w6.alloc (.cells #[.pointer none, .pointer none, .pointer none] 59) = w7 at HDUO6 s1' s2' ⊢
  have hon := open_not S L _ p 0 F w7 HDUO6.out.one (by rw [HSN.out]; exact HA.out)
  unfold ptr at hon
  with_reducible refine hon.mono ?_
  rintro e w8 ⟨rfl, hb8⟩
  have HB8 : Hid (Below w.heap.size w w8) := Lib.hid (HB2.out.trans ((HDUO6.out.below' hb8).below.mono HB2.out.size))
  clear hb8 hon HDUO6 s1' s2'
  go_wp2
  go_ret
  exact ⟨rfl, HB8.out⟩

theorem do_any (w : World) (F G : Nat → Prop) (lp p m r s l n k cb : Nat) (g : Lg) (hP : PairAt w w F G NoX lp p m r s l n g k cb) (x : DeedL) (B : Nat) (hx : x.Is w B) (hB : B ≤ w.heap.size) (hFB : ∀ q, F q → B ≤ q ∧ q < w.heap.size) (hGB : ∀ q, G q → B ≤ q ∧ q < w.heap.size) (hlB : B ≤ lp ∧ lp < w.heap.size) (hmB : B ≤ m ∧ m < w.heap.size)
    (hWd : Go.Proofs.Ytelnoibfamcnmaa.Rec.Wide x.t) (hsq : g.seq ≤ 1048576) (hkb : k + 1 ≤ 1048576) (hcb : cb + 58 * k + 61 < 1048576) :
    Calls Try.prog 38 #[pairV p lp m, deedV x] w (Did w F G lp p m r s l n k cb g) := by
  obtain ⟨kk, hk, hop⟩ := and3n x.op
  rcases (show kk = 0 ∨ kk = 1 ∨ kk = 2 ∨ kk = 3 by omega) with rfl | h
  · exact do_append w F G lp p m r s l n k cb g hP x B hx hB hFB hGB hlB hmB hWd hsq hkb hop hcb
  · exact do_rest w F G lp p m r s l n k cb kk g hP x B hx hB hFB hGB hlB hmB h hop hcb

theorem chain {w3 wr w9 : World} {F0 G0 F1 G1 Z Z' : Nat → Prop} {lp p m r s l n k cb k' cb' : Nat} {g g' : Lg} (h : PairAt w3 wr F0 G0 Z lp p m r s l n g k cb) (h2 : PairAt wr w9 F1 G1 Z' lp p m r s l n g' k' cb')
    (hF1 : ∀ q, F1 q → F0 q ∨ w3.heap.size ≤ q) (hG1 : ∀ q, G1 q → G0 q ∨ w3.heap.size ≤ q) : PairAt w3 w9 F0 G0 Z' lp p m r s l n g' k' cb' := by
  obtain ⟨F2, G2, hK, hD, b1, b2, b3, b4, b5, b6, b7, b8, b9⟩ := h2.logs
  have hsz := h.turns.size
  refine ⟨h.turns.trans h2.turns (fun i hi e => ?_), h2.fit, F2, G2, hK, hD, b1, b2, b3, b4, b5, fun q e => ⟨?_, (b6 q e).2⟩, fun q e => ⟨?_, (b7 q e).2⟩, b8, b9⟩
  · rcases e with e | e | e | e
    · exact (hF1 i e).elim .inl (fun e => by omega)
    · exact .inr (.inl e)
    · exact (hG1 i e).elim (fun e => .inr (.inr (.inl e))) (fun e => by omega)
    · exact .inr (.inr (.inr e))
  · exact (b6 q e).1.elim (hF1 q) (fun e => .inr (by omega))
  · exact (b7 q e).1.elim (hG1 q) (fun e => .inr (by omega))

set_option maxRecDepth 100000 in
set_option maxHeartbeats 8000000 in
theorem walk_good (nb s l : Nat) (A : Option Addr) (n c : Nat) (xs : List DeedL) (w : World) (hx : DeedsL w w.heap.size A n xs) (hwd : ∀ x ∈ xs, Go.Proofs.Ytelnoibfamcnmaa.Rec.Wide x.t) (hnc : n ≤ c) (hcm : c ≤ maxLen) (hn2 : nb ≤ 1024) (h8 : 8 ≤ l) (hl2 : l ≤ 1024) (hs : s + l ≤ nb) :
    Calls Try.prog 5 #[.agg #[.int .i64 (nb : Int), .int .i64 (s : Int), .int .i64 (l : Int)], .slice A n c] w fun e w' => e = .returned (.bool true) ∧ Below w.heap.size w w' := by
  have hb1 : Below w.heap.size w (w.alloc (.cells #[.int .i64 (nb : Int), .int .i64 (s : Int), .int .i64 (l : Int)] 50)) := (Below.refl w.heap.size w).alloc (Nat.le_refl _) _
  have hx1 : (w.alloc (.cells #[.int .i64 (nb : Int), .int .i64 (s : Int), .int .i64 (l : Int)] 50)).heap[w.heap.size]? = some (.cells #[.int .i64 (nb : Int), .int .i64 (s : Int), .int .i64 (l : Int)] 50 (0, 0)) := heap_alloc_new w _
  have HB1 := Lib.hid hb1; clear hb1
  have HX1 := Lib.hid hx1; clear hx1
  have hsn : (Dk.Dk.new nb).stable.length = nb := by simp [Dk.Dk.new]
  have HSN := Lib.hid hsn; clear hsn
  have HN2 := Lib.hid hn2; clear hn2
  have HS := Lib.hid hs; clear hs
  have HL2 := Lib.hid hl2; clear hl2
  have HX := Lib.hid hx; clear hx
  have H8 := Lib.hid h8; clear h8
  have HWD := Lib.hid hwd; clear hwd
  go_enter Try.func5, Try.ntmps5
  go_wp2_with fail
  generalize w.alloc (.cells #[.int .i64 (nb : Int), .int .i64 (s : Int), .int .i64 (l : Int)] 50) = W at HB1 HX1 ⊢
  refine (Go.Proofs.Ytelnoibfamcnmaa.Log.alive_any _).mono ?_
  rintro e w1 ⟨rfl, hb⟩
  have hx2 := (hb.block _ (Array.getElem?_eq_some_iff.1 HX1.out).1).trans HX1.out
  have hz1 : w.heap.size < w1.heap.size := (Array.getElem?_eq_some_iff.1 hx2).1
  have q0 : w1.cell? ⟨w.heap.size, 0, none⟩ = some (.int .i64 (nb : Int)) := cell_of_row w1 _ 0 _ _ _ hx2
  have HB2 : Hid (Below w.heap.size w w1) := Lib.hid (HB1.out.trans (hb.mono HB1.out.size))
  have HX2 := Lib.hid hx2; clear hx2
  have HZ1 := Lib.hid hz1; clear hz1
  clear hb HX1 HB1
  go_wp2_with fail
  with_reducible refine (new_d (nb : Int) nb 0 w1 rfl (by have := HS.out; have := H8.out; omega) HN2.out).mono ?_
  rintro e w2 ⟨p0, F0, rfl, hD, hF, hb2⟩
  unfold ptr
  have hx3 := (hb2.block _ HZ1.out).trans HX2.out
  have q0' : w2.cell? ⟨w.heap.size, 0, none⟩ = some (.int .i64 (nb : Int)) := cell_of_row w2 _ 0 _ _ _ hx3
  have HD2 := Lib.hid hD; clear hD
  have HF2 := Lib.hid hF; clear hF
  have HBB2 := Lib.hid hb2; clear hb2
  clear hx3 q0
  go_wp2_with fail
  with_reducible refine (rnew_d nb w2 (by have := HS.out; have := H8.out; omega) HN2.out).mono ?_
  rintro e w3 ⟨r0, G0, rfl, hR, hG, hb3⟩
  unfold ptr
  have hduo := duo_new (w := w1) HD2.out HF2.out HBB2.out hR hG hb3
  have HDUO := Lib.hid hduo
  have HBB3 : Hid (Below w1.heap.size w1 w3) := Lib.hid hduo.below
  clear hR hG hb3 HD2 HF2 HBB2 q0' hduo
  have y := (HBB3.out.block _ HZ1.out).trans HX2.out
  have s1 : w3.cell? ⟨w.heap.size, 1, none⟩ = some (.int .i64 (s : Int)) := cell_of_row w3 _ 1 _ _ _ y
  have s2 : w3.cell? ⟨w.heap.size, 2, none⟩ = some (.int .i64 (l : Int)) := cell_of_row w3 _ 2 _ _ _ y
  clear y
  have hfm := format_d s l _ _ rfl rfl _ p0 0 F0 w3 HDUO.out.one (by omega) H8.out (by rw [HSN.out]; exact HS.out)
  unfold ptr at hfm
  have HFM := Lib.hid hfm; clear hfm
  go_wp2_with fail
  with_reducible refine HFM.out.mono ?_
  rintro e w4 ⟨F1, rfl, -, -, hT4⟩
  have hrd := HDUO.out.two.turns hT4 (fun k e e' => HDUO.out.apart k e' e)
  have HRD := Lib.hid hrd; clear hrd
  have hbb4 : Below w1.heap.size w1 w4 := HBB3.out.trans (hT4.below (fun k e => HDUO.out.lowF k e) HBB3.out.size)
  have HLG := Lib.hid HDUO.out.lowG
  have y := (hbb4.block _ HZ1.out).trans HX2.out
  have HBB4 := Lib.hid hbb4
  clear hbb4 hT4 s1 s2 HFM HDUO HBB3
  have s1 : w4.cell? ⟨w.heap.size, 1, none⟩ = some (.int .i64 (s : Int)) := cell_of_row w4 _ 1 _ _ _ y
  have s2 : w4.cell? ⟨w.heap.size, 2, none⟩ = some (.int .i64 (l : Int)) := cell_of_row w4 _ 2 _ _ _ y
  clear y
  have hfr := formatr_d s l _ _ rfl rfl _ r0 0 G0 w4 HRD.out (by omega) H8.out (by rw [HSN.out]; exact HN2.out) (by rw [HSN.out]; exact HS.out)
  have HFR := Lib.hid hfr; clear hfr
  go_wp2_with fail
  with_reducible refine HFR.out.mono ?_
  rintro e w5 ⟨G1, rfl, -, -, hT5⟩
  have hbb5 : Below w1.heap.size w1 w5 := HBB4.out.trans (hT5.below (fun k e => HLG.out k e) HBB4.out.size)
  have y := (hbb5.block _ HZ1.out).trans HX2.out
  have HB5 : Hid (Below w.heap.size w w5) := Lib.hid (HB2.out.trans (hbb5.mono HB2.out.size))
  have hz5 : w.heap.size < w5.heap.size := (Array.getElem?_eq_some_iff.1 y).1
  have HZ5 := Lib.hid hz5; clear hz5
  clear hT5 HBB4 HFR HRD HLG hbb5 s1 s2 HX2 HB2 HZ1
  have s0 : w5.cell? ⟨w.heap.size, 0, none⟩ = some (.int .i64 (nb : Int)) := cell_of_row w5 _ 0 _ _ _ y
  have s1 : w5.cell? ⟨w.heap.size, 1, none⟩ = some (.int .i64 (s : Int)) := cell_of_row w5 _ 1 _ _ _ y
  have s2 : w5.cell? ⟨w.heap.size, 2, none⟩ = some (.int .i64 (l : Int)) := cell_of_row w5 _ 2 _ _ _ y
  clear y
  have hop := opened_ok nb s l w5 HN2.out H8.out HS.out
  have HOP := Lib.hid hop; clear hop
  go_wp2_with fail
  with_reducible refine HOP.out.mono ?_
  rintro e w6 ⟨p, r, lp, m, F, G, rfl, hfr, hb6⟩
  have HFR := Lib.hid hfr
  have HB6 : Hid (Below w.heap.size w w6) := Lib.hid (HB5.out.trans (hb6.mono HB5.out.size))
  have hz6 : w5.heap.size ≤ w6.heap.size := hb6.size
  have HZ6 := Lib.hid hz6; clear hz6
  clear hb6 hfr HOP s0 s1 s2 HB5
  obtain ⟨w7, hw7⟩ : ∃ y, y = w6.alloc (.cells #[.pointer (some ⟨p, 0, none⟩), .pointer (some ⟨lp, 0, none⟩), .pointer (some ⟨m, 0, none⟩)] 59) := ⟨_, rfl⟩
  have hb7 : Below w6.heap.size w6 w7 := hw7 ▸ (Below.refl _ _).alloc (Nat.le_refl _) _
  have hv7 : w7.heap[w6.heap.size]? = some (.cells #[.pointer (some ⟨p, 0, none⟩), .pointer (some ⟨lp, 0, none⟩), .pointer (some ⟨m, 0, none⟩)] 59 (0, 0)) := hw7 ▸ heap_alloc_new w6 _
  have hp7 := HFR.out.paired hb7 H8.out HL2.out HS.out HN2.out
  have HP7 := Lib.hid hp7; clear hp7
  have hfew := Go.Proofs.Ytelnoibfamcnmaa.Log.few_any A n c w7 hnc hcm (fun h => by obtain ⟨b, off, e, _⟩ := HX.out.2.1 h; exact ⟨b, off, e⟩)
  have hBw : Below w.heap.size w w7 := HB6.out.trans (hb7.mono HB6.out.size)
  have hx7 := (HX.out.below hBw).take (k := fewL n) (by unfold fewL; split <;> omega)
  have hN24 : fewL n ≤ 24 := by unfold fewL; split <;> omega
  obtain ⟨N, hN⟩ : ∃ N, N = fewL n := ⟨_, rfl⟩
  rw [← hN] at hfew hx7 hN24
  have hFw : ∀ q, F q → w.heap.size ≤ q ∧ q < w6.heap.size := fun q hq => ⟨by have := (HFR.out.lowF q hq).1; have := HZ5.out; omega, HFR.out.one.lt q hq⟩
  have hGw : ∀ q, G q → w.heap.size ≤ q ∧ q < w6.heap.size := fun q hq => ⟨by have := (HFR.out.lowG q hq).1; have := HZ5.out; omega, HFR.out.two.lt q hq⟩
  have hlpw : w.heap.size ≤ lp ∧ lp < w6.heap.size := ⟨by have := HFR.out.low.1; have := HZ5.out; omega, (Array.getElem?_eq_some_iff.1 HFR.out.log).1⟩
  have hmw : w.heap.size ≤ m ∧ m < w6.heap.size := ⟨by have := HFR.out.low.2.1; have := HZ5.out; omega, (Array.getElem?_eq_some_iff.1 HFR.out.doc).1⟩
  have hz7 : w6.heap.size < w7.heap.size := (Array.getElem?_eq_some_iff.1 hv7).1
  have hz66 : w.heap.size ≤ w6.heap.size := HB6.out.size
  have HFW := Lib.hid hFw; clear hFw
  have HGW := Lib.hid hGw; clear hGw
  have HLPW := Lib.hid hlpw; clear hlpw
  have HMW := Lib.hid hmw; clear hmw
  have HZ7 := Lib.hid hz7; clear hz7
  have HZ66 := Lib.hid hz66; clear hz66
  have HBW := Lib.hid hBw; clear hBw
  have HFEW := Lib.hid hfew; clear hfew
  have HX7 := Lib.hid hx7; clear hx7
  have HV7 := Lib.hid hv7; clear hv7
  have HW7 := Lib.hid hw7; clear hw7
  clear hb7 HFR HX hN hnc hcm HB6 HZ5 HZ6 HSN
  go_wp2_with fail
  rw [← HW7.out]
  clear HW7
  with_reducible refine HFEW.out.mono ?_
  rintro e w8 ⟨rfl, rfl⟩
  clear HFEW
  -- what a later world keeps
  have hlater : ∀ V g k cb, PairAt w7 V F G NoX lp p m r s l nb g k cb → V.heap[w6.heap.size]? = some (.cells #[.pointer (some ⟨p, 0, none⟩), .pointer (some ⟨lp, 0, none⟩), .pointer (some ⟨m, 0, none⟩)] 59 (0, 0)) ∧ DeedsL V w.heap.size A N (xs.take N) ∧ Below w.heap.size w V ∧ w7.heap.size ≤ V.heap.size := fun V g k cb hg => by
    have hT := hg.turns
    have h7 := HZ7.out
    have h66 := HZ66.out
    have hl := HLPW.out
    have hm := HMW.out
    have hbl : Below w.heap.size w7 V := hT.below (fun k hk => by
      rcases hk with e | e | e | e
      · exact (HFW.out k e).1
      · omega
      · exact (HGW.out k e).1
      · omega) (by omega)
    exact ⟨(hT.block _ (by omega) (fun e => by
      rcases e with e | e | e | e
      · have := (HFW.out _ e).2; omega
      · omega
      · have := (HGW.out _ e).2; omega
      · omega)).trans HV7.out, HX7.out.below hbl, HBW.out.trans hbl, hT.size⟩
  have HLATER := Lib.hid hlater; clear hlater
  go_wp2_with fail
  go_loopw [17] (fun i wr => ∃ (k : Nat) (g : Lg), k ≤ N ∧ i = .int .i64 (k : Int) ∧ g.seq ≤ k + 1 ∧ PairAt w7 wr F G NoX lp p m r s l nb g k (1 + 3000 * k)) (fun i _ => N - (intOf i).toNat)
  case atStart => exact ⟨0, Lg.fresh nb s, by omega, rfl, by simp [Lg.fresh], HP7.out⟩
  case round =>
    obtain ⟨k, g, hk, rfl, hsq, hg⟩ := hrel
    rcases Nat.lt_or_ge k N with hlt | hge
    · obtain ⟨b, off, rfl, hbl, hcells⟩ := HX7.out.2.1 (by omega)
      have hxl : (xs.take N).length = N := HX7.out.1
      obtain ⟨x, hx⟩ : ∃ x, x = (xs.take N)[k]'(by omega) := ⟨_, rfl⟩
      have hmem : x ∈ xs.take N := hx ▸ List.getElem_mem _
      have hwx : Go.Proofs.Ytelnoibfamcnmaa.Rec.Wide x.t := HWD.out x (List.mem_of_mem_take hmem)
      have hS : ∀ V g k' cb, PairAt w7 V F G NoX lp p m r s l nb g k' cb → (V.cell? ⟨w6.heap.size, 0, none⟩ = some (.pointer (some ⟨p, 0, none⟩)) ∧ V.cell? ⟨w6.heap.size, 1, none⟩ = some (.pointer (some ⟨lp, 0, none⟩)) ∧ V.cell? ⟨w6.heap.size, 2, none⟩ = some (.pointer (some ⟨m, 0, none⟩))) ∧ V.cell? ⟨b, off + k * 5, none⟩ = some (.int .i64 x.op) ∧ V.cell? ⟨b, off + k * 5 + 1, none⟩ = some (.int .u64 (x.t.seq : Int)) ∧ V.cell? ⟨b, off + k * 5 + 2, none⟩ = some (.slice x.Aw x.nw x.cw) ∧ V.cell? ⟨b, off + k * 5 + 3, none⟩ = some (.slice x.Ar x.nr x.cr) ∧ V.cell? ⟨b, off + k * 5 + 4, none⟩ = some (.slice x.Ab x.nb x.cb) := fun V g k' cb hgV => by
        obtain ⟨e1, e3, e4, _⟩ := HLATER.out V g k' cb hgV
        obtain ⟨b2, off2, ee, _, hc2⟩ := e3.2.1 (by omega)
        injection ee with ee
        injection ee with ee1 ee2
        subst ee1 ee2
        have g0 := hc2 k (by omega) 0 (by omega)
        have g1 := hc2 k (by omega) 1 (by omega)
        have g2 := hc2 k (by omega) 2 (by omega)
        have g3 := hc2 k (by omega) 3 (by omega)
        have g4 := hc2 k (by omega) 4 (by omega)
        rw [← hx] at g0 g1 g2 g3 g4
        exact ⟨⟨cell_of_row V _ 0 _ _ _ e1, cell_of_row V _ 1 _ _ _ e1, cell_of_row V _ 2 _ _ _ e1⟩, g0, g1, g2, g3, g4⟩
      have HSS := Lib.hid hS; clear hS
      have hkN : (k : Int) < (N : Int) := by omega
      have hg1 := hg.later (Below.refl _ wr).drew
      have h0 := HSS.out wr.drew _ _ _ hg1
      obtain ⟨-, hd3, -, hsz8⟩ := HLATER.out wr.drew _ _ _ hg1
      have hxi : x.Is wr.drew w.heap.size := hd3.2.2 x hmem
      obtain ⟨F1, G1, hP1, hF1, hG1, hlw1, hmw1⟩ := hg1.rebase
      have hdo := do_any wr.drew F1 G1 lp p m r s l nb k (1 + 3000 * k) g hP1 x w.heap.size hxi (by have := HZ66.out; have := HZ7.out; omega)
        (fun q e => ⟨(hF1 q e).1.elim (fun e => (HFW.out q e).1) (fun e => by have := HZ66.out; have := HZ7.out; omega), (hF1 q e).2⟩)
        (fun q e => ⟨(hG1 q e).1.elim (fun e => (HGW.out q e).1) (fun e => by have := HZ66.out; have := HZ7.out; omega), (hG1 q e).2⟩)
        ⟨HLPW.out.1, hlw1⟩ ⟨HMW.out.1, hmw1⟩ hwx (by omega) (by omega) (by omega)
      unfold pairV Go.Proofs.Ytelnoibfamcnmaa.Log.deedV at hdo
      have HDO := Lib.hid hdo
      have HG1 := Lib.hid hg1
      have HF1 : Hid (∀ q, F1 q → F q ∨ w7.heap.size ≤ q) := Lib.hid (fun q e => (hF1 q e).1)
      have HGG1 : Hid (∀ q, G1 q → G q ∨ w7.heap.size ≤ q) := Lib.hid (fun q e => (hG1 q e).1)
      clear hdo hP1 hF1 hG1 hlw1 hmw1 hd3 hxi hwx hmem hx hcells hxl hg hg1 hsz8
      go_wp2_with fail
      go_region_held (fun V => (V.cell? ⟨w6.heap.size, 0, none⟩ = some (.pointer (some ⟨p, 0, none⟩)) ∧ V.cell? ⟨w6.heap.size, 1, none⟩ = some (.pointer (some ⟨lp, 0, none⟩)) ∧ V.cell? ⟨w6.heap.size, 2, none⟩ = some (.pointer (some ⟨m, 0, none⟩))) ∧ V.cell? ⟨b, off + k * 5, none⟩ = some (.int .i64 x.op) ∧ V.cell? ⟨b, off + k * 5 + 1, none⟩ = some (.int .u64 (x.t.seq : Int)) ∧ V.cell? ⟨b, off + k * 5 + 2, none⟩ = some (.slice x.Aw x.nw x.cw) ∧ V.cell? ⟨b, off + k * 5 + 3, none⟩ = some (.slice x.Ar x.nr x.cr) ∧ V.cell? ⟨b, off + k * 5 + 4, none⟩ = some (.slice x.Ab x.nb x.cb)) (assumption)
        (first
          | (go_at_call 38
             with_reducible refine HDO.out.mono ?_
             rintro e w9 ⟨rfl, g9, hsq9, hP9⟩
             have hch := chain HG1.out hP9 HF1.out HGG1.out
             have h9 := HSS.out w9 _ _ _ hch
             have HCH := Lib.hid (hch.more (Nat.le_refl _) (show 1 + 3000 * k + 58 * k + 61 ≤ 1 + 3000 * (k + 1) by omega))
             clear hP9 hch h0))
      all_goals
        clear HSS HDO HG1 HF1 HGG1
        go_wp2
        go_roundw
        case rel => exact ⟨k + 1, g9, by omega, by go_num, by omega, HCH.out⟩
        case measure => simp [intOf]; omega
    · obtain rfl : k = N := by omega
      obtain ⟨FF, GG, hK, hD, -⟩ := hg.logs
      obtain ⟨e1, -, hbwr, -⟩ := HLATER.out wr _ _ _ hg
      obtain ⟨v, c1, F1, m1, L1, a1, a2, a3, aX, a4, a5, a6, -⟩ := hK
      have hone := a1.disk.at
      obtain ⟨A2, c2, c3, G2, L2, d1, d2, d3, d4, dX, d5, d6, -⟩ := hD
      have hI := image_t hone (by omega)
      have hSB := stable_t hone
      have hRI := rimage_t d2 (by omega)
      obtain ⟨A0, n0, c0, A1, c4, hkeep⟩ := d2.fields
      have hm0 := d1.cells.1
      have hmr : m < wr.heap.size := (Array.getElem?_eq_some_iff.1 d1).1
      have hbr : w6.heap.size < wr.heap.size := (Array.getElem?_eq_some_iff.1 e1).1
      have hall : ∀ V, Below wr.heap.size wr V → V.cell? ⟨w6.heap.size, 0, none⟩ = some (.pointer (some ⟨p, 0, none⟩)) ∧ V.cell? ⟨w6.heap.size, 2, none⟩ = some (.pointer (some ⟨m, 0, none⟩)) ∧ V.cell? ⟨m, 0, none⟩ = some (.pointer (some ⟨r, 0, none⟩)) ∧ V.cell? ⟨r, 0, none⟩ = some (.slice A0 n0 c0) ∧ (convert 33 9 (.slice A0 n0 c0)).run Try.prog V = .ok (.string (txt g.d.stable.flatten)) V := fun V hV => by
        have y := (hV.block _ hbr).trans e1
        exact ⟨cell_of_row V _ 0 _ _ _ y, cell_of_row V _ 2 _ _ _ y, (hV.cell (p := ⟨m, 0, none⟩) hmr).trans hm0, (hkeep V hV).1, (hkeep V hV).2.2⟩
      generalize txt g.d.stable.flatten = SS at hall hSB
      generalize txt g.d.image.flatten = SI at hI hRI
      have HALL := Lib.hid hall; clear hall
      have HI := Lib.hid hI; clear hI
      have HRI := Lib.hid hRI; clear hRI
      have HSB := Lib.hid hSB; clear hSB
      have HBWR := Lib.hid hbwr
      have hwz := hbwr.size
      clear hbwr hkeep hm0 hmr hbr e1 hone a1 a2 a3 aX a4 a5 a6 d1 d2 d3 d4 dX d5 d6 hg
      go_wp2_with fail
      have hS := HALL.out wr.drew (Below.refl _ wr).drew
      have HX0 : Hid (Below wr.heap.size wr wr.drew) := Lib.hid (Below.refl _ wr).drew
      go_region_held (fun V => V.cell? ⟨w6.heap.size, 0, none⟩ = some (.pointer (some ⟨p, 0, none⟩)) ∧ V.cell? ⟨w6.heap.size, 2, none⟩ = some (.pointer (some ⟨m, 0, none⟩)) ∧ V.cell? ⟨m, 0, none⟩ = some (.pointer (some ⟨r, 0, none⟩)) ∧ V.cell? ⟨r, 0, none⟩ = some (.slice A0 n0 c0) ∧ (convert 33 9 (.slice A0 n0 c0)).run Try.prog V = .ok (.string SS) V) (assumption)
        (first
          | (go_at_call 23
             have hcall := HI.out _ HX0.out
             with_reducible refine hcall.mono ?_
             rintro e X1 ⟨AD, nD, cD, rfl, hX1, tD⟩
             clear hcall hS
             have hY1 := HALL.out X1 (HX0.out.trans (hX1.mono HX0.out.size))
             have tD1 := tD X1 (Below.refl _ _)
             have HX1 := Lib.hid (HX0.out.trans (hX1.mono HX0.out.size))
             have HTD := Lib.hid tD
             clear hX1 tD)
          | (go_at_call 24
             have hcall := HRI.out _ HX1.out
             with_reducible refine hcall.mono ?_
             rintro e X2 ⟨AE, nE, cE, rfl, hX2, tE⟩
             clear hcall hY1
             have hY2 := HALL.out X2 (HX1.out.trans (hX2.mono HX1.out.size))
             have tD2 := HTD.out X2 hX2
             have tE2 := tE X2 (Below.refl _ _)
             have HX2 := Lib.hid (HX1.out.trans (hX2.mono HX1.out.size))
             clear hX2 tE)
          | (go_at_call 25
             have hcall := HSB.out _ HX2.out
             with_reducible refine hcall.mono ?_
             rintro e X3 ⟨AG, nG, cG, rfl, hX3, tG⟩
             clear hcall hY2
             have hY3 := HALL.out X3 (HX2.out.trans (hX3.mono HX2.out.size))
             have tG3 := tG X3 (Below.refl _ _)
             have HX3 := Lib.hid (HX2.out.trans (hX3.mono HX2.out.size))
             clear hX3 tG))
      all_goals
        go_wp2
        go_ret
        exact ⟨rfl, HBWR.out.trans (HX3.out.mono hwz)⟩

theorem walks : Walks 5 Try.f5 All := by
  intro H enc W base args ds p hval hA hsz _
  rw [Try.params5] at hA hval hsz
  obtain ⟨v0, vs0, d0, ds0, p0, q0, hargs, rfl, rfl, h0, r0⟩ := trodAll_cons hA
  obtain ⟨v1, vs1, d1, ds1, p1, q1, rfl, rfl, rfl, h1, r1⟩ := trodAll_cons r0
  obtain ⟨rfl, rfl, rfl⟩ := trodAll_nil r1
  obtain rfl : args = #[v0, v1] := by cases args; simp_all
  obtain ⟨B, S, L, rfl⟩ := area_by_value (hval 0 _ v0 rfl rfl) h0
  have hw : (d1.weights Try.prog 51).all (· ≤ reachBytes) = true := List.all_eq_true.2 fun x hx => List.all_eq_true.1 hsz _ (DataW.weights_mem_each (j := 1) rfl rfl x hx)
  obtain ⟨A, n, c, xs, rfl, hx, ⟨hn, hc⟩, hwd⟩ := deedsL_wide (hval 1 _ v1 rfl rfl) h1 hw
  cases hm : mayB B
  · exact walk_bad A n c B S L W hm
  · simp [mayB] at hm
    obtain ⟨nb, rfl⟩ : ∃ nb : Nat, B = (nb : Int) := ⟨B.toNat, by omega⟩
    cases ha : okArea nb S L
    · exact walk_not A n c nb S L W (by omega) (by omega) ha
    · simp [okArea] at ha
      obtain ⟨s, rfl⟩ : ∃ s : Nat, S = (s : Int) := ⟨S.toNat, by omega⟩
      obtain ⟨l, rfl⟩ : ∃ l : Nat, L = (l : Int) := ⟨L.toNat, by omega⟩
      exact walk_good nb s l A n c xs W hx hwd hn hc (by omega) (by omega) (by omega) (by omega)

set_option maxRecDepth 100000 in
theorem proved : Rows.LogRunsSaid :=
  OpenClaim.holds_of_wide 5 Try.f5 rfl rfl rfl rfl rfl rfl rfl ⟨rfl, rfl, rfl, rfl, rfl⟩ rfl rfl rfl rfl rfl (by kernel_rfl) Try.func5 (by kernel_rfl)
    (of_decide_eq_true (by kernel_rfl)) (by unfold Func.isWrapper; first | (rw [if_pos (by decide +kernel)]; kernel_rfl) | (rw [if_neg (by decide +kernel)]; exact ⟨rfl, rfl⟩))
    (fun os started H enc _ => lifted (s := Rows.logRunsSpec) walks (by kernel_rfl) rfl rfl (fun H ds hl => by match ds, hl with | [d1, d2], _ => rfl) (by kernel_rfl) Try.func5 os started H enc
      (ChangeSpec.witness6 (enc := enc) (C := Try.checked) false ⟨#[], #[.agg #[.int .i64 0, .int .i64 0, .int .i64 0], .slice none 0 0], []⟩ 8 (by kernel_rfl) (by kernel_rfl) (by kernel_rfl) (by kernel_rfl)))
#print axioms proved
end Go.Proofs.Ytelnoibfamcnmaa.LogRuns
