/- Layer 4's 'opened', where it gives a log of each. -/
import Derived.Test.YtelnoibfamcnmaaLgBeside
namespace Go.Proofs.Ytelnoibfamcnmaa.Log
set_option maxRecDepth 20000
open Go.RowKit
open Go.Proofs.Ytelnoibfamcnmaa.Mem Go.Proofs.Ytelnoibfamcnmaa.Crc Go.Proofs.Ytelnoibfamcnmaa.Disk

set_option maxHeartbeats 1000000 in
theorem formatr_d (s l : Nat) (S L : Int) (hS : S = (s : Int)) (hL : L = (l : Int)) (d : Dk.Dk) (r c : Nat) (G : Nat → Prop) (w : World) (h : RefDisk w r d c G) (hc : c < 1048576) (h8 : 8 ≤ l) (hn : d.stable.length ≤ 1024) (hs : s + l ≤ d.stable.length) :
    Calls Try.prog 35 #[.pointer (some ⟨r, 0, none⟩), .int .i64 S, .int .i64 L] w (RNow w r (d.write s (headH 1 0)).flush (c + 1) G (.int .i64 0)) := by
  subst hS hL
  have hsz := rsize_d d r c G w h
  have har := arear_any d.stable.length (s : Int) (l : Int) w hn
  have hoa : okArea d.stable.length (s : Int) (l : Int) = true := by unfold okArea; simp; omega
  rw [hoa] at har
  have hhd := headr_any 1 0 w (by omega)
  have hwr : ∀ (w1 : World) (A : Option Addr) (ca : Nat), Holds w1 w1.heap.size A 256 (headH 1 0) → Below w.heap.size w w1 → Calls Try.prog 39 #[.pointer (some ⟨r, 0, none⟩), .int .i64 (s : Int), .slice A 256 ca] w1 (RNow w1 r (d.write s (headH 1 0)) (c + 1) G (.int .i64 0)) := fun w1 A ca hh hb =>
    rwrite_d s A ca w1.heap.size (headH 1 0) d r c G w1 (h.later hb) (by omega) (by omega) hh (Nat.le_refl _)
  clear h hoa
  have HSZ := Lib.hid hsz; clear hsz
  have HAR := Lib.hid har; clear har
  have HHD := Lib.hid hhd; clear hhd
  have HWR := Lib.hid hwr; clear hwr
  generalize d.stable.length = n at *
  go_enter Try.func35, Try.ntmps35
  go_wp2_with fail
  with_reducible refine HSZ.out.mono ?_
  rintro e w1 ⟨rfl, rfl⟩
  go_wp2_with fail
  with_reducible refine HAR.out.mono ?_
  rintro e w1 ⟨rfl, rfl⟩
  clear HSZ HAR
  go_wp2_with fail
  refine HHD.out.mono ?_
  rintro e w1 ⟨A, ca, rfl, ho, hb1⟩
  have hcall := HWR.out w1 A ca (Go.Proofs.Ytelnoibfamcnmaa.Rec.Owned.reads ho) hb1
  have HC := Lib.hid hcall; clear hcall
  have HB1 := Lib.hid hb1; clear hb1
  clear ho HHD HWR
  go_wp2_with fail
  with_reducible refine HC.out.mono ?_
  rintro e w2 ⟨G2, rfl, hR2, hG2, hT2⟩
  clear HC
  have hfl := rflush_d _ r (c + 1) G2 w2 hR2 (by omega)
  unfold ptr at hfl
  have HFL := Lib.hid hfl; clear hfl
  have HG2 := Lib.hid hG2; clear hG2
  have HT2 := Lib.hid hT2; clear hT2 hR2
  go_wp2_with fail
  with_reducible refine HFL.out.mono ?_
  rintro e w3 ⟨G3, rfl, hR3, hG3, hT3⟩
  clear HFL
  go_wp2
  go_ret
  have z1 := HB1.out.size
  have z2 := HT2.out.size
  refine ⟨G3, rfl, hR3, fun k hk => ?_, ?_⟩
  · rcases hG3 k hk with e | e
    · rcases HG2.out k e with e | e
      · exact .inl e
      · exact .inr (by omega)
    · exact .inr (by omega)
  · refine (Turns.of_below (F := G) HB1.out).trans (G := G) (HT2.out.trans hT3 (fun i hi e => ?_)) (fun _ _ e => e)
    rcases HG2.out i e with e | e
    · exact e
    · omega

set_option maxHeartbeats 1000000 in
theorem formatr_not (S L : Int) (d : Dk.Dk) (r c : Nat) (G : Nat → Prop) (w : World) (h : RefDisk w r d c G) (hn : d.stable.length ≤ 1024) (hoa : okArea d.stable.length S L = false) :
    Calls Try.prog 35 #[.pointer (some ⟨r, 0, none⟩), .int .i64 S, .int .i64 L] w fun e w' => e = .returned (.int .i64 1) ∧ w = w' := by
  have hsz := rsize_d d r c G w h
  have har := arear_any d.stable.length S L w hn
  rw [hoa] at har
  clear h hoa
  generalize d.stable.length = n at *
  have HSZ := Lib.hid hsz; clear hsz
  have HAR := Lib.hid har; clear har
  go_enter Try.func35, Try.ntmps35
  go_wp2_with fail
  with_reducible refine HSZ.out.mono ?_
  rintro e w1 ⟨rfl, rfl⟩
  go_wp2_with fail
  with_reducible refine HAR.out.mono ?_
  rintro e w1 ⟨rfl, rfl⟩
  clear HSZ HAR
  go_wp2
  go_ret
  exact ⟨rfl, rfl⟩
end Go.Proofs.Ytelnoibfamcnmaa.Log

namespace Go.Proofs.Ytelnoibfamcnmaa.Log
set_option maxRecDepth 20000
open Go.RowKit
open Go.Proofs.Ytelnoibfamcnmaa.Mem Go.Proofs.Ytelnoibfamcnmaa.Crc Go.Proofs.Ytelnoibfamcnmaa.Disk

def noPair : Array Value := #[.pointer none, .pointer none, .pointer none]

theorem results_pair {fn : Func} {p u : Tmp} {ty : TypeId} (h : fn.results = #[.cell p ty, .tmp u]) (tmps : Array Value) (w : World) (g : Nat) (cs : Array Value) (v : Value)
    (hp : tmps.getD p undef = .pointer (some ⟨g, 0, none⟩)) (hv : tmps.getD u undef = v) (hl : (loadVar ty ⟨g, 0, none⟩).run Try.prog w = .ok (.agg cs) w) :
    (results fn tmps).run Try.prog w = .ok (.tuple #[.agg cs, v]) w := by
  rw [results_cell_tmp h, hp, hv]
  simp [asAddr, hl, Result.andThen]

theorem load_pair (w : World) (g : Nat) (cs : Array Value) (h3 : cs.size = 3) (hg : w.heap[g]? = some (.cells cs 59 (0, 0))) : (loadVar 59 ⟨g, 0, none⟩).run Try.prog w = .ok (.agg cs) w :=
  run_loadVar_row w g _ _ cs (0, 0) _ hg Try.underlying59 rfl (by rw [h3]; kernel_rfl)

set_option maxRecDepth 100000 in
set_option maxHeartbeats 4000000 in
theorem opened_not (nb : Nat) (S L : Int) (w : World) (hn1 : 1 ≤ nb) (hn2 : nb ≤ 1024) (ha : okArea nb S L = false) :
    Calls Try.prog 36 #[.agg #[.int .i64 (nb : Int), .int .i64 S, .int .i64 L]] w fun e w' => e = .returned (.tuple #[.agg #[.pointer none, .pointer none, .pointer none], .bool false]) ∧ Below w.heap.size w w' := by
  obtain ⟨W, hW⟩ : ∃ W, W = ((w.alloc (.cells #[.int .i64 (nb : Int), .int .i64 S, .int .i64 L] 50)).alloc (.cells #[.pointer none, .pointer none, .pointer none] 59)).alloc (.cells #[.pointer none, .pointer none, .pointer none] 59) := ⟨_, rfl⟩
  have z : W.heap.size = w.heap.size + 3 := by rw [hW]; simp
  have hb1 : Below w.heap.size w W := by rw [hW]; exact (((Below.refl w.heap.size w).alloc (Nat.le_refl _) _).alloc (by simp) _).alloc (by simp; omega) _
  have hx0 : W.heap[w.heap.size]? = some (.cells #[.int .i64 (nb : Int), .int .i64 S, .int .i64 L] 50 (0, 0)) := by
    rw [hW, heap_alloc_old _ _ (by simp; omega)]; exact heap_alloc2_old _ _ _
  have hx1 : W.heap[w.heap.size + 1]? = some (.cells #[.pointer none, .pointer none, .pointer none] 59 (0, 0)) := by
    rw [hW, heap_alloc_old _ _ (by simp)]; exact heap_alloc2_new _ _ _
  have hx2 : W.heap[w.heap.size + 2]? = some (.cells #[.pointer none, .pointer none, .pointer none] 59 (0, 0)) := by
    rw [hW]
    have := heap_alloc_new ((w.alloc (.cells #[.int .i64 (nb : Int), .int .i64 S, .int .i64 L] 50)).alloc (.cells #[.pointer none, .pointer none, .pointer none] 59)) (.cells #[.pointer none, .pointer none, .pointer none] 59)
    simpa using this
  have HW := Lib.hid hW; clear hW
  have HB1 := Lib.hid hb1; clear hb1
  have HX0 := Lib.hid hx0
  have HX1 := Lib.hid hx1; clear hx1
  have HX2 := Lib.hid hx2; clear hx2
  have Z := Lib.hid z; clear z
  have q0 : W.cell? ⟨w.heap.size, 0, none⟩ = some (.int .i64 (nb : Int)) := cell_of_row W _ 0 _ _ _ hx0
  clear hx0
  go_enter Try.func36, Try.ntmps36
  go_wp2_with fail
  rw [← HW.out]
  clear HW
  with_reducible refine (new_d (nb : Int) nb 0 W rfl hn1 hn2).mono ?_
  rintro e w2 ⟨p, F, rfl, hD, hF, hb2⟩
  unfold ptr
  have hx3 := (hb2.block _ (by rw [Z.out]; omega)).trans HX0.out
  have q0' : w2.cell? ⟨w.heap.size, 0, none⟩ = some (.int .i64 (nb : Int)) := cell_of_row w2 _ 0 _ _ _ hx3
  have HD2 := Lib.hid hD; clear hD
  have HF2 := Lib.hid hF; clear hF
  have HBB2 := Lib.hid hb2; clear hb2
  clear hx3 q0
  go_wp2_with fail
  with_reducible refine (rnew_d nb w2 hn1 hn2).mono ?_
  rintro e w3 ⟨r, G, rfl, hR, hG, hb3⟩
  unfold ptr
  have hduo := duo_new (w := W) HD2.out HF2.out HBB2.out hR hG hb3
  have HDUO := Lib.hid hduo; clear hduo
  have HBB3 : Hid (Below W.heap.size W w3) := Lib.hid HDUO.out.below
  clear hR hG hb3 HD2 HF2 HBB2 q0'
  have y0 := (HBB3.out.block _ (by rw [Z.out]; omega)).trans HX0.out
  have y1 := (HBB3.out.block _ (by rw [Z.out]; omega)).trans HX1.out
  have y2 := (HBB3.out.block _ (by rw [Z.out]; omega)).trans HX2.out
  have t1 : w3.cell? ⟨w.heap.size, 1, none⟩ = some (.int .i64 S) := cell_of_row w3 _ 1 _ _ _ y0
  have t2 : w3.cell? ⟨w.heap.size, 2, none⟩ = some (.int .i64 L) := cell_of_row w3 _ 2 _ _ _ y0
  clear y0 y1 y2
  have hfm := format_not S L _ p 0 F w3 HDUO.out.one (by rw [show (Dk.Dk.new nb).stable.length = nb by simp [Dk.Dk.new]]; exact ha)
  unfold ptr at hfm
  have HFM := Lib.hid hfm; clear hfm
  go_wp2_with fail
  with_reducible refine HFM.out.mono ?_
  rintro e w4 ⟨rfl, hb4⟩
  have HB4 : Hid (Below W.heap.size W w4) := Lib.hid (HBB3.out.trans (hb4.mono HBB3.out.size))
  clear HFM HBB3 hb4 t1 t2 HDUO
  have y0 := (HB4.out.block _ (by rw [Z.out]; omega)).trans HX0.out
  have y1 := (HB4.out.block _ (by rw [Z.out]; omega)).trans HX1.out
  have y2 := (HB4.out.block _ (by rw [Z.out]; omega)).trans HX2.out
  have r0 : w4.cell? ⟨w.heap.size + 1, 0, none⟩ = some (.pointer none) := cell_of_row w4 _ 0 _ _ _ y1
  have f0 : w4.frozen? ⟨w.heap.size + 1, 0, none⟩ = false := frozen_of_row w4 _ 0 _ _ y1
  have r1 : w4.cell? ⟨w.heap.size + 1, 1, none⟩ = some (.pointer none) := cell_of_row w4 _ 1 _ _ _ y1
  have f1 : w4.frozen? ⟨w.heap.size + 1, 1, none⟩ = false := frozen_of_row w4 _ 1 _ _ y1
  have r2 : w4.cell? ⟨w.heap.size + 1, 2, none⟩ = some (.pointer none) := cell_of_row w4 _ 2 _ _ _ y1
  have f2 : w4.frozen? ⟨w.heap.size + 1, 2, none⟩ = false := frozen_of_row w4 _ 2 _ _ y1
  have s0 : w4.cell? ⟨w.heap.size + 2, 0, none⟩ = some (.pointer none) := cell_of_row w4 _ 0 _ _ _ y2
  have s1 : w4.cell? ⟨w.heap.size + 2, 1, none⟩ = some (.pointer none) := cell_of_row w4 _ 1 _ _ _ y2
  have s2 : w4.cell? ⟨w.heap.size + 2, 2, none⟩ = some (.pointer none) := cell_of_row w4 _ 2 _ _ _ y2
  have HY1 := Lib.hid y1
  clear y0 y1 y2
  go_wp2
  have h1 := Go.heap_setCell_same w4 (w.heap.size + 1) 0 _ _ (.pointer none) HY1.out
  have h2 := Go.heap_setCell_same _ (w.heap.size + 1) 1 _ _ (.pointer none) h1
  have h3 := Go.heap_setCell_same _ (w.heap.size + 1) 2 _ _ (.pointer none) h2
  refine bodyPost_ret (results_pair rfl _ _ (w.heap.size + 1) #[.pointer none, .pointer none, .pointer none] _ rfl rfl (load_pair _ _ _ rfl h3)) rfl ⟨rfl, ?_⟩
  exact (((HB1.out.trans (HB4.out.mono HB1.out.size)).setCell (p := ⟨w.heap.size + 1, 0, none⟩) (by simp) _).setCell (p := ⟨w.heap.size + 1, 1, none⟩) (by simp) _).setCell (p := ⟨w.heap.size + 1, 2, none⟩) (by simp) _
end Go.Proofs.Ytelnoibfamcnmaa.Log

namespace Go.Proofs.Ytelnoibfamcnmaa.Log
set_option maxRecDepth 20000
open Go.RowKit
open Go.Proofs.Ytelnoibfamcnmaa.Mem Go.Proofs.Ytelnoibfamcnmaa.Crc Go.Proofs.Ytelnoibfamcnmaa.Disk

/-- A fresh log of the program's at lp, of the document's at m, each on a disk that was just made. -/
structure Fresh (w : World) (p r lp m n s l B : Nat) (F G : Nat → Prop) : Prop where
  one : DiskAt w p (freshD n s) 1 F
  two : RefDisk w r (freshD n s) 1 G
  apart : ∀ k, F k → ¬ G k
  lowF : ∀ k, F k → B ≤ k ∧ k ≠ lp ∧ k ≠ m
  lowG : ∀ k, G k → B ≤ k ∧ k ≠ lp ∧ k ≠ m
  log : LogAt w lp p (s : Int) ((l : Int) - 1) 1 0 0 (.slice none 0 0)
  doc : RefLog w m r (s : Int) (l : Int) 1 0
  low : B ≤ lp ∧ B ≤ m ∧ lp ≠ m

theorem Fresh.keep {w w' : World} {p r lp m n s l B b : Nat} {F G : Nat → Prop} (h : Fresh w p r lp m n s l B F G) (ht : Turns (fun q => q = b) w w') (hb : b < B) : Fresh w' p r lp m n s l B F G :=
  ⟨h.one.turns ht (fun k e e' => by have := (h.lowF k e).1; omega), h.two.turns ht (fun k e e' => by have := (h.lowG k e).1; omega), h.apart, h.lowF, h.lowG,
    (ht.block lp (Array.getElem?_eq_some_iff.1 h.log).1 (by have := h.low.1; omega)).trans h.log, (ht.block m (Array.getElem?_eq_some_iff.1 h.doc).1 (by have := h.low.2.1; omega)).trans h.doc, h.low⟩

set_option maxRecDepth 100000 in
set_option maxHeartbeats 8000000 in
theorem opened_ok (nb s l : Nat) (w : World) (hn2 : nb ≤ 1024) (h8 : 8 ≤ l) (hs : s + l ≤ nb) :
    Calls Try.prog 36 #[.agg #[.int .i64 (nb : Int), .int .i64 (s : Int), .int .i64 (l : Int)]] w fun e w' => ∃ p r lp m F G, e = .returned (.tuple #[.agg #[.pointer (some ⟨p, 0, none⟩), .pointer (some ⟨lp, 0, none⟩), .pointer (some ⟨m, 0, none⟩)], .bool true]) ∧ Fresh w' p r lp m nb s l (w.heap.size + 3) F G ∧ Below w.heap.size w w' := by
  have hn1 : 1 ≤ nb := by omega
  have hd0 : (Dk.Dk.new nb).stable.length = nb := by simp [Dk.Dk.new]
  have HD0 := Lib.hid hd0; clear hd0
  obtain ⟨W, hW⟩ : ∃ W, W = ((w.alloc (.cells #[.int .i64 (nb : Int), .int .i64 (s : Int), .int .i64 (l : Int)] 50)).alloc (.cells #[.pointer none, .pointer none, .pointer none] 59)).alloc (.cells #[.pointer none, .pointer none, .pointer none] 59) := ⟨_, rfl⟩
  have z : W.heap.size = w.heap.size + 3 := by rw [hW]; simp
  have hb1 : Below w.heap.size w W := by rw [hW]; exact (((Below.refl w.heap.size w).alloc (Nat.le_refl _) _).alloc (by simp) _).alloc (by simp; omega) _
  have hx0 : W.heap[w.heap.size]? = some (.cells #[.int .i64 (nb : Int), .int .i64 (s : Int), .int .i64 (l : Int)] 50 (0, 0)) := by
    rw [hW, heap_alloc_old _ _ (by simp; omega)]; exact heap_alloc2_old _ _ _
  have hx1 : W.heap[w.heap.size + 1]? = some (.cells #[.pointer none, .pointer none, .pointer none] 59 (0, 0)) := by
    rw [hW, heap_alloc_old _ _ (by simp)]; exact heap_alloc2_new _ _ _
  have hx2 : W.heap[w.heap.size + 1 + 1]? = some (.cells #[.pointer none, .pointer none, .pointer none] 59 (0, 0)) := by
    rw [hW]
    have := heap_alloc_new ((w.alloc (.cells #[.int .i64 (nb : Int), .int .i64 (s : Int), .int .i64 (l : Int)] 50)).alloc (.cells #[.pointer none, .pointer none, .pointer none] 59)) (.cells #[.pointer none, .pointer none, .pointer none] 59)
    simpa using this
  have HW := Lib.hid hW; clear hW
  have HB1 := Lib.hid hb1; clear hb1
  have HX0 := Lib.hid hx0
  have HX1 := Lib.hid hx1; clear hx1
  have HX2 := Lib.hid hx2; clear hx2
  have Z := Lib.hid z; clear z
  have q0 : W.cell? ⟨w.heap.size, 0, none⟩ = some (.int .i64 (nb : Int)) := cell_of_row W _ 0 _ _ _ hx0
  clear hx0
  go_enter Try.func36, Try.ntmps36
  go_wp2_with fail
  rw [← HW.out]
  clear HW
  with_reducible refine (new_d (nb : Int) nb 0 W rfl hn1 hn2).mono ?_
  rintro e w2 ⟨p, F, rfl, hD, hF, hb2⟩
  unfold ptr
  have hx3 := (hb2.block _ (by rw [Z.out]; omega)).trans HX0.out
  have q0' : w2.cell? ⟨w.heap.size, 0, none⟩ = some (.int .i64 (nb : Int)) := cell_of_row w2 _ 0 _ _ _ hx3
  have HD2 := Lib.hid hD; clear hD
  have HF2 := Lib.hid hF; clear hF
  have HBB2 := Lib.hid hb2; clear hb2
  clear hx3 q0
  go_wp2_with fail
  with_reducible refine (rnew_d nb w2 hn1 hn2).mono ?_
  rintro e w3 ⟨r, G, rfl, hR, hG, hb3⟩
  unfold ptr
  have hduo := duo_new (w := W) HD2.out HF2.out HBB2.out hR hG hb3
  have HDUO := Lib.hid hduo; clear hduo
  have HBB3 : Hid (Below W.heap.size W w3) := Lib.hid HDUO.out.below
  clear hR hG hb3 HD2 HF2 HBB2 q0'
  have y0 := (HBB3.out.block _ (by rw [Z.out]; omega)).trans HX0.out
  have y1 := (HBB3.out.block _ (by rw [Z.out]; omega)).trans HX1.out
  have y2 := (HBB3.out.block _ (by rw [Z.out]; omega)).trans HX2.out
  have t1 : w3.cell? ⟨w.heap.size, 1, none⟩ = some (.int .i64 (s : Int)) := cell_of_row w3 _ 1 _ _ _ y0
  have t2 : w3.cell? ⟨w.heap.size, 2, none⟩ = some (.int .i64 (l : Int)) := cell_of_row w3 _ 2 _ _ _ y0
  clear y0 y1 y2
  have hfm : Calls Try.prog 34 #[.pointer (some ⟨p, 0, none⟩), .int .i64 (s : Int), .int .i64 (l : Int)] w3 (Now w3 p (freshD nb s) 1 F (.int .i64 0)) := format_d s l _ _ rfl rfl (Dk.Dk.new nb) p 0 F w3 HDUO.out.one (by omega) h8 (by rw [HD0.out]; exact hs)
  have HFM := Lib.hid hfm; clear hfm
  go_wp2_with fail
  with_reducible refine HFM.out.mono ?_
  rintro e w4 ⟨F4, rfl, hD4, hF4, hT4⟩
  clear HFM
  have hB4 : Below W.heap.size W w4 := HBB3.out.trans (hT4.below HDUO.out.lowF HBB3.out.size)
  have hR4 := HDUO.out.two.turns hT4 (fun k e e' => HDUO.out.apart k e' e)
  have hfr : Calls Try.prog 35 #[.pointer (some ⟨r, 0, none⟩), .int .i64 (s : Int), .int .i64 (l : Int)] w4 (RNow w4 r (freshD nb s) 1 G (.int .i64 0)) := formatr_d s l _ _ rfl rfl (Dk.Dk.new nb) r 0 G w4 hR4 (by omega) h8 (by rw [HD0.out]; exact hn2) (by rw [HD0.out]; exact hs)
  have hF4' : ∀ k, F4 k → W.heap.size ≤ k ∧ ¬ G k := fun k hk => by
    rcases hF4 k hk with e | e
    · exact ⟨HDUO.out.lowF k e, HDUO.out.apart k e⟩
    · exact ⟨by have := HBB3.out.size; omega, fun e' => by have := HDUO.out.two.lt k e'; omega⟩
  have HFR := Lib.hid hfr; clear hfr
  have HD4 := Lib.hid hD4; clear hD4
  have HF4 := Lib.hid hF4'; clear hF4'
  have HB4 := Lib.hid hB4; clear hB4
  have HG := Lib.hid HDUO.out.lowG
  clear hF4 hT4 hR4 t1 t2 HBB3 HDUO
  have y0 := (HB4.out.block _ (by rw [Z.out]; omega)).trans HX0.out
  have t1 : w4.cell? ⟨w.heap.size, 1, none⟩ = some (.int .i64 (s : Int)) := cell_of_row w4 _ 1 _ _ _ y0
  have t2 : w4.cell? ⟨w.heap.size, 2, none⟩ = some (.int .i64 (l : Int)) := cell_of_row w4 _ 2 _ _ _ y0
  clear y0
  go_wp2_with fail
  with_reducible refine HFR.out.mono ?_
  rintro e w5 ⟨G5, rfl, hR5, hG5, hT5⟩
  clear HFR t1 t2
  have hB5 : Below W.heap.size W w5 := HB4.out.trans (hT5.below HG.out HB4.out.size)
  have hD5 := HD4.out.turns hT5 (fun k e e' => (HF4.out k e).2 e')
  have hG5' : ∀ k, G5 k → W.heap.size ≤ k ∧ ¬ F4 k := fun k hk => by
    rcases hG5 k hk with e | e
    · exact ⟨HG.out k e, fun e' => (HF4.out k e').2 e⟩
    · exact ⟨by have := HB4.out.size; omega, fun e' => by have := HD4.out.lt k e'; omega⟩
  have HB5 := Lib.hid hB5; clear hB5
  have HD5 := Lib.hid hD5; clear hD5
  have HR5 := Lib.hid hR5; clear hR5
  have HG5 := Lib.hid hG5'; clear hG5'
  clear hG5 hT5 HB4 HD4 HG
  have y0 := (HB5.out.block _ (by rw [Z.out]; omega)).trans HX0.out
  have y1 := (HB5.out.block _ (by rw [Z.out]; omega)).trans HX1.out
  have y2 := (HB5.out.block _ (by rw [Z.out]; omega)).trans HX2.out
  have s0 : w5.cell? ⟨w.heap.size + 1 + 1, 0, none⟩ = some (.pointer none) := cell_of_row w5 _ 0 _ _ _ y2
  have g0 : w5.frozen? ⟨w.heap.size + 1 + 1, 0, none⟩ = false := frozen_of_row w5 _ 0 _ _ y2
  have s1 : w5.cell? ⟨w.heap.size + 1 + 1, 1, none⟩ = some (.pointer none) := cell_of_row w5 _ 1 _ _ _ y2
  have g1 : w5.frozen? ⟨w.heap.size + 1 + 1, 1, none⟩ = false := frozen_of_row w5 _ 1 _ _ y2
  have s2 : w5.cell? ⟨w.heap.size + 1 + 1, 2, none⟩ = some (.pointer none) := cell_of_row w5 _ 2 _ _ _ y2
  have g2 : w5.frozen? ⟨w.heap.size + 1 + 1, 2, none⟩ = false := frozen_of_row w5 _ 2 _ _ y2
  have x6 : (w5.setCell ⟨w.heap.size + 1 + 1, 0, none⟩ (.pointer (some ⟨p, 0, none⟩))).heap[w.heap.size + 1 + 1]? = _ := Go.heap_setCell_same w5 (w.heap.size + 1 + 1) 0 _ _ (.pointer (some ⟨p, 0, none⟩)) y2
  have x61 := (Below.heap_setCell w5 ⟨w.heap.size + 1 + 1, 0, none⟩ (.pointer (some ⟨p, 0, none⟩)) (w.heap.size + 1) (by simp)).trans y1
  have x60 := (Below.heap_setCell w5 ⟨w.heap.size + 1 + 1, 0, none⟩ (.pointer (some ⟨p, 0, none⟩)) w.heap.size (by simp; omega)).trans y0
  have HT6 : Hid (Turns (fun q => q = w.heap.size + 1 + 1) w5 (w5.setCell ⟨w.heap.size + 1 + 1, 0, none⟩ (.pointer (some ⟨p, 0, none⟩)))) := Lib.hid ((Turns.refl (fun q => q = w.heap.size + 1 + 1) w5).setCell (p := ⟨w.heap.size + 1 + 1, 0, none⟩) (fun _ => rfl) _)
  have t1 : (w5.setCell ⟨w.heap.size + 1 + 1, 0, none⟩ (.pointer (some ⟨p, 0, none⟩))).cell? ⟨w.heap.size, 1, none⟩ = some (.int .i64 (s : Int)) := cell_of_row (w5.setCell ⟨w.heap.size + 1 + 1, 0, none⟩ (.pointer (some ⟨p, 0, none⟩))) _ 1 _ _ _ x60
  have t2 : (w5.setCell ⟨w.heap.size + 1 + 1, 0, none⟩ (.pointer (some ⟨p, 0, none⟩))).cell? ⟨w.heap.size, 2, none⟩ = some (.int .i64 (l : Int)) := cell_of_row (w5.setCell ⟨w.heap.size + 1 + 1, 0, none⟩ (.pointer (some ⟨p, 0, none⟩))) _ 2 _ _ _ x60
  have HW6 : Hid (Below w.heap.size w (w5.setCell ⟨w.heap.size + 1 + 1, 0, none⟩ (.pointer (some ⟨p, 0, none⟩)))) := Lib.hid ((HB1.out.trans (HB5.out.mono HB1.out.size)).setCell (p := ⟨w.heap.size + 1 + 1, 0, none⟩) (by simp; omega) _)
  have X6 := Lib.hid x6; clear x6
  have X61 := Lib.hid x61; clear x61
  have X60 := Lib.hid x60; clear x60
  clear y0 y1 y2
  go_wp2_with fail
  generalize w5.setCell ⟨w.heap.size + 1 + 1, 0, none⟩ (.pointer (some ⟨p, 0, none⟩)) = w6 at X6 X61 X60 HT6 HW6 t1 t2 ⊢
  clear s0 s1 s2 g0 g1 g2
  have hD6 := HD5.out.turns HT6.out (fun k e e' => by have := (HF4.out k e); rw [Z.out] at this; omega)
  have hR6 := HR5.out.turns HT6.out (fun k e e' => by have := (HG5.out k e); rw [Z.out] at this; omega)
  have hsz := freshD_size nb s
  have hrd := freshD_read nb s (by omega)
  have hok : okH ((freshD nb s).read s) (l - 1) = true := by rw [hrd]; exact okH_head 1 0 (l - 1) (by omega) (by omega) (by omega)
  have hsq : seqH ((freshD nb s).read s) = 1 := by rw [hrd]; exact seqH_head 1 0 (by omega)
  have hpl : plH ((freshD nb s).read s) = 0 := by rw [hrd]; exact plH_head 1 0 (by omega)
  have hop := open_d s l _ _ rfl rfl (freshD nb s) p 1 F4 w6 hD6 (by omega) h8 (by rw [hsz]; exact hs) hok
  rw [hsq, hpl] at hop
  unfold ptr at hop
  have hor : ∀ V, RefDisk V r (freshD nb s) 1 G5 → Calls Try.prog 40 #[.pointer (some ⟨r, 0, none⟩), .int .i64 (s : Int), .int .i64 (l : Int)] V fun e w' => ∃ m, e = .returned (.tuple #[.pointer (some ⟨m, 0, none⟩), .int .i64 0]) ∧ RefLog w' m r (s : Int) (l : Int) 1 0 ∧ V.heap.size ≤ m ∧ Below V.heap.size V w' := fun V hV => by
    have := openr_d s l _ _ rfl rfl (freshD nb s) r 1 G5 V hV (by omega) h8 (by rw [hsz]; exact hn2) (by rw [hsz]; exact hs) hok
    rw [hsq, hpl] at this
    exact this
  have HOP := Lib.hid hop; clear hop
  have HOR := Lib.hid hor; clear hor
  have HD6 := Lib.hid hD6; clear hD6
  have HR6 := Lib.hid hR6; clear hR6
  clear hsz hrd hok hsq hpl HD5 HR5 HT6
  with_reducible refine HOP.out.mono ?_
  rintro e w7 ⟨lp, rfl, hlog, hlp, hb7⟩
  have z6 : w.heap.size + 1 + 1 < w6.heap.size := (Array.getElem?_eq_some_iff.1 X6.out).1
  have z6F : ∀ k, F4 k → k < w6.heap.size := HD6.out.lt
  have z6G : ∀ k, G5 k → k < w6.heap.size := HR6.out.lt
  have hR7 := HR6.out.later hb7
  have hD7 := HD6.out.later hb7
  have y0 := (hb7.block _ (show w.heap.size < w6.heap.size by omega)).trans X60.out
  have y1 := (hb7.block _ (show w.heap.size + 1 < w6.heap.size by omega)).trans X61.out
  have y2 := (hb7.block _ z6).trans X6.out
  have hw7 : Below w.heap.size w w7 := HW6.out.trans (hb7.mono HW6.out.size)
  have Z6 := Lib.hid (And.intro z6 (And.intro z6F z6G)); clear z6 z6F z6G
  have HLP := Lib.hid hlp; clear hlp
  clear HOP t1 t2 X6 X61 X60 HW6 HD6 HR6
  have s0 : w7.cell? ⟨w.heap.size + 1 + 1, 0, none⟩ = some (.pointer (some ⟨p, 0, none⟩)) := cell_of_row w7 _ 0 _ _ _ y2
  have g0 : w7.frozen? ⟨w.heap.size + 1 + 1, 0, none⟩ = false := frozen_of_row w7 _ 0 _ _ y2
  have s1 : w7.cell? ⟨w.heap.size + 1 + 1, 1, none⟩ = some (.pointer none) := cell_of_row w7 _ 1 _ _ _ y2
  have g1 : w7.frozen? ⟨w.heap.size + 1 + 1, 1, none⟩ = false := frozen_of_row w7 _ 1 _ _ y2
  have s2 : w7.cell? ⟨w.heap.size + 1 + 1, 2, none⟩ = some (.pointer none) := cell_of_row w7 _ 2 _ _ _ y2
  have g2 : w7.frozen? ⟨w.heap.size + 1 + 1, 2, none⟩ = false := frozen_of_row w7 _ 2 _ _ y2
  have x8 : (w7.setCell ⟨w.heap.size + 1 + 1, 1, none⟩ (.pointer (some ⟨lp, 0, none⟩))).heap[w.heap.size + 1 + 1]? = _ := Go.heap_setCell_same w7 (w.heap.size + 1 + 1) 1 _ _ (.pointer (some ⟨lp, 0, none⟩)) y2
  have x81 := (Below.heap_setCell w7 ⟨w.heap.size + 1 + 1, 1, none⟩ (.pointer (some ⟨lp, 0, none⟩)) (w.heap.size + 1) (by simp)).trans y1
  have x80 := (Below.heap_setCell w7 ⟨w.heap.size + 1 + 1, 1, none⟩ (.pointer (some ⟨lp, 0, none⟩)) w.heap.size (by simp; omega)).trans y0
  have hl8 : LogAt (w7.setCell ⟨w.heap.size + 1 + 1, 1, none⟩ (.pointer (some ⟨lp, 0, none⟩))) lp p (s : Int) ((l : Int) - 1) 1 0 0 (.slice none 0 0) := (Below.heap_setCell w7 ⟨w.heap.size + 1 + 1, 1, none⟩ (.pointer (some ⟨lp, 0, none⟩)) lp (by have := Z6.out.1; have := HLP.out; simp; omega)).trans hlog
  have HT8 : Hid (Turns (fun q => q = w.heap.size + 1 + 1) w7 (w7.setCell ⟨w.heap.size + 1 + 1, 1, none⟩ (.pointer (some ⟨lp, 0, none⟩)))) := Lib.hid ((Turns.refl (fun q => q = w.heap.size + 1 + 1) w7).setCell (p := ⟨w.heap.size + 1 + 1, 1, none⟩) (fun _ => rfl) _)
  have HW8 : Hid (Below w.heap.size w (w7.setCell ⟨w.heap.size + 1 + 1, 1, none⟩ (.pointer (some ⟨lp, 0, none⟩)))) := Lib.hid (hw7.setCell (p := ⟨w.heap.size + 1 + 1, 1, none⟩) (by simp; omega) _)
  have t1 : (w7.setCell ⟨w.heap.size + 1 + 1, 1, none⟩ (.pointer (some ⟨lp, 0, none⟩))).cell? ⟨w.heap.size, 1, none⟩ = some (.int .i64 (s : Int)) := cell_of_row (w7.setCell ⟨w.heap.size + 1 + 1, 1, none⟩ (.pointer (some ⟨lp, 0, none⟩))) _ 1 _ _ _ x80
  have t2 : (w7.setCell ⟨w.heap.size + 1 + 1, 1, none⟩ (.pointer (some ⟨lp, 0, none⟩))).cell? ⟨w.heap.size, 2, none⟩ = some (.int .i64 (l : Int)) := cell_of_row (w7.setCell ⟨w.heap.size + 1 + 1, 1, none⟩ (.pointer (some ⟨lp, 0, none⟩))) _ 2 _ _ _ x80
  have X8 := Lib.hid x8; clear x8
  have X81 := Lib.hid x81; clear x81
  have HL8 := Lib.hid hl8; clear hl8
  have HD7 := Lib.hid hD7; clear hD7
  have HR7 := Lib.hid hR7; clear hR7
  have hlp7 : lp < w7.heap.size := (Array.getElem?_eq_some_iff.1 hlog).1
  have HLP7 := Lib.hid hlp7; clear hlp7
  clear y0 y1 y2 x80 hw7 hb7 hlog
  go_wp2_with fail
  generalize w7.setCell ⟨w.heap.size + 1 + 1, 1, none⟩ (.pointer (some ⟨lp, 0, none⟩)) = w8 at X8 X81 HT8 HW8 HL8 t1 t2 ⊢
  clear s0 s1 s2 g0 g1 g2
  have hD8 := HD7.out.turns HT8.out (fun k e e' => by have := (HF4.out k e); rw [Z.out] at this; omega)
  have hR8 := HR7.out.turns HT8.out (fun k e e' => by have := (HG5.out k e); rw [Z.out] at this; omega)
  have hop := HOR.out w8 hR8
  have HOP := Lib.hid hop; clear hop
  have HD8 := Lib.hid hD8; clear hD8
  have HR8 := Lib.hid hR8; clear hR8
  clear HD7 HR7 HOR
  with_reducible refine HOP.out.mono ?_
  rintro e w9 ⟨m, rfl, hm, hlm, hb9⟩
  have z8 : w.heap.size + 1 + 1 < w8.heap.size := (Array.getElem?_eq_some_iff.1 X8.out).1
  have z8l : lp < w8.heap.size := (Array.getElem?_eq_some_iff.1 HL8.out).1
  have z78 := HT8.out.size
  have y1 := (hb9.block _ (show w.heap.size + 1 < w8.heap.size by omega)).trans X81.out
  have y2 := (hb9.block _ z8).trans X8.out
  have hl9 := (hb9.block _ z8l).trans HL8.out
  have hw9 : Below w.heap.size w w9 := HW8.out.trans (hb9.mono HW8.out.size)
  have hD9 := HD8.out.later hb9
  have hR9 := HR8.out.later hb9
  have hml : m < w9.heap.size := (Array.getElem?_eq_some_iff.1 hm).1
  have s0 : w9.cell? ⟨w.heap.size + 1 + 1, 0, none⟩ = some (.pointer (some ⟨p, 0, none⟩)) := cell_of_row w9 _ 0 _ _ _ y2
  have g0 : w9.frozen? ⟨w.heap.size + 1 + 1, 0, none⟩ = false := frozen_of_row w9 _ 0 _ _ y2
  have s1 : w9.cell? ⟨w.heap.size + 1 + 1, 1, none⟩ = some (.pointer (some ⟨lp, 0, none⟩)) := cell_of_row w9 _ 1 _ _ _ y2
  have g1 : w9.frozen? ⟨w.heap.size + 1 + 1, 1, none⟩ = false := frozen_of_row w9 _ 1 _ _ y2
  have s2 : w9.cell? ⟨w.heap.size + 1 + 1, 2, none⟩ = some (.pointer none) := cell_of_row w9 _ 2 _ _ _ y2
  have g2 : w9.frozen? ⟨w.heap.size + 1 + 1, 2, none⟩ = false := frozen_of_row w9 _ 2 _ _ y2
  have x10 : (w9.setCell ⟨w.heap.size + 1 + 1, 2, none⟩ (.pointer (some ⟨m, 0, none⟩))).heap[w.heap.size + 1 + 1]? = _ := Go.heap_setCell_same w9 (w.heap.size + 1 + 1) 2 _ _ (.pointer (some ⟨m, 0, none⟩)) y2
  have x101 := (Below.heap_setCell w9 ⟨w.heap.size + 1 + 1, 2, none⟩ (.pointer (some ⟨m, 0, none⟩)) (w.heap.size + 1) (by simp)).trans y1
  have hl10 : LogAt (w9.setCell ⟨w.heap.size + 1 + 1, 2, none⟩ (.pointer (some ⟨m, 0, none⟩))) lp p (s : Int) ((l : Int) - 1) 1 0 0 (.slice none 0 0) := (Below.heap_setCell w9 ⟨w.heap.size + 1 + 1, 2, none⟩ (.pointer (some ⟨m, 0, none⟩)) lp (by have := Z6.out.1; have := HLP.out; simp; omega)).trans hl9
  have hm10 : RefLog (w9.setCell ⟨w.heap.size + 1 + 1, 2, none⟩ (.pointer (some ⟨m, 0, none⟩))) m r (s : Int) (l : Int) 1 0 := (Below.heap_setCell w9 ⟨w.heap.size + 1 + 1, 2, none⟩ (.pointer (some ⟨m, 0, none⟩)) m (by simp; omega)).trans hm
  have hT10 : Turns (fun q => q = w.heap.size + 1 + 1) w9 (w9.setCell ⟨w.heap.size + 1 + 1, 2, none⟩ (.pointer (some ⟨m, 0, none⟩))) := (Turns.refl (fun q => q = w.heap.size + 1 + 1) w9).setCell (p := ⟨w.heap.size + 1 + 1, 2, none⟩) (fun _ => rfl) _
  have hfresh : Fresh (w9.setCell ⟨w.heap.size + 1 + 1, 2, none⟩ (.pointer (some ⟨m, 0, none⟩))) p r lp m nb s l (w.heap.size + 3) F4 G5 := by
    have hz := Z.out
    have h1 := HB1.out.size
    refine ⟨hD9.turns hT10 (fun k e e' => by have := HF4.out k e; omega), hR9.turns hT10 (fun k e e' => by have := HG5.out k e; omega), fun k e e' => (HG5.out k e').2 e, fun k e => ?_, fun k e => ?_, hl10, hm10, ?_⟩
    · have a := HF4.out k e; have b := Z6.out.2.1 k e; have c := HLP.out; have d := HLP7.out; exact ⟨by omega, by omega, by omega⟩
    · have a := HG5.out k e; have b := Z6.out.2.2 k e; have c := HLP.out; have d := HLP7.out; exact ⟨by omega, by omega, by omega⟩
    · have c := HLP.out; have d := HLP7.out; have e := Z6.out.1; exact ⟨by omega, by omega, by omega⟩
  have HFR := Lib.hid hfresh; clear hfresh
  have HW10 : Hid (Below w.heap.size w (w9.setCell ⟨w.heap.size + 1 + 1, 2, none⟩ (.pointer (some ⟨m, 0, none⟩)))) := Lib.hid (hw9.setCell (p := ⟨w.heap.size + 1 + 1, 2, none⟩) (by simp; omega) _)
  have X10 := Lib.hid x10; clear x10
  have X101 := Lib.hid x101; clear x101
  clear y1 y2 t1 t2 hw9 hb9 hl9 hl10 hm10 hT10 hD9 hR9 hml hm hlm z8 z8l z78 HD8 HR8 X8 X81 HT8 HW8 HL8 HOP HD0
  go_wp2_with fail
  generalize w9.setCell ⟨w.heap.size + 1 + 1, 2, none⟩ (.pointer (some ⟨m, 0, none⟩)) = w10 at X10 X101 HFR HW10 ⊢
  clear s0 s1 s2 g0 g1 g2
  have s0 : w10.drew.cell? ⟨w.heap.size + 1 + 1, 0, none⟩ = some (.pointer (some ⟨p, 0, none⟩)) := cell_of_row w10 _ 0 _ _ _ X10.out
  have s1 : w10.drew.cell? ⟨w.heap.size + 1 + 1, 1, none⟩ = some (.pointer (some ⟨lp, 0, none⟩)) := cell_of_row w10 _ 1 _ _ _ X10.out
  have s2 : w10.drew.cell? ⟨w.heap.size + 1 + 1, 2, none⟩ = some (.pointer (some ⟨m, 0, none⟩)) := cell_of_row w10 _ 2 _ _ _ X10.out
  have r0 : w10.drew.cell? ⟨w.heap.size + 1, 0, none⟩ = some (.pointer none) := cell_of_row w10 _ 0 _ _ _ X101.out
  have f0 : w10.drew.frozen? ⟨w.heap.size + 1, 0, none⟩ = false := frozen_of_row w10 _ 0 _ _ X101.out
  have r1 : w10.drew.cell? ⟨w.heap.size + 1, 1, none⟩ = some (.pointer none) := cell_of_row w10 _ 1 _ _ _ X101.out
  have f1 : w10.drew.frozen? ⟨w.heap.size + 1, 1, none⟩ = false := frozen_of_row w10 _ 1 _ _ X101.out
  have r2 : w10.drew.cell? ⟨w.heap.size + 1, 2, none⟩ = some (.pointer none) := cell_of_row w10 _ 2 _ _ _ X101.out
  have f2 : w10.drew.frozen? ⟨w.heap.size + 1, 2, none⟩ = false := frozen_of_row w10 _ 2 _ _ X101.out
  have s0_ : w10.cell? ⟨w.heap.size + 1 + 1, 0, none⟩ = some (.pointer (some ⟨p, 0, none⟩)) := s0
  have s1_ : w10.cell? ⟨w.heap.size + 1 + 1, 1, none⟩ = some (.pointer (some ⟨lp, 0, none⟩)) := s1
  have s2_ : w10.cell? ⟨w.heap.size + 1 + 1, 2, none⟩ = some (.pointer (some ⟨m, 0, none⟩)) := s2
  have r0_ : w10.cell? ⟨w.heap.size + 1, 0, none⟩ = some (.pointer none) := r0
  have f0_ : w10.frozen? ⟨w.heap.size + 1, 0, none⟩ = false := f0
  have r1_ : w10.cell? ⟨w.heap.size + 1, 1, none⟩ = some (.pointer none) := r1
  have f1_ : w10.frozen? ⟨w.heap.size + 1, 1, none⟩ = false := f1
  have r2_ : w10.cell? ⟨w.heap.size + 1, 2, none⟩ = some (.pointer none) := r2
  have f2_ : w10.frozen? ⟨w.heap.size + 1, 2, none⟩ = false := f2
  have hne : w.heap.size + 1 ≠ w.heap.size + 1 + 1 := by omega
  have hne' : w.heap.size + 1 + 1 ≠ w.heap.size + 1 := by omega
  have hS : (w10.drew.cell? ⟨w.heap.size + 1 + 1, 0, none⟩ = some (.pointer (some ⟨p, 0, none⟩)) ∧ w10.drew.cell? ⟨w.heap.size + 1 + 1, 1, none⟩ = some (.pointer (some ⟨lp, 0, none⟩)) ∧ w10.drew.cell? ⟨w.heap.size + 1 + 1, 2, none⟩ = some (.pointer (some ⟨m, 0, none⟩))) := ⟨s0, s1, s2⟩
  go_region_held (fun V => V.cell? ⟨w.heap.size + 1 + 1, 0, none⟩ = some (.pointer (some ⟨p, 0, none⟩)) ∧ V.cell? ⟨w.heap.size + 1 + 1, 1, none⟩ = some (.pointer (some ⟨lp, 0, none⟩)) ∧ V.cell? ⟨w.heap.size + 1 + 1, 2, none⟩ = some (.pointer (some ⟨m, 0, none⟩))) (first | assumption | go_keep) (fail)
  all_goals
    go_wp2
    have h1 := Go.heap_setCell_same w10.drew (w.heap.size + 1) 0 _ _ (.pointer (some ⟨p, 0, none⟩)) X101.out
    have h2 := Go.heap_setCell_same _ (w.heap.size + 1) 1 _ _ (.pointer (some ⟨lp, 0, none⟩)) h1
    have h3 := Go.heap_setCell_same _ (w.heap.size + 1) 2 _ _ (.pointer (some ⟨m, 0, none⟩)) h2
    have hT : Turns (fun q => q = w.heap.size + 1) w10 (((w10.drew.setCell ⟨w.heap.size + 1, 0, none⟩ (.pointer (some ⟨p, 0, none⟩))).setCell ⟨w.heap.size + 1, 1, none⟩ (.pointer (some ⟨lp, 0, none⟩))).setCell ⟨w.heap.size + 1, 2, none⟩ (.pointer (some ⟨m, 0, none⟩))) := (((Turns.refl (fun q => q = w.heap.size + 1) w10).drew.setCell (p := ⟨w.heap.size + 1, 0, none⟩) (fun _ => rfl) _).setCell (p := ⟨w.heap.size + 1, 1, none⟩) (fun _ => rfl) _).setCell (p := ⟨w.heap.size + 1, 2, none⟩) (fun _ => rfl) _
    refine bodyPost_ret (results_pair rfl _ _ (w.heap.size + 1) #[.pointer (some ⟨p, 0, none⟩), .pointer (some ⟨lp, 0, none⟩), .pointer (some ⟨m, 0, none⟩)] _ rfl rfl (load_pair _ _ _ rfl h3)) rfl ⟨p, r, lp, m, F4, G5, rfl, HFR.out.keep hT (by omega), ?_⟩
    exact ((HW10.out.drew.setCell (p := ⟨w.heap.size + 1, 0, none⟩) (by simp) _).setCell (p := ⟨w.heap.size + 1, 1, none⟩) (by simp) _).setCell (p := ⟨w.heap.size + 1, 2, none⟩) (by simp) _
end Go.Proofs.Ytelnoibfamcnmaa.Log
