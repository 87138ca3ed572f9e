/- Recover: the chain goes home, and none is left. -/
import Derived.Test.YtelnoibfamcnmaaGreatRpAll
import Derived.Test.YtelnoibfamcnmaaGreatLgOpenedOk
import Derived.Deep.RegionHeld3
namespace Go.Proofs.YtelnoibfamcnmaaGreat.Rp
set_option maxRecDepth 20000
open Go.RowKit
open Go.Proofs.YtelnoibfamcnmaaGreat.Mem Go.Proofs.YtelnoibfamcnmaaGreat.Crc Go.Proofs.YtelnoibfamcnmaaGreat.Disk Go.Proofs.YtelnoibfamcnmaaGreat.Log
open Go.Proofs.YtelnoibfamcnmaaGreat.Rec (Tx Wt TxAt)

theorem load_chain (w : World) (g : Nat) (cs : Array Value) (h3 : cs.size = 5) (hg : w.heap[g]? = some (.cells cs 68 (0, 0))) : (loadVar 68 ⟨g, 0, none⟩).run Tryz.prog w = .ok (.agg cs) w :=
  run_loadVar_row w g _ _ cs (0, 0) _ hg Tryz.underlying68 rfl (by rw [h3]; kernel_rfl)
theorem five_cells {w : World} {g : Nat} {v0 v1 v2 v3 v4 : Value} {ty : TypeId} (h : w.heap[g]? = some (.cells #[v0, v1, v2, v3, v4] ty (0, 0))) : w.cell? ⟨g, 0, none⟩ = some v0 ∧ w.cell? ⟨g, 1, none⟩ = some v1 ∧ w.cell? ⟨g, 2, none⟩ = some v2 ∧ w.cell? ⟨g, 3, none⟩ = some v3 ∧ w.cell? ⟨g, 4, none⟩ = some v4 :=
  ⟨cell_of_row w g 0 _ _ _ h, cell_of_row w g 1 _ _ _ h, cell_of_row w g 2 _ _ _ h, cell_of_row w g 3 _ _ _ h, cell_of_row w g 4 _ _ _ h⟩
theorem five_frozen {w : World} {g : Nat} {cs : Array Value} {ty : TypeId} (h : w.heap[g]? = some (.cells cs ty (0, 0))) : w.frozen? ⟨g, 0, none⟩ = false ∧ w.frozen? ⟨g, 1, none⟩ = false ∧ w.frozen? ⟨g, 2, none⟩ = false ∧ w.frozen? ⟨g, 3, none⟩ = false ∧ w.frozen? ⟨g, 4, none⟩ = false :=
  ⟨frozen_of_row w g 0 _ _ h, frozen_of_row w g 1 _ _ h, frozen_of_row w g 2 _ _ h, frozen_of_row w g 3 _ _ h, frozen_of_row w g 4 _ _ h⟩
theorem five_set {w : World} {g : Nat} {v0 v1 v2 v3 v4 : Value} {ty : TypeId} (h : w.heap[g]? = some (.cells #[v0, v1, v2, v3, v4] ty (0, 0))) (u0 u1 u2 u3 u4 : Value) :
    (((((w.setCell ⟨g, 0, none⟩ u0).setCell ⟨g, 1, none⟩ u1).setCell ⟨g, 2, none⟩ u2).setCell ⟨g, 3, none⟩ u3).setCell ⟨g, 4, none⟩ u4).heap[g]? = some (.cells #[u0, u1, u2, u3, u4] ty (0, 0)) := by
  have h1 := heap_setCell_same _ g 0 _ _ u0 h
  have h2 := heap_setCell_same _ g 1 _ _ u1 h1
  have h3 := heap_setCell_same _ g 2 _ _ u2 h2
  have h4 := heap_setCell_same _ g 3 _ _ u3 h3
  have h5 := heap_setCell_same _ g 4 _ _ u4 h4
  rw [h5]
  rfl
theorem five_below {w w0 : World} {B g : Nat} (h : Below B w0 w) (hg : B ≤ g) (u0 u1 u2 u3 u4 : Value) : Below B w0 (((((w.setCell ⟨g, 0, none⟩ u0).setCell ⟨g, 1, none⟩ u1).setCell ⟨g, 2, none⟩ u2).setCell ⟨g, 3, none⟩ u3).setCell ⟨g, 4, none⟩ u4) :=
  ((((h.setCell (p := ⟨g, 0, none⟩) hg _).setCell (p := ⟨g, 1, none⟩) hg _).setCell (p := ⟨g, 2, none⟩) hg _).setCell (p := ⟨g, 3, none⟩) hg _).setCell (p := ⟨g, 4, none⟩) hg _
def noChain : Value := .agg #[.pointer none, .int .i64 0, .int .i64 0, .int .u64 0, .int .i64 0]

set_option maxHeartbeats 2000000 in
theorem at_bad (S L : Int) (p : Option Addr) (k : Nat) (hk : k ≠ 0) (w : World) (h : ∀ W, Below w.heap.size w W → Calls Tryz.prog 19 #[.pointer p, .int .i64 S, .int .i64 L] W fun e w' => e = .returned (.tuple #[.pointer none, .int .i64 (k : Int)]) ∧ Below W.heap.size W w') :
    Calls Tryz.prog 28 #[.pointer p, .int .i64 S, .int .i64 L] w fun e w' => e = .returned (.tuple #[noChain, .int .i64 (k : Int)]) ∧ Below w.heap.size w w' := by
  have hx0 : (w.alloc (.cells #[.pointer none, .int .i64 0, .int .i64 0, .int .u64 0, .int .i64 0] 68)).heap[w.heap.size]? = some (.cells #[.pointer none, .int .i64 0, .int .i64 0, .int .u64 0, .int .i64 0] 68 (0, 0)) := heap_alloc_new w _
  have hb0 : Below w.heap.size w (w.alloc (.cells #[.pointer none, .int .i64 0, .int .i64 0, .int .u64 0, .int .i64 0] 68)) := (Below.refl _ w).alloc (Nat.le_refl _) _
  have hop := h _ hb0
  have HX0 := Lib.hid hx0; clear hx0
  have HB0 := Lib.hid hb0; clear hb0
  have HOP := Lib.hid hop; clear hop h
  have hk' : ¬ (k : Int) = 0 := by omega
  go_enter Tryz.func28, Tryz.ntmps28
  go_wp2_with fail
  generalize w.alloc (.cells #[.pointer none, .int .i64 0, .int .i64 0, .int .u64 0, .int .i64 0] 68) = W at HX0 HB0 HOP ⊢
  with_reducible refine HOP.out.mono ?_
  rintro e w2 ⟨rfl, hb2⟩
  clear HOP
  have hx2 := (hb2.block _ (Array.getElem?_eq_some_iff.1 HX0.out).1).trans HX0.out
  have hbw2 := HB0.out.trans (hb2.mono HB0.out.size)
  obtain ⟨c0, c1, c2, c3, c4⟩ := five_cells hx2
  obtain ⟨f0, f1, f2, f3, f4⟩ := five_frozen hx2
  have HX2 := Lib.hid hx2; clear hx2
  have HB2 := Lib.hid hbw2; clear hbw2 hb2
  go_wp2
  have h5 := five_set HX2.out (.pointer none) (.int .i64 0) (.int .i64 0) (.int .u64 0) (.int .i64 0)
  refine bodyPost_ret (results_pair rfl _ _ w.heap.size _ _ rfl rfl (load_chain _ _ _ rfl h5)) rfl ⟨rfl, five_below HB2.out (Nat.le_refl _) _ _ _ _ _⟩

set_option maxHeartbeats 2000000 in
theorem at_ok (s l : Nat) (d : Dk.Dk) (p c : Nat) (F : Nat → Prop) (w : World) (h : DiskAt w p d c F) (hc : c ≤ 1048576) (h8 : 8 ≤ l) (hs : s + l ≤ d.stable.length) (hok : okH (d.read s) (l - 1) = true) :
    Calls Tryz.prog 28 #[.pointer (some ⟨p, 0, none⟩), .int .i64 (s : Int), .int .i64 (l : Int)] w fun e w' => e = .returned (.tuple #[chainV p s (l - 1) (seqH (d.read s)) (plH (d.read s)), .int .i64 0]) ∧ Below w.heap.size w w' := by
  have hx0 : (w.alloc (.cells #[.pointer none, .int .i64 0, .int .i64 0, .int .u64 0, .int .i64 0] 68)).heap[w.heap.size]? = some (.cells #[.pointer none, .int .i64 0, .int .i64 0, .int .u64 0, .int .i64 0] 68 (0, 0)) := heap_alloc_new w _
  have hb0 : Below w.heap.size w (w.alloc (.cells #[.pointer none, .int .i64 0, .int .i64 0, .int .u64 0, .int .i64 0] 68)) := (Below.refl _ w).alloc (Nat.le_refl _) _
  have hdk : ∀ V, Below w.heap.size w V → DiskAt V p d c F := fun V hV => h.turns (Turns.of_below (F := fun _ => False) hV) (fun _ _ e => e)
  have hop := open_d s l _ _ rfl rfl d p c F _ (hdk _ hb0) hc h8 hs hok
  unfold ptr at hop
  obtain ⟨sq, hsq⟩ : ∃ sq, sq = seqH (d.read s) := ⟨_, rfl⟩
  obtain ⟨pl, hpl⟩ : ∃ pl, pl = plH (d.read s) := ⟨_, rfl⟩
  obtain ⟨rI, hrI⟩ : ∃ rI : Int, rI = (l : Int) - 1 := ⟨_, rfl⟩
  have hr1 : ((l - 1 : Nat) : Int) = rI := by omega
  have hof : ∀ V, Below w.heap.size w V → Calls Tryz.prog 49 #[.pointer (some ⟨p, 0, none⟩), .int .i64 (s : Int), .int .i64 (l : Int)] V fun e w' => e = .returned (.tuple #[.agg #[.pointer (some ⟨p, 0, none⟩), .int .i64 (s : Int), .int .i64 rI], .bool true]) ∧ Below V.heap.size V w' := fun V hV => by
    rw [hrI]
    exact of_ok s l _ _ rfl rfl d p c F V (hdk V hV) h8 hs
  rw [← hsq, ← hpl] at hop ⊢
  rw [← hrI] at hop
  unfold chainV
  rw [hr1]
  have HX0 := Lib.hid hx0; clear hx0
  have HB0 := Lib.hid hb0; clear hb0
  have HOP := Lib.hid hop; clear hop h
  have HDK := Lib.hid hdk; clear hdk
  have HOF := Lib.hid hof; clear hof
  clear hok hrI hr1 hsq hpl
  go_enter Tryz.func28, Tryz.ntmps28
  go_wp2_with fail
  generalize w.alloc (.cells #[.pointer none, .int .i64 0, .int .i64 0, .int .u64 0, .int .i64 0] 68) = W at HX0 HB0 HOP ⊢
  with_reducible refine HOP.out.mono ?_
  rintro e w2 ⟨lp, rfl, hlog, hlp, hb2⟩
  clear HOP
  have hbw2 := HB0.out.trans (hb2.mono HB0.out.size)
  have hnx := next_any lp p sq pl 0 _ _ _ w2 hlog
  have HX2 := Lib.hid ((hb2.block _ (Array.getElem?_eq_some_iff.1 HX0.out).1).trans HX0.out)
  have HB2 := Lib.hid hbw2; clear hbw2 hb2 hlog
  have HNX := Lib.hid hnx; clear hnx
  go_wp2_with fail
  with_reducible refine HNX.out.mono ?_
  rintro e w3 ⟨rfl, hb3⟩
  clear HNX
  have hof := HOF.out w3 (HB2.out.trans (hb3.mono HB2.out.size))
  have HX3 := Lib.hid ((hb3.block _ (Array.getElem?_eq_some_iff.1 HX2.out).1).trans HX2.out)
  have HB3 := Lib.hid (HB2.out.trans (hb3.mono HB2.out.size)); clear hb3
  have HOF3 := Lib.hid hof; clear hof HOF
  go_wp2_with fail
  with_reducible refine HOF3.out.mono ?_
  rintro e w4 ⟨rfl, hb4⟩
  clear HOF3
  have hx4 := (hb4.block _ (Array.getElem?_eq_some_iff.1 HX3.out).1).trans HX3.out
  have hb4' := HB3.out.trans (hb4.mono HB3.out.size)
  obtain ⟨w5, hw5⟩ : ∃ w5, w5 = w4.alloc (.cells #[.pointer (some ⟨p, 0, none⟩), .int .i64 (s : Int), .int .i64 rI] 66) := ⟨_, rfl⟩
  have hb5 : Below w4.heap.size w4 w5 := hw5 ▸ (Below.refl _ w4).alloc (Nat.le_refl _) _
  have hx5 := (hb5.block _ (Array.getElem?_eq_some_iff.1 hx4).1).trans hx4
  have hy5 : w5.heap[w4.heap.size]? = some (.cells #[.pointer (some ⟨p, 0, none⟩), .int .i64 (s : Int), .int .i64 rI] 66 (0, 0)) := hw5 ▸ heap_alloc_new w4 _
  have y0 : w5.cell? ⟨w4.heap.size, 0, none⟩ = some (.pointer (some ⟨p, 0, none⟩)) := cell_of_row w5 _ 0 _ _ _ hy5
  have y1 : w5.cell? ⟨w4.heap.size, 1, none⟩ = some (.int .i64 (s : Int)) := cell_of_row w5 _ 1 _ _ _ hy5
  have y2 : w5.cell? ⟨w4.heap.size, 2, none⟩ = some (.int .i64 rI) := cell_of_row w5 _ 2 _ _ _ hy5
  obtain ⟨c0, c1, c2, c3, c4⟩ := five_cells hx5
  obtain ⟨f0, f1, f2, f3, f4⟩ := five_frozen hx5
  rw [hw5] at y0 y1 y2 c0 c1 c2 c3 c4 f0 f1 f2 f3 f4
  have HX5 := Lib.hid hx5; clear hx5 hx4 hy5
  have HB5 := Lib.hid (hb4'.trans (hb5.mono hb4'.size)); clear hb4 hb4' hb5
  have HW5 := Lib.hid hw5; clear hw5
  go_wp2
  rw [← HW5.out]
  have h5 := five_set HX5.out (.pointer (some ⟨p, 0, none⟩)) (.int .i64 (s : Int)) (.int .i64 rI) (.int .u64 (sq : Int)) (.int .i64 (pl : Int))
  refine bodyPost_ret (results_pair rfl _ _ w.heap.size _ _ rfl rfl (load_chain _ _ _ rfl h5)) rfl ⟨rfl, five_below HB5.out (Nat.le_refl _) _ _ _ _ _⟩

set_option maxHeartbeats 2000000 in
theorem scan_bad (S L : Int) (p : Option Addr) (k : Nat) (hk : k ≠ 0) (w : World) (h : ∀ W, Below w.heap.size w W → Calls Tryz.prog 19 #[.pointer p, .int .i64 S, .int .i64 L] W fun e w' => e = .returned (.tuple #[.pointer none, .int .i64 (k : Int)]) ∧ Below W.heap.size W w') :
    Calls Tryz.prog 6 #[.pointer p, .int .i64 S, .int .i64 L] w fun e w' => e = .returned (.tuple #[.slice none 0 0, .int .i64 (k : Int)]) ∧ Below w.heap.size w w' := by
  have hat := at_bad S L p k hk w h
  unfold noChain at hat
  have HAT := Lib.hid hat; clear hat h
  have hk' : ¬ (k : Int) = 0 := by omega
  go_enter Tryz.func6, Tryz.ntmps6
  go_wp2_with fail
  with_reducible refine HAT.out.mono ?_
  rintro e w2 ⟨rfl, hb2⟩
  clear HAT
  have HB2 := Lib.hid hb2; clear hb2
  go_wp2
  go_ret2
  exact ⟨rfl, HB2.out.alloc HB2.out.size _⟩

/-- What Scan leaves: the chain's records, in memory of the caller's. -/
def ScanAt (w : World) (n s r : Nat) (ts : List Tx) (e : Ending) (w' : World) : Prop :=
  ∃ A c' L, e = .returned (.tuple #[.slice A ts.length c', .int .i64 0]) ∧ Live w' (fun q => q < w.heap.size) n s r (.slice A ts.length c') ts.length L ∧ L.map (·.t) = ts ∧ (∀ q, (Value.slice A ts.length c').ownBlock = some q → w.heap.size ≤ q) ∧ Below w.heap.size w w'

set_option maxHeartbeats 2000000 in
theorem scan_ok (s l : Nat) (d : Dk.Dk) (p c : Nat) (F : Nat → Prop) (w : World) (h : DiskAt w p d c F) (hc : c ≤ 1048576) (h8 : 8 ≤ l) (hl : l ≤ 1024) (hs : s + l ≤ d.stable.length) (hok : okH (d.read s) (l - 1) = true) :
    Calls Tryz.prog 6 #[.pointer (some ⟨p, 0, none⟩), .int .i64 (s : Int), .int .i64 (l : Int)] w (ScanAt w d.stable.length s (l - 1) (chainD d s (l - 1))) := by
  have hat := at_ok s l d p c F w h hc h8 hs hok
  have hpl : plH (d.read s) < l - 1 := by
    unfold okH at hok
    rw [Bool.and_eq_true] at hok
    exact of_decide_eq_true hok.1
  have hall : ∀ V, Below w.heap.size w V → _ := fun V hV => all_d s (l - 1) (seqH (d.read s)) (plH (d.read s)) d p c F V (h.turns (Turns.of_below (F := fun _ => False) hV) (fun _ _ e => e)) hc (by omega) (by omega) hpl (by omega) (seqH_lt _) (chainD d s (l - 1)) rfl
  obtain ⟨ts, hts⟩ : ∃ ts, ts = chainD d s (l - 1) := ⟨_, rfl⟩
  obtain ⟨sq, hsq⟩ : ∃ sq, sq = seqH (d.read s) := ⟨_, rfl⟩
  obtain ⟨pl, hpl⟩ : ∃ pl, pl = plH (d.read s) := ⟨_, rfl⟩
  obtain ⟨r, hr⟩ : ∃ r, r = l - 1 := ⟨_, rfl⟩
  rw [← hsq, ← hpl, ← hr] at hat
  rw [← hsq, ← hpl, ← hr] at hall
  rw [← hr] at hts
  rw [← hr, ← hts]
  rw [← hts] at hall
  unfold chainV at hat hall
  have HAT := Lib.hid hat; clear hat h
  have HALL := Lib.hid hall; clear hall
  clear hok hpl hsq hts hr hs hl h8
  obtain ⟨n, hn⟩ : ∃ n, n = d.stable.length := ⟨_, rfl⟩
  rw [← hn] at HALL ⊢
  clear hn
  go_enter Tryz.func6, Tryz.ntmps6
  go_wp2_with fail
  with_reducible refine HAT.out.mono ?_
  rintro e w2 ⟨rfl, hb2⟩
  clear HAT
  obtain ⟨w3, hw3⟩ : ∃ w3, w3 = w2.alloc (.cells #[.pointer (some ⟨p, 0, none⟩), .int .i64 (s : Int), .int .i64 (r : Int), .int .u64 (sq : Int), .int .i64 (pl : Int)] 68) := ⟨_, rfl⟩
  have hx3 : w3.heap[w2.heap.size]? = some (.cells #[.pointer (some ⟨p, 0, none⟩), .int .i64 (s : Int), .int .i64 (r : Int), .int .u64 (sq : Int), .int .i64 (pl : Int)] 68 (0, 0)) := hw3 ▸ heap_alloc_new w2 _
  have hb3 : Below w.heap.size w w3 := hw3 ▸ hb2.alloc hb2.size _
  have hal := HALL.out w3 hb3
  obtain ⟨c0, c1, c2, c3, c4⟩ := five_cells hx3
  rw [hw3] at c0 c1 c2 c3 c4 hal
  have HB3 := Lib.hid hb3; clear hb3 hb2 hx3
  have HAL := Lib.hid hal; clear hal HALL
  have HW3 := Lib.hid hw3; clear hw3
  go_wp2_with fail
  refine HAL.out.mono ?_
  rintro e w4 ⟨A, c', L, rfl, hlive, hmap, hown, hb4⟩
  rw [← HW3.out] at hlive hown hb4
  clear HAL c0 c1 c2 c3 c4
  have HLIVE := Lib.hid hlive; clear hlive
  have HMAP := Lib.hid hmap; clear hmap
  have HOWN := Lib.hid hown; clear hown
  have HB4 := Lib.hid hb4; clear hb4
  obtain ⟨nl, hnl⟩ : ∃ nl, nl = ts.length := ⟨_, rfl⟩
  rw [← hnl] at HLIVE HOWN ⊢
  have HNL := Lib.hid hnl; clear hnl
  go_wp2
  go_ret2
  have hz := HB3.out.size
  refine ⟨A, c', L, by rw [← HNL.out]; rfl, ?_, HMAP.out, ?_, HB3.out.trans (HB4.out.mono hz)⟩
  · rw [← HNL.out]; exact HLIVE.out.mono (fun q _ hq => by omega)
  · rw [← HNL.out]; intro q hq; have := HOWN.out q hq; omega
end Go.Proofs.YtelnoibfamcnmaaGreat.Rp

namespace Go.Proofs.YtelnoibfamcnmaaGreat.Rp
set_option maxRecDepth 20000
open Go.RowKit
open Go.Proofs.YtelnoibfamcnmaaGreat.Mem Go.Proofs.YtelnoibfamcnmaaGreat.Crc Go.Proofs.YtelnoibfamcnmaaGreat.Disk Go.Proofs.YtelnoibfamcnmaaGreat.Log
open Go.Proofs.YtelnoibfamcnmaaGreat.Rec (Tx Wt TxAt)

set_option maxHeartbeats 2000000 in
theorem recover_bad (S L : Int) (p : Option Addr) (k : Nat) (hk : k ≠ 0) (w : World) (h : ∀ W, Below w.heap.size w W → Calls Tryz.prog 19 #[.pointer p, .int .i64 S, .int .i64 L] W fun e w' => e = .returned (.tuple #[.pointer none, .int .i64 (k : Int)]) ∧ Below W.heap.size W w') :
    Calls Tryz.prog 7 #[.pointer p, .int .i64 S, .int .i64 L] w fun e w' => e = .returned (.tuple #[.int .i64 0, .int .i64 (k : Int)]) ∧ Below w.heap.size w w' := by
  have hat := at_bad S L p k hk w h
  unfold noChain at hat
  have HAT := Lib.hid hat; clear hat h
  have hk' : ¬ (k : Int) = 0 := by omega
  go_enter Tryz.func7, Tryz.ntmps7
  go_wp2_with fail
  with_reducible refine HAT.out.mono ?_
  rintro e w2 ⟨rfl, hb2⟩
  clear HAT
  have HB2 := Lib.hid hb2; clear hb2
  go_wp2
  go_ret2
  exact ⟨rfl, HB2.out.alloc HB2.out.size _⟩

theorem Homing.put {W wr : World} {p c s r pl : Nat} {F : Nat → Prop} {d : Dk.Dk} {A : Option Addr} {cb B : Nat} {data : List UInt8} (h : Homing W p F wr d c) (hc : c < 1048576) (hs : s + 1 + pl < d.stable.length) (hd : Holds wr B A 256 data) (hB : B ≤ wr.heap.size) :
    Calls Tryz.prog 32 #[.agg #[.pointer (some ⟨p, 0, none⟩), .int .i64 (s : Int), .int .i64 (r : Int)], .int .i64 (pl : Int), .slice A 256 cb] wr fun e w' => e = .returned (.tuple #[]) ∧ Homing W p F w' (d.write (s + 1 + pl) data) (c + 1) := by
  obtain ⟨F', hD, hF, hT⟩ := h
  exact (put_d s pl (r : Int) A cb B data d p c F' wr hD hc hs hd hB).mono fun e w' h2 => Homing.now hF hT h2
theorem wrap_add (a b : Nat) : IntKind.u64.wrap ((a : Int) + (b : Int)) = (((a + b) % 18446744073709551616 : Nat) : Int) := by
  unfold IntKind.wrap
  simp [IntKind.signed, IntKind.bits]
theorem wrap_is (a : Nat) (h : a < 18446744073709551616) : IntKind.u64.wrap (a : Int) = (a : Int) := by
  have := wrap_add a 0
  rw [Nat.add_zero, Nat.mod_eq_of_lt h] at this
  simpa using this

set_option maxRecDepth 100000 in
set_option maxHeartbeats 4000000 in
theorem recover_ok (s l : Nat) (d : Dk.Dk) (p c : Nat) (F : Nat → Prop) (w : World) (h : DiskAt w p d c F) (hc : c + 62464 < 1048576) (h8 : 8 ≤ l) (hl : l ≤ 1024) (hs : s + l ≤ d.stable.length) (hok : okH (d.read s) (l - 1) = true) :
    Calls Tryz.prog 7 #[.pointer (some ⟨p, 0, none⟩), .int .i64 (s : Int), .int .i64 (l : Int)] w fun e w' => e = .returned (.tuple #[.int .i64 ((chainD d s (l - 1)).length : Int), .int .i64 0]) ∧ Homing w p F w' (recD d s (l - 1)) (c + 62464) := by
  have hat := at_ok s l d p c F w h (by omega) h8 hs hok
  have hpl : plH (d.read s) < l - 1 := by
    unfold okH at hok
    rw [Bool.and_eq_true] at hok
    exact of_decide_eq_true hok.1
  have hlt : ∀ q, F q → q < w.heap.size := fun q hq => h.lt q hq
  have hdk : ∀ V, Below w.heap.size w V → DiskAt V p d c F := fun V hV => h.turns (Turns.of_below (F := fun _ => False) hV) (fun _ _ e => e)
  have hall : ∀ V, Below w.heap.size w V → _ := fun V hV => all_d s (l - 1) (seqH (d.read s)) (plH (d.read s)) d p c F V (hdk V hV) (by omega) (by omega) (by omega) hpl (by omega) (seqH_lt _) (chainD d s (l - 1)) rfl
  have hsum := chainD_sum d h.ok.1 s (l - 1) (by omega) (by omega)
  have hsz := h.ok.2.2
  obtain ⟨n, hn⟩ : ∃ n, n = d.stable.length := ⟨_, rfl⟩
  rw [← hn] at hall hsz hs
  obtain ⟨r, hr⟩ : ∃ r, r = l - 1 := ⟨_, rfl⟩
  have hrec : recD d s r = (((homeL (revsOf (chainD d s r)) d (chainD d s r)).flush.write (s + 1 + backD d s r) (List.replicate 256 0)).write s (headH (seqD d s r) (backD d s r))).flush := rfl
  have hsq2 : seqD d s r = (seqH (d.read s) + (chainD d s r).length + (r + 1)) % 18446744073709551616 := rfl
  have hbk : backD d s r = (plH (d.read s) + sumT (chainD d s r)) % r := rfl
  rw [← hr] at hat hall hsum hpl ⊢
  obtain ⟨ts, hts⟩ : ∃ ts, ts = chainD d s r := ⟨_, rfl⟩
  obtain ⟨sq, hsq⟩ : ∃ sq, sq = seqH (d.read s) := ⟨_, rfl⟩
  obtain ⟨pl, hple⟩ : ∃ pl, pl = plH (d.read s) := ⟨_, rfl⟩
  rw [← hts] at hall hsum hrec hsq2 hbk ⊢
  rw [← hsq] at hat hall hsq2
  rw [← hple] at hat hall hbk hpl
  obtain ⟨bk, hbke⟩ : ∃ bk, bk = backD d s r := ⟨_, rfl⟩
  obtain ⟨q2, hq2⟩ : ∃ q2, q2 = seqD d s r := ⟨_, rfl⟩
  obtain ⟨dr, hdr⟩ : ∃ dr, dr = recD d s r := ⟨_, rfl⟩
  rw [← hbke] at hbk
  rw [← hq2] at hsq2
  rw [← hdr, ← hbke, ← hq2] at hrec
  rw [← hdr]
  have hlr : l = r + 1 := by omega
  rw [← hlr] at hsq2
  have hr2 : r ≤ 1023 := by omega
  have hsr : s + r < n := by omega
  have HLR := Lib.hid hlr; clear hlr
  clear hr hdr hq2 hbke hts hsq hple hok
  unfold chainV at hat hall
  have HAT := Lib.hid hat; clear hat h
  have HALL := Lib.hid hall; clear hall
  have HREC := Lib.hid hrec; clear hrec
  have HSQ2 := Lib.hid hsq2; clear hsq2
  have HBK := Lib.hid hbk; clear hbk
  have HLT := Lib.hid hlt; clear hlt
  have HDK := Lib.hid hdk; clear hdk
  have HN := Lib.hid hn; clear hn
  obtain ⟨hsum1, hsum2⟩ := hsum
  obtain ⟨nl, hnl⟩ : ∃ nl, nl = ts.length := ⟨_, rfl⟩
  obtain ⟨sm, hsm⟩ : ∃ sm, sm = sumT ts := ⟨_, rfl⟩
  rw [← hnl] at hsum2 HALL HSQ2 ⊢
  rw [← hsm] at hsum1 HALL HBK
  have HNL := Lib.hid hnl; clear hnl
  have HSM := Lib.hid hsm; clear hsm
  go_enter Tryz.func7, Tryz.ntmps7
  go_wp2_with fail
  with_reducible refine HAT.out.mono ?_
  rintro e w2 ⟨rfl, hb2⟩
  clear HAT
  obtain ⟨w3, hw3⟩ : ∃ w3, w3 = w2.alloc (.cells #[.pointer (some ⟨p, 0, none⟩), .int .i64 (s : Int), .int .i64 (r : Int), .int .u64 (sq : Int), .int .i64 (pl : Int)] 68) := ⟨_, rfl⟩
  have hx3 : w3.heap[w2.heap.size]? = some (.cells #[.pointer (some ⟨p, 0, none⟩), .int .i64 (s : Int), .int .i64 (r : Int), .int .u64 (sq : Int), .int .i64 (pl : Int)] 68 (0, 0)) := hw3 ▸ heap_alloc_new w2 _
  have hb3 : Below w.heap.size w w3 := hw3 ▸ hb2.alloc hb2.size _
  have hal := HALL.out w3 hb3
  obtain ⟨c0, c1, c2, c3, c4⟩ := five_cells hx3
  rw [hw3] at c0 c1 c2 c3 c4 hal
  have HZ2 := Lib.hid hb2.size
  have HX3 := Lib.hid hx3
  have HB3 := Lib.hid hb3; clear hb3 hb2 hx3
  have HAL := Lib.hid hal; clear hal HALL
  have HW3 := Lib.hid hw3; clear hw3
  go_wp2_with fail
  refine HAL.out.mono ?_
  rintro e w4 ⟨A, c', L, rfl, hlive, hmap, hown, hb4⟩
  rw [← HW3.out] at hlive hown hb4
  clear HAL c0 c1 c2 c3 c4
  have hz3 : w2.heap.size < w3.heap.size := (Array.getElem?_eq_some_iff.1 HX3.out).1
  have hb4w := HB3.out.trans (hb4.mono HB3.out.size)
  have hst : Homing w4 p F w4 d c := Homing.start (HDK.out w4 hb4w)
  have hx4 := (hb4.block _ hz3).trans HX3.out
  have harea := Homing.area (r := r) hlive hst HN.out.symm (fun q hq => by have := HLT.out q hq; have := HB3.out.size; omega) (fun q hq e => by have := hown q hq; have := HLT.out q e; have := HB3.out.size; omega) (by omega) (by omega)
  rw [hmap] at harea
  have HAREA := Lib.hid harea; clear harea hst hlive hmap hown
  have HX4 := Lib.hid hx4
  have HB4 := Lib.hid hb4w; clear hb4w hb4
  obtain ⟨c0, c1, c2, c3, c4⟩ := five_cells hx4
  clear hx4
  go_wp2_with fail
  with_reducible refine HAREA.out.mono ?_
  rintro e w5 ⟨rfl, hh5⟩
  clear HAREA c0 c1 c2 c3 c4
  have hkeep : ∀ V, Turns F w4 V → V.heap[w2.heap.size]? = some (.cells #[.pointer (some ⟨p, 0, none⟩), .int .i64 (s : Int), .int .i64 (r : Int), .int .u64 (sq : Int), .int .i64 (pl : Int)] 68 (0, 0)) := fun V hV =>
    (hV.block _ (Array.getElem?_eq_some_iff.1 HX4.out).1 (fun e => by have := HLT.out _ e; have := HZ2.out; omega)).trans HX4.out
  have HKEEP := Lib.hid hkeep; clear hkeep
  have hsz5 : (homeL (revsOf ts) d ts).stable.length = n := by rw [homeL_size]; exact HN.out.symm
  obtain ⟨d5, hd5⟩ : ∃ d5, d5 = homeL (revsOf ts) d ts := ⟨_, rfl⟩
  rw [← hd5] at hh5 hsz5
  have HREC2 : Hid (dr = ((d5.flush.write (s + 1 + bk) (List.replicate 256 0)).write s (headH q2 bk)).flush) := Lib.hid (by rw [hd5]; exact HREC.out)
  clear hd5
  have hfl := hh5.flush (by omega)
  have HFL := Lib.hid hfl; clear hfl hh5
  go_wp2_with fail
  with_reducible refine HFL.out.mono ?_
  rintro e w6 ⟨rfl, hh6⟩
  clear HFL
  have HH6 := Lib.hid hh6; clear hh6
  obtain ⟨c0, c1, c2, c3, c4⟩ := five_cells (HKEEP.out w6 HH6.out.turns)
  have hwn := wrap_is nl (by omega)
  have hw1 := wrap_add sq nl
  have hwl := wrap_is l (by omega)
  have hbeh := behind_any p pl sm r (s : Int) w6 (by omega) (by omega) (by omega) (by omega)
  rw [show ((pl : Int) + (sm : Int)) % (r : Int) = (bk : Int) by rw [HBK.out]; simp] at hbeh
  unfold areaV ptr at hbeh
  have HBEH := Lib.hid hbeh; clear hbeh
  obtain ⟨q1, hq1⟩ : ∃ q1, q1 = (sq + nl) % 18446744073709551616 := ⟨_, rfl⟩
  rw [← hq1] at hw1
  have hw2 : IntKind.u64.wrap ((q1 : Int) + (l : Int)) = (q2 : Int) := by
    rw [wrap_add, HSQ2.out, hq1]
    congr 1
    omega
  have HQ1 := Lib.hid hq1; clear hq1
  go_wp2_with fail
  with_reducible refine HBEH.out.mono ?_
  rintro e w7 ⟨rfl, hb7⟩
  clear HBEH c0 c1 c2 c3 c4
  have HH7 := Lib.hid (HH6.out.later hb7); clear hb7
  have hbkr : bk < r := by rw [HBK.out]; exact Nat.mod_lt _ (by omega)
  have hmk : ∀ W, (Instr.makeSlice 25 (.int .i64 256) (.int .i64 256)).run Tryz.prog W = .ok (.slice (some ⟨W.heap.size, 0, none⟩) 256 256) (W.alloc (.cells ((List.replicate 256 (0 : UInt8)).map byteV).toArray 5)) := fun W => Go.Proofs.YtelnoibfamcnmaaGreat.Rec.run_makeZ 256 (by omega) W
  obtain ⟨bx, hbx⟩ : ∃ bx, bx = Obj.cells ((List.replicate 256 (0 : UInt8)).map byteV).toArray 5 := ⟨_, rfl⟩
  rw [← hbx] at hmk
  have hb8 : Below w7.heap.size w7 (w7.alloc bx).drew := ((Below.refl _ w7).alloc (Nat.le_refl _) _).drew
  have hh8 := HH7.out.later hb8
  have hz8 : Holds (w7.alloc bx).drew (w7.heap.size + 1) (some ⟨w7.heap.size, 0, none⟩) 256 (List.replicate 256 0) := by
    have h1 := owned_made w7 (List.replicate 256 0) w7.heap.size (Nat.le_refl _) (by unfold maxLen; simp)
    have h2 := Go.Proofs.YtelnoibfamcnmaaGreat.Rec.Owned.reads h1
    rw [hbx]
    simpa using h2.below (Below.refl _ _).drew
  have hput := Homing.put (r := r) (cb := 256) (s := s) (pl := bk) hh8 (by omega) (by rw [Dk.size_flush, hsz5]; omega) hz8 (by simp)
  have hq7 := five_cells (HKEEP.out w7.drew (HH7.out.drew).turns)
  have hq8 := five_cells (HKEEP.out _ hh8.turns)
  have HPUT := Lib.hid hput; clear hput hh8 hz8
  have HBX := Lib.hid hbx; clear hbx
  go_wp2_with fail
  go_region_held3 (fun V => V.cell? ⟨w2.heap.size, 0, none⟩ = some (.pointer (some ⟨p, 0, none⟩)) ∧ V.cell? ⟨w2.heap.size, 1, none⟩ = some (.int .i64 (s : Int)) ∧ V.cell? ⟨w2.heap.size, 2, none⟩ = some (.int .i64 (r : Int)) ∧ V.cell? ⟨w2.heap.size, 3, none⟩ = some (.int .u64 (sq : Int)) ∧ V.cell? ⟨w2.heap.size, 4, none⟩ = some (.int .i64 (pl : Int))) (first | exact hq7 | exact hq8 | assumption)
    (first
      | (go_at_call 32
         have hcall := HPUT.out
         with_reducible refine hcall.mono ?_
         clear hcall
         rintro e w9 ⟨rfl, hh9⟩
         have hq9 := five_cells (HKEEP.out w9 hh9.turns)))
  all_goals
    clear hq7 hq8 hq9
    have HH9 := Lib.hid hh9; clear hh9
    obtain ⟨c0, c1, c2, c3, c4⟩ := five_cells (HKEEP.out w9 HH9.out.turns)
    have hph := HH9.out.puthead (s := s) (r := r) (seq := q2) (pl := bk) (by omega) (by rw [Dk.size_write, Dk.size_flush, hsz5]; omega) (by omega)
    have HPH := Lib.hid hph; clear hph
    go_wp2_with fail
    with_reducible refine HPH.out.mono ?_
    rintro e w10 ⟨rfl, hh10⟩
    clear HPH c0 c1 c2 c3 c4
    have hf10 := hh10.flush (by omega)
    have HF10 := Lib.hid hf10; clear hf10 hh10
    go_wp2_with fail
    with_reducible refine HF10.out.mono ?_
    rintro e w11 ⟨rfl, hh11⟩
    clear HF10
    rw [← HREC2.out] at hh11
    have HH11 := Lib.hid hh11; clear hh11
    go_wp2
    go_ret2
    exact ⟨rfl, (HH11.out.comp (fun k hk => .inl hk) (Turns.of_below (F := F) HB4.out)).more (by omega)⟩
end Go.Proofs.YtelnoibfamcnmaaGreat.Rp
