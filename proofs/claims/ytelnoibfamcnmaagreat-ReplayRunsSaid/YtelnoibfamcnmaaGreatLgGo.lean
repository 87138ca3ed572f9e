/- A log goes on: whatever a deed's record is, an Append and a Sync leave a log on its disk, and every block outside of the ring as it was. -/
import Derived.Test.YtelnoibfamcnmaaGreatLgAlive
import Derived.Test.YtelnoibfamcnmaaGreatRcHeld
import Derived.Test.YtelnoibfamcnmaaGreatLgArea
import Derived.Laws.BitsAllLaws
import Derived.Test.YtelnoibfamcnmaaGreatLgOpenedOk
namespace Go.Proofs.YtelnoibfamcnmaaGreat.Log
set_option maxRecDepth 20000
open Go.RowKit
open Go.Proofs.YtelnoibfamcnmaaGreat.Mem Go.Proofs.YtelnoibfamcnmaaGreat.Crc Go.Proofs.YtelnoibfamcnmaaGreat.Disk
open Go.Proofs.YtelnoibfamcnmaaGreat.Rec (Tx Wt TxAt HoldsW HoldsI IsInt enc_any Told enc_len mayB_iff numFrom eqB)

set_option maxRecDepth 100000 in
set_option maxHeartbeats 2000000 in
/-- The record may not be. -/
theorem append_mayno (lp p s r seq pl used nl m c : Nat) (v : Value) (d : Dk.Dk) (F : Nat → Prop) (w : World) (h : LogOn w lp p s r seq pl used v nl d c F m) (t : Tx) (Aw Ar : Option Addr) (nw cw nr cr : Nat) (ht : ∀ W, Turns (fun q => F q ∨ q = lp) w W → TxAt W w.heap.size t Aw nw cw Ar nr cr)
    (hsq : t.seq = seq) (hmay : t.mayB = false) :
    Calls Tryz.prog 20 #[.pointer (some ⟨lp, 0, none⟩), .slice Aw nw cw, .slice Ar nr cr] w fun e w' => e = .returned (.tuple #[.int .u64 0, .int .i64 17]) ∧ Below w.heap.size w w' := by
  have hw0 := ht w (Turns.refl _ _)
  have HT := Lib.hid ht; clear ht
  have H := Lib.hid h; clear h
  have c4 : w.cell? ⟨lp, 4, none⟩ = some (.int .u64 (seq : Int)) := by have := H.out.log; unfold LogAt logCells at this; exact cell_of_row w lp 4 _ _ _ this
  have hb1 : Below w.heap.size w (w.alloc (.cells #[.int .u64 (seq : Int), .slice Aw nw cw, .slice Ar nr cr] 63)) := (Below.refl _ w).alloc (Nat.le_refl _) _
  have henc := enc_any t Aw Ar nw cw nr cr w.heap.size _ (HT.out _ (Turns.of_below hb1)) hb1.size
  rw [hsq] at henc
  have HENC := Lib.hid henc; clear henc
  have HB1 := Lib.hid hb1; clear hb1 hw0
  go_enter Tryz.func20, Tryz.ntmps20
  go_wp2_with fail
  generalize w.alloc (.cells #[.int .u64 (seq : Int), .slice Aw nw cw, .slice Ar nr cr] 63) = W1 at HB1 HENC ⊢
  refine HENC.out.mono ?_
  rintro e W2 (⟨-, rfl, hb2⟩ | ⟨hy, _⟩)
  · have HB2 : Hid (Below w.heap.size w W2) := Lib.hid (HB1.out.trans (hb2.mono HB1.out.size))
    clear hb2 HENC c4
    go_wp2_with fail
    first | (go_region_with (fail)) | fail
    all_goals
      go_wp2
      go_ret2
      exact ⟨rfl, HB2.out.drew⟩
  · rw [hmay] at hy; cases hy
set_option maxRecDepth 100000 in
set_option maxHeartbeats 4000000 in
theorem append_takesno (lp p s r seq pl used nl m c : Nat) (v : Value) (d : Dk.Dk) (F : Nat → Prop) (w : World) (h : LogOn w lp p s r seq pl used v nl d c F m) (t : Tx) (Aw Ar : Option Addr) (nw cw nr cr : Nat) (ht : ∀ W, Turns (fun q => F q ∨ q = lp) w W → TxAt W w.heap.size t Aw nw cw Ar nr cr)
    (hsq : t.seq = seq) (hmay : t.mayB = true) (htk : takesB d.stable.length s r t = false) :
    Calls Tryz.prog 20 #[.pointer (some ⟨lp, 0, none⟩), .slice Aw nw cw, .slice Ar nr cr] w fun e w' => e = .returned (.tuple #[.int .u64 0, .int .i64 17]) ∧ Below w.heap.size w w' := by
  have hmayT := (mayB_iff t).1 hmay
  have hel := enc_len t hmayT
  have hw0 := ht w (Turns.refl _ _)
  have hnw : t.ws.length = nw := hw0.ws.1
  have hnr : t.rs.length = nr := hw0.rs.1
  have hhi := hmayT.hi
  obtain ⟨hg7, hg1, hgp, hgd, hgu⟩ := h.ring
  have hlw : lp < w.heap.size := (Array.getElem?_eq_some_iff.1 h.log).1
  have HT := Lib.hid ht; clear ht
  have HM := Lib.hid hmayT; clear hmayT
  have H := Lib.hid h; clear h
  have c4 : w.cell? ⟨lp, 4, none⟩ = some (.int .u64 (seq : Int)) := by have := H.out.log; unfold LogAt logCells at this; exact cell_of_row w lp 4 _ _ _ this
  have hb1 : Below w.heap.size w (w.alloc (.cells #[.int .u64 (seq : Int), .slice Aw nw cw, .slice Ar nr cr] 63)) := (Below.refl _ w).alloc (Nat.le_refl _) _
  have hx1 : (w.alloc (.cells #[.int .u64 (seq : Int), .slice Aw nw cw, .slice Ar nr cr] 63)).heap[w.heap.size]? = some (.cells #[.int .u64 (seq : Int), .slice Aw nw cw, .slice Ar nr cr] 63 (0, 0)) := heap_alloc_new w _
  have henc := enc_any t Aw Ar nw cw nr cr w.heap.size _ (HT.out _ (Turns.of_below hb1)) hb1.size
  rw [hsq] at henc
  have HENC := Lib.hid henc; clear henc
  have HB1 := Lib.hid hb1; clear hb1
  have HX1 := Lib.hid hx1; clear hx1
  go_enter Tryz.func20, Tryz.ntmps20
  go_wp2_with fail
  generalize w.alloc (.cells #[.int .u64 (seq : Int), .slice Aw nw cw, .slice Ar nr cr] 63) = W1 at HB1 HX1 HENC ⊢
  refine HENC.out.mono ?_
  rintro e W2 (⟨hn, _⟩ | ⟨-, A, cp, rfl, ho, hb2⟩)
  · rw [hmay] at hn; cases hn
  obtain ⟨N, hN⟩ : ∃ N, N = t.enc.length := ⟨_, rfl⟩
  rw [← hN] at ho
  have hNn : N = 256 * (nw + 2) := by rw [hN, hel, hnw]
  obtain ⟨g, cap, cur, hv, hgb, hgl, -, hcap, hcapm, -, -⟩ := Go.Proofs.YtelnoibfamcnmaaGreat.Rec.Owned.cut ho (by rw [← hN]; omega)
  rw [← hN] at hv hcap ⊢
  injection hv with e1 _ e3
  subst e1 e3
  have hHo := Go.Proofs.YtelnoibfamcnmaaGreat.Rec.Owned.reads ho
  have HHO := Lib.hid hHo; clear hHo ho
  have hB2 : Below w.heap.size w W2 := HB1.out.trans (hb2.mono HB1.out.size)
  have HX2 : Hid (W2.heap[w.heap.size]? = some (.cells #[.int .u64 (seq : Int), .slice Aw nw cw, .slice Ar nr cr] 63 (0, 0))) := Lib.hid ((hb2.block _ (Array.getElem?_eq_some_iff.1 HX1.out).1).trans HX1.out)
  have hgw : w.heap.size < g := by have := (Array.getElem?_eq_some_iff.1 HX1.out).1; omega
  have H2 := Lib.hid (H.out.later hB2)
  have HB2 := Lib.hid hB2; clear hB2
  have htake : ∀ V, Below W2.heap.size W2 V → Calls Tryz.prog 52 #[.agg #[.pointer (some ⟨p, 0, none⟩), .int .i64 (s : Int), .int .i64 (r : Int)], .agg #[.int .u64 (seq : Int), .slice Aw nw cw, .slice Ar nr cr]] V fun e w' => e = .returned (.bool false) ∧ Below V.heap.size V w' := fun V hV => by
    have hwV : Below w.heap.size w V := HB2.out.trans (hV.mono HB2.out.size)
    have := takes_d s r d p c F V (H2.out.later hV).disk.at (by omega) t Aw Ar nw cw nr cr w.heap.size (HT.out V (Turns.of_below hwV)) hwV.size
    rw [htk, hsq] at this
    exact this
  have HTK := Lib.hid htake; clear htake
  have hkeep : ∀ V, Below W2.heap.size W2 V → (V.cell? ⟨lp, 1, none⟩ = some (.pointer (some ⟨p, 0, none⟩)) ∧ V.cell? ⟨lp, 2, none⟩ = some (.int .i64 (s : Int)) ∧ V.cell? ⟨lp, 3, none⟩ = some (.int .i64 (r : Int)) ∧ V.cell? ⟨w.heap.size, 0, none⟩ = some (.int .u64 (seq : Int)) ∧ V.cell? ⟨w.heap.size, 1, none⟩ = some (.slice Aw nw cw) ∧ V.cell? ⟨w.heap.size, 2, none⟩ = some (.slice Ar nr cr)) := fun V hV => by
    have hl := (H2.out.later hV).log
    unfold LogAt logCells at hl
    have hx := (hV.block _ (Array.getElem?_eq_some_iff.1 HX2.out).1).trans HX2.out
    exact ⟨cell_of_row V lp 1 _ _ _ hl, cell_of_row V lp 2 _ _ _ hl, cell_of_row V lp 3 _ _ _ hl, cell_of_row V _ 0 _ _ _ hx, cell_of_row V _ 1 _ _ _ hx, cell_of_row V _ 2 _ _ _ hx⟩
  have HKEEP := Lib.hid hkeep; clear hkeep
  have HNn := Lib.hid hNn; clear hNn
  clear hN hel hb2 HENC c4
  have hS := HKEEP.out W2.drew (Below.refl _ W2).drew
  go_wp2_with fail
  go_region_held (fun V => V.cell? ⟨lp, 1, none⟩ = some (.pointer (some ⟨p, 0, none⟩)) ∧ V.cell? ⟨lp, 2, none⟩ = some (.int .i64 (s : Int)) ∧ V.cell? ⟨lp, 3, none⟩ = some (.int .i64 (r : Int)) ∧ V.cell? ⟨w.heap.size, 0, none⟩ = some (.int .u64 (seq : Int)) ∧ V.cell? ⟨w.heap.size, 1, none⟩ = some (.slice Aw nw cw) ∧ V.cell? ⟨w.heap.size, 2, none⟩ = some (.slice Ar nr cr)) (assumption)
    (first
      | (go_at_call 52
         have hcall := HTK.out _ (Below.refl _ W2).drew
         with_reducible refine hcall.mono ?_
         rintro e V5 ⟨rfl, hb5⟩
         clear hcall hS
         have hB5 : Below W2.heap.size W2 V5 := (Below.refl _ W2).drew.trans hb5
         have hS1 := HKEEP.out V5 hB5
         have HB5 := Lib.hid hB5
         clear hb5 hB5))
  all_goals
    clear hS1 HTK HKEEP
    have HB6 : Hid (Below w.heap.size w V5) := Lib.hid (HB2.out.trans (HB5.out.mono HB2.out.size))
    go_wp2
    go_ret2
    exact ⟨rfl, HB6.out⟩

set_option maxRecDepth 100000 in
set_option maxHeartbeats 4000000 in
theorem append_full (lp p s r seq pl used nl m c : Nat) (v : Value) (d : Dk.Dk) (F : Nat → Prop) (w : World) (h : LogOn w lp p s r seq pl used v nl d c F m) (t : Tx) (Aw Ar : Option Addr) (nw cw nr cr : Nat) (ht : ∀ W, Turns (fun q => F q ∨ q = lp) w W → TxAt W w.heap.size t Aw nw cw Ar nr cr)
    (hsq : t.seq = seq) (hmay : t.mayB = true) (htk : takesB d.stable.length s r t = true) (hroom : ¬ used + (nw + 2) ≤ r) :
    Calls Tryz.prog 20 #[.pointer (some ⟨lp, 0, none⟩), .slice Aw nw cw, .slice Ar nr cr] w fun e w' => e = .returned (.tuple #[.int .u64 0, .int .i64 9]) ∧ Below w.heap.size w w' := by
  have hmayT := (mayB_iff t).1 hmay
  have hel := enc_len t hmayT
  have hw0 := ht w (Turns.refl _ _)
  have hnw : t.ws.length = nw := hw0.ws.1
  have hnr : t.rs.length = nr := hw0.rs.1
  have hhi := hmayT.hi
  obtain ⟨hg7, hg1, hgp, hgd, hgu⟩ := h.ring
  have hlw : lp < w.heap.size := (Array.getElem?_eq_some_iff.1 h.log).1
  have HT := Lib.hid ht; clear ht
  have HM := Lib.hid hmayT; clear hmayT
  have H := Lib.hid h; clear h
  have c4 : w.cell? ⟨lp, 4, none⟩ = some (.int .u64 (seq : Int)) := by have := H.out.log; unfold LogAt logCells at this; exact cell_of_row w lp 4 _ _ _ this
  have hb1 : Below w.heap.size w (w.alloc (.cells #[.int .u64 (seq : Int), .slice Aw nw cw, .slice Ar nr cr] 63)) := (Below.refl _ w).alloc (Nat.le_refl _) _
  have hx1 : (w.alloc (.cells #[.int .u64 (seq : Int), .slice Aw nw cw, .slice Ar nr cr] 63)).heap[w.heap.size]? = some (.cells #[.int .u64 (seq : Int), .slice Aw nw cw, .slice Ar nr cr] 63 (0, 0)) := heap_alloc_new w _
  have henc := enc_any t Aw Ar nw cw nr cr w.heap.size _ (HT.out _ (Turns.of_below hb1)) hb1.size
  rw [hsq] at henc
  have HENC := Lib.hid henc; clear henc
  have HB1 := Lib.hid hb1; clear hb1
  have HX1 := Lib.hid hx1; clear hx1
  go_enter Tryz.func20, Tryz.ntmps20
  go_wp2_with fail
  generalize w.alloc (.cells #[.int .u64 (seq : Int), .slice Aw nw cw, .slice Ar nr cr] 63) = W1 at HB1 HX1 HENC ⊢
  refine HENC.out.mono ?_
  rintro e W2 (⟨hn, _⟩ | ⟨-, A, cp, rfl, ho, hb2⟩)
  · rw [hmay] at hn; cases hn
  obtain ⟨N, hN⟩ : ∃ N, N = t.enc.length := ⟨_, rfl⟩
  rw [← hN] at ho
  have hNn : N = 256 * (nw + 2) := by rw [hN, hel, hnw]
  obtain ⟨g, cap, cur, hv, hgb, hgl, -, hcap, hcapm, -, -⟩ := Go.Proofs.YtelnoibfamcnmaaGreat.Rec.Owned.cut ho (by rw [← hN]; omega)
  rw [← hN] at hv hcap ⊢
  injection hv with e1 _ e3
  subst e1 e3
  have hHo := Go.Proofs.YtelnoibfamcnmaaGreat.Rec.Owned.reads ho
  have HHO := Lib.hid hHo; clear hHo ho
  have hB2 : Below w.heap.size w W2 := HB1.out.trans (hb2.mono HB1.out.size)
  have HX2 : Hid (W2.heap[w.heap.size]? = some (.cells #[.int .u64 (seq : Int), .slice Aw nw cw, .slice Ar nr cr] 63 (0, 0))) := Lib.hid ((hb2.block _ (Array.getElem?_eq_some_iff.1 HX1.out).1).trans HX1.out)
  have hgw : w.heap.size < g := by have := (Array.getElem?_eq_some_iff.1 HX1.out).1; omega
  have H2 := Lib.hid (H.out.later hB2)
  have HB2 := Lib.hid hB2; clear hB2
  have htake : ∀ V, Below W2.heap.size W2 V → Calls Tryz.prog 52 #[.agg #[.pointer (some ⟨p, 0, none⟩), .int .i64 (s : Int), .int .i64 (r : Int)], .agg #[.int .u64 (seq : Int), .slice Aw nw cw, .slice Ar nr cr]] V fun e w' => e = .returned (.bool true) ∧ Below V.heap.size V w' := fun V hV => by
    have hwV : Below w.heap.size w V := HB2.out.trans (hV.mono HB2.out.size)
    have := takes_d s r d p c F V (H2.out.later hV).disk.at (by omega) t Aw Ar nw cw nr cr w.heap.size (HT.out V (Turns.of_below hwV)) hwV.size
    rw [htk, hsq] at this
    exact this
  have HTK := Lib.hid htake; clear htake
  have hkeep : ∀ V, Below W2.heap.size W2 V → (V.cell? ⟨lp, 1, none⟩ = some (.pointer (some ⟨p, 0, none⟩)) ∧ V.cell? ⟨lp, 2, none⟩ = some (.int .i64 (s : Int)) ∧ V.cell? ⟨lp, 3, none⟩ = some (.int .i64 (r : Int)) ∧ V.cell? ⟨w.heap.size, 0, none⟩ = some (.int .u64 (seq : Int)) ∧ V.cell? ⟨w.heap.size, 1, none⟩ = some (.slice Aw nw cw) ∧ V.cell? ⟨w.heap.size, 2, none⟩ = some (.slice Ar nr cr)) := fun V hV => by
    have hl := (H2.out.later hV).log
    unfold LogAt logCells at hl
    have hx := (hV.block _ (Array.getElem?_eq_some_iff.1 HX2.out).1).trans HX2.out
    exact ⟨cell_of_row V lp 1 _ _ _ hl, cell_of_row V lp 2 _ _ _ hl, cell_of_row V lp 3 _ _ _ hl, cell_of_row V _ 0 _ _ _ hx, cell_of_row V _ 1 _ _ _ hx, cell_of_row V _ 2 _ _ _ hx⟩
  have HKEEP := Lib.hid hkeep; clear hkeep
  have HNn := Lib.hid hNn; clear hNn
  clear hN hel hb2 HENC c4
  have hS := HKEEP.out W2.drew (Below.refl _ W2).drew
  go_wp2_with fail
  go_region_held (fun V => V.cell? ⟨lp, 1, none⟩ = some (.pointer (some ⟨p, 0, none⟩)) ∧ V.cell? ⟨lp, 2, none⟩ = some (.int .i64 (s : Int)) ∧ V.cell? ⟨lp, 3, none⟩ = some (.int .i64 (r : Int)) ∧ V.cell? ⟨w.heap.size, 0, none⟩ = some (.int .u64 (seq : Int)) ∧ V.cell? ⟨w.heap.size, 1, none⟩ = some (.slice Aw nw cw) ∧ V.cell? ⟨w.heap.size, 2, none⟩ = some (.slice Ar nr cr)) (assumption)
    (first
      | (go_at_call 52
         have hcall := HTK.out _ (Below.refl _ W2).drew
         with_reducible refine hcall.mono ?_
         rintro e V5 ⟨rfl, hb5⟩
         clear hcall hS
         have hB5 : Below W2.heap.size W2 V5 := (Below.refl _ W2).drew.trans hb5
         have hS1 := HKEEP.out V5 hB5
         have HB5 := Lib.hid hB5
         clear hb5 hB5))
  all_goals
    clear hS1 HTK HKEEP
    have H5 := Lib.hid (H2.out.later HB5.out)
    have hroomc := room_any lp p seq pl used (s : Int) (r : Int) v V5 H5.out.log (by omega) (by omega)
    have HRC := Lib.hid hroomc; clear hroomc
    have hq1 : (N : Int) / 256 = (nw : Int) + 2 := by have := HNn.out; omega
    have hn58 : nw ≤ 58 := by omega
    have hq2 : (r : Int) - (used : Int) < (nw : Int) + 2 := by omega
    go_wp2_with fail
    with_reducible refine HRC.out.mono ?_
    rintro e V6 ⟨rfl, hb6⟩
    clear HRC
    have HB6 : Hid (Below w.heap.size w V6) := Lib.hid (HB2.out.trans ((HB5.out.trans (hb6.mono HB5.out.size)).mono HB2.out.size))
    clear hb6
    go_wp2
    go_ret2
    exact ⟨rfl, HB6.out⟩

end Go.Proofs.YtelnoibfamcnmaaGreat.Log

namespace Go.Proofs.YtelnoibfamcnmaaGreat.Log
set_option maxRecDepth 20000
open Go.RowKit
open Go.Proofs.YtelnoibfamcnmaaGreat.Mem Go.Proofs.YtelnoibfamcnmaaGreat.Crc Go.Proofs.YtelnoibfamcnmaaGreat.Disk
open Go.Proofs.YtelnoibfamcnmaaGreat.Rec (Tx Wt enc_len mayB_iff)

/-- The disk d is as d0 was outside of a ring of r blocks behind block s. -/
structure Still (s r : Nat) (d0 d : Dk.Dk) : Prop where
  ok : d.Ok
  free : d.fuse = none
  size : d.stable.length = d0.stable.length
  same : ∀ i, i ≤ s ∨ s + r < i → d.read i = d0.read i

theorem Still.refl {s r : Nat} {d : Dk.Dk} (h : d.Ok) (hf : d.fuse = none) : Still s r d d := ⟨h, hf, rfl, fun _ _ => rfl⟩
theorem Still.flush {s r : Nat} {d0 d : Dk.Dk} (h : Still s r d0 d) : Still s r d0 d.flush :=
  ⟨Dk.flush_ok d h.ok, Dk.deed_free d h.free none, (Dk.size_flush d).trans h.size, fun i hi => (Dk.read_flush d h.ok i).trans (h.same i hi)⟩
theorem Still.write {s r pl : Nat} {d0 d : Dk.Dk} (h : Still s r d0 d) (b : List UInt8) (hb : b.length = 256) (hp : pl < r) (hs : s + 1 + r ≤ d.stable.length) : Still s r d0 (d.write (s + 1 + pl) b) :=
  ⟨Dk.write_ok d h.ok _ b (by omega) hb, Dk.deed_free d h.free (some (s + 1 + pl, b)), (Dk.size_write d _ b).trans h.size, fun i hi => by
    rw [Dk.read_write d h.ok, if_neg (by omega)]
    exact h.same i hi⟩
theorem flat_take : ∀ (L : List (List UInt8)) (k : Nat), (∀ x ∈ L, x.length = 256) → L.flatten.take (256 * k) = (L.take k).flatten
  | [], k, _ => by simp
  | x :: L, 0, _ => by simp
  | x :: L, k + 1, h => by
    have hx := h x (by simp)
    rw [List.flatten_cons, List.take_succ_cons, List.flatten_cons, List.take_append, hx, List.take_of_length_le (by omega), show 256 * (k + 1) - 256 = 256 * k by omega, flat_take L k (fun y hy => h y (by simp [hy]))]
theorem flat_len : ∀ (L : List (List UInt8)), (∀ x ∈ L, x.length = 256) → L.flatten.length = 256 * L.length
  | [], _ => rfl
  | x :: L, h => by
    rw [List.flatten_cons, List.length_append, h x (by simp), flat_len L (fun y hy => h y (by simp [hy])), List.length_cons]
    omega
theorem image_all (d : Dk.Dk) (h : d.Ok) : ∀ x ∈ d.image, x.length = 256 := by
  intro x hx
  unfold Dk.Dk.image at hx
  obtain ⟨i, hi, rfl⟩ := List.mem_map.1 hx
  exact Dk.read_len d h i (List.mem_range.1 hi)
theorem Still.head {s r : Nat} {d0 d : Dk.Dk} (h : Still s r d0 d) (h0 : d0.Ok) : d.image.flatten.take (256 * (s + 1)) = d0.image.flatten.take (256 * (s + 1)) := by
  rw [flat_take _ _ (image_all d h.ok), flat_take _ _ (image_all d0 h0)]
  congr 1
  unfold Dk.Dk.image
  rw [h.size]
  apply List.ext_getElem?
  intro i
  simp only [List.getElem?_take, List.getElem?_map]
  by_cases hi : i < s + 1
  · rw [if_pos hi, if_pos hi]
    by_cases hn : i < d0.stable.length
    · simp only [List.getElem?_range hn, Option.map_some]
      rw [h.same i (by omega)]
    · rw [List.getElem?_eq_none (by simp; omega)]; rfl
  · rw [if_neg hi, if_neg hi]
end Go.Proofs.YtelnoibfamcnmaaGreat.Log

namespace Go.Proofs.YtelnoibfamcnmaaGreat.Log
set_option maxRecDepth 20000
open Go.ChangeShapes Go.WideShapes Go.ChangeAt Go.RowKit Go.Deep
open Go.Proofs.YtelnoibfamcnmaaGreat.Mem Go.Proofs.YtelnoibfamcnmaaGreat.Lift Go.Proofs.YtelnoibfamcnmaaGreat.Crc
open Go.Proofs.YtelnoibfamcnmaaGreat.Rec (Tx Wt TxAt HoldsW HoldsI IsInt txn_part bytes_part exists_list)

section
variable {H : Type} {enc : TypeId × Value → H} {P : Program} {w : World} {base : Nat} {spare : Nat → Bool} {held : Bool}
/-- A struct whose fields have one cell each, field by field. -/
theorem fields_of {t : TypeId} {fs : Array Field} {fuel : Nat} {cs : List Value} {x : DataW H × List MemPlace} (hs : P.underlying t = some (.struct fs)) (hone : oneCellFields P fs = true) (hC : P.cellsOf t = fs.size)
    (h : DataW.trod enc P w base spare held fuel t cs = some x) : cs.length = fs.size ∧ ∃ n, ∀ (j : Nat) (f : Field) (v : Value), fs[j]? = some f → cs[j]? = some v → ∃ y, DataW.trod enc P w base spare held n f.type [v] = some y := by
  obtain ⟨ys, n, _, _, hl, hyl, hf⟩ := DataW.trod_struct hs h
  refine ⟨hl.trans hC, n, fun j f v hj hv => ?_⟩
  obtain ⟨ho, hk⟩ := hone_of hone j f hj
  have hlt : j < cs.length := (List.getElem?_eq_some_iff.1 hv).1
  have h1 := hf j f hj
  rw [ho, hk, List.drop_eq_getElem_cons hlt] at h1
  have hcv : cs[j] = v := Option.some.inj ((List.getElem?_eq_getElem hlt).symm.trans hv)
  rw [hcv] at h1
  have hjl : j < ys.length := by have := (Array.getElem?_eq_some_iff.1 hj).1; omega
  exact ⟨ys[j], h1.trans (List.getElem?_eq_getElem hjl)⟩
end


structure DeedL where
  op : Int
  t : Tx
  Aw : Option Addr
  nw : Nat
  cw : Nat
  Ar : Option Addr
  nr : Nat
  cr : Nat
  Ab : Option Addr
  nb : Nat
  cb : Nat
  bs : List UInt8
def DeedL.cells (x : DeedL) : List Value := [.int .i64 x.op, .int .u64 (x.t.seq : Int), .slice x.Aw x.nw x.cw, .slice x.Ar x.nr x.cr, .slice x.Ab x.nb x.cb]
structure DeedL.Is (w : World) (B : Nat) (x : DeedL) : Prop where
  txn : TxAt w B x.t x.Aw x.nw x.cw x.Ar x.nr x.cr
  bits : Holds w B x.Ab x.nb x.bs
  fits : x.nb ≤ x.cb ∧ x.cb ≤ maxLen
  op : IsInt x.op
theorem DeedL.Is.below {w w' : World} {B : Nat} {x : DeedL} (h : x.Is w B) (hb : Below B w w') : x.Is w' B := ⟨h.txn.below hb, h.bits.below hb, h.fits, h.op⟩

/-- A slice of deeds, all below block B. -/
def DeedsL (w : World) (B : Nat) (A : Option Addr) (n : Nat) (xs : List DeedL) : Prop :=
  xs.length = n ∧ (0 < n → ∃ b off, A = some ⟨b, off, none⟩ ∧ b < B ∧ ∀ j, (h : j < xs.length) → ∀ k, k < 5 → w.cell? ⟨b, off + j * 5 + k, none⟩ = xs[j].cells[k]?) ∧ ∀ x ∈ xs, x.Is w B
theorem DeedsL.below {w w' : World} {B : Nat} {A : Option Addr} {n : Nat} {xs : List DeedL} (h : DeedsL w B A n xs) (hb : Below B w w') : DeedsL w' B A n xs :=
  ⟨h.1, fun hn => by
    obtain ⟨b, off, e, hl, hc⟩ := h.2.1 hn
    exact ⟨b, off, e, hl, fun j hj k hk => (hb.cell (p := ⟨b, off + j * 5 + k, none⟩) hl).trans (hc j hj k hk)⟩, fun x hx => (h.2.2 x hx).below hb⟩
theorem DeedsL.take {w : World} {B : Nat} {A : Option Addr} {n k : Nat} {xs : List DeedL} (h : DeedsL w B A n xs) (hk : k ≤ n) : DeedsL w B A k (xs.take k) :=
  ⟨by rw [List.length_take, h.1]; omega, fun h0 => by
    obtain ⟨b, off, e, hl, hc⟩ := h.2.1 (by omega)
    refine ⟨b, off, e, hl, fun j hj q hq => ?_⟩
    rw [List.length_take] at hj
    rw [List.getElem_take]
    exact hc j (by omega) q hq, fun x hx => h.2.2 x (List.mem_of_mem_take hx)⟩


theorem weights_elem {H : Type} {P : Program} {e : TypeId} : ∀ (l : List (DataW H)) (d : DataW H), d ∈ l → (DataW.weightsAll P e l).all (· ≤ reachBytes) = true → (d.weights P e).all (· ≤ reachBytes) = true
  | [], d, h, _ => by cases h
  | x :: r, d, h, hw => by
    simp only [DataW.weightsAll, List.all_append, Bool.and_eq_true] at hw
    rcases List.mem_cons.1 h with rfl | h
    · exact hw.1
    · exact weights_elem r d h hw.2


def fewL (n : Nat) : Nat := if n > 24 then 24 else n

end Go.Proofs.YtelnoibfamcnmaaGreat.Log

namespace Go.Proofs.YtelnoibfamcnmaaGreat.Log
set_option maxRecDepth 20000
open Go.RowKit
open Go.Proofs.YtelnoibfamcnmaaGreat.Mem Go.Proofs.YtelnoibfamcnmaaGreat.Crc Go.Proofs.YtelnoibfamcnmaaGreat.Disk
open Go.Proofs.YtelnoibfamcnmaaGreat.Rec (Tx Wt TxAt HoldsW HoldsI IsInt enc_any Told enc_len mayB_iff numFrom eqB)

/-- A log at lp on the disk at p, at least sq records, cb writes, nb live ones: outside of the ring the disk is as d0 was, outside of the log's own blocks the world is as W0 was. -/
def Going (W0 wr : World) (lp p s r : Nat) (d0 : Dk.Dk) (F0 : Nat → Prop) (sq cb nb : Nat) (calm : Bool) : Prop :=
  ∃ seq pl used v nl d c F m, LogOn wr lp p s r seq pl used v nl d c F m ∧ Still s r d0 d ∧ (calm = true → d.pend = []) ∧ seq ≤ sq ∧ c ≤ cb ∧ nl ≤ nb ∧ (∀ q, F q → F0 q ∨ W0.heap.size ≤ q) ∧ (∀ q, v.ownBlock = some q → W0.heap.size ≤ q) ∧ Turns (fun q => F0 q ∨ q = lp) W0 wr

theorem Going.more {W0 wr : World} {lp p s r sq cb nb sq' cb' nb' : Nat} {d0 : Dk.Dk} {F0 : Nat → Prop} {b b' : Bool} (h : Going W0 wr lp p s r d0 F0 sq cb nb b) (h1 : sq ≤ sq') (h2 : cb ≤ cb') (h3 : nb ≤ nb') (h4 : b' = true → b = true) : Going W0 wr lp p s r d0 F0 sq' cb' nb' b' := by
  obtain ⟨seq, pl, used, v, nl, d, c, F, m, a1, a2, a3, a4, a5, a6, a7⟩ := h
  exact ⟨seq, pl, used, v, nl, d, c, F, m, a1, a2, fun e => a3 (h4 e), by omega, by omega, by omega, a7⟩
theorem Going.later {W0 wr w' : World} {lp p s r sq cb nb : Nat} {d0 : Dk.Dk} {F0 : Nat → Prop} {b : Bool} (h : Going W0 wr lp p s r d0 F0 sq cb nb b) (hb : Below wr.heap.size wr w') : Going W0 w' lp p s r d0 F0 sq cb nb b := by
  obtain ⟨seq, pl, used, v, nl, d, c, F, m, a1, a2, a3, a4, a5, a6, a7, a8, a9⟩ := h
  exact ⟨seq, pl, used, v, nl, d, c, F, m, a1.later hb, a2, a3, a4, a5, a6, a7, a8, a9.trans (Turns.of_below (F := fun q => F0 q ∨ q = lp) hb) (fun _ _ e => e)⟩
/-- What stands in other blocks than the log's own. -/
theorem Going.turns {W0 wr : World} {lp p s r sq cb nb : Nat} {d0 : Dk.Dk} {F0 : Nat → Prop} {b : Bool} (h : Going W0 wr lp p s r d0 F0 sq cb nb b) : Turns (fun q => F0 q ∨ q = lp) W0 wr := by
  obtain ⟨_, _, _, _, _, _, _, _, _, _, _, _, _, _, _, _, _, a9⟩ := h
  exact a9

theorem Going.lt {W0 w : World} {lp p s r sq cb nb : Nat} {d0 : Dk.Dk} {F0 : Nat → Prop} {b : Bool} (h : Going W0 w lp p s r d0 F0 sq cb nb b) : lp < w.heap.size := by
  obtain ⟨seq, pl, used, v, nl, d, c, F, m, hL, _⟩ := h
  exact (Array.getElem?_eq_some_iff.1 hL.log).1
end Go.Proofs.YtelnoibfamcnmaaGreat.Log
