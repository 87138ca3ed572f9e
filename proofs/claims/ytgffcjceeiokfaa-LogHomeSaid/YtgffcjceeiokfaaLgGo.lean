/- A log goes on: whatever a deed's record is, an Append and a Sync leave a log on its disk, and every block outside of the ring as it was. -/
import Derived.Test.YtgffcjceeiokfaaLgAlive
import Derived.Test.YtgffcjceeiokfaaRcHeld
import Derived.Test.YtgffcjceeiokfaaLgArea
import Derived.Laws.BitsAllLaws
import Derived.Test.YtgffcjceeiokfaaLgOpenedOk
namespace Go.Proofs.Ytgffcjceeiokfaa.Log
set_option maxRecDepth 20000
open Go.RowKit
open Go.Proofs.Ytgffcjceeiokfaa.Mem Go.Proofs.Ytgffcjceeiokfaa.Crc Go.Proofs.Ytgffcjceeiokfaa.Disk
open Go.Proofs.Ytgffcjceeiokfaa.Rec (Tx Wt TxAt HoldsW HoldsI IsInt enc_any Told enc_len mayB_iff numFrom eqB)

set_option maxRecDepth 100000 in
set_option maxHeartbeats 2000000 in
/-- The record may not be. -/
theorem append_mayno (lp p s r seq pl used nl m c : Nat) (v : Value) (d : Dk.Dk) (F : Nat → Prop) (w : World) (h : LogOn w lp p s r seq pl used v nl d c F m) (t : Tx) (Aw Ar : Option Addr) (nw cw nr cr : Nat) (ht : ∀ W, Turns (fun q => F q ∨ q = lp) w W → TxAt W w.heap.size t Aw nw cw Ar nr cr)
    (hsq : t.seq = seq) (hmay : t.mayB = false) :
    Calls Try.prog 43 #[.pointer (some ⟨lp, 0, none⟩), .slice Aw nw cw, .slice Ar nr cr] w fun e w' => e = .returned (.tuple #[.int .u64 0, .int .i64 17]) ∧ Below w.heap.size w w' := by
  have hw0 := ht w (Turns.refl _ _)
  have HT := Lib.hid ht; clear ht
  have H := Lib.hid h; clear h
  have c4 : w.cell? ⟨lp, 4, none⟩ = some (.int .u64 (seq : Int)) := by have := H.out.log; unfold LogAt logCells at this; exact cell_of_row w lp 4 _ _ _ this
  have hb1 : Below w.heap.size w (w.alloc (.cells #[.int .u64 (seq : Int), .slice Aw nw cw, .slice Ar nr cr] 67)) := (Below.refl _ w).alloc (Nat.le_refl _) _
  have henc := enc_any t Aw Ar nw cw nr cr w.heap.size _ (HT.out _ (Turns.of_below hb1)) hb1.size
  rw [hsq] at henc
  have HENC := Lib.hid henc; clear henc
  have HB1 := Lib.hid hb1; clear hb1 hw0
  go_enter Try.func43, Try.ntmps43
  go_wp2_with fail
  generalize w.alloc (.cells #[.int .u64 (seq : Int), .slice Aw nw cw, .slice Ar nr cr] 67) = W1 at HB1 HENC ⊢
  refine HENC.out.mono ?_
  rintro e W2 (⟨-, rfl, hb2⟩ | ⟨hy, _⟩)
  · have HB2 : Hid (Below w.heap.size w W2) := Lib.hid (HB1.out.trans (hb2.mono HB1.out.size))
    clear hb2 HENC c4
    go_wp2_with fail
    first | (go_region_with (fail)) | fail
    all_goals
      go_wp2
      go_ret2
      exact ⟨rfl, HB2.out.drew⟩
  · rw [hmay] at hy; cases hy
set_option maxRecDepth 100000 in
set_option maxHeartbeats 4000000 in
theorem append_takesno (lp p s r seq pl used nl m c : Nat) (v : Value) (d : Dk.Dk) (F : Nat → Prop) (w : World) (h : LogOn w lp p s r seq pl used v nl d c F m) (t : Tx) (Aw Ar : Option Addr) (nw cw nr cr : Nat) (ht : ∀ W, Turns (fun q => F q ∨ q = lp) w W → TxAt W w.heap.size t Aw nw cw Ar nr cr)
    (hsq : t.seq = seq) (hmay : t.mayB = true) (htk : takesB d.stable.length s r t = false) :
    Calls Try.prog 43 #[.pointer (some ⟨lp, 0, none⟩), .slice Aw nw cw, .slice Ar nr cr] w fun e w' => e = .returned (.tuple #[.int .u64 0, .int .i64 17]) ∧ Below w.heap.size w w' := by
  have hmayT := (mayB_iff t).1 hmay
  have hel := enc_len t hmayT
  have hw0 := ht w (Turns.refl _ _)
  have hnw : t.ws.length = nw := hw0.ws.1
  have hnr : t.rs.length = nr := hw0.rs.1
  have hhi := hmayT.hi
  obtain ⟨hg7, hg1, hgp, hgd, hgu⟩ := h.ring
  have hlw : lp < w.heap.size := (Array.getElem?_eq_some_iff.1 h.log).1
  have HT := Lib.hid ht; clear ht
  have HM := Lib.hid hmayT; clear hmayT
  have H := Lib.hid h; clear h
  have c4 : w.cell? ⟨lp, 4, none⟩ = some (.int .u64 (seq : Int)) := by have := H.out.log; unfold LogAt logCells at this; exact cell_of_row w lp 4 _ _ _ this
  have hb1 : Below w.heap.size w (w.alloc (.cells #[.int .u64 (seq : Int), .slice Aw nw cw, .slice Ar nr cr] 67)) := (Below.refl _ w).alloc (Nat.le_refl _) _
  have hx1 : (w.alloc (.cells #[.int .u64 (seq : Int), .slice Aw nw cw, .slice Ar nr cr] 67)).heap[w.heap.size]? = some (.cells #[.int .u64 (seq : Int), .slice Aw nw cw, .slice Ar nr cr] 67 (0, 0)) := heap_alloc_new w _
  have henc := enc_any t Aw Ar nw cw nr cr w.heap.size _ (HT.out _ (Turns.of_below hb1)) hb1.size
  rw [hsq] at henc
  have HENC := Lib.hid henc; clear henc
  have HB1 := Lib.hid hb1; clear hb1
  have HX1 := Lib.hid hx1; clear hx1
  go_enter Try.func43, Try.ntmps43
  go_wp2_with fail
  generalize w.alloc (.cells #[.int .u64 (seq : Int), .slice Aw nw cw, .slice Ar nr cr] 67) = W1 at HB1 HX1 HENC ⊢
  refine HENC.out.mono ?_
  rintro e W2 (⟨hn, _⟩ | ⟨-, A, cp, rfl, ho, hb2⟩)
  · rw [hmay] at hn; cases hn
  obtain ⟨N, hN⟩ : ∃ N, N = t.enc.length := ⟨_, rfl⟩
  rw [← hN] at ho
  have hNn : N = 256 * (nw + 2) := by rw [hN, hel, hnw]
  obtain ⟨g, cap, cur, hv, hgb, hgl, -, hcap, hcapm, -, -⟩ := Go.Proofs.Ytgffcjceeiokfaa.Rec.Owned.cut ho (by rw [← hN]; omega)
  rw [← hN] at hv hcap ⊢
  injection hv with e1 _ e3
  subst e1 e3
  have hHo := Go.Proofs.Ytgffcjceeiokfaa.Rec.Owned.reads ho
  have HHO := Lib.hid hHo; clear hHo ho
  have hB2 : Below w.heap.size w W2 := HB1.out.trans (hb2.mono HB1.out.size)
  have HX2 : Hid (W2.heap[w.heap.size]? = some (.cells #[.int .u64 (seq : Int), .slice Aw nw cw, .slice Ar nr cr] 67 (0, 0))) := Lib.hid ((hb2.block _ (Array.getElem?_eq_some_iff.1 HX1.out).1).trans HX1.out)
  have hgw : w.heap.size < g := by have := (Array.getElem?_eq_some_iff.1 HX1.out).1; omega
  have H2 := Lib.hid (H.out.later hB2)
  have HB2 := Lib.hid hB2; clear hB2
  have htake : ∀ V, Below W2.heap.size W2 V → Calls Try.prog 87 #[.agg #[.pointer (some ⟨p, 0, none⟩), .int .i64 (s : Int), .int .i64 (r : Int)], .agg #[.int .u64 (seq : Int), .slice Aw nw cw, .slice Ar nr cr]] V fun e w' => e = .returned (.bool false) ∧ Below V.heap.size V w' := fun V hV => by
    have hwV : Below w.heap.size w V := HB2.out.trans (hV.mono HB2.out.size)
    have := takes_d s r d p c F V (H2.out.later hV).disk.at (by omega) t Aw Ar nw cw nr cr w.heap.size (HT.out V (Turns.of_below hwV)) hwV.size
    rw [htk, hsq] at this
    exact this
  have HTK := Lib.hid htake; clear htake
  have hkeep : ∀ V, Below W2.heap.size W2 V → (V.cell? ⟨lp, 1, none⟩ = some (.pointer (some ⟨p, 0, none⟩)) ∧ V.cell? ⟨lp, 2, none⟩ = some (.int .i64 (s : Int)) ∧ V.cell? ⟨lp, 3, none⟩ = some (.int .i64 (r : Int)) ∧ V.cell? ⟨w.heap.size, 0, none⟩ = some (.int .u64 (seq : Int)) ∧ V.cell? ⟨w.heap.size, 1, none⟩ = some (.slice Aw nw cw) ∧ V.cell? ⟨w.heap.size, 2, none⟩ = some (.slice Ar nr cr)) := fun V hV => by
    have hl := (H2.out.later hV).log
    unfold LogAt logCells at hl
    have hx := (hV.block _ (Array.getElem?_eq_some_iff.1 HX2.out).1).trans HX2.out
    exact ⟨cell_of_row V lp 1 _ _ _ hl, cell_of_row V lp 2 _ _ _ hl, cell_of_row V lp 3 _ _ _ hl, cell_of_row V _ 0 _ _ _ hx, cell_of_row V _ 1 _ _ _ hx, cell_of_row V _ 2 _ _ _ hx⟩
  have HKEEP := Lib.hid hkeep; clear hkeep
  have HNn := Lib.hid hNn; clear hNn
  clear hN hel hb2 HENC c4
  have hS := HKEEP.out W2.drew (Below.refl _ W2).drew
  go_wp2_with fail
  go_region_held (fun V => V.cell? ⟨lp, 1, none⟩ = some (.pointer (some ⟨p, 0, none⟩)) ∧ V.cell? ⟨lp, 2, none⟩ = some (.int .i64 (s : Int)) ∧ V.cell? ⟨lp, 3, none⟩ = some (.int .i64 (r : Int)) ∧ V.cell? ⟨w.heap.size, 0, none⟩ = some (.int .u64 (seq : Int)) ∧ V.cell? ⟨w.heap.size, 1, none⟩ = some (.slice Aw nw cw) ∧ V.cell? ⟨w.heap.size, 2, none⟩ = some (.slice Ar nr cr)) (assumption)
    (first
      | (go_at_call 87
         have hcall := HTK.out _ (Below.refl _ W2).drew
         with_reducible refine hcall.mono ?_
         rintro e V5 ⟨rfl, hb5⟩
         clear hcall hS
         have hB5 : Below W2.heap.size W2 V5 := (Below.refl _ W2).drew.trans hb5
         have hS1 := HKEEP.out V5 hB5
         have HB5 := Lib.hid hB5
         clear hb5 hB5))
  all_goals
    clear hS1 HTK HKEEP
    have HB6 : Hid (Below w.heap.size w V5) := Lib.hid (HB2.out.trans (HB5.out.mono HB2.out.size))
    go_wp2
    go_ret2
    exact ⟨rfl, HB6.out⟩

set_option maxRecDepth 100000 in
set_option maxHeartbeats 4000000 in
theorem append_full (lp p s r seq pl used nl m c : Nat) (v : Value) (d : Dk.Dk) (F : Nat → Prop) (w : World) (h : LogOn w lp p s r seq pl used v nl d c F m) (t : Tx) (Aw Ar : Option Addr) (nw cw nr cr : Nat) (ht : ∀ W, Turns (fun q => F q ∨ q = lp) w W → TxAt W w.heap.size t Aw nw cw Ar nr cr)
    (hsq : t.seq = seq) (hmay : t.mayB = true) (htk : takesB d.stable.length s r t = true) (hroom : ¬ used + (nw + 2) ≤ r) :
    Calls Try.prog 43 #[.pointer (some ⟨lp, 0, none⟩), .slice Aw nw cw, .slice Ar nr cr] w fun e w' => e = .returned (.tuple #[.int .u64 0, .int .i64 9]) ∧ Below w.heap.size w w' := by
  have hmayT := (mayB_iff t).1 hmay
  have hel := enc_len t hmayT
  have hw0 := ht w (Turns.refl _ _)
  have hnw : t.ws.length = nw := hw0.ws.1
  have hnr : t.rs.length = nr := hw0.rs.1
  have hhi := hmayT.hi
  obtain ⟨hg7, hg1, hgp, hgd, hgu⟩ := h.ring
  have hlw : lp < w.heap.size := (Array.getElem?_eq_some_iff.1 h.log).1
  have HT := Lib.hid ht; clear ht
  have HM := Lib.hid hmayT; clear hmayT
  have H := Lib.hid h; clear h
  have c4 : w.cell? ⟨lp, 4, none⟩ = some (.int .u64 (seq : Int)) := by have := H.out.log; unfold LogAt logCells at this; exact cell_of_row w lp 4 _ _ _ this
  have hb1 : Below w.heap.size w (w.alloc (.cells #[.int .u64 (seq : Int), .slice Aw nw cw, .slice Ar nr cr] 67)) := (Below.refl _ w).alloc (Nat.le_refl _) _
  have hx1 : (w.alloc (.cells #[.int .u64 (seq : Int), .slice Aw nw cw, .slice Ar nr cr] 67)).heap[w.heap.size]? = some (.cells #[.int .u64 (seq : Int), .slice Aw nw cw, .slice Ar nr cr] 67 (0, 0)) := heap_alloc_new w _
  have henc := enc_any t Aw Ar nw cw nr cr w.heap.size _ (HT.out _ (Turns.of_below hb1)) hb1.size
  rw [hsq] at henc
  have HENC := Lib.hid henc; clear henc
  have HB1 := Lib.hid hb1; clear hb1
  have HX1 := Lib.hid hx1; clear hx1
  go_enter Try.func43, Try.ntmps43
  go_wp2_with fail
  generalize w.alloc (.cells #[.int .u64 (seq : Int), .slice Aw nw cw, .slice Ar nr cr] 67) = W1 at HB1 HX1 HENC ⊢
  refine HENC.out.mono ?_
  rintro e W2 (⟨hn, _⟩ | ⟨-, A, cp, rfl, ho, hb2⟩)
  · rw [hmay] at hn; cases hn
  obtain ⟨N, hN⟩ : ∃ N, N = t.enc.length := ⟨_, rfl⟩
  rw [← hN] at ho
  have hNn : N = 256 * (nw + 2) := by rw [hN, hel, hnw]
  obtain ⟨g, cap, cur, hv, hgb, hgl, -, hcap, hcapm, -, -⟩ := Go.Proofs.Ytgffcjceeiokfaa.Rec.Owned.cut ho (by rw [← hN]; omega)
  rw [← hN] at hv hcap ⊢
  injection hv with e1 _ e3
  subst e1 e3
  have hHo := Go.Proofs.Ytgffcjceeiokfaa.Rec.Owned.reads ho
  have HHO := Lib.hid hHo; clear hHo ho
  have hB2 : Below w.heap.size w W2 := HB1.out.trans (hb2.mono HB1.out.size)
  have HX2 : Hid (W2.heap[w.heap.size]? = some (.cells #[.int .u64 (seq : Int), .slice Aw nw cw, .slice Ar nr cr] 67 (0, 0))) := Lib.hid ((hb2.block _ (Array.getElem?_eq_some_iff.1 HX1.out).1).trans HX1.out)
  have hgw : w.heap.size < g := by have := (Array.getElem?_eq_some_iff.1 HX1.out).1; omega
  have H2 := Lib.hid (H.out.later hB2)
  have HB2 := Lib.hid hB2; clear hB2
  have htake : ∀ V, Below W2.heap.size W2 V → Calls Try.prog 87 #[.agg #[.pointer (some ⟨p, 0, none⟩), .int .i64 (s : Int), .int .i64 (r : Int)], .agg #[.int .u64 (seq : Int), .slice Aw nw cw, .slice Ar nr cr]] V fun e w' => e = .returned (.bool true) ∧ Below V.heap.size V w' := fun V hV => by
    have hwV : Below w.heap.size w V := HB2.out.trans (hV.mono HB2.out.size)
    have := takes_d s r d p c F V (H2.out.later hV).disk.at (by omega) t Aw Ar nw cw nr cr w.heap.size (HT.out V (Turns.of_below hwV)) hwV.size
    rw [htk, hsq] at this
    exact this
  have HTK := Lib.hid htake; clear htake
  have hkeep : ∀ V, Below W2.heap.size W2 V → (V.cell? ⟨lp, 1, none⟩ = some (.pointer (some ⟨p, 0, none⟩)) ∧ V.cell? ⟨lp, 2, none⟩ = some (.int .i64 (s : Int)) ∧ V.cell? ⟨lp, 3, none⟩ = some (.int .i64 (r : Int)) ∧ V.cell? ⟨w.heap.size, 0, none⟩ = some (.int .u64 (seq : Int)) ∧ V.cell? ⟨w.heap.size, 1, none⟩ = some (.slice Aw nw cw) ∧ V.cell? ⟨w.heap.size, 2, none⟩ = some (.slice Ar nr cr)) := fun V hV => by
    have hl := (H2.out.later hV).log
    unfold LogAt logCells at hl
    have hx := (hV.block _ (Array.getElem?_eq_some_iff.1 HX2.out).1).trans HX2.out
    exact ⟨cell_of_row V lp 1 _ _ _ hl, cell_of_row V lp 2 _ _ _ hl, cell_of_row V lp 3 _ _ _ hl, cell_of_row V _ 0 _ _ _ hx, cell_of_row V _ 1 _ _ _ hx, cell_of_row V _ 2 _ _ _ hx⟩
  have HKEEP := Lib.hid hkeep; clear hkeep
  have HNn := Lib.hid hNn; clear hNn
  clear hN hel hb2 HENC c4
  have hS := HKEEP.out W2.drew (Below.refl _ W2).drew
  go_wp2_with fail
  go_region_held (fun V => V.cell? ⟨lp, 1, none⟩ = some (.pointer (some ⟨p, 0, none⟩)) ∧ V.cell? ⟨lp, 2, none⟩ = some (.int .i64 (s : Int)) ∧ V.cell? ⟨lp, 3, none⟩ = some (.int .i64 (r : Int)) ∧ V.cell? ⟨w.heap.size, 0, none⟩ = some (.int .u64 (seq : Int)) ∧ V.cell? ⟨w.heap.size, 1, none⟩ = some (.slice Aw nw cw) ∧ V.cell? ⟨w.heap.size, 2, none⟩ = some (.slice Ar nr cr)) (assumption)
    (first
      | (go_at_call 87
         have hcall := HTK.out _ (Below.refl _ W2).drew
         with_reducible refine hcall.mono ?_
         rintro e V5 ⟨rfl, hb5⟩
         clear hcall hS
         have hB5 : Below W2.heap.size W2 V5 := (Below.refl _ W2).drew.trans hb5
         have hS1 := HKEEP.out V5 hB5
         have HB5 := Lib.hid hB5
         clear hb5 hB5))
  all_goals
    clear hS1 HTK HKEEP
    have H5 := Lib.hid (H2.out.later HB5.out)
    have hroomc := room_any lp p seq pl used (s : Int) (r : Int) v V5 H5.out.log (by omega) (by omega)
    have HRC := Lib.hid hroomc; clear hroomc
    have hq1 : (N : Int) / 256 = (nw : Int) + 2 := by have := HNn.out; omega
    have hn58 : nw ≤ 58 := by omega
    have hq2 : (r : Int) - (used : Int) < (nw : Int) + 2 := by omega
    go_wp2_with fail
    with_reducible refine HRC.out.mono ?_
    rintro e V6 ⟨rfl, hb6⟩
    clear HRC
    have HB6 : Hid (Below w.heap.size w V6) := Lib.hid (HB2.out.trans ((HB5.out.trans (hb6.mono HB5.out.size)).mono HB2.out.size))
    clear hb6
    go_wp2
    go_ret2
    exact ⟨rfl, HB6.out⟩

set_option maxRecDepth 100000 in
/-- A log's Sync. -/
theorem sync_any (lp p s r seq pl used nl m c : Nat) (v : Value) (d : Dk.Dk) (F : Nat → Prop) (w : World) (h : LogOn w lp p s r seq pl used v nl d c F m) (hc : c ≤ 1048576) :
    Calls Try.prog 81 #[.pointer (some ⟨lp, 0, none⟩)] w fun e w' => e = .returned (.tuple #[]) ∧ ∃ F' m', LogOn w' lp p s r seq pl used v nl d.flush c F' m' ∧ (∀ q, F' q → F q ∨ w.heap.size ≤ q) ∧ Turns F w w' := by
  have c0 : w.cell? ⟨lp, 0, none⟩ = some (.pointer (some ⟨p, 0, none⟩)) := by have := h.log; unfold LogAt logCells at this; exact cell_of_row w lp 0 _ _ _ this
  have hfl := flush_d d p c F w h.disk.at hc
  unfold ptr at hfl
  have HFL := Lib.hid hfl; clear hfl
  have H := Lib.hid h; clear h
  go_enter Try.func81, Try.ntmps81
  go_wp2_with fail
  with_reducible refine HFL.out.mono ?_
  rintro e w1 ⟨F', rfl, hD, hF', hT⟩
  clear HFL c0
  obtain ⟨m', hDm, -⟩ := DiskAt.named hD
  have hlw : lp < w.heap.size := (Array.getElem?_eq_some_iff.1 H.out.log).1
  have hon : LogOn w1 lp p s r seq pl used v nl d.flush c F' m' := by
    obtain ⟨cs, hrow, hone⟩ := H.out.live
    obtain ⟨r1, r2, r3, r4, r5⟩ := H.out.ring
    refine ⟨hDm, (hT.block lp hlw H.out.apartL).trans H.out.log, ⟨cs, hrow.turns hT (fun k hk => (H.out.apartV k hk).1), hone⟩, fun e => ?_, fun k hk => ⟨fun e => ?_, (H.out.apartV k hk).2⟩, ⟨r1, r2, r3, by rw [Dk.size_flush]; exact r4, r5⟩⟩
    · rcases hF' _ e with e | e
      · exact H.out.apartL e
      · omega
    · rcases hF' _ e with e | e
      · exact (H.out.apartV k hk).1 e
      · have := hrow.lt hk; omega
  have HON := Lib.hid hon; clear hon
  have HF := Lib.hid hF'; clear hF'
  have HT := Lib.hid hT; clear hT hD hDm
  go_wp2
  refine bodyPost_end (results_none rfl _ _ _) rfl ?_
  exact ⟨rfl, F', m', HON.out, HF.out, HT.out⟩
end Go.Proofs.Ytgffcjceeiokfaa.Log

namespace Go.Proofs.Ytgffcjceeiokfaa.Log
set_option maxRecDepth 20000
open Go.RowKit
open Go.Proofs.Ytgffcjceeiokfaa.Mem Go.Proofs.Ytgffcjceeiokfaa.Crc Go.Proofs.Ytgffcjceeiokfaa.Disk
open Go.Proofs.Ytgffcjceeiokfaa.Rec (Tx Wt enc_len mayB_iff)

/-- The disk d is as d0 was outside of a ring of r blocks behind block s. -/
structure Still (s r : Nat) (d0 d : Dk.Dk) : Prop where
  ok : d.Ok
  free : d.fuse = none
  size : d.stable.length = d0.stable.length
  same : ∀ i, i ≤ s ∨ s + r < i → d.read i = d0.read i

theorem Still.refl {s r : Nat} {d : Dk.Dk} (h : d.Ok) (hf : d.fuse = none) : Still s r d d := ⟨h, hf, rfl, fun _ _ => rfl⟩
theorem Still.flush {s r : Nat} {d0 d : Dk.Dk} (h : Still s r d0 d) : Still s r d0 d.flush :=
  ⟨Dk.flush_ok d h.ok, Dk.deed_free d h.free none, (Dk.size_flush d).trans h.size, fun i hi => (Dk.read_flush d h.ok i).trans (h.same i hi)⟩
theorem Still.write {s r pl : Nat} {d0 d : Dk.Dk} (h : Still s r d0 d) (b : List UInt8) (hb : b.length = 256) (hp : pl < r) (hs : s + 1 + r ≤ d.stable.length) : Still s r d0 (d.write (s + 1 + pl) b) :=
  ⟨Dk.write_ok d h.ok _ b (by omega) hb, Dk.deed_free d h.free (some (s + 1 + pl, b)), (Dk.size_write d _ b).trans h.size, fun i hi => by
    rw [Dk.read_write d h.ok, if_neg (by omega)]
    exact h.same i hi⟩
theorem Still.puts {s r : Nat} (hr : 0 < r) {d0 : Dk.Dk} : ∀ (bs : List (List UInt8)) (d : Dk.Dk) (pl : Nat), Still s r d0 d → (∀ b ∈ bs, b.length = 256) → pl < r → s + 1 + r ≤ d.stable.length → Still s r d0 (putL s r d pl bs).1
  | [], d, pl, h, _, _, _ => h
  | b :: bs, d, pl, h, hb, hp, hs => by
    show Still s r d0 (bs.foldl (putS s r) (d.write (s + 1 + pl) b, (pl + 1) % r)).1
    exact Still.puts hr bs _ _ (h.write b (hb b (by simp)) hp hs) (fun x hx => hb x (by simp [hx])) (Nat.mod_lt _ hr) (by rw [Dk.size_write]; exact hs)
theorem chunks_len (bs : List UInt8) (k : Nat) (h : bs.length = 256 * k) : ∀ b ∈ chunksOf bs k, b.length = 256 := by
  intro b hb
  unfold chunksOf at hb
  obtain ⟨x, _, rfl⟩ := List.mem_map.1 hb
  unfold cutB
  have := x.2
  rw [List.length_take, List.length_drop, h]
  omega

theorem flat_take : ∀ (L : List (List UInt8)) (k : Nat), (∀ x ∈ L, x.length = 256) → L.flatten.take (256 * k) = (L.take k).flatten
  | [], k, _ => by simp
  | x :: L, 0, _ => by simp
  | x :: L, k + 1, h => by
    have hx := h x (by simp)
    rw [List.flatten_cons, List.take_succ_cons, List.flatten_cons, List.take_append, hx, List.take_of_length_le (by omega), show 256 * (k + 1) - 256 = 256 * k by omega, flat_take L k (fun y hy => h y (by simp [hy]))]
theorem flat_drop : ∀ (L : List (List UInt8)) (k : Nat), (∀ x ∈ L, x.length = 256) → L.flatten.drop (256 * k) = (L.drop k).flatten
  | [], k, _ => by simp
  | x :: L, 0, _ => by simp
  | x :: L, k + 1, h => by
    have hx := h x (by simp)
    rw [List.flatten_cons, List.drop_succ_cons, List.drop_append, hx, List.drop_of_length_le (by omega), show 256 * (k + 1) - 256 = 256 * k by omega, List.nil_append, flat_drop L k (fun y hy => h y (by simp [hy]))]
theorem flat_len : ∀ (L : List (List UInt8)), (∀ x ∈ L, x.length = 256) → L.flatten.length = 256 * L.length
  | [], _ => rfl
  | x :: L, h => by
    rw [List.flatten_cons, List.length_append, h x (by simp), flat_len L (fun y hy => h y (by simp [hy])), List.length_cons]
    omega
theorem image_all (d : Dk.Dk) (h : d.Ok) : ∀ x ∈ d.image, x.length = 256 := by
  intro x hx
  unfold Dk.Dk.image at hx
  obtain ⟨i, hi, rfl⟩ := List.mem_map.1 hx
  exact Dk.read_len d h i (List.mem_range.1 hi)
theorem image_len (d : Dk.Dk) (h : d.Ok) : d.image.flatten.length = 256 * d.stable.length := by
  rw [flat_len _ (image_all d h)]
  unfold Dk.Dk.image
  simp
theorem Still.head {s r : Nat} {d0 d : Dk.Dk} (h : Still s r d0 d) (h0 : d0.Ok) : d.image.flatten.take (256 * (s + 1)) = d0.image.flatten.take (256 * (s + 1)) := by
  rw [flat_take _ _ (image_all d h.ok), flat_take _ _ (image_all d0 h0)]
  congr 1
  unfold Dk.Dk.image
  rw [h.size]
  apply List.ext_getElem?
  intro i
  simp only [List.getElem?_take, List.getElem?_map]
  by_cases hi : i < s + 1
  · rw [if_pos hi, if_pos hi]
    by_cases hn : i < d0.stable.length
    · simp only [List.getElem?_range hn, Option.map_some]
      rw [h.same i (by omega)]
    · rw [List.getElem?_eq_none (by simp; omega)]; rfl
  · rw [if_neg hi, if_neg hi]
theorem Still.tail {s r : Nat} {d0 d : Dk.Dk} (h : Still s r d0 d) (h0 : d0.Ok) : d.image.flatten.drop (256 * (s + 1 + r)) = d0.image.flatten.drop (256 * (s + 1 + r)) := by
  rw [flat_drop _ _ (image_all d h.ok), flat_drop _ _ (image_all d0 h0)]
  congr 1
  unfold Dk.Dk.image
  rw [h.size]
  apply List.ext_getElem?
  intro i
  simp only [List.getElem?_drop, List.getElem?_map]
  by_cases hn : s + 1 + r + i < d0.stable.length
  · simp only [List.getElem?_range hn, Option.map_some]
    rw [h.same _ (by omega)]
  · rw [List.getElem?_eq_none (by simp; omega)]; rfl
end Go.Proofs.Ytgffcjceeiokfaa.Log

namespace Go.Proofs.Ytgffcjceeiokfaa.Log
set_option maxRecDepth 20000
open Go.ChangeShapes Go.WideShapes Go.ChangeAt Go.RowKit Go.Deep
open Go.Proofs.Ytgffcjceeiokfaa.Mem Go.Proofs.Ytgffcjceeiokfaa.Lift Go.Proofs.Ytgffcjceeiokfaa.Crc
open Go.Proofs.Ytgffcjceeiokfaa.Rec (Tx Wt TxAt HoldsW HoldsI IsInt txn_part bytes_part exists_list)

section
variable {H : Type} {enc : TypeId × Value → H} {P : Program} {w : World} {base : Nat} {spare : Nat → Bool} {held : Bool}
/-- A struct whose fields have one cell each, field by field. -/
theorem fields_of {t : TypeId} {fs : Array Field} {fuel : Nat} {cs : List Value} {x : DataW H × List MemPlace} (hs : P.underlying t = some (.struct fs)) (hone : oneCellFields P fs = true) (hC : P.cellsOf t = fs.size)
    (h : DataW.trod enc P w base spare held fuel t cs = some x) : cs.length = fs.size ∧ ∃ n, ∀ (j : Nat) (f : Field) (v : Value), fs[j]? = some f → cs[j]? = some v → ∃ y, DataW.trod enc P w base spare held n f.type [v] = some y := by
  obtain ⟨ys, n, _, _, hl, hyl, hf⟩ := DataW.trod_struct hs h
  refine ⟨hl.trans hC, n, fun j f v hj hv => ?_⟩
  obtain ⟨ho, hk⟩ := hone_of hone j f hj
  have hlt : j < cs.length := (List.getElem?_eq_some_iff.1 hv).1
  have h1 := hf j f hj
  rw [ho, hk, List.drop_eq_getElem_cons hlt] at h1
  have hcv : cs[j] = v := Option.some.inj ((List.getElem?_eq_getElem hlt).symm.trans hv)
  rw [hcv] at h1
  have hjl : j < ys.length := by have := (Array.getElem?_eq_some_iff.1 hj).1; omega
  exact ⟨ys[j], h1.trans (List.getElem?_eq_getElem hjl)⟩
end

theorem area_by_value {H : Type} {enc : TypeId × Value → H} {W : World} {b0 : Nat} {v : Value} {d : DataW H} {p : List MemPlace} (hv : Value.okWide Try.prog W .any b0 50 v)
    (h : DataW.Trod enc Try.prog W 0 (fun _ => true) true 50 v d p) : ∃ B S L : Int, v = .agg #[.int .i64 B, .int .i64 S, .int .i64 L] := by
  obtain ⟨cs, rfl, _⟩ := okWide_struct Try.underlying50 hv
  obtain ⟨fuel, hf⟩ := h
  obtain ⟨hl, n, hf⟩ := fields_of Try.underlying50 (by kernel_rfl) (by kernel_rfl) hf
  obtain ⟨cs⟩ := cs
  simp only [Value.cells] at hl hf
  match cs, hl with
  | [v0, v1, v2], _ =>
    obtain ⟨y0, h0⟩ := hf 0 _ v0 rfl rfl
    obtain ⟨y1, h1⟩ := hf 1 _ v1 rfl rfl
    obtain ⟨y2, h2⟩ := hf 2 _ v2 rfl rfl
    obtain ⟨B, e0, _, w0⟩ := DataW.trod_int Try.underlying3 h0
    obtain ⟨S, e1, _, w1⟩ := DataW.trod_int Try.underlying3 h1
    obtain ⟨L, e2, _, w2⟩ := DataW.trod_int Try.underlying3 h2
    simp at e0 e1 e2
    subst e0 e1 e2
    exact ⟨B, S, L, rfl⟩

structure DeedL where
  op : Int
  t : Tx
  Aw : Option Addr
  nw : Nat
  cw : Nat
  Ar : Option Addr
  nr : Nat
  cr : Nat
  Ab : Option Addr
  nb : Nat
  cb : Nat
  bs : List UInt8
def DeedL.cells (x : DeedL) : List Value := [.int .i64 x.op, .int .u64 (x.t.seq : Int), .slice x.Aw x.nw x.cw, .slice x.Ar x.nr x.cr, .slice x.Ab x.nb x.cb]
structure DeedL.Is (w : World) (B : Nat) (x : DeedL) : Prop where
  txn : TxAt w B x.t x.Aw x.nw x.cw x.Ar x.nr x.cr
  bits : Holds w B x.Ab x.nb x.bs
  fits : x.nb ≤ x.cb ∧ x.cb ≤ maxLen
  op : IsInt x.op
theorem DeedL.Is.below {w w' : World} {B : Nat} {x : DeedL} (h : x.Is w B) (hb : Below B w w') : x.Is w' B := ⟨h.txn.below hb, h.bits.below hb, h.fits, h.op⟩

/-- A slice of deeds, all below block B. -/
def DeedsL (w : World) (B : Nat) (A : Option Addr) (n : Nat) (xs : List DeedL) : Prop :=
  xs.length = n ∧ (0 < n → ∃ b off, A = some ⟨b, off, none⟩ ∧ b < B ∧ ∀ j, (h : j < xs.length) → ∀ k, k < 5 → w.cell? ⟨b, off + j * 5 + k, none⟩ = xs[j].cells[k]?) ∧ ∀ x ∈ xs, x.Is w B
theorem DeedsL.below {w w' : World} {B : Nat} {A : Option Addr} {n : Nat} {xs : List DeedL} (h : DeedsL w B A n xs) (hb : Below B w w') : DeedsL w' B A n xs :=
  ⟨h.1, fun hn => by
    obtain ⟨b, off, e, hl, hc⟩ := h.2.1 hn
    exact ⟨b, off, e, hl, fun j hj k hk => (hb.cell (p := ⟨b, off + j * 5 + k, none⟩) hl).trans (hc j hj k hk)⟩, fun x hx => (h.2.2 x hx).below hb⟩
theorem DeedsL.take {w : World} {B : Nat} {A : Option Addr} {n k : Nat} {xs : List DeedL} (h : DeedsL w B A n xs) (hk : k ≤ n) : DeedsL w B A k (xs.take k) :=
  ⟨by rw [List.length_take, h.1]; omega, fun h0 => by
    obtain ⟨b, off, e, hl, hc⟩ := h.2.1 (by omega)
    refine ⟨b, off, e, hl, fun j hj q hq => ?_⟩
    rw [List.length_take] at hj
    rw [List.getElem_take]
    exact hc j (by omega) q hq, fun x hx => h.2.2 x (List.mem_of_mem_take hx)⟩

theorem deedL_of_trod {H : Type} {enc : TypeId × Value → H} {W : World} {fuel : Nat} {cs : List Value} {d : DataW H} {p : List MemPlace} (h : DataW.trod enc Try.prog W 0 (fun _ => true) true fuel 69 cs = some (d, p))
    (hw : (d.weights Try.prog 69).all (· ≤ reachBytes) = true) : ∃ x : DeedL, cs = x.cells ∧ x.Is W W.heap.size := by
  obtain ⟨y0, y1, y2, n, hx, hl, h0, h1, h2⟩ := trod_struct3 Try.underlying69 h
  rw [show Try.prog.cellsOf 69 = 5 by kernel_rfl] at hl
  match cs, hl with
  | [v0, v1, v2, v3, v4], _ =>
    have c0 : Try.prog.cellsOf 3 = 1 := by kernel_rfl
    have c1 : Try.prog.cellsOf 67 = 3 := by kernel_rfl
    have c2 : Try.prog.cellsOf 33 = 1 := by kernel_rfl
    rw [c0] at h0
    rw [c1] at h1
    rw [c2] at h2
    injection hx with hd hp
    have hs : (DataW.weightsEach Try.prog [3, 67, 33] [y0.1, y1.1, y2.1]).all (· ≤ reachBytes) = true := by
      rw [hd] at hw
      simpa [DataW.weights, Try.underlying69] using hw
    have hw1 : (y1.1.weights Try.prog 67).all (· ≤ reachBytes) = true := by
      simp only [DataW.weightsEach, List.all_append, Bool.and_eq_true] at hs
      exact hs.2.1
    obtain ⟨z, e0, _, w0⟩ := DataW.trod_int Try.underlying3 h0
    obtain ⟨t, Aw, nw, cw, Ar, nr, cr, e1, ht⟩ := txn_part (d := y1.1) (p := y1.2) h1 hw1
    obtain ⟨Ab, nb, cb, bs, e2, hb, hk, hc⟩ := bytes_part h2
    simp at e0 e1 e2
    obtain ⟨e10, e11, e12⟩ := e1
    subst e0 e10 e11 e12 e2
    exact ⟨⟨z, t, Aw, nw, cw, Ar, nr, cr, Ab, nb, cb, bs⟩, rfl, ht, hb, ⟨hk, hc⟩, Go.Proofs.Ytgffcjceeiokfaa.Rec.wf_i64 w0⟩

theorem weights_elem {H : Type} {P : Program} {e : TypeId} : ∀ (l : List (DataW H)) (d : DataW H), d ∈ l → (DataW.weightsAll P e l).all (· ≤ reachBytes) = true → (d.weights P e).all (· ≤ reachBytes) = true
  | [], d, h, _ => by cases h
  | x :: r, d, h, hw => by
    simp only [DataW.weightsAll, List.all_append, Bool.and_eq_true] at hw
    rcases List.mem_cons.1 h with rfl | h
    · exact hw.1
    · exact weights_elem r d h hw.2

theorem deedsL_of {H : Type} {enc : TypeId × Value → H} {W : World} {base : Nat} {v : Value} {d : DataW H} {p : List MemPlace} (hv : Value.okWide Try.prog W .any base 51 v)
    (h : DataW.Trod enc Try.prog W 0 (fun _ => true) true 51 v d p) (hw : (d.weights Try.prog 51).all (· ≤ reachBytes) = true) :
    ∃ A n c xs, v = .slice A n c ∧ DeedsL W W.heap.size A n xs ∧ n ≤ c ∧ c ≤ maxLen := by
  obtain ⟨A, n, c, rfl⟩ := okWide_slice Try.underlying51 hv
  obtain ⟨fuel, hf⟩ := h
  rcases open_slice Try.underlying51 hf with ⟨hcs, _⟩ | ⟨a, len, cap, m, k, D, Pl, hcs, _, hl, hm, hmm, hx, hel⟩
  · simp [Value.cells] at hcs
    obtain ⟨rfl, rfl, rfl⟩ := hcs
    exact ⟨none, 0, 0, [], rfl, ⟨rfl, fun h => absurd h (by omega), fun x hx => by cases hx⟩, Nat.le_refl _, Nat.zero_le _⟩
  · simp [Value.cells] at hcs
    obtain ⟨rfl, rfl, rfl⟩ := hcs
    injection hx with hd _
    have hwa : (DataW.weightsAll Try.prog 69 ((List.range n).map D)).all (· ≤ reachBytes) = true := by
      rw [hd] at hw
      simp only [DataW.weights, Try.underlying51, List.all_cons, List.all_append, Bool.and_eq_true] at hw
      exact hw.2.1
    have hC : Try.prog.cellsOf 69 = 5 := by kernel_rfl
    rw [hC] at hel
    rw [if_pos rfl] at hmm
    obtain rfl : c = m := hmm.symm
    obtain ⟨xs, hxl, hxs⟩ := exists_list (p := fun i (x : DeedL) => x.Is W W.heap.size ∧ ∀ q, q < 5 → W.cell? ((a.add (i * 5)).add q) = x.cells[q]?) n (fun i hi => by
      obtain ⟨cs', hc, ht⟩ := hel i (by omega)
      obtain ⟨_, hcl, hat⟩ := World.cells?_some hc
      obtain ⟨x, hxc, hd⟩ := deedL_of_trod (d := D i) (p := Pl i) ht (weights_elem _ _ (List.mem_map.2 ⟨i, List.mem_range.2 hi, rfl⟩) hwa)
      refine ⟨x, hd, fun q hq => ?_⟩
      rw [hat q hq, hxc])
    obtain ⟨b, off, spot⟩ := a
    by_cases h0 : 0 < n
    · have h00 := (hxs 0 (by omega)).2 0 (by omega)
      have hspot : spot = none := by
        have := World.cell?_spot (h00.trans (show (xs[0]'(by omega)).cells[0]? = some _ from rfl))
        simpa [Addr.add] using this
      subst hspot
      have hbl := block_lt_of_cell (h00.trans (show (xs[0]'(by omega)).cells[0]? = some _ from rfl))
      rw [Addr.add_mid, Addr.add_mid] at hbl
      refine ⟨_, n, c, xs, rfl, ⟨hxl, fun _ => ⟨b, off, rfl, hbl, fun j hj q hq => ?_⟩, fun x hx => ?_⟩, hl, hm⟩
      · have := (hxs j hj).2 q hq
        rwa [Addr.add_mid, Addr.add_mid] at this
      · obtain ⟨j, hj, rfl⟩ := List.getElem_of_mem hx
        exact (hxs j hj).1
    · have hn : n = 0 := by omega
      subst hn
      have : xs = [] := List.eq_nil_of_length_eq_zero hxl
      subst this
      exact ⟨_, 0, c, [], rfl, ⟨rfl, fun h => absurd h (by omega), fun x hx => by cases hx⟩, Nat.zero_le _, hm⟩

def fewL (n : Nat) : Nat := if n > 24 then 24 else n
theorem few_any (A : Option Addr) (n c : Nat) (w : World) (hc : n ≤ c) (hm : c ≤ maxLen) (hA : 0 < n → ∃ b off, A = some ⟨b, off, none⟩) :
    Calls Try.prog 37 #[.slice A n c] w fun e w' => e = .returned (.slice A (fewL n) c) ∧ w = w' := by
  unfold maxLen at hm
  unfold fewL
  by_cases h : n > 24
  · rw [if_pos h]
    have q : (Instr.slice 51 (.slice A n c) none (some (.int .i64 24)) none).run Try.prog w = .ok (.slice A 24 c) w := by
      have h := run_slice_h (P := Try.prog) w 51 A n c (by rw [Try.underlying51]; rfl) .i64 24 (by omega) (by omega)
      rw [h]
      have hs : (sizeOf (Try.prog.elem 51)).run Try.prog w = .ok 5 w := by rfl
      rw [hs]
      obtain ⟨b, off, rfl⟩ := hA (by omega)
      simp [Result.andThen, sliced, Addr.add_mid]
    have q2 : (Instr.sliceAt 51 (.slice A n c) none (some (.int .i64 24)) none).run Try.prog w = .ok (.slice A 24 c) w := by
      rw [run_sliceAt_slice (P := Try.prog) w 51 _ _ _ _ (by rw [Try.underlying51]; rfl)]
      exact q
    go_enter Try.func37, Try.ntmps37
    go_wp2
    go_ret
    exact ⟨rfl, rfl⟩
  · rw [if_neg h]
    go_enter Try.func37, Try.ntmps37
    go_wp2
    go_ret
    exact ⟨rfl, rfl⟩

end Go.Proofs.Ytgffcjceeiokfaa.Log

namespace Go.Proofs.Ytgffcjceeiokfaa.Log
set_option maxRecDepth 20000
open Go.RowKit
open Go.Proofs.Ytgffcjceeiokfaa.Mem Go.Proofs.Ytgffcjceeiokfaa.Crc Go.Proofs.Ytgffcjceeiokfaa.Disk
open Go.Proofs.Ytgffcjceeiokfaa.Rec (Tx Wt TxAt HoldsW HoldsI IsInt enc_any Told enc_len mayB_iff numFrom eqB)

/-- A log at lp on the disk at p, at least sq records, cb writes, nb live ones: outside of the ring the disk is as d0 was, outside of the log's own blocks the world is as W0 was. -/
def Going (W0 wr : World) (lp p s r : Nat) (d0 : Dk.Dk) (F0 : Nat → Prop) (sq cb nb : Nat) (calm : Bool) : Prop :=
  ∃ seq pl used v nl d c F m, LogOn wr lp p s r seq pl used v nl d c F m ∧ Still s r d0 d ∧ (calm = true → d.pend = []) ∧ seq ≤ sq ∧ c ≤ cb ∧ nl ≤ nb ∧ (∀ q, F q → F0 q ∨ W0.heap.size ≤ q) ∧ (∀ q, v.ownBlock = some q → W0.heap.size ≤ q) ∧ Turns (fun q => F0 q ∨ q = lp) W0 wr

theorem Going.more {W0 wr : World} {lp p s r sq cb nb sq' cb' nb' : Nat} {d0 : Dk.Dk} {F0 : Nat → Prop} {b b' : Bool} (h : Going W0 wr lp p s r d0 F0 sq cb nb b) (h1 : sq ≤ sq') (h2 : cb ≤ cb') (h3 : nb ≤ nb') (h4 : b' = true → b = true) : Going W0 wr lp p s r d0 F0 sq' cb' nb' b' := by
  obtain ⟨seq, pl, used, v, nl, d, c, F, m, a1, a2, a3, a4, a5, a6, a7⟩ := h
  exact ⟨seq, pl, used, v, nl, d, c, F, m, a1, a2, fun e => a3 (h4 e), by omega, by omega, by omega, a7⟩
theorem Going.later {W0 wr w' : World} {lp p s r sq cb nb : Nat} {d0 : Dk.Dk} {F0 : Nat → Prop} {b : Bool} (h : Going W0 wr lp p s r d0 F0 sq cb nb b) (hb : Below wr.heap.size wr w') : Going W0 w' lp p s r d0 F0 sq cb nb b := by
  obtain ⟨seq, pl, used, v, nl, d, c, F, m, a1, a2, a3, a4, a5, a6, a7, a8, a9⟩ := h
  exact ⟨seq, pl, used, v, nl, d, c, F, m, a1.later hb, a2, a3, a4, a5, a6, a7, a8, a9.trans (Turns.of_below (F := fun q => F0 q ∨ q = lp) hb) (fun _ _ e => e)⟩
/-- What stands in other blocks than the log's own. -/
theorem Going.turns {W0 wr : World} {lp p s r sq cb nb : Nat} {d0 : Dk.Dk} {F0 : Nat → Prop} {b : Bool} (h : Going W0 wr lp p s r d0 F0 sq cb nb b) : Turns (fun q => F0 q ∨ q = lp) W0 wr := by
  obtain ⟨_, _, _, _, _, _, _, _, _, _, _, _, _, _, _, _, _, a9⟩ := h
  exact a9

set_option maxHeartbeats 1000000 in
theorem append_go (W0 w : World) (lp p s r sq cb nb : Nat) (d0 : Dk.Dk) (F0 : Nat → Prop) (b : Bool) (h : Going W0 w lp p s r d0 F0 sq cb nb b) (t : Tx) (Aw Ar : Option Addr) (nw cw nr cr B : Nat) (ht : TxAt W0 B t Aw nw cw Ar nr cr)
    (hB : B ≤ W0.heap.size) (hF : ∀ q, F0 q → B ≤ q) (hlp : B ≤ lp) (hsq : sq ≤ 1048576) (hcb : cb + 60 < 1048576) (hnb : nb + 1 ≤ 1048576) :
    Calls Try.prog 43 #[.pointer (some ⟨lp, 0, none⟩), .slice Aw nw cw, .slice Ar nr cr] w fun e w' => ∃ x y : Int, e = .returned (.tuple #[.int .u64 x, .int .i64 y]) ∧ Going W0 w' lp p s r d0 F0 (sq + 1) (cb + 60) (nb + 1) false := by
  obtain ⟨seq, pl, used, v, nl, d, c, F, m, hL, hS, hP, h1, h2, h3, hFF, hv, hT⟩ := h
  have hB0 : ∀ W, Turns (fun q => F q ∨ q = lp) w W → Below B W0 W := fun W hW =>
    (hT.trans hW (G := fun q => F q ∨ q = lp) (F := fun q => F0 q ∨ q = lp) (fun i hi e => by
      rcases e with e | e
      · rcases hFF i e with e' | e'
        · exact .inl e'
        · omega
      · exact .inr e)).below (B := B) (fun k hk => by
      rcases hk with e | e
      · exact hF k e
      · omega) hB
  have hwB : B ≤ w.heap.size := Nat.le_trans hB hT.size
  have ht' : ∀ W, Turns (fun q => F q ∨ q = lp) w W → TxAt W w.heap.size { t with seq := seq } Aw nw cw Ar nr cr := fun W hW => by
    have h0 := (ht.below (hB0 W hW)).more hwB
    exact ⟨h0.ws, h0.rs, by show seq < 18446744073709551616; omega, h0.fits, h0.intW, h0.intR⟩
  have hno0 : Going W0 w lp p s r d0 F0 sq cb nb false := ⟨seq, pl, used, v, nl, d, c, F, m, hL, hS, (fun e => absurd e (by decide)), h1, h2, h3, hFF, hv, hT⟩
  have hno : ∀ e w', Below w.heap.size w w' → (∃ x y : Int, e = Ending.returned (.tuple #[.int .u64 x, .int .i64 y])) → ∃ x y : Int, e = .returned (.tuple #[.int .u64 x, .int .i64 y]) ∧ Going W0 w' lp p s r d0 F0 (sq + 1) (cb + 60) (nb + 1) false := fun e w' hb ⟨x, y, he⟩ =>
    ⟨x, y, he, (Going.later (b := false) hno0 hb).more (Nat.le_succ _) (Nat.le_add_right _ _) (Nat.le_succ _) id⟩
  cases hm : Tx.mayB { t with seq := seq } with
  | false => exact (append_mayno lp p s r seq pl used nl m c v d F w hL _ Aw Ar nw cw nr cr ht' rfl hm).mono fun e w' ⟨he, hb⟩ => hno e w' hb ⟨_, _, he⟩
  | true =>
    cases hk : takesB d.stable.length s r { t with seq := seq } with
    | false => exact (append_takesno lp p s r seq pl used nl m c v d F w hL _ Aw Ar nw cw nr cr ht' rfl hm hk).mono fun e w' ⟨he, hb⟩ => hno e w' hb ⟨_, _, he⟩
    | true =>
      have hmT := (mayB_iff _).1 hm
      have hnw : t.ws.length = nw := ht.ws.1
      have hhi := hmT.hi
      have hel := enc_len _ hmT
      simp only at hhi hel
      by_cases hroom : used + (nw + 2) ≤ r
      · refine (append_ok lp p s r seq pl used nl m c v d F w hL _ Aw Ar nw cw nr cr ht' rfl (by omega) hm hk hroom (by omega) (by omega)).mono ?_
        rintro e w' ⟨he, v', F', hL', hF', hv', hT'⟩
        obtain ⟨r1, r2, r3, r4, r5⟩ := hL.ring
        refine ⟨_, _, he, seq + 1, _, _, v', nl + 1, _, c + (nw + 2), F', m, hL', ?_, (fun e => absurd e (by decide)), by omega, by omega, by omega, fun q hq => ?_, fun q hq => ?_, ?_⟩
        · exact Still.puts (by omega) _ d pl hS (chunks_len _ _ (by rw [hel, hnw])) r3 r4
        · rcases hF' q hq with e | e
          · exact hFF q e
          · exact .inr (Nat.le_trans hT.size e)
        · rcases hv' q hq with e | e
          · exact hv q e
          · exact Nat.le_trans hT.size e
        · exact hT.trans hT' (fun i hi e => by
            rcases e with e | e | e
            · rcases hFF i e with e' | e'
              · exact .inl e'
              · omega
            · exact .inr e
            · have := hv i e; omega)
      · exact (append_full lp p s r seq pl used nl m c v d F w hL _ Aw Ar nw cw nr cr ht' rfl hm hk hroom).mono fun e w' ⟨he, hb⟩ => hno e w' hb ⟨_, _, he⟩

theorem sync_go (W0 w : World) (lp p s r sq cb nb : Nat) (d0 : Dk.Dk) (F0 : Nat → Prop) (b : Bool) (h : Going W0 w lp p s r d0 F0 sq cb nb b) (hcb : cb ≤ 1048576) :
    Calls Try.prog 81 #[.pointer (some ⟨lp, 0, none⟩)] w fun e w' => e = .returned (.tuple #[]) ∧ Going W0 w' lp p s r d0 F0 sq cb nb true := by
  obtain ⟨seq, pl, used, v, nl, d, c, F, m, hL, hS, hP, h1, h2, h3, hFF, hv, hT⟩ := h
  refine (sync_any lp p s r seq pl used nl m c v d F w hL (by omega)).mono ?_
  rintro e w' ⟨he, F', m', hL', hF', hT'⟩
  refine ⟨he, seq, pl, used, v, nl, d.flush, c, F', m', hL', hS.flush, fun _ => Dk.pend_flush d ?_, h1, h2, h3, fun q hq => ?_, hv, ?_⟩
  · unfold Dk.Dk.blown; rw [hS.free]; rfl
  · rcases hF' q hq with e | e
    · exact hFF q e
    · exact .inr (Nat.le_trans hT.size e)
  · exact hT.trans hT' (fun i hi e => by
      rcases hFF i e with e' | e'
      · exact .inl e'
      · omega)

/-- A fresh log goes on. -/
theorem Fresh.going {w w' : World} {p r lp m n s l B : Nat} {F G : Nat → Prop} (h : Fresh w p r lp m n s l B F G) (hb : Below w.heap.size w w') (h8 : 8 ≤ l) (hl : l ≤ 1024) (hs : s + l ≤ n) : Going w' w' lp p s (l - 1) (freshD n s) F 1 1 0 true := by
  obtain ⟨m0, hD, -⟩ := DiskAt.named h.one
  have hsz := freshD_size n s
  have hr : (((l - 1 : Nat)) : Int) = (l : Int) - 1 := by omega
  have hok : (freshD n s).Ok ∧ (freshD n s).fuse = none ∧ (freshD n s).pend = [] := by
    have h0 := Dk.new_ok n
    have h1 := Dk.write_ok _ h0 s (headH 1 0) (by simp [Dk.Dk.new]; omega) (headH_len 1 0)
    have hf1 : ((Dk.Dk.new n).write s (headH 1 0)).fuse = none := Dk.deed_free _ rfl (some (s, headH 1 0))
    refine ⟨Dk.flush_ok _ h1, Dk.deed_free _ hf1 none, Dk.pend_flush _ ?_⟩
    unfold Dk.Dk.blown; rw [hf1]; rfl
  have hon : LogOn w lp p s (l - 1) 1 0 0 (.slice none 0 0) 0 (freshD n s) 1 F m0 := ⟨hD, by rw [hr]; exact h.log, ⟨[], ⟨rfl, .inl ⟨rfl, rfl⟩⟩, (fun u hu => by cases hu)⟩, (fun e => (h.lowF _ e).2.1 rfl), (fun k hk => by cases hk), ⟨by omega, by omega, by omega, by rw [hsz]; omega, by omega⟩⟩
  exact ⟨1, 0, 0, .slice none 0 0, 0, freshD n s, 1, F, m0, hon.later hb, Still.refl hok.1 hok.2.1, fun _ => hok.2.2, Nat.le_refl _, Nat.le_refl _, Nat.le_refl _, (fun q hq => .inl hq), (fun q hq => by cases hq), Turns.refl _ _⟩

theorem image_go (W0 w : World) (lp p s r sq cb nb n : Nat) (d0 : Dk.Dk) (F0 : Nat → Prop) (b : Bool) (h : Going W0 w lp p s r d0 F0 sq cb nb b) (hcb : cb ≤ 1048576) (hn : d0.stable.length = n) :
    Calls Try.prog 23 #[.pointer (some ⟨p, 0, none⟩)] w fun e w' => ∃ d A c, Still s r d0 d ∧ e = .returned (.slice A (256 * n) c) ∧ Owned w' w.heap.size (.slice A (256 * n) c) d.image.flatten ∧ Below w.heap.size w w' := by
  obtain ⟨seq, pl, used, v, nl, d, c, F, m, hL, hS, hP, h1, h2, h3, hFF, hv, hT⟩ := h
  refine (image_d d p c F w hL.disk.at (by omega)).mono ?_
  rintro e w' ⟨A, c', he, ho, hb⟩
  have hl := image_len d hS.ok
  rw [hS.size, hn] at hl
  rw [hl] at he ho
  exact ⟨d, A, c', hS, he, ho, hb⟩
theorem pending_go (W0 w : World) (lp p s r sq cb nb : Nat) (d0 : Dk.Dk) (F0 : Nat → Prop) (h : Going W0 w lp p s r d0 F0 sq cb nb true) :
    Calls Try.prog 19 #[.pointer (some ⟨p, 0, none⟩)] w fun e w' => e = .returned (.int .i64 0) ∧ w = w' := by
  obtain ⟨seq, pl, used, v, nl, d, c, F, m, hL, hS, hP, h1, h2, h3, hFF, hv, hT⟩ := h
  refine (pending_d d p c F w hL.disk.at).mono ?_
  rintro e w' ⟨he, hw⟩
  rw [hP rfl] at he
  exact ⟨he, hw⟩
theorem Going.lt {W0 w : World} {lp p s r sq cb nb : Nat} {d0 : Dk.Dk} {F0 : Nat → Prop} {b : Bool} (h : Going W0 w lp p s r d0 F0 sq cb nb b) : lp < w.heap.size := by
  obtain ⟨seq, pl, used, v, nl, d, c, F, m, hL, _⟩ := h
  exact (Array.getElem?_eq_some_iff.1 hL.log).1
end Go.Proofs.Ytgffcjceeiokfaa.Log
