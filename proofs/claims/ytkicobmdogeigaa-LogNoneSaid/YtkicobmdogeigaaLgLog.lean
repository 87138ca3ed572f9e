/- A log in memory, and its opening by the program. -/
import Derived.Test.YtkicobmdogeigaaLgOpen
import Derived.Deep.RegionHeld
namespace Go.Proofs.Ytkicobmdogeigaa.Log
set_option maxRecDepth 20000
open Go.RowKit
open Go.Proofs.Ytkicobmdogeigaa.Mem Go.Proofs.Ytkicobmdogeigaa.Crc Go.Proofs.Ytkicobmdogeigaa.Disk
attribute [local go_sem ↓] Go.wp_at_zero Go.wp_at_succ

def logCells (p : Nat) (s r : Int) (seq pl used : Nat) (v : Value) : Array Value := #[.pointer (some ⟨p, 0, none⟩), .pointer (some ⟨p, 0, none⟩), .int .i64 s, .int .i64 r, .int .u64 (seq : Int), .int .i64 (pl : Int), v, .int .i64 (used : Int)]
/-- The log at l, on the disk at p: its next Seq and place, how many blocks its live records have, the slice of these. -/
def LogAt (w : World) (l p : Nat) (s r : Int) (seq pl used : Nat) (v : Value) : Prop := w.heap[l]? = some (.cells (logCells p s r seq pl used v) 110 (0, 0))

set_option maxHeartbeats 1000000 in
theorem open_d (s l : Nat) (S L : Int) (hS : S = (s : Int)) (hL : L = (l : Int)) (d : Dk.Dk) (p c : Nat) (F : Nat → Prop) (w : World) (h : DiskAt w p d c F) (hc : c ≤ 1048576) (h8 : 8 ≤ l) (hs : s + l ≤ d.stable.length) (hok : okH (d.read s) (l - 1) = true) :
    Calls Try.prog 31 #[ptr p, .int .i64 S, .int .i64 L] w fun e w' => ∃ lp, e = .returned (.tuple #[ptr lp, .int .i64 0]) ∧ LogAt w' lp p (s : Int) ((l : Int) - 1) (seqH (d.read s)) (plH (d.read s)) 0 (.slice none 0 0) ∧ w.heap.size ≤ lp ∧ Below w.heap.size w w' := by
  have hm := h.ok.2.2
  have hof := of_ok s l S L hS hL d p c F w h h8 hs
  have hhd : ∀ V, Below w.heap.size w V → Calls Try.prog 66 #[areaV p (s : Int) ((l : Int) - 1)] V fun e w' => e = .returned (.tuple #[.int .u64 (seqH (d.read s) : Int), .int .i64 (plH (d.read s) : Int), .bool true]) ∧ Below V.heap.size V w' := fun V hV => by
    have := head_d s (l - 1) ((l : Int) - 1) (by omega) d p c F V (h.turns (Turns.of_below (F := fun _ => False) hV) (fun _ _ e => e)) hc (by omega) (by omega)
    unfold headR at this
    rwa [if_pos hok] at this
  clear h hS hL hok
  unfold areaV ptr LogAt logCells at *
  generalize seqH (d.read s) = sq at *
  generalize plH (d.read s) = pl at *
  have HOF := Lib.hid hof; clear hof
  have HHD := Lib.hid hhd; clear hhd
  go_enter Try.func31, Try.ntmps31
  go_wp2_with fail
  with_reducible refine HOF.out.mono ?_
  rintro e w1 ⟨rfl, hb1⟩
  clear HOF
  have HB1 := Lib.hid hb1; clear hb1
  go_wp2_with fail
  have hx : (w1.alloc (.cells #[.pointer (some ⟨p, 0, none⟩), .int .i64 (s : Int), .int .i64 ((l : Int) - 1)] 104)).heap[w1.heap.size]? = some (.cells #[.pointer (some ⟨p, 0, none⟩), .int .i64 (s : Int), .int .i64 ((l : Int) - 1)] 104 (0, 0)) := heap_alloc_new w1 _
  have HX := Lib.hid hx; clear hx
  with_reducible refine (HHD.out _ (HB1.out.alloc HB1.out.size _)).mono ?_
  rintro e w2 ⟨rfl, hb2⟩
  clear HHD
  obtain ⟨q0, q1, q2⟩ := box_at ((hb2.block _ (by simp)).trans HX.out)
  have HB2 : Hid (Below w.heap.size w w2) := Lib.hid ((HB1.out.alloc HB1.out.size _).trans (hb2.mono (by have := HB1.out.size; simp; omega)))
  clear hb2 HX
  go_wp2
  go_ret2
  exact ⟨w2.heap.size, rfl, heap_alloc_new w2 _, HB2.out.size, HB2.out.alloc HB2.out.size _⟩

set_option maxHeartbeats 1000000 in
/-- A head that may not be. -/
theorem open_unclean (s l : Nat) (S L : Int) (hS : S = (s : Int)) (hL : L = (l : Int)) (d : Dk.Dk) (p c : Nat) (F : Nat → Prop) (w : World) (h : DiskAt w p d c F) (hc : c ≤ 1048576) (h8 : 8 ≤ l) (hs : s + l ≤ d.stable.length) (hok : okH (d.read s) (l - 1) = false) :
    Calls Try.prog 31 #[ptr p, .int .i64 S, .int .i64 L] w fun e w' => e = .returned (.tuple #[.pointer none, .int .i64 13]) ∧ Below w.heap.size w w' := by
  have hm := h.ok.2.2
  have hof := of_ok s l S L hS hL d p c F w h h8 hs
  have hhd : ∀ V, Below w.heap.size w V → Calls Try.prog 66 #[areaV p (s : Int) ((l : Int) - 1)] V fun e w' => e = .returned (.tuple #[.int .u64 0, .int .i64 0, .bool false]) ∧ Below V.heap.size V w' := fun V hV => by
    have := head_d s (l - 1) ((l : Int) - 1) (by omega) d p c F V (h.turns (Turns.of_below (F := fun _ => False) hV) (fun _ _ e => e)) hc (by omega) (by omega)
    unfold headR at this
    rwa [if_neg (by simp [hok])] at this
  clear h hS hL hok
  unfold areaV ptr at *
  have HOF := Lib.hid hof; clear hof
  have HHD := Lib.hid hhd; clear hhd
  go_enter Try.func31, Try.ntmps31
  go_wp2_with fail
  with_reducible refine HOF.out.mono ?_
  rintro e w1 ⟨rfl, hb1⟩
  clear HOF
  have HB1 := Lib.hid hb1; clear hb1
  go_wp2_with fail
  with_reducible refine (HHD.out _ (HB1.out.alloc HB1.out.size _)).mono ?_
  rintro e w2 ⟨rfl, hb2⟩
  clear HHD
  have HB2 : Hid (Below w.heap.size w w2) := Lib.hid ((HB1.out.alloc HB1.out.size _).trans (hb2.mono (by have := HB1.out.size; simp; omega)))
  clear hb2
  go_wp2
  go_ret2
  exact ⟨rfl, HB2.out⟩
set_option maxHeartbeats 1000000 in
/-- An area that may not be. -/
theorem open_not (S L : Int) (d : Dk.Dk) (p c : Nat) (F : Nat → Prop) (w : World) (h : DiskAt w p d c F) (hn : okArea d.stable.length S L = false) :
    Calls Try.prog 31 #[ptr p, .int .i64 S, .int .i64 L] w fun e w' => e = .returned (.tuple #[.pointer none, .int .i64 1]) ∧ Below w.heap.size w w' := by
  have hof := of_not S L d p c F w h hn
  clear h hn
  unfold noArea ptr at *
  have HOF := Lib.hid hof; clear hof
  go_enter Try.func31, Try.ntmps31
  go_wp2_with fail
  with_reducible refine HOF.out.mono ?_
  rintro e w1 ⟨rfl, hb1⟩
  clear HOF
  have HB1 := Lib.hid hb1; clear hb1
  go_wp2
  go_ret2
  exact ⟨rfl, HB1.out.alloc HB1.out.size _⟩
theorem format_not (S L : Int) (d : Dk.Dk) (p c : Nat) (F : Nat → Prop) (w : World) (h : DiskAt w p d c F) (hn : okArea d.stable.length S L = false) :
    Calls Try.prog 32 #[ptr p, .int .i64 S, .int .i64 L] w fun e w' => e = .returned (.int .i64 1) ∧ Below w.heap.size w w' := by
  have hof := of_not S L d p c F w h hn
  clear h hn
  unfold noArea ptr at *
  have HOF := Lib.hid hof; clear hof
  go_enter Try.func32, Try.ntmps32
  go_wp2_with fail
  with_reducible refine HOF.out.mono ?_
  rintro e w1 ⟨rfl, hb1⟩
  clear HOF
  have HB1 := Lib.hid hb1; clear hb1
  go_wp2
  go_ret
  exact ⟨rfl, HB1.out.alloc HB1.out.size _⟩

/-! Small calls of the log. -/
theorem room_any (l p seq pl used : Nat) (s r : Int) (v : Value) (w : World) (h : LogAt w l p s r seq pl used v) (hr : 0 ≤ r ∧ r ≤ 1024) (hu : used ≤ 1024) :
    Calls Try.prog 40 #[.pointer (some ⟨l, 0, none⟩)] w fun e w' => e = .returned (.int .i64 (r - (used : Int))) ∧ Below w.heap.size w w' := by
  obtain ⟨hr0, hr1⟩ := hr
  have hw : IntKind.i64.wrap (r - (used : Int)) = r - (used : Int) := by rw [IntKind.wrap_i64]; omega
  unfold LogAt logCells at h
  have q2 : w.cell? ⟨l, 1, none⟩ = some (.pointer (some ⟨p, 0, none⟩)) := cell_of_row w l 1 _ _ _ h
  have q3 : w.cell? ⟨l, 2, none⟩ = some (.int .i64 s) := cell_of_row w l 2 _ _ _ h
  have q4 : w.cell? ⟨l, 3, none⟩ = some (.int .i64 r) := cell_of_row w l 3 _ _ _ h
  have q7 : w.cell? ⟨l, 7, none⟩ = some (.int .i64 (used : Int)) := cell_of_row w l 7 _ _ _ h
  have HP := Lib.hid (places_any p s r)
  clear h
  unfold areaV ptr at HP
  go_enter Try.func40, Try.ntmps40
  go_wp2_with fail
  have hS : (w.drew.cell? ⟨l, 1, none⟩ = some (.pointer (some ⟨p, 0, none⟩)) ∧ w.drew.cell? ⟨l, 2, none⟩ = some (.int .i64 s) ∧ w.drew.cell? ⟨l, 3, none⟩ = some (.int .i64 r) ∧ w.drew.cell? ⟨l, 7, none⟩ = some (.int .i64 (used : Int))) := ⟨q2, q3, q4, q7⟩
  go_region_held (fun V => V.cell? ⟨l, 1, none⟩ = some (.pointer (some ⟨p, 0, none⟩)) ∧ V.cell? ⟨l, 2, none⟩ = some (.int .i64 s) ∧ V.cell? ⟨l, 3, none⟩ = some (.int .i64 r) ∧ V.cell? ⟨l, 7, none⟩ = some (.int .i64 (used : Int))) (assumption)
    (first
      | (go_at_call 76
         with_reducible refine (HP.out _).mono ?_
         rintro e V ⟨rfl, hb⟩
         have hl : l < w.drew.heap.size := block_lt_of_cell q7
         have hS1 : (V.cell? ⟨l, 1, none⟩ = some (.pointer (some ⟨p, 0, none⟩)) ∧ V.cell? ⟨l, 2, none⟩ = some (.int .i64 s) ∧ V.cell? ⟨l, 3, none⟩ = some (.int .i64 r) ∧ V.cell? ⟨l, 7, none⟩ = some (.int .i64 (used : Int))) := ⟨(hb.cell (p := ⟨l, 1, none⟩) hl).trans q2, (hb.cell (p := ⟨l, 2, none⟩) hl).trans q3, (hb.cell (p := ⟨l, 3, none⟩) hl).trans q4, (hb.cell (p := ⟨l, 7, none⟩) hl).trans q7⟩
         clear hS))
  all_goals
    go_wp2
    go_ret
    exact ⟨(by first | rfl | (simp only [hw]; rfl)), (Below.refl _ w).drew.trans hb⟩
theorem next_any (l p seq pl used : Nat) (s r : Int) (v : Value) (w : World) (h : LogAt w l p s r seq pl used v) :
    Calls Try.prog 39 #[.pointer (some ⟨l, 0, none⟩)] w fun e w' => e = .returned (.tuple #[.int .u64 (seq : Int), .int .i64 (pl : Int)]) ∧ Below w.heap.size w w' := by
  unfold LogAt logCells at h
  have q4 : w.cell? ⟨l, 4, none⟩ = some (.int .u64 (seq : Int)) := cell_of_row w l 4 _ _ _ h
  have q5 : w.cell? ⟨l, 5, none⟩ = some (.int .i64 (pl : Int)) := cell_of_row w l 5 _ _ _ h
  clear h
  go_enter Try.func39, Try.ntmps39
  go_wp2_with fail
  have hS : (w.drew.cell? ⟨l, 4, none⟩ = some (.int .u64 (seq : Int)) ∧ w.drew.cell? ⟨l, 5, none⟩ = some (.int .i64 (pl : Int))) := ⟨q4, q5⟩
  go_region_held (fun V => V.cell? ⟨l, 4, none⟩ = some (.int .u64 (seq : Int)) ∧ V.cell? ⟨l, 5, none⟩ = some (.int .i64 (pl : Int))) (assumption) (fail)
  all_goals
    go_wp2
    go_ret2
    exact ⟨rfl, (Below.refl _ w).drew⟩
end Go.Proofs.Ytkicobmdogeigaa.Log
