/- The closure that puts a number behind the bytes. -/
import Derived.Test.YtmnajefioehheaaLfBuf
namespace Go.Proofs.Ytmnajefioehheaa.Lf
set_option maxRecDepth 20000
open Go.RowKit
open Go.Proofs.Ytmnajefioehheaa.Mem Go.Proofs.Ytmnajefioehheaa.Crc Go.Proofs.Ytmnajefioehheaa.Rec Go.Proofs.Ytmnajefioehheaa.Reg
attribute [local go_sem ↓] ldX_eq stX_eq

structure BufAt (w : World) (g r : Nat) (bs : List UInt8) : Prop where
  box : w.heap[g]? = some (.cells #[slB r bs.length] 24 (0, 0))
  row : RowB w r bs
theorem BufAt.lt {w : World} {g r : Nat} {bs : List UInt8} (h : BufAt w g r bs) : g < w.heap.size := (Array.getElem?_eq_some_iff.1 h.box).1
theorem BufAt.ne {w : World} {g r : Nat} {bs : List UInt8} (h : BufAt w g r bs) : g ≠ r := fun e => by
  obtain ⟨_, cur, hr, _⟩ := h.row
  have hb := h.box
  rw [e, hr] at hb
  injection hb with hb
  injection hb with _ hb
  exact absurd hb (by decide)
theorem BufAt.below {w w' : World} {g r : Nat} {bs : List UInt8} (h : BufAt w g r bs) (hb : Below w.heap.size w w') : BufAt w' g r bs := ⟨(hb.block _ h.lt).trans h.box, h.row.below hb⟩
theorem BufAt.cell {w : World} {g r : Nat} {bs : List UInt8} (h : BufAt w g r bs) : w.cell? ⟨g, 0, none⟩ = some (slB r bs.length) := cell_of_row w g 0 _ _ _ h.box
theorem BufAt.thaw {w : World} {g r : Nat} {bs : List UInt8} (h : BufAt w g r bs) : w.frozen? ⟨g, 0, none⟩ = false := frozen_of_row w g 0 _ _ h.box
/-- A world in which the row holds more, and its length is stored, too. -/
theorem BufAt.store {w w' : World} {g r : Nat} {bs ys : List UInt8} (h : BufAt w g r bs) (hr : RowB w' r ys) (ht : Tn g r w w') (hb : w'.heap[g]? = w.heap[g]?) :
    BufAt (w'.setCell ⟨g, 0, none⟩ (slB r ys.length)) g r ys ∧ Tn g r w (w'.setCell ⟨g, 0, none⟩ (slB r ys.length)) := by
  refine ⟨⟨?_, hr.keep (heap_setCell_other w' ⟨g, 0, none⟩ r _ (fun e => h.ne e.symm))⟩, ht.trans (Tn.setCell _ _ _ _)⟩
  exact heap_setCell_same w' g 0 _ _ _ (hb.trans h.box)
/-- A variable that isn't of the bytes stays. -/
theorem VarX.tn {w w' : World} {g r i : Nat} {x : Nm} {bs : List UInt8} (h : VarX w i x) (hb : BufAt w g r bs) (ht : Tn g r w w') : VarX w' i x := by
  refine (ht.block i h.lt (fun e => ?_) (fun e => ?_)).trans h
  · have h1 := hb.box
    rw [← e, h] at h1
    injection h1 with h1
    injection h1 with _ h1
    exact absurd h1 (by decide)
  · obtain ⟨_, cur, h1, _⟩ := hb.row
    rw [← e, h] at h1
    injection h1 with h1
    injection h1 with _ h1
    exact absurd h1 (by decide)
theorem Tn.widen {g r : Nat} {w w' : World} (h : Tn r r w w') : Tn g r w w' := ⟨h.os, h.tape, h.output, h.size, fun k hk _ h2 => h.block k hk h2 h2⟩

set_option maxRecDepth 100000 in
set_option maxHeartbeats 2000000 in
theorem put_any (g r v n : Nat) (bs : List UInt8) (w : World) (h : BufAt w g r bs) (hn : n ≤ 8) (hl : bs.length + n ≤ 256) :
    Calls Try.prog 28 #[.int .u64 (v : Int), .int .i64 (n : Int), .pointer (some ⟨g, 0, none⟩)] w fun e w' => e = .returned (.tuple #[]) ∧ BufAt w' g r (bs ++ bytesL v n) ∧ Tn g r w w' := by
  have hcall : ∀ V, Calls Try.prog 29 #[.int .u64 (v : Int), .int .i64 (n : Int)] V fun e w' => ∃ A c, e = .returned (.slice A n c) ∧ Owned w' V.heap.size (.slice A n c) (bytesL v n) ∧ Below V.heap.size V w' := fun V => bytesN_any v n V hn
  have HC := Lib.hid hcall; clear hcall
  have H := Lib.hid h; clear h
  have hc0 := H.out.cell
  go_enter Try.func28, Try.ntmps28
  go_wp2_with fail
  refine wp_region_E (fun V => BufAt V g r bs ∧ Tn g r w V) 5 rfl ?_
  have hS : BufAt w.drew g r bs ∧ Tn g r w w.drew := ⟨H.out.below (Below.refl _ w).drew, Tn.of_below (Below.refl _ w).drew⟩
  refine wpE_take 0 ⟨some 5, _, _, _, _, _⟩ (v := ?_) [4, 5] rfl (by kernel_rfl) (by kernel_rfl) (by kernel_rfl) (by kernel_rfl) (fun _ _ _ h => h) hS (Or.inl ⟨by kernel_rfl, ?_⟩) ?_
  rotate_left
  · (intro V hSw; have hq := hSw.1.cell; go_simp; try with_reducible rfl)
  try simp only [Act.put]
  refine wpE_take 1 ⟨some 6, _, _, _, _, _⟩ (v := ?_) [3, 4, 5] rfl (by kernel_rfl) (by kernel_rfl) (by kernel_rfl) (by kernel_rfl) (fun _ _ _ h => h) hS (Or.inl ⟨by kernel_rfl, ?_⟩) ?_
  rotate_left
  · (intro V hSw; go_simp; try with_reducible rfl)
  try simp only [Act.put]
  refine wpE_take 2 ⟨some 7, _, _, _, _, _⟩ (v := ?_) [3, 4, 5] rfl (by kernel_rfl) (by kernel_rfl) (by kernel_rfl) (by kernel_rfl) (fun _ _ _ h => h) hS (Or.inl ⟨by kernel_rfl, ?_⟩) ?_
  rotate_left
  · (intro V hSw; go_simp; try with_reducible rfl)
  try simp only [Act.put]
  refine wpE_one 3 (o := ⟨some 8, _, _, _, _, _⟩) (by kernel_rfl) rfl (fun K' hK' => ?_)
  rw [if_pos (by kernel_rfl)]
  refine call_wp 29 _ _ _ _ rfl Try.func29 (by kernel_rfl) rfl _ ?hv _ (HC.out _) ?_
  case hv => simp only [List.map_toArray, List.map_cons, List.map_nil]; go_simp
  rintro E w1 ⟨A, c, rfl, ho, hb⟩
  have hS1 : BufAt w1 g r bs ∧ Tn g r w w1 := ⟨hS.1.below hb, hS.2.trans (Tn.of_below hb)⟩
  have hys := Owned.reads ho
  have hyl : (bytesL v n).length = n := bytesL_len v n
  obtain ⟨ys, hyq⟩ : ∃ ys, ys = bytesL v n := ⟨_, rfl⟩
  rw [← hyq] at hys hyl ho
  subst hyl
  have HYQ := Lib.hid hyq; clear hyq
  obtain ⟨w2, hrun, hr2, ht2⟩ := run_addR hS1.1.row hl w1.heap.size A c hys 24 r
  have hbox : w2.heap[g]? = w1.heap[g]? := ht2.block g hS1.1.lt hS1.1.ne hS1.1.ne
  have hfin := hS1.1.store hr2 ht2.widen hbox
  have hpre : RowB w2 r bs := by
    obtain ⟨h1, cur, h2, h3, h4⟩ := hr2
    rw [List.length_append] at h1
    refine ⟨by omega, cur, h2, h3, ?_⟩
    have h5 := congrArg (List.take bs.length) h4
    rw [List.take_take, List.length_append, Nat.min_eq_left (by omega), List.map_append] at h5
    rw [h5]
    have h6 : (bs.map byteV).length = bs.length := List.length_map ..
    rw [← h6, List.take_left']
    rfl
  have hS2 : BufAt w2 g r bs ∧ Tn g r w w2 := ⟨⟨hbox.trans hS1.1.box, hpre⟩, hS1.2.trans ht2.widen⟩
  unfold slB at hfin
  rw [List.length_append] at hfin
  have HFIN := Lib.hid hfin; clear hfin
  have HT1 := Lib.hid hS1.2
  refine ⟨_, rfl, hK'.out _ _ hS1 (fun hS => ?_)⟩
  clear hK' K'
  try simp only [Act.put]
  refine wpE_one 4 (o := ⟨some 9, _, _, _, _, _⟩) (by kernel_rfl) rfl (fun K' hK' => ?_)
  refine step_builtin (by kernel_rfl) (.tmp 5) (.tmp 8) #[24, 24] rfl (slB r bs.length) (.slice A ys.length c) (slB r (bs ++ ys).length) w2 ?hva ?hvb hrun ?_
  case hva => go_simp; try with_reducible rfl
  case hvb => go_simp; try with_reducible rfl
  refine hK'.out _ _ hS2 (fun hS => ?_)
  clear hK' K'
  try simp only [Act.put]
  have q0 := hS2.1.cell
  have q1 := hS2.1.thaw
  refine wpE_last (by kernel_rfl) rfl (fun K' hK' => ?_)
  simp only [slB, List.length_append]
  go_simp
  refine hK'.out _ _ ?_
  clear hK' K'
  refine wpE_done (by kernel_rfl) ?_ _
  go_wp2
  refine bodyPost_end (results_none rfl _ _ _) rfl ?_
  exact ⟨rfl, by rw [← HYQ.out]; exact HFIN.out.1, HT1.out.trans HFIN.out.2⟩
theorem put1 (g r v : Nat) (bs : List UInt8) (w : World) (h : BufAt w g r bs) (hl : bs.length + 1 ≤ 256) :
    Calls Try.prog 28 #[.int .u64 (v : Int), .int .i64 1, .pointer (some ⟨g, 0, none⟩)] w fun e w' => e = .returned (.tuple #[]) ∧ BufAt w' g r (bs ++ bytesL v 1) ∧ Tn g r w w' := put_any g r v 1 bs w h (by omega) hl
theorem put2 (g r v : Nat) (bs : List UInt8) (w : World) (h : BufAt w g r bs) (hl : bs.length + 2 ≤ 256) :
    Calls Try.prog 28 #[.int .u64 (v : Int), .int .i64 2, .pointer (some ⟨g, 0, none⟩)] w fun e w' => e = .returned (.tuple #[]) ∧ BufAt w' g r (bs ++ bytesL v 2) ∧ Tn g r w w' := put_any g r v 2 bs w h (by omega) hl
theorem put4 (g r v : Nat) (bs : List UInt8) (w : World) (h : BufAt w g r bs) (hl : bs.length + 4 ≤ 256) :
    Calls Try.prog 28 #[.int .u64 (v : Int), .int .i64 4, .pointer (some ⟨g, 0, none⟩)] w fun e w' => e = .returned (.tuple #[]) ∧ BufAt w' g r (bs ++ bytesL v 4) ∧ Tn g r w w' := put_any g r v 4 bs w h (by omega) hl
end Go.Proofs.Ytmnajefioehheaa.Lf
