/- A log in memory, and its opening by the program. -/
import Derived.Test.YtelnoibfamcnmaaGreatLgArea
import Derived.Deep.RegionHeld
import Derived.Test.YtelnoibfamcnmaaGreatRcTxn
namespace Go.Proofs.YtelnoibfamcnmaaGreat.Log
set_option maxRecDepth 20000
open Go.RowKit
open Go.Proofs.YtelnoibfamcnmaaGreat.Mem Go.Proofs.YtelnoibfamcnmaaGreat.Crc Go.Proofs.YtelnoibfamcnmaaGreat.Disk
open Go.Proofs.YtelnoibfamcnmaaGreat.Rec (numFrom numFrom_lt eqB equal_any)
attribute [local go_sem ↓] Go.wp_at_zero Go.wp_at_succ

def seqH (bs : List UInt8) : Nat := numFrom bs 8 8
def plH (bs : List UInt8) : Nat := numFrom bs 16 4
def okH (bs : List UInt8) (ring : Nat) : Bool := decide (plH bs < ring) && eqB bs (headH (seqH bs) (plH bs))
def headR (bs : List UInt8) (ring : Nat) : Value := if okH bs ring then .tuple #[.int .u64 (seqH bs : Int), .int .i64 (plH bs : Int), .bool true] else .tuple #[.int .u64 0, .int .i64 0, .bool false]

/-- A block is read into a block of the call's own. -/
def ReadAt (w : World) (bs : List UInt8) (e : Ending) (V : World) : Prop := ∃ b, e = .returned (.tuple #[.slice (some ⟨b, 0, none⟩) 256 256, .int .i64 0]) ∧ Holds V V.heap.size (some ⟨b, 0, none⟩) 256 bs ∧ Below w.heap.size w V
theorem readB_d (s : Nat) (d : Dk.Dk) (p c : Nat) (F : Nat → Prop) (w : World) (h : DiskAt w p d c F) (hc : c ≤ 1048576) (hs : s < d.stable.length) :
    Calls Tryz.prog 23 #[.pointer (some ⟨p, 0, none⟩), .int .i64 (s : Int)] w (ReadAt w (d.read s)) := by
  refine (read_d (s : Int) s rfl d p c F w h hs hc).mono ?_
  rintro e w' ⟨rfl, hl, rfl⟩
  refine ⟨w.heap.size, rfl, ?_, (Below.refl _ w).alloc (Nat.le_refl _) _⟩
  have := holds_lit w (d.read s) _ rfl
  rw [hl] at this
  exact this.more (by simp)

/-! The Seq and the place of the head. -/
set_option maxHeartbeats 1000000 in
theorem head_d_far (s ring : Nat) (d : Dk.Dk) (p c : Nat) (F : Nat → Prop) (w : World) (h : DiskAt w p d c F) (hc : c ≤ 1048576) (hs : s < d.stable.length) (hr : ring ≤ 1024) (hf : ring ≤ plH (d.read s)) :
    Calls Tryz.prog 50 #[areaV p (s : Int) (ring : Int)] w fun e w' => e = .returned (.tuple #[.int .u64 0, .int .i64 0, .bool false]) ∧ Below w.heap.size w w' := by
  have ht1 : Turns (fun _ => False) w (w.alloc (.cells #[.pointer (some ⟨p, 0, none⟩), .int .i64 (s : Int), .int .i64 (ring : Int)] 66)) := (Turns.refl _ w).alloc _
  have hx1 : (w.alloc (.cells #[.pointer (some ⟨p, 0, none⟩), .int .i64 (s : Int), .int .i64 (ring : Int)] 66)).heap[w.heap.size]? = some (.cells #[.pointer (some ⟨p, 0, none⟩), .int .i64 (s : Int), .int .i64 (ring : Int)] 66 (0, 0)) := heap_alloc_new w _
  have hrd := readB_d s d p c F _ (h.turns ht1 (fun _ _ e => e)) hc hs
  have hb1 : Below w.heap.size w (w.alloc (.cells #[.pointer (some ⟨p, 0, none⟩), .int .i64 (s : Int), .int .i64 (ring : Int)] 66)) := (Below.refl _ w).alloc (Nat.le_refl _) _
  generalize d.read s = bs at *
  have HRD := Lib.hid hrd; clear hrd
  have HX1 := Lib.hid hx1; clear hx1
  have HB1 := Lib.hid hb1; clear hb1
  clear h ht1
  obtain ⟨sq, hsq⟩ : ∃ x, x = seqH bs := ⟨_, rfl⟩
  obtain ⟨pl, hpl⟩ : ∃ x, x = plH bs := ⟨_, rfl⟩
  have hlt : pl < 4294967296 := by rw [hpl]; exact numFrom_lt bs 16 4
  rw [← hpl] at hf
  try rw [← hpl]
  have HSQ := Lib.hid hsq; clear hsq
  have HPL := Lib.hid hpl; clear hpl
  unfold areaV ptr
  go_enter Tryz.func50, Tryz.ntmps50
  go_wp2_with fail
  generalize w.alloc (.cells #[.pointer (some ⟨p, 0, none⟩), .int .i64 (s : Int), .int .i64 (ring : Int)] 66) = W at HRD HX1 HB1 ⊢
  with_reducible refine HRD.out.mono ?_
  rintro e V ⟨b, rfl, hh, hb⟩
  have hxV := (hb.block _ (Array.getElem?_eq_some_iff.1 HX1.out).1).trans HX1.out
  have q2 : V.cell? ⟨w.heap.size, 2, none⟩ = some (.int .i64 (ring : Int)) := cell_of_row V w.heap.size 2 _ _ _ hxV
  have HV : Hid (Below w.heap.size w V) := Lib.hid (HB1.out.trans (hb.mono HB1.out.size))
  have HXV := Lib.hid hxV
  have n1 := number_any _ 8 (256 - 8) V.heap.size _ V (Go.Proofs.YtelnoibfamcnmaaGreat.Rec.Holds.drop hh (show 8 + 8 ≤ 256 by omega)) (by omega)
  have n2 := number_any _ 4 (256 - 16) V.heap.size _ V (Go.Proofs.YtelnoibfamcnmaaGreat.Rec.Holds.drop hh (show 16 + 4 ≤ 256 by omega)) (by omega)
  have e1 : numAt ((bs.drop 8).take 8) 8 = seqH bs := rfl
  have e2 : numAt ((bs.drop 16).take 4) 4 = plH bs := rfl
  rw [e1, ← HSQ.out] at n1
  rw [e2, ← HPL.out] at n2
  have HN1 := Lib.hid n1; clear n1
  have HN2 := Lib.hid n2; clear n2
  have HH := Lib.hid hh; clear hh
  clear hb hxV HRD HX1 HB1 e1 e2
  go_wp2_with fail
  with_reducible refine HN1.out.mono ?_
  rintro e V1 ⟨rfl, rfl⟩
  go_wp2_with fail
  with_reducible refine HN2.out.mono ?_
  rintro e V1 ⟨rfl, rfl⟩
  clear HN1 HN2
  go_wp2_with fail
  refine bodyPost_ret (results_tmp3 rfl _ _ _) rfl ?_
  exact ⟨rfl, HV.out⟩

set_option maxHeartbeats 1000000 in
theorem head_d_not (s ring : Nat) (d : Dk.Dk) (p c : Nat) (F : Nat → Prop) (w : World) (h : DiskAt w p d c F) (hc : c ≤ 1048576) (hs : s < d.stable.length) (hr : ring ≤ 1024) (hf : plH (d.read s) < ring) (he : eqB (d.read s) (headH (seqH (d.read s)) (plH (d.read s))) = false) :
    Calls Tryz.prog 50 #[areaV p (s : Int) (ring : Int)] w fun e w' => e = .returned (.tuple #[.int .u64 0, .int .i64 0, .bool false]) ∧ Below w.heap.size w w' := by
  have ht1 : Turns (fun _ => False) w (w.alloc (.cells #[.pointer (some ⟨p, 0, none⟩), .int .i64 (s : Int), .int .i64 (ring : Int)] 66)) := (Turns.refl _ w).alloc _
  have hx1 : (w.alloc (.cells #[.pointer (some ⟨p, 0, none⟩), .int .i64 (s : Int), .int .i64 (ring : Int)] 66)).heap[w.heap.size]? = some (.cells #[.pointer (some ⟨p, 0, none⟩), .int .i64 (s : Int), .int .i64 (ring : Int)] 66 (0, 0)) := heap_alloc_new w _
  have hrd := readB_d s d p c F _ (h.turns ht1 (fun _ _ e => e)) hc hs
  have hb1 : Below w.heap.size w (w.alloc (.cells #[.pointer (some ⟨p, 0, none⟩), .int .i64 (s : Int), .int .i64 (ring : Int)] 66)) := (Below.refl _ w).alloc (Nat.le_refl _) _
  generalize d.read s = bs at *
  have HRD := Lib.hid hrd; clear hrd
  have HX1 := Lib.hid hx1; clear hx1
  have HB1 := Lib.hid hb1; clear hb1
  clear h ht1
  obtain ⟨sq, hsq⟩ : ∃ x, x = seqH bs := ⟨_, rfl⟩
  obtain ⟨pl, hpl⟩ : ∃ x, x = plH bs := ⟨_, rfl⟩
  have hlt : pl < 4294967296 := by rw [hpl]; exact numFrom_lt bs 16 4
  rw [← hpl] at hf
  try rw [← hpl] at he
  try rw [← hpl]
  rw [← hsq] at he
  try rw [← hsq]
  have HEQ := Lib.hid he; clear he
  have HSQ := Lib.hid hsq; clear hsq
  have HPL := Lib.hid hpl; clear hpl
  unfold areaV ptr
  go_enter Tryz.func50, Tryz.ntmps50
  go_wp2_with fail
  generalize w.alloc (.cells #[.pointer (some ⟨p, 0, none⟩), .int .i64 (s : Int), .int .i64 (ring : Int)] 66) = W at HRD HX1 HB1 ⊢
  with_reducible refine HRD.out.mono ?_
  rintro e V ⟨b, rfl, hh, hb⟩
  have hxV := (hb.block _ (Array.getElem?_eq_some_iff.1 HX1.out).1).trans HX1.out
  have q2 : V.cell? ⟨w.heap.size, 2, none⟩ = some (.int .i64 (ring : Int)) := cell_of_row V w.heap.size 2 _ _ _ hxV
  have HV : Hid (Below w.heap.size w V) := Lib.hid (HB1.out.trans (hb.mono HB1.out.size))
  have HXV := Lib.hid hxV
  have n1 := number_any _ 8 (256 - 8) V.heap.size _ V (Go.Proofs.YtelnoibfamcnmaaGreat.Rec.Holds.drop hh (show 8 + 8 ≤ 256 by omega)) (by omega)
  have n2 := number_any _ 4 (256 - 16) V.heap.size _ V (Go.Proofs.YtelnoibfamcnmaaGreat.Rec.Holds.drop hh (show 16 + 4 ≤ 256 by omega)) (by omega)
  have e1 : numAt ((bs.drop 8).take 8) 8 = seqH bs := rfl
  have e2 : numAt ((bs.drop 16).take 4) 4 = plH bs := rfl
  rw [e1, ← HSQ.out] at n1
  rw [e2, ← HPL.out] at n2
  have HN1 := Lib.hid n1; clear n1
  have HN2 := Lib.hid n2; clear n2
  have HH := Lib.hid hh; clear hh
  clear hb hxV HRD HX1 HB1 e1 e2
  go_wp2_with fail
  with_reducible refine HN1.out.mono ?_
  rintro e V1 ⟨rfl, rfl⟩
  go_wp2_with fail
  with_reducible refine HN2.out.mono ?_
  rintro e V1 ⟨rfl, rfl⟩
  clear HN1 HN2
  go_wp2_with fail
  refine (head_any sq pl V (by omega)).mono ?_
  rintro e V2 ⟨A2, c2, rfl, ho2, hb2⟩
  have hq := equal_any (some ⟨b, 0, none⟩) A2 256 (headH sq pl).length 256 c2 V.heap.size V2.heap.size bs (headH sq pl) V2 (HH.out.below hb2) (Go.Proofs.YtelnoibfamcnmaaGreat.Rec.Owned.reads ho2)
  rw [HEQ.out] at hq
  have HQ := Lib.hid hq; clear hq
  have HV2 : Hid (Below w.heap.size w V2) := Lib.hid (HV.out.trans (hb2.mono HV.out.size))
  clear ho2 hb2 HH HXV q2
  go_wp2_with fail
  with_reducible refine HQ.out.mono ?_
  rintro e V3 ⟨rfl, rfl⟩
  clear HQ
  go_wp2
  refine bodyPost_ret (results_tmp3 rfl _ _ _) rfl ?_
  exact ⟨rfl, HV2.out⟩

set_option maxHeartbeats 1000000 in
theorem head_d_is (s ring : Nat) (d : Dk.Dk) (p c : Nat) (F : Nat → Prop) (w : World) (h : DiskAt w p d c F) (hc : c ≤ 1048576) (hs : s < d.stable.length) (hr : ring ≤ 1024) (hf : plH (d.read s) < ring) (he : eqB (d.read s) (headH (seqH (d.read s)) (plH (d.read s))) = true) :
    Calls Tryz.prog 50 #[areaV p (s : Int) (ring : Int)] w fun e w' => e = .returned (.tuple #[.int .u64 (seqH (d.read s) : Int), .int .i64 (plH (d.read s) : Int), .bool true]) ∧ Below w.heap.size w w' := by
  have ht1 : Turns (fun _ => False) w (w.alloc (.cells #[.pointer (some ⟨p, 0, none⟩), .int .i64 (s : Int), .int .i64 (ring : Int)] 66)) := (Turns.refl _ w).alloc _
  have hx1 : (w.alloc (.cells #[.pointer (some ⟨p, 0, none⟩), .int .i64 (s : Int), .int .i64 (ring : Int)] 66)).heap[w.heap.size]? = some (.cells #[.pointer (some ⟨p, 0, none⟩), .int .i64 (s : Int), .int .i64 (ring : Int)] 66 (0, 0)) := heap_alloc_new w _
  have hrd := readB_d s d p c F _ (h.turns ht1 (fun _ _ e => e)) hc hs
  have hb1 : Below w.heap.size w (w.alloc (.cells #[.pointer (some ⟨p, 0, none⟩), .int .i64 (s : Int), .int .i64 (ring : Int)] 66)) := (Below.refl _ w).alloc (Nat.le_refl _) _
  generalize d.read s = bs at *
  have HRD := Lib.hid hrd; clear hrd
  have HX1 := Lib.hid hx1; clear hx1
  have HB1 := Lib.hid hb1; clear hb1
  clear h ht1
  obtain ⟨sq, hsq⟩ : ∃ x, x = seqH bs := ⟨_, rfl⟩
  obtain ⟨pl, hpl⟩ : ∃ x, x = plH bs := ⟨_, rfl⟩
  have hlt : pl < 4294967296 := by rw [hpl]; exact numFrom_lt bs 16 4
  rw [← hpl] at hf
  try rw [← hpl] at he
  try rw [← hpl]
  rw [← hsq] at he
  try rw [← hsq]
  have HEQ := Lib.hid he; clear he
  have HSQ := Lib.hid hsq; clear hsq
  have HPL := Lib.hid hpl; clear hpl
  unfold areaV ptr
  go_enter Tryz.func50, Tryz.ntmps50
  go_wp2_with fail
  generalize w.alloc (.cells #[.pointer (some ⟨p, 0, none⟩), .int .i64 (s : Int), .int .i64 (ring : Int)] 66) = W at HRD HX1 HB1 ⊢
  with_reducible refine HRD.out.mono ?_
  rintro e V ⟨b, rfl, hh, hb⟩
  have hxV := (hb.block _ (Array.getElem?_eq_some_iff.1 HX1.out).1).trans HX1.out
  have q2 : V.cell? ⟨w.heap.size, 2, none⟩ = some (.int .i64 (ring : Int)) := cell_of_row V w.heap.size 2 _ _ _ hxV
  have HV : Hid (Below w.heap.size w V) := Lib.hid (HB1.out.trans (hb.mono HB1.out.size))
  have HXV := Lib.hid hxV
  have n1 := number_any _ 8 (256 - 8) V.heap.size _ V (Go.Proofs.YtelnoibfamcnmaaGreat.Rec.Holds.drop hh (show 8 + 8 ≤ 256 by omega)) (by omega)
  have n2 := number_any _ 4 (256 - 16) V.heap.size _ V (Go.Proofs.YtelnoibfamcnmaaGreat.Rec.Holds.drop hh (show 16 + 4 ≤ 256 by omega)) (by omega)
  have e1 : numAt ((bs.drop 8).take 8) 8 = seqH bs := rfl
  have e2 : numAt ((bs.drop 16).take 4) 4 = plH bs := rfl
  rw [e1, ← HSQ.out] at n1
  rw [e2, ← HPL.out] at n2
  have HN1 := Lib.hid n1; clear n1
  have HN2 := Lib.hid n2; clear n2
  have HH := Lib.hid hh; clear hh
  clear hb hxV HRD HX1 HB1 e1 e2
  go_wp2_with fail
  with_reducible refine HN1.out.mono ?_
  rintro e V1 ⟨rfl, rfl⟩
  go_wp2_with fail
  with_reducible refine HN2.out.mono ?_
  rintro e V1 ⟨rfl, rfl⟩
  clear HN1 HN2
  go_wp2_with fail
  refine (head_any sq pl V (by omega)).mono ?_
  rintro e V2 ⟨A2, c2, rfl, ho2, hb2⟩
  have hq := equal_any (some ⟨b, 0, none⟩) A2 256 (headH sq pl).length 256 c2 V.heap.size V2.heap.size bs (headH sq pl) V2 (HH.out.below hb2) (Go.Proofs.YtelnoibfamcnmaaGreat.Rec.Owned.reads ho2)
  rw [HEQ.out] at hq
  have HQ := Lib.hid hq; clear hq
  have HV2 : Hid (Below w.heap.size w V2) := Lib.hid (HV.out.trans (hb2.mono HV.out.size))
  clear ho2 hb2 HH HXV q2
  go_wp2_with fail
  with_reducible refine HQ.out.mono ?_
  rintro e V3 ⟨rfl, rfl⟩
  clear HQ
  go_wp2
  refine bodyPost_ret (results_tmp3 rfl _ _ _) rfl ?_
  exact ⟨rfl, HV2.out⟩

theorem head_d (s ring : Nat) (R : Int) (hR : R = (ring : Int)) (d : Dk.Dk) (p c : Nat) (F : Nat → Prop) (w : World) (h : DiskAt w p d c F) (hc : c ≤ 1048576) (hs : s < d.stable.length) (hr : ring ≤ 1024) :
    Calls Tryz.prog 50 #[areaV p (s : Int) R] w fun e w' => e = .returned (headR (d.read s) ring) ∧ Below w.heap.size w w' := by
  subst hR
  unfold headR okH
  by_cases hf : plH (d.read s) < ring
  · cases he : eqB (d.read s) (headH (seqH (d.read s)) (plH (d.read s)))
    · rw [if_neg (by simp)]
      exact head_d_not s ring d p c F w h hc hs hr hf he
    · rw [if_pos (by simp [hf])]
      exact head_d_is s ring d p c F w h hc hs hr hf he
  · rw [if_neg (by simp [hf])]
    exact head_d_far s ring d p c F w h hc hs hr (by omega)

theorem seqH_lt (bs : List UInt8) : seqH bs < 18446744073709551616 := numFrom_lt bs 8 8

set_option maxHeartbeats 1000000 in
/-- An empty log is made. -/
theorem format_d (s l : Nat) (S L : Int) (hS : S = (s : Int)) (hL : L = (l : Int)) (d : Dk.Dk) (p c : Nat) (F : Nat → Prop) (w : World) (h : DiskAt w p d c F) (hc : c < 1048576) (h8 : 8 ≤ l) (hs : s + l ≤ d.stable.length) :
    Calls Tryz.prog 18 #[ptr p, .int .i64 S, .int .i64 L] w (Now w p (d.write s (headH 1 0)).flush (c + 1) F (.int .i64 0)) := by
  have hof := of_ok s l S L hS hL d p c F w h h8 hs
  have H := Lib.hid h; clear h
  have HOF := Lib.hid hof; clear hof
  clear hS hL
  unfold areaV ptr at *
  go_enter Tryz.func18, Tryz.ntmps18
  go_wp2_with fail
  with_reducible refine HOF.out.mono ?_
  rintro e w1 ⟨rfl, hb1⟩
  clear HOF
  obtain ⟨w1', hw1⟩ : ∃ W, W = w1.alloc (.cells #[.pointer (some ⟨p, 0, none⟩), .int .i64 (s : Int), .int .i64 ((l : Int) - 1)] 66) := ⟨_, rfl⟩
  have hb1' : Below w.heap.size w w1' := by rw [hw1]; exact hb1.alloc hb1.size _
  have hD1 := H.out.turns (Turns.of_below (F := fun _ => False) hb1') (fun _ _ e => e)
  have hph : Calls Tryz.prog 33 #[.agg #[.pointer (some ⟨p, 0, none⟩), .int .i64 (s : Int), .int .i64 ((l : Int) - 1)], .int .u64 1, .int .i64 0] w1' (Now w1' p (d.write s (headH 1 0)) (c + 1) F (.tuple #[])) := puthead_d s 1 0 ((l : Int) - 1) d p c F w1' hD1 hc (by omega) (by omega)
  have HPH := Lib.hid hph; clear hph hD1 hb1
  have hb1 := hb1'
  clear hb1'
  have HB1 := Lib.hid hb1; clear hb1
  have HW1 := Lib.hid hw1; clear hw1
  go_wp2_with fail
  rw [← HW1.out]
  with_reducible refine HPH.out.mono ?_
  rintro e w2 ⟨F2, rfl, hD2, hF2, hT2⟩
  clear HPH
  have hfl := flush_d _ p (c + 1) F2 w2 hD2 (by omega)
  unfold ptr at hfl
  have HFL := Lib.hid hfl; clear hfl
  have HF2 := Lib.hid hF2; clear hF2
  have HT2 := Lib.hid hT2; clear hT2 hD2
  go_wp2_with fail
  with_reducible refine HFL.out.mono ?_
  rintro e w3 ⟨F3, rfl, hD3, hF3, hT3⟩
  clear HFL
  go_wp2
  go_ret
  have z1 := HB1.out.size
  have z2 := HT2.out.size
  refine ⟨F3, rfl, hD3, fun k hk => ?_, ?_⟩
  · rcases hF3 k hk with e | e
    · rcases HF2.out k e with e | e
      · exact .inl e
      · exact .inr (by omega)
    · exact .inr (by omega)
  · refine (Turns.of_below (F := F) HB1.out).trans (G := F) (HT2.out.trans hT3 (fun i hi e => ?_)) (fun _ _ e => e)
    rcases HF2.out i e with e | e
    · exact e
    · omega
end Go.Proofs.YtelnoibfamcnmaaGreat.Log

namespace Go.Proofs.YtelnoibfamcnmaaGreat.Log
set_option maxRecDepth 20000
open Go.RowKit
open Go.Proofs.YtelnoibfamcnmaaGreat.Mem Go.Proofs.YtelnoibfamcnmaaGreat.Crc Go.Proofs.YtelnoibfamcnmaaGreat.Disk
attribute [local go_sem ↓] Go.wp_at_zero Go.wp_at_succ

def logCells (p : Nat) (s r : Int) (seq pl used : Nat) (v : Value) : Array Value := #[.pointer (some ⟨p, 0, none⟩), .pointer (some ⟨p, 0, none⟩), .int .i64 s, .int .i64 r, .int .u64 (seq : Int), .int .i64 (pl : Int), v, .int .i64 (used : Int)]
/-- The log at l, on the disk at p: its next Seq and place, how many blocks its live records have, the slice of these. -/
def LogAt (w : World) (l p : Nat) (s r : Int) (seq pl used : Nat) (v : Value) : Prop := w.heap[l]? = some (.cells (logCells p s r seq pl used v) 103 (0, 0))

set_option maxHeartbeats 1000000 in
theorem open_d (s l : Nat) (S L : Int) (hS : S = (s : Int)) (hL : L = (l : Int)) (d : Dk.Dk) (p c : Nat) (F : Nat → Prop) (w : World) (h : DiskAt w p d c F) (hc : c ≤ 1048576) (h8 : 8 ≤ l) (hs : s + l ≤ d.stable.length) (hok : okH (d.read s) (l - 1) = true) :
    Calls Tryz.prog 19 #[ptr p, .int .i64 S, .int .i64 L] w fun e w' => ∃ lp, e = .returned (.tuple #[ptr lp, .int .i64 0]) ∧ LogAt w' lp p (s : Int) ((l : Int) - 1) (seqH (d.read s)) (plH (d.read s)) 0 (.slice none 0 0) ∧ w.heap.size ≤ lp ∧ Below w.heap.size w w' := by
  have hm := h.ok.2.2
  have hof := of_ok s l S L hS hL d p c F w h h8 hs
  have hhd : ∀ V, Below w.heap.size w V → Calls Tryz.prog 50 #[areaV p (s : Int) ((l : Int) - 1)] V fun e w' => e = .returned (.tuple #[.int .u64 (seqH (d.read s) : Int), .int .i64 (plH (d.read s) : Int), .bool true]) ∧ Below V.heap.size V w' := fun V hV => by
    have := head_d s (l - 1) ((l : Int) - 1) (by omega) d p c F V (h.turns (Turns.of_below (F := fun _ => False) hV) (fun _ _ e => e)) hc (by omega) (by omega)
    unfold headR at this
    rwa [if_pos hok] at this
  clear h hS hL hok
  unfold areaV ptr LogAt logCells at *
  generalize seqH (d.read s) = sq at *
  generalize plH (d.read s) = pl at *
  have HOF := Lib.hid hof; clear hof
  have HHD := Lib.hid hhd; clear hhd
  go_enter Tryz.func19, Tryz.ntmps19
  go_wp2_with fail
  with_reducible refine HOF.out.mono ?_
  rintro e w1 ⟨rfl, hb1⟩
  clear HOF
  have HB1 := Lib.hid hb1; clear hb1
  go_wp2_with fail
  have hx : (w1.alloc (.cells #[.pointer (some ⟨p, 0, none⟩), .int .i64 (s : Int), .int .i64 ((l : Int) - 1)] 66)).heap[w1.heap.size]? = some (.cells #[.pointer (some ⟨p, 0, none⟩), .int .i64 (s : Int), .int .i64 ((l : Int) - 1)] 66 (0, 0)) := heap_alloc_new w1 _
  have HX := Lib.hid hx; clear hx
  with_reducible refine (HHD.out _ (HB1.out.alloc HB1.out.size _)).mono ?_
  rintro e w2 ⟨rfl, hb2⟩
  clear HHD
  obtain ⟨q0, q1, q2⟩ := box_at ((hb2.block _ (by simp)).trans HX.out)
  have HB2 : Hid (Below w.heap.size w w2) := Lib.hid ((HB1.out.alloc HB1.out.size _).trans (hb2.mono (by have := HB1.out.size; simp; omega)))
  clear hb2 HX
  go_wp2
  go_ret2
  exact ⟨w2.heap.size, rfl, heap_alloc_new w2 _, HB2.out.size, HB2.out.alloc HB2.out.size _⟩

theorem format_not (S L : Int) (d : Dk.Dk) (p c : Nat) (F : Nat → Prop) (w : World) (h : DiskAt w p d c F) (hn : okArea d.stable.length S L = false) :
    Calls Tryz.prog 18 #[ptr p, .int .i64 S, .int .i64 L] w fun e w' => e = .returned (.int .i64 1) ∧ Below w.heap.size w w' := by
  have hof := of_not S L d p c F w h hn
  clear h hn
  unfold noArea ptr at *
  have HOF := Lib.hid hof; clear hof
  go_enter Tryz.func18, Tryz.ntmps18
  go_wp2_with fail
  with_reducible refine HOF.out.mono ?_
  rintro e w1 ⟨rfl, hb1⟩
  clear HOF
  have HB1 := Lib.hid hb1; clear hb1
  go_wp2
  go_ret
  exact ⟨rfl, HB1.out.alloc HB1.out.size _⟩

/-! Small calls of the log. -/
theorem room_any (l p seq pl used : Nat) (s r : Int) (v : Value) (w : World) (h : LogAt w l p s r seq pl used v) (hr : 0 ≤ r ∧ r ≤ 1024) (hu : used ≤ 1024) :
    Calls Tryz.prog 25 #[.pointer (some ⟨l, 0, none⟩)] w fun e w' => e = .returned (.int .i64 (r - (used : Int))) ∧ Below w.heap.size w w' := by
  obtain ⟨hr0, hr1⟩ := hr
  have hw : IntKind.i64.wrap (r - (used : Int)) = r - (used : Int) := by rw [IntKind.wrap_i64]; omega
  unfold LogAt logCells at h
  have q2 : w.cell? ⟨l, 1, none⟩ = some (.pointer (some ⟨p, 0, none⟩)) := cell_of_row w l 1 _ _ _ h
  have q3 : w.cell? ⟨l, 2, none⟩ = some (.int .i64 s) := cell_of_row w l 2 _ _ _ h
  have q4 : w.cell? ⟨l, 3, none⟩ = some (.int .i64 r) := cell_of_row w l 3 _ _ _ h
  have q7 : w.cell? ⟨l, 7, none⟩ = some (.int .i64 (used : Int)) := cell_of_row w l 7 _ _ _ h
  have HP := Lib.hid (places_any p s r)
  clear h
  unfold areaV ptr at HP
  go_enter Tryz.func25, Tryz.ntmps25
  go_wp2_with fail
  have hS : (w.drew.cell? ⟨l, 1, none⟩ = some (.pointer (some ⟨p, 0, none⟩)) ∧ w.drew.cell? ⟨l, 2, none⟩ = some (.int .i64 s) ∧ w.drew.cell? ⟨l, 3, none⟩ = some (.int .i64 r) ∧ w.drew.cell? ⟨l, 7, none⟩ = some (.int .i64 (used : Int))) := ⟨q2, q3, q4, q7⟩
  go_region_held (fun V => V.cell? ⟨l, 1, none⟩ = some (.pointer (some ⟨p, 0, none⟩)) ∧ V.cell? ⟨l, 2, none⟩ = some (.int .i64 s) ∧ V.cell? ⟨l, 3, none⟩ = some (.int .i64 r) ∧ V.cell? ⟨l, 7, none⟩ = some (.int .i64 (used : Int))) (assumption)
    (first
      | (go_at_call 58
         with_reducible refine (HP.out _).mono ?_
         rintro e V ⟨rfl, hb⟩
         have hl : l < w.drew.heap.size := block_lt_of_cell q7
         have hS1 : (V.cell? ⟨l, 1, none⟩ = some (.pointer (some ⟨p, 0, none⟩)) ∧ V.cell? ⟨l, 2, none⟩ = some (.int .i64 s) ∧ V.cell? ⟨l, 3, none⟩ = some (.int .i64 r) ∧ V.cell? ⟨l, 7, none⟩ = some (.int .i64 (used : Int))) := ⟨(hb.cell (p := ⟨l, 1, none⟩) hl).trans q2, (hb.cell (p := ⟨l, 2, none⟩) hl).trans q3, (hb.cell (p := ⟨l, 3, none⟩) hl).trans q4, (hb.cell (p := ⟨l, 7, none⟩) hl).trans q7⟩
         clear hS))
  all_goals
    go_wp2
    go_ret
    exact ⟨(by first | rfl | (simp only [hw]; rfl)), (Below.refl _ w).drew.trans hb⟩
theorem next_any (l p seq pl used : Nat) (s r : Int) (v : Value) (w : World) (h : LogAt w l p s r seq pl used v) :
    Calls Tryz.prog 59 #[.pointer (some ⟨l, 0, none⟩)] w fun e w' => e = .returned (.tuple #[.int .u64 (seq : Int), .int .i64 (pl : Int)]) ∧ Below w.heap.size w w' := by
  unfold LogAt logCells at h
  have q4 : w.cell? ⟨l, 4, none⟩ = some (.int .u64 (seq : Int)) := cell_of_row w l 4 _ _ _ h
  have q5 : w.cell? ⟨l, 5, none⟩ = some (.int .i64 (pl : Int)) := cell_of_row w l 5 _ _ _ h
  clear h
  go_enter Tryz.func59, Tryz.ntmps59
  go_wp2_with fail
  have hS : (w.drew.cell? ⟨l, 4, none⟩ = some (.int .u64 (seq : Int)) ∧ w.drew.cell? ⟨l, 5, none⟩ = some (.int .i64 (pl : Int))) := ⟨q4, q5⟩
  go_region_held (fun V => V.cell? ⟨l, 4, none⟩ = some (.int .u64 (seq : Int)) ∧ V.cell? ⟨l, 5, none⟩ = some (.int .i64 (pl : Int))) (assumption) (fail)
  all_goals
    go_wp2
    go_ret2
    exact ⟨rfl, (Below.refl _ w).drew⟩
end Go.Proofs.YtelnoibfamcnmaaGreat.Log

namespace Go.Proofs.YtelnoibfamcnmaaGreat.Log
set_option maxRecDepth 20000
open Go.RowKit
open Go.Proofs.YtelnoibfamcnmaaGreat.Mem Go.Proofs.YtelnoibfamcnmaaGreat.Crc Go.Proofs.YtelnoibfamcnmaaGreat.Disk
open Go.Proofs.YtelnoibfamcnmaaGreat.Rec (Tx Wt TxAt HoldsW HoldsI IsInt)
attribute [local go_sem ↓] Go.wp_at_zero Go.wp_at_succ

def outB (n s r : Nat) (x : Int) : Bool := decide (0 ≤ x) && decide (x < (n : Int)) && !(decide ((s : Int) ≤ x) && decide (x ≤ (s : Int) + (r : Int)))

set_option maxHeartbeats 1000000 in
theorem outside_d (x : Int) (s r : Nat) (d : Dk.Dk) (p c : Nat) (F : Nat → Prop) (w : World) (h : DiskAt w p d c F) (hs : s + r < d.stable.length) :
    Calls Tryz.prog 83 #[areaV p (s : Int) (r : Int), .int .i64 x] w fun e w' => e = .returned (.bool (outB d.stable.length s r x)) ∧ Below w.heap.size w w' := by
  have hm := h.ok.2.2
  have hsz := size_later d p c F w h
  have HSZ := Lib.hid hsz; clear hsz h
  unfold areaV ptr
  generalize d.stable.length = n at *
  rcases (show x < 0 ∨ ((n : Int) ≤ x ∧ 0 ≤ x) ∨ (0 ≤ x ∧ x < (s : Int)) ∨ ((s : Int) ≤ x ∧ x ≤ (s : Int) + (r : Int)) ∨ ((s : Int) + (r : Int) < x ∧ x < (n : Int)) by omega) with h1 | ⟨h1, h2⟩ | ⟨h1, h2⟩ | ⟨h1, h2⟩ | ⟨h1, h2⟩
  · have g1 : ¬ (s : Int) ≤ x := by omega
    have g3 : ¬ (0 : Int) ≤ x := by omega
    have hres : outB n s r x = false := by simp [outB, g3]
    rw [hres]
    go_enter Tryz.func83, Tryz.ntmps83
    go_wp2
    go_ret
    exact ⟨by simp [*], (Below.refl _ w).alloc (Nat.le_refl _) _⟩
  · have g1 : (s : Int) ≤ x := by omega
    have g2 : ¬ x ≤ (s : Int) + (r : Int) := by omega
    have g4 : ¬ x < (n : Int) := by omega
    have hres : outB n s r x = false := by simp [outB, g4]
    rw [hres]
    go_enter Tryz.func83, Tryz.ntmps83
    go_wp2_with fail
    refine (HSZ.out _ ((Below.refl _ w).alloc (Nat.le_refl _) _)).mono ?_
    rintro e w' ⟨rfl, rfl⟩
    go_wp2
    go_ret
    exact ⟨by simp [*], (Below.refl _ w).alloc (Nat.le_refl _) _⟩
  · have g1 : ¬ (s : Int) ≤ x := by omega
    have g4 : x < (n : Int) := by omega
    have hres : outB n s r x = true := by simp [outB, g1, g4, h1]
    rw [hres]
    go_enter Tryz.func83, Tryz.ntmps83
    go_wp2_with fail
    refine (HSZ.out _ ((Below.refl _ w).alloc (Nat.le_refl _) _)).mono ?_
    rintro e w' ⟨rfl, rfl⟩
    go_wp2
    go_ret
    exact ⟨by simp [*], (Below.refl _ w).alloc (Nat.le_refl _) _⟩
  · have g3 : (0 : Int) ≤ x := by omega
    have g4 : x < (n : Int) := by omega
    have hres : outB n s r x = false := by simp [outB, h1, h2]
    rw [hres]
    go_enter Tryz.func83, Tryz.ntmps83
    go_wp2_with fail
    refine (HSZ.out _ ((Below.refl _ w).alloc (Nat.le_refl _) _)).mono ?_
    rintro e w' ⟨rfl, rfl⟩
    go_wp2
    go_ret
    exact ⟨by simp [*], (Below.refl _ w).alloc (Nat.le_refl _) _⟩
  · have g1 : (s : Int) ≤ x := by omega
    have g2 : ¬ x ≤ (s : Int) + (r : Int) := by omega
    have g3 : (0 : Int) ≤ x := by omega
    have hres : outB n s r x = true := by simp [outB, g2, g3, h2]
    rw [hres]
    go_enter Tryz.func83, Tryz.ntmps83
    go_wp2_with fail
    refine (HSZ.out _ ((Below.refl _ w).alloc (Nat.le_refl _) _)).mono ?_
    rintro e w' ⟨rfl, rfl⟩
    go_wp2
    go_ret
    exact ⟨by simp [*], (Below.refl _ w).alloc (Nat.le_refl _) _⟩

def takesB (n s r : Nat) (t : Tx) : Bool := t.ws.all (fun x => outB n s r x.1) && t.rs.all (outB n s r)
theorem all_take {α : Type} (f : α → Bool) (l : List α) (k : Nat) (x : α) (hx : l[k]? = some x) (h : (l.take k).all f = true) : (l.take (k + 1)).all f = f x := by
  obtain ⟨hk, rfl⟩ := List.getElem?_eq_some_iff.1 hx
  rw [List.take_succ_eq_append_getElem hk, List.all_append, h]
  simp
theorem all_not {α : Type} (f : α → Bool) (l : List α) (k : Nat) (x : α) (hx : l[k]? = some x) (h : f x = false) : l.all f = false := by
  rw [List.all_eq_false]
  exact ⟨x, List.mem_of_getElem? hx, by simp [h]⟩

set_option maxRecDepth 100000 in
set_option maxHeartbeats 1000000 in
theorem takes_d (s r : Nat) (d : Dk.Dk) (p c : Nat) (F : Nat → Prop) (w : World) (h : DiskAt w p d c F) (hs : s + r < d.stable.length) (t : Tx) (Aw Ar : Option Addr) (nw cw nr cr B : Nat) (ht : TxAt w B t Aw nw cw Ar nr cr) (hB : B ≤ w.heap.size) :
    Calls Tryz.prog 52 #[areaV p (s : Int) (r : Int), .agg #[.int .u64 (t.seq : Int), .slice Aw nw cw, .slice Ar nr cr]] w fun e w' => e = .returned (.bool (takesB d.stable.length s r t)) ∧ Below w.heap.size w w' := by
  have hout : ∀ V, Below w.heap.size w V → ∀ x : Int, Calls Tryz.prog 83 #[.agg #[.pointer (some ⟨p, 0, none⟩), .int .i64 (s : Int), .int .i64 (r : Int)], .int .i64 x] V fun e w' => e = .returned (.bool (outB d.stable.length s r x)) ∧ Below V.heap.size V w' := fun V hV x =>
    outside_d x s r d p c F V (h.turns (Turns.of_below (F := fun _ => False) hV) (fun _ _ e => e)) hs
  have hf := ht.fits
  obtain ⟨hf1, hf2, hf3, hf4⟩ := hf
  have HOUT := Lib.hid hout; clear hout h
  have HT := Lib.hid ht; clear ht
  unfold areaV ptr takesB
  generalize d.stable.length = n at *
  have hw0 : Below w.heap.size w ((w.alloc (.cells #[.pointer (some ⟨p, 0, none⟩), .int .i64 (s : Int), .int .i64 (r : Int)] 66)).alloc (.cells #[.int .u64 (t.seq : Int), .slice Aw nw cw, .slice Ar nr cr] 63)) := ((Below.refl _ w).alloc (Nat.le_refl _) _).alloc (by simp) _
  have hx0 : ((w.alloc (.cells #[.pointer (some ⟨p, 0, none⟩), .int .i64 (s : Int), .int .i64 (r : Int)] 66)).alloc (.cells #[.int .u64 (t.seq : Int), .slice Aw nw cw, .slice Ar nr cr] 63)).heap[w.heap.size]? = some (.cells #[.pointer (some ⟨p, 0, none⟩), .int .i64 (s : Int), .int .i64 (r : Int)] 66 (0, 0)) := (Below.heap_alloc _ _ _ (by simp)).trans (heap_alloc_new w _)
  have hx1 : ((w.alloc (.cells #[.pointer (some ⟨p, 0, none⟩), .int .i64 (s : Int), .int .i64 (r : Int)] 66)).alloc (.cells #[.int .u64 (t.seq : Int), .slice Aw nw cw, .slice Ar nr cr] 63)).heap[w.heap.size + 1]? = some (.cells #[.int .u64 (t.seq : Int), .slice Aw nw cw, .slice Ar nr cr] 63 (0, 0)) := by
    have := heap_alloc_new (w.alloc (.cells #[.pointer (some ⟨p, 0, none⟩), .int .i64 (s : Int), .int .i64 (r : Int)] 66)) (.cells #[.int .u64 (t.seq : Int), .slice Aw nw cw, .slice Ar nr cr] 63)
    simpa using this
  have HW0 := Lib.hid hw0; clear hw0
  have HX0 := Lib.hid hx0; clear hx0
  have HX1 := Lib.hid hx1; clear hx1
  go_enter Tryz.func52, Tryz.ntmps52
  go_wp2
  generalize (w.alloc (.cells #[.pointer (some ⟨p, 0, none⟩), .int .i64 (s : Int), .int .i64 (r : Int)] 66)).alloc (.cells #[.int .u64 (t.seq : Int), .slice Aw nw cw, .slice Ar nr cr] 63) = W0 at HW0 HX0 HX1 ⊢
  have hz1 : w.heap.size + 1 < W0.heap.size := (Array.getElem?_eq_some_iff.1 HX1.out).1
  go_loopw [12] (fun i wr => ∃ k : Nat, k ≤ nw ∧ i = .int .i64 (k : Int) ∧ Below W0.heap.size W0 wr ∧ (t.ws.take k).all (fun x => outB n s r x.1) = true) (fun i _ => nw - (intOf i).toNat)
  case atStart => exact ⟨0, by omega, rfl, Below.refl _ _, by simp⟩
  case round =>
    obtain ⟨k, hk, rfl, hb, hall⟩ := hrel
    obtain ⟨wk, hwk⟩ : ∃ wk, wk = wr := ⟨_, rfl⟩
    subst hwk
    have HB := Lib.hid hb; clear hb
    have HALL := Lib.hid hall; clear hall
    by_cases hlt : k < nw
    · obtain ⟨b, off, rfl, hbB, hcell⟩ := HT.out.ws.2 (by omega)
      have hkl : k < t.ws.length := by rw [HT.out.ws.1]; exact hlt
      have hget : t.ws[k]? = some t.ws[k] := List.getElem?_eq_getElem hkl
      have HGET := Lib.hid hget
      obtain ⟨c0, A', c', c1, -⟩ := hcell k t.ws[k] hget
      generalize t.ws[k]'hkl = x at c0 c1 HGET
      have hwb : Below w.heap.size w wk := HW0.out.trans (HB.out.mono (by omega))
      have e0 : wk.cell? ⟨b, off + k * 2, none⟩ = some (.int .i64 x.1) := (hwb.cell (p := ⟨b, off + k * 2, none⟩) (by show b < _; omega)).trans c0
      have e1 : wk.cell? ⟨b, off + k * 2 + 1, none⟩ = some (.slice A' x.2.length c') := (hwb.cell (p := ⟨b, off + k * 2 + 1, none⟩) (by show b < _; omega)).trans c1
      have hbx := box_at ((HB.out.block _ (by omega)).trans HX0.out)
      obtain ⟨q0, q1, q2⟩ := hbx
      have hi1 : (0 : Int) ≤ (k : Int) := by omega
      have hi2 : (k : Int) < (nw : Int) := by omega
      have HWB := Lib.hid hwb
      have hz2 := HB.out.size
      obtain ⟨x1, x2⟩ := x
      dsimp only at e0 e1
      have hkn : b < wk.heap.size := block_lt_of_cell e0
      have hz3 : w.heap.size < wk.heap.size := by omega
      clear hcell c0 c1 hget
      go_wp2_with fail
      refine (HOUT.out _ (HWB.out.alloc HWB.out.size _) x1).mono ?_
      rintro e U ⟨rfl, hbU⟩
      have hWU : Hid (Below W0.heap.size W0 U) := Lib.hid ((HB.out.alloc HB.out.size _).trans (hbU.mono (by simp; omega)))
      clear hbU e0 e1 q0 q1 q2
      cases hv : outB n s r x1
      · have HV := Lib.hid hv; clear hv
        go_wp2
        go_ret
        exact ⟨by rw [all_not _ t.ws k _ HGET.out HV.out]; simp, HW0.out.trans (hWU.out.mono (by omega))⟩
      · have HV := Lib.hid hv; clear hv
        go_wp2
        go_roundw
        case rel => exact ⟨k + 1, by omega, by go_num, hWU.out, (all_take _ t.ws k _ HGET.out HALL.out).trans HV.out⟩
        case measure => simp [intOf]; omega
    · obtain rfl : k = nw := by omega
      have hfull : t.ws.take k = t.ws := List.take_of_length_le (by rw [HT.out.ws.1]; exact Nat.le_refl _)
      have hall := HALL.out
      rw [hfull] at hall
      have HALLW := Lib.hid hall; clear hall hfull HALL
      have hx1' := (HB.out.block _ hz1).trans HX1.out
      have q2 : wk.cell? ⟨w.heap.size + 1, 2, none⟩ = some (.slice Ar nr cr) := cell_of_row wk (w.heap.size + 1) 2 _ _ _ hx1'
      clear hx1'
      have hmm : (k : Int) ≤ (k : Int) := by omega
      go_wp2
      clear q2
      go_loopw [25] (fun i wr => ∃ j : Nat, j ≤ nr ∧ i = .int .i64 (j : Int) ∧ Below W0.heap.size W0 wr ∧ (t.rs.take j).all (outB n s r) = true) (fun i _ => nr - (intOf i).toNat)
      case atStart => exact ⟨0, by omega, rfl, HB.out, by simp⟩
      case round =>
        clear HB
        obtain ⟨j, hj, rfl, hb, hall⟩ := hrel
        obtain ⟨wk, hwk⟩ : ∃ wk, wk = wr := ⟨_, rfl⟩
        subst hwk
        have HB := Lib.hid hb; clear hb
        have HALL := Lib.hid hall; clear hall
        by_cases hlt : j < nr
        · obtain ⟨b, off, rfl, hbB, hcell⟩ := HT.out.rs.2 (by omega)
          have hkl : j < t.rs.length := by rw [HT.out.rs.1]; exact hlt
          have hget : t.rs[j]? = some t.rs[j] := List.getElem?_eq_getElem hkl
          have HGET := Lib.hid hget
          have c0 := hcell j t.rs[j] hget
          generalize t.rs[j]'hkl = x at c0 HGET
          have hwb : Below w.heap.size w wk := HW0.out.trans (HB.out.mono (by omega))
          have e0 : wk.cell? ⟨b, off + j, none⟩ = some (.int .i64 x) := (hwb.cell (p := ⟨b, off + j, none⟩) (by show b < _; omega)).trans c0
          obtain ⟨q0, q1, q2⟩ := box_at ((HB.out.block _ (by omega)).trans HX0.out)
          have hi1 : (0 : Int) ≤ (j : Int) := by omega
          have hi2 : (j : Int) < (nr : Int) := by omega
          have HWB := Lib.hid hwb
          have hz2 := HB.out.size
          clear hcell c0 hget
          go_wp2_with fail
          refine (HOUT.out _ HWB.out x).mono ?_
          rintro e U ⟨rfl, hbU⟩
          have hWU : Hid (Below W0.heap.size W0 U) := Lib.hid (HB.out.trans (hbU.mono (by omega)))
          clear hbU e0 q0 q1 q2
          cases hv : outB n s r x
          · have HV := Lib.hid hv; clear hv
            go_wp2
            go_ret
            exact ⟨by rw [all_not _ t.rs j _ HGET.out HV.out]; simp, HW0.out.trans (hWU.out.mono (by omega))⟩
          · have HV := Lib.hid hv; clear hv
            go_wp2
            go_roundw
            case rel => exact ⟨j + 1, by omega, by go_num, hWU.out, (all_take _ t.rs j _ HGET.out HALL.out).trans HV.out⟩
            case measure => simp [intOf]; omega
        · obtain rfl : j = nr := by omega
          have hfull : t.rs.take j = t.rs := List.take_of_length_le (by rw [HT.out.rs.1]; exact Nat.le_refl _)
          have hall := HALL.out
          rw [hfull] at hall
          have hmm2 : (j : Int) ≤ (j : Int) := by omega
          have HAR := Lib.hid hall; clear hall hfull
          go_wp2
          go_ret
          exact ⟨by rw [HALLW.out, HAR.out]; rfl, HW0.out.trans (HB.out.mono (by omega))⟩
end Go.Proofs.YtelnoibfamcnmaaGreat.Log

