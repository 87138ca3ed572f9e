/- What a head tells, and the making and opening of a log by the program. -/
import Derived.Test.YtkicobmdogeigaaLgArea
namespace Go.Proofs.Ytkicobmdogeigaa.Log
set_option maxRecDepth 20000
open Go.RowKit
open Go.Proofs.Ytkicobmdogeigaa.Mem Go.Proofs.Ytkicobmdogeigaa.Crc Go.Proofs.Ytkicobmdogeigaa.Disk
open Go.Proofs.Ytkicobmdogeigaa.Rec (numFrom numFrom_lt eqB equal_any)
attribute [local go_sem ↓] Go.wp_at_zero Go.wp_at_succ

def seqH (bs : List UInt8) : Nat := numFrom bs 8 8
def plH (bs : List UInt8) : Nat := numFrom bs 16 4
def okH (bs : List UInt8) (ring : Nat) : Bool := decide (plH bs < ring) && eqB bs (headH (seqH bs) (plH bs))
def headR (bs : List UInt8) (ring : Nat) : Value := if okH bs ring then .tuple #[.int .u64 (seqH bs : Int), .int .i64 (plH bs : Int), .bool true] else .tuple #[.int .u64 0, .int .i64 0, .bool false]

/-- A block is read into a block of the call's own. -/
def ReadAt (w : World) (bs : List UInt8) (e : Ending) (V : World) : Prop := ∃ b, e = .returned (.tuple #[.slice (some ⟨b, 0, none⟩) 256 256, .int .i64 0]) ∧ Holds V V.heap.size (some ⟨b, 0, none⟩) 256 bs ∧ Below w.heap.size w V
theorem readB_d (s : Nat) (d : Dk.Dk) (p c : Nat) (F : Nat → Prop) (w : World) (h : DiskAt w p d c F) (hc : c ≤ 1048576) (hs : s < d.stable.length) :
    Calls Try.prog 18 #[.pointer (some ⟨p, 0, none⟩), .int .i64 (s : Int)] w (ReadAt w (d.read s)) := by
  refine (read_d (s : Int) s rfl d p c F w h hs hc).mono ?_
  rintro e w' ⟨rfl, hl, rfl⟩
  refine ⟨w.heap.size, rfl, ?_, (Below.refl _ w).alloc (Nat.le_refl _) _⟩
  have := holds_lit w (d.read s) _ rfl
  rw [hl] at this
  exact this.more (by simp)

/-! The Seq and the place of the head. -/
set_option maxHeartbeats 1000000 in
theorem head_d_far (s ring : Nat) (d : Dk.Dk) (p c : Nat) (F : Nat → Prop) (w : World) (h : DiskAt w p d c F) (hc : c ≤ 1048576) (hs : s < d.stable.length) (hr : ring ≤ 1024) (hf : ring ≤ plH (d.read s)) :
    Calls Try.prog 66 #[areaV p (s : Int) (ring : Int)] w fun e w' => e = .returned (.tuple #[.int .u64 0, .int .i64 0, .bool false]) ∧ Below w.heap.size w w' := by
  have ht1 : Turns (fun _ => False) w (w.alloc (.cells #[.pointer (some ⟨p, 0, none⟩), .int .i64 (s : Int), .int .i64 (ring : Int)] 104)) := (Turns.refl _ w).alloc _
  have hx1 : (w.alloc (.cells #[.pointer (some ⟨p, 0, none⟩), .int .i64 (s : Int), .int .i64 (ring : Int)] 104)).heap[w.heap.size]? = some (.cells #[.pointer (some ⟨p, 0, none⟩), .int .i64 (s : Int), .int .i64 (ring : Int)] 104 (0, 0)) := heap_alloc_new w _
  have hrd := readB_d s d p c F _ (h.turns ht1 (fun _ _ e => e)) hc hs
  have hb1 : Below w.heap.size w (w.alloc (.cells #[.pointer (some ⟨p, 0, none⟩), .int .i64 (s : Int), .int .i64 (ring : Int)] 104)) := (Below.refl _ w).alloc (Nat.le_refl _) _
  generalize d.read s = bs at *
  have HRD := Lib.hid hrd; clear hrd
  have HX1 := Lib.hid hx1; clear hx1
  have HB1 := Lib.hid hb1; clear hb1
  clear h ht1
  obtain ⟨sq, hsq⟩ : ∃ x, x = seqH bs := ⟨_, rfl⟩
  obtain ⟨pl, hpl⟩ : ∃ x, x = plH bs := ⟨_, rfl⟩
  have hlt : pl < 4294967296 := by rw [hpl]; exact numFrom_lt bs 16 4
  rw [← hpl] at hf
  try rw [← hpl]
  have HSQ := Lib.hid hsq; clear hsq
  have HPL := Lib.hid hpl; clear hpl
  unfold areaV ptr
  go_enter Try.func66, Try.ntmps66
  go_wp2_with fail
  generalize w.alloc (.cells #[.pointer (some ⟨p, 0, none⟩), .int .i64 (s : Int), .int .i64 (ring : Int)] 104) = W at HRD HX1 HB1 ⊢
  with_reducible refine HRD.out.mono ?_
  rintro e V ⟨b, rfl, hh, hb⟩
  have hxV := (hb.block _ (Array.getElem?_eq_some_iff.1 HX1.out).1).trans HX1.out
  have q2 : V.cell? ⟨w.heap.size, 2, none⟩ = some (.int .i64 (ring : Int)) := cell_of_row V w.heap.size 2 _ _ _ hxV
  have HV : Hid (Below w.heap.size w V) := Lib.hid (HB1.out.trans (hb.mono HB1.out.size))
  have HXV := Lib.hid hxV
  have n1 := number_any _ 8 (256 - 8) V.heap.size _ V (Go.Proofs.Ytkicobmdogeigaa.Rec.Holds.drop hh (show 8 + 8 ≤ 256 by omega)) (by omega)
  have n2 := number_any _ 4 (256 - 16) V.heap.size _ V (Go.Proofs.Ytkicobmdogeigaa.Rec.Holds.drop hh (show 16 + 4 ≤ 256 by omega)) (by omega)
  have e1 : numAt ((bs.drop 8).take 8) 8 = seqH bs := rfl
  have e2 : numAt ((bs.drop 16).take 4) 4 = plH bs := rfl
  rw [e1, ← HSQ.out] at n1
  rw [e2, ← HPL.out] at n2
  have HN1 := Lib.hid n1; clear n1
  have HN2 := Lib.hid n2; clear n2
  have HH := Lib.hid hh; clear hh
  clear hb hxV HRD HX1 HB1 e1 e2
  go_wp2_with fail
  with_reducible refine HN1.out.mono ?_
  rintro e V1 ⟨rfl, rfl⟩
  go_wp2_with fail
  with_reducible refine HN2.out.mono ?_
  rintro e V1 ⟨rfl, rfl⟩
  clear HN1 HN2
  go_wp2_with fail
  refine bodyPost_ret (results_tmp3 rfl _ _ _) rfl ?_
  exact ⟨rfl, HV.out⟩

set_option maxHeartbeats 1000000 in
theorem head_d_not (s ring : Nat) (d : Dk.Dk) (p c : Nat) (F : Nat → Prop) (w : World) (h : DiskAt w p d c F) (hc : c ≤ 1048576) (hs : s < d.stable.length) (hr : ring ≤ 1024) (hf : plH (d.read s) < ring) (he : eqB (d.read s) (headH (seqH (d.read s)) (plH (d.read s))) = false) :
    Calls Try.prog 66 #[areaV p (s : Int) (ring : Int)] w fun e w' => e = .returned (.tuple #[.int .u64 0, .int .i64 0, .bool false]) ∧ Below w.heap.size w w' := by
  have ht1 : Turns (fun _ => False) w (w.alloc (.cells #[.pointer (some ⟨p, 0, none⟩), .int .i64 (s : Int), .int .i64 (ring : Int)] 104)) := (Turns.refl _ w).alloc _
  have hx1 : (w.alloc (.cells #[.pointer (some ⟨p, 0, none⟩), .int .i64 (s : Int), .int .i64 (ring : Int)] 104)).heap[w.heap.size]? = some (.cells #[.pointer (some ⟨p, 0, none⟩), .int .i64 (s : Int), .int .i64 (ring : Int)] 104 (0, 0)) := heap_alloc_new w _
  have hrd := readB_d s d p c F _ (h.turns ht1 (fun _ _ e => e)) hc hs
  have hb1 : Below w.heap.size w (w.alloc (.cells #[.pointer (some ⟨p, 0, none⟩), .int .i64 (s : Int), .int .i64 (ring : Int)] 104)) := (Below.refl _ w).alloc (Nat.le_refl _) _
  generalize d.read s = bs at *
  have HRD := Lib.hid hrd; clear hrd
  have HX1 := Lib.hid hx1; clear hx1
  have HB1 := Lib.hid hb1; clear hb1
  clear h ht1
  obtain ⟨sq, hsq⟩ : ∃ x, x = seqH bs := ⟨_, rfl⟩
  obtain ⟨pl, hpl⟩ : ∃ x, x = plH bs := ⟨_, rfl⟩
  have hlt : pl < 4294967296 := by rw [hpl]; exact numFrom_lt bs 16 4
  rw [← hpl] at hf
  try rw [← hpl] at he
  try rw [← hpl]
  rw [← hsq] at he
  try rw [← hsq]
  have HEQ := Lib.hid he; clear he
  have HSQ := Lib.hid hsq; clear hsq
  have HPL := Lib.hid hpl; clear hpl
  unfold areaV ptr
  go_enter Try.func66, Try.ntmps66
  go_wp2_with fail
  generalize w.alloc (.cells #[.pointer (some ⟨p, 0, none⟩), .int .i64 (s : Int), .int .i64 (ring : Int)] 104) = W at HRD HX1 HB1 ⊢
  with_reducible refine HRD.out.mono ?_
  rintro e V ⟨b, rfl, hh, hb⟩
  have hxV := (hb.block _ (Array.getElem?_eq_some_iff.1 HX1.out).1).trans HX1.out
  have q2 : V.cell? ⟨w.heap.size, 2, none⟩ = some (.int .i64 (ring : Int)) := cell_of_row V w.heap.size 2 _ _ _ hxV
  have HV : Hid (Below w.heap.size w V) := Lib.hid (HB1.out.trans (hb.mono HB1.out.size))
  have HXV := Lib.hid hxV
  have n1 := number_any _ 8 (256 - 8) V.heap.size _ V (Go.Proofs.Ytkicobmdogeigaa.Rec.Holds.drop hh (show 8 + 8 ≤ 256 by omega)) (by omega)
  have n2 := number_any _ 4 (256 - 16) V.heap.size _ V (Go.Proofs.Ytkicobmdogeigaa.Rec.Holds.drop hh (show 16 + 4 ≤ 256 by omega)) (by omega)
  have e1 : numAt ((bs.drop 8).take 8) 8 = seqH bs := rfl
  have e2 : numAt ((bs.drop 16).take 4) 4 = plH bs := rfl
  rw [e1, ← HSQ.out] at n1
  rw [e2, ← HPL.out] at n2
  have HN1 := Lib.hid n1; clear n1
  have HN2 := Lib.hid n2; clear n2
  have HH := Lib.hid hh; clear hh
  clear hb hxV HRD HX1 HB1 e1 e2
  go_wp2_with fail
  with_reducible refine HN1.out.mono ?_
  rintro e V1 ⟨rfl, rfl⟩
  go_wp2_with fail
  with_reducible refine HN2.out.mono ?_
  rintro e V1 ⟨rfl, rfl⟩
  clear HN1 HN2
  go_wp2_with fail
  refine (head_any sq pl V (by omega)).mono ?_
  rintro e V2 ⟨A2, c2, rfl, ho2, hb2⟩
  have hq := equal_any (some ⟨b, 0, none⟩) A2 256 (headH sq pl).length 256 c2 V.heap.size V2.heap.size bs (headH sq pl) V2 (HH.out.below hb2) (Go.Proofs.Ytkicobmdogeigaa.Rec.Owned.reads ho2)
  rw [HEQ.out] at hq
  have HQ := Lib.hid hq; clear hq
  have HV2 : Hid (Below w.heap.size w V2) := Lib.hid (HV.out.trans (hb2.mono HV.out.size))
  clear ho2 hb2 HH HXV q2
  go_wp2_with fail
  with_reducible refine HQ.out.mono ?_
  rintro e V3 ⟨rfl, rfl⟩
  clear HQ
  go_wp2
  refine bodyPost_ret (results_tmp3 rfl _ _ _) rfl ?_
  exact ⟨rfl, HV2.out⟩

set_option maxHeartbeats 1000000 in
theorem head_d_is (s ring : Nat) (d : Dk.Dk) (p c : Nat) (F : Nat → Prop) (w : World) (h : DiskAt w p d c F) (hc : c ≤ 1048576) (hs : s < d.stable.length) (hr : ring ≤ 1024) (hf : plH (d.read s) < ring) (he : eqB (d.read s) (headH (seqH (d.read s)) (plH (d.read s))) = true) :
    Calls Try.prog 66 #[areaV p (s : Int) (ring : Int)] w fun e w' => e = .returned (.tuple #[.int .u64 (seqH (d.read s) : Int), .int .i64 (plH (d.read s) : Int), .bool true]) ∧ Below w.heap.size w w' := by
  have ht1 : Turns (fun _ => False) w (w.alloc (.cells #[.pointer (some ⟨p, 0, none⟩), .int .i64 (s : Int), .int .i64 (ring : Int)] 104)) := (Turns.refl _ w).alloc _
  have hx1 : (w.alloc (.cells #[.pointer (some ⟨p, 0, none⟩), .int .i64 (s : Int), .int .i64 (ring : Int)] 104)).heap[w.heap.size]? = some (.cells #[.pointer (some ⟨p, 0, none⟩), .int .i64 (s : Int), .int .i64 (ring : Int)] 104 (0, 0)) := heap_alloc_new w _
  have hrd := readB_d s d p c F _ (h.turns ht1 (fun _ _ e => e)) hc hs
  have hb1 : Below w.heap.size w (w.alloc (.cells #[.pointer (some ⟨p, 0, none⟩), .int .i64 (s : Int), .int .i64 (ring : Int)] 104)) := (Below.refl _ w).alloc (Nat.le_refl _) _
  generalize d.read s = bs at *
  have HRD := Lib.hid hrd; clear hrd
  have HX1 := Lib.hid hx1; clear hx1
  have HB1 := Lib.hid hb1; clear hb1
  clear h ht1
  obtain ⟨sq, hsq⟩ : ∃ x, x = seqH bs := ⟨_, rfl⟩
  obtain ⟨pl, hpl⟩ : ∃ x, x = plH bs := ⟨_, rfl⟩
  have hlt : pl < 4294967296 := by rw [hpl]; exact numFrom_lt bs 16 4
  rw [← hpl] at hf
  try rw [← hpl] at he
  try rw [← hpl]
  rw [← hsq] at he
  try rw [← hsq]
  have HEQ := Lib.hid he; clear he
  have HSQ := Lib.hid hsq; clear hsq
  have HPL := Lib.hid hpl; clear hpl
  unfold areaV ptr
  go_enter Try.func66, Try.ntmps66
  go_wp2_with fail
  generalize w.alloc (.cells #[.pointer (some ⟨p, 0, none⟩), .int .i64 (s : Int), .int .i64 (ring : Int)] 104) = W at HRD HX1 HB1 ⊢
  with_reducible refine HRD.out.mono ?_
  rintro e V ⟨b, rfl, hh, hb⟩
  have hxV := (hb.block _ (Array.getElem?_eq_some_iff.1 HX1.out).1).trans HX1.out
  have q2 : V.cell? ⟨w.heap.size, 2, none⟩ = some (.int .i64 (ring : Int)) := cell_of_row V w.heap.size 2 _ _ _ hxV
  have HV : Hid (Below w.heap.size w V) := Lib.hid (HB1.out.trans (hb.mono HB1.out.size))
  have HXV := Lib.hid hxV
  have n1 := number_any _ 8 (256 - 8) V.heap.size _ V (Go.Proofs.Ytkicobmdogeigaa.Rec.Holds.drop hh (show 8 + 8 ≤ 256 by omega)) (by omega)
  have n2 := number_any _ 4 (256 - 16) V.heap.size _ V (Go.Proofs.Ytkicobmdogeigaa.Rec.Holds.drop hh (show 16 + 4 ≤ 256 by omega)) (by omega)
  have e1 : numAt ((bs.drop 8).take 8) 8 = seqH bs := rfl
  have e2 : numAt ((bs.drop 16).take 4) 4 = plH bs := rfl
  rw [e1, ← HSQ.out] at n1
  rw [e2, ← HPL.out] at n2
  have HN1 := Lib.hid n1; clear n1
  have HN2 := Lib.hid n2; clear n2
  have HH := Lib.hid hh; clear hh
  clear hb hxV HRD HX1 HB1 e1 e2
  go_wp2_with fail
  with_reducible refine HN1.out.mono ?_
  rintro e V1 ⟨rfl, rfl⟩
  go_wp2_with fail
  with_reducible refine HN2.out.mono ?_
  rintro e V1 ⟨rfl, rfl⟩
  clear HN1 HN2
  go_wp2_with fail
  refine (head_any sq pl V (by omega)).mono ?_
  rintro e V2 ⟨A2, c2, rfl, ho2, hb2⟩
  have hq := equal_any (some ⟨b, 0, none⟩) A2 256 (headH sq pl).length 256 c2 V.heap.size V2.heap.size bs (headH sq pl) V2 (HH.out.below hb2) (Go.Proofs.Ytkicobmdogeigaa.Rec.Owned.reads ho2)
  rw [HEQ.out] at hq
  have HQ := Lib.hid hq; clear hq
  have HV2 : Hid (Below w.heap.size w V2) := Lib.hid (HV.out.trans (hb2.mono HV.out.size))
  clear ho2 hb2 HH HXV q2
  go_wp2_with fail
  with_reducible refine HQ.out.mono ?_
  rintro e V3 ⟨rfl, rfl⟩
  clear HQ
  go_wp2
  refine bodyPost_ret (results_tmp3 rfl _ _ _) rfl ?_
  exact ⟨rfl, HV2.out⟩

theorem head_d (s ring : Nat) (R : Int) (hR : R = (ring : Int)) (d : Dk.Dk) (p c : Nat) (F : Nat → Prop) (w : World) (h : DiskAt w p d c F) (hc : c ≤ 1048576) (hs : s < d.stable.length) (hr : ring ≤ 1024) :
    Calls Try.prog 66 #[areaV p (s : Int) R] w fun e w' => e = .returned (headR (d.read s) ring) ∧ Below w.heap.size w w' := by
  subst hR
  unfold headR okH
  by_cases hf : plH (d.read s) < ring
  · cases he : eqB (d.read s) (headH (seqH (d.read s)) (plH (d.read s)))
    · rw [if_neg (by simp)]
      exact head_d_not s ring d p c F w h hc hs hr hf he
    · rw [if_pos (by simp [hf])]
      exact head_d_is s ring d p c F w h hc hs hr hf he
  · rw [if_neg (by simp [hf])]
    exact head_d_far s ring d p c F w h hc hs hr (by omega)

theorem plH_lt (bs : List UInt8) : plH bs < 4294967296 := numFrom_lt bs 16 4
theorem seqH_lt (bs : List UInt8) : seqH bs < 18446744073709551616 := numFrom_lt bs 8 8

set_option maxHeartbeats 1000000 in
/-- An empty log is made. -/
theorem format_d (s l : Nat) (S L : Int) (hS : S = (s : Int)) (hL : L = (l : Int)) (d : Dk.Dk) (p c : Nat) (F : Nat → Prop) (w : World) (h : DiskAt w p d c F) (hc : c < 1048576) (h8 : 8 ≤ l) (hs : s + l ≤ d.stable.length) :
    Calls Try.prog 32 #[ptr p, .int .i64 S, .int .i64 L] w (Now w p (d.write s (headH 1 0)).flush (c + 1) F (.int .i64 0)) := by
  have hof := of_ok s l S L hS hL d p c F w h h8 hs
  have H := Lib.hid h; clear h
  have HOF := Lib.hid hof; clear hof
  clear hS hL
  unfold areaV ptr at *
  go_enter Try.func32, Try.ntmps32
  go_wp2_with fail
  with_reducible refine HOF.out.mono ?_
  rintro e w1 ⟨rfl, hb1⟩
  clear HOF
  obtain ⟨w1', hw1⟩ : ∃ W, W = w1.alloc (.cells #[.pointer (some ⟨p, 0, none⟩), .int .i64 (s : Int), .int .i64 ((l : Int) - 1)] 104) := ⟨_, rfl⟩
  have hb1' : Below w.heap.size w w1' := by rw [hw1]; exact hb1.alloc hb1.size _
  have hD1 := H.out.turns (Turns.of_below (F := fun _ => False) hb1') (fun _ _ e => e)
  have hph : Calls Try.prog 67 #[.agg #[.pointer (some ⟨p, 0, none⟩), .int .i64 (s : Int), .int .i64 ((l : Int) - 1)], .int .u64 1, .int .i64 0] w1' (Now w1' p (d.write s (headH 1 0)) (c + 1) F (.tuple #[])) := puthead_d s 1 0 ((l : Int) - 1) d p c F w1' hD1 hc (by omega) (by omega)
  have HPH := Lib.hid hph; clear hph hD1 hb1
  have hb1 := hb1'
  clear hb1'
  have HB1 := Lib.hid hb1; clear hb1
  have HW1 := Lib.hid hw1; clear hw1
  go_wp2_with fail
  rw [← HW1.out]
  with_reducible refine HPH.out.mono ?_
  rintro e w2 ⟨F2, rfl, hD2, hF2, hT2⟩
  clear HPH
  have hfl := flush_d _ p (c + 1) F2 w2 hD2 (by omega)
  unfold ptr at hfl
  have HFL := Lib.hid hfl; clear hfl
  have HF2 := Lib.hid hF2; clear hF2
  have HT2 := Lib.hid hT2; clear hT2 hD2
  go_wp2_with fail
  with_reducible refine HFL.out.mono ?_
  rintro e w3 ⟨F3, rfl, hD3, hF3, hT3⟩
  clear HFL
  go_wp2
  go_ret
  have z1 := HB1.out.size
  have z2 := HT2.out.size
  refine ⟨F3, rfl, hD3, fun k hk => ?_, ?_⟩
  · rcases hF3 k hk with e | e
    · rcases HF2.out k e with e | e
      · exact .inl e
      · exact .inr (by omega)
    · exact .inr (by omega)
  · refine (Turns.of_below (F := F) HB1.out).trans (G := F) (HT2.out.trans hT3 (fun i hi e => ?_)) (fun _ _ e => e)
    rcases HF2.out i e with e | e
    · exact e
    · omega
end Go.Proofs.Ytkicobmdogeigaa.Log
