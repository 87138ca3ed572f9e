/- A log's opening by the program and by the document, on disks beside each other. -/
import Derived.Test.YtgffcjceeiokfaaLgRef
import Derived.Test.YtgffcjceeiokfaaLgAlive
namespace Go.Proofs.Ytgffcjceeiokfaa.Log
set_option maxRecDepth 20000
open Go.RowKit
open Go.Proofs.Ytgffcjceeiokfaa.Mem Go.Proofs.Ytgffcjceeiokfaa.Crc Go.Proofs.Ytgffcjceeiokfaa.Disk
open Go.Proofs.Ytgffcjceeiokfaa.Rec (eqB)

theorem rreadB_d (s : Nat) (d : Dk.Dk) (r c : Nat) (G : Nat → Prop) (w : World) (h : RefDisk w r d c G) (hc : c ≤ 1048576) (hs : s < d.stable.length) :
    Calls Try.prog 21 #[.pointer (some ⟨r, 0, none⟩), .int .i64 (s : Int)] w fun e V => ∃ b cp, e = .returned (.tuple #[.slice (some ⟨b, 0, none⟩) 256 cp, .int .i64 0]) ∧ Holds V V.heap.size (some ⟨b, 0, none⟩) 256 (d.read s) ∧ (256 ≤ cp ∧ cp ≤ 9223372036854775807) ∧ Below w.heap.size w V := by
  have hl : (d.read s).length = 256 := by
    obtain ⟨R, vb, vw, vg, hA, hR, h1, h2, hF⟩ := h
    rw [← hR.read s hs]
    exact readR_len hA hR.size hs
  refine (rread_d s d r c G w h hc hs).mono ?_
  rintro e V ⟨v, rfl, ho, hb⟩
  obtain ⟨g, cap, cur, rfl, hg, hlt, hh, hc1, hc2, h3, h4⟩ := Go.Proofs.Ytgffcjceeiokfaa.Rec.Owned.cut ho (by omega)
  have hr := Go.Proofs.Ytgffcjceeiokfaa.Rec.Owned.reads ho
  rw [hl] at hr hc1 ⊢
  exact ⟨g, cap, rfl, hr, ⟨hc1, by unfold maxLen at hc2; omega⟩, hb⟩

theorem readr_no (b c l : Nat) (bs : List UInt8) (w : World) (h : Holds w w.heap.size (some ⟨b, 0, none⟩) 256 bs) (hc : 256 ≤ c ∧ c ≤ 9223372036854775807) (hl : 8 ≤ l ∧ l ≤ 1024) (hok : okH bs (l - 1) = false) :
    Calls Try.prog 84 #[.slice (some ⟨b, 0, none⟩) 256 c, .int .i64 (l : Int)] w fun e w' => e = .returned (.tuple #[.int .u64 (seqH bs : Int), .int .i64 (plH bs : Int), .bool false]) ∧ Below w.heap.size w w' := by
  by_cases hf : plH bs < l - 1
  · refine readr_not b c l bs w h hc hl hf fun e => ?_
    unfold okH eqB at hok
    rw [e] at hok
    simp [hf] at hok
  · exact readr_far b c l bs w h hc hl (by omega)

theorem readr_ok (b c l : Nat) (bs : List UInt8) (w : World) (h : Holds w w.heap.size (some ⟨b, 0, none⟩) 256 bs) (hc : 256 ≤ c ∧ c ≤ 9223372036854775807) (hl : 8 ≤ l ∧ l ≤ 1024) (hok : okH bs (l - 1) = true) :
    Calls Try.prog 84 #[.slice (some ⟨b, 0, none⟩) 256 c, .int .i64 (l : Int)] w fun e w' => e = .returned (.tuple #[.int .u64 (seqH bs : Int), .int .i64 (plH bs : Int), .bool true]) ∧ Below w.heap.size w w' := by
  unfold okH eqB at hok
  simp only [Bool.and_eq_true, decide_eq_true_eq] at hok
  exact readr_is b c l bs w h hc hl hok.1 hok.2

/-- A log of the document's at m. -/
def RefLog (w : World) (m r : Nat) (s l : Int) (seq pl : Nat) : Prop := w.heap[m]? = some (.cells #[.pointer (some ⟨r, 0, none⟩), .int .i64 s, .int .i64 l, .int .u64 (seq : Int), .int .i64 (pl : Int), .slice none 0 0] 72 (0, 0))

set_option maxHeartbeats 1000000 in
theorem openr_d (s l : Nat) (S L : Int) (hS : S = (s : Int)) (hL : L = (l : Int)) (d : Dk.Dk) (r c : Nat) (G : Nat → Prop) (w : World) (h : RefDisk w r d c G) (hc : c ≤ 1048576) (h8 : 8 ≤ l) (hn : d.stable.length ≤ 1024) (hs : s + l ≤ d.stable.length) (hok : okH (d.read s) (l - 1) = true) :
    Calls Try.prog 40 #[ptr r, .int .i64 S, .int .i64 L] w fun e w' => ∃ m, e = .returned (.tuple #[ptr m, .int .i64 0]) ∧ RefLog w' m r (s : Int) (l : Int) (seqH (d.read s)) (plH (d.read s)) ∧ w.heap.size ≤ m ∧ Below w.heap.size w w' := by
  subst hS hL
  have hsz := rsize_d d r c G w h
  have har := arear_any d.stable.length (s : Int) (l : Int) w hn
  have hoa : okArea d.stable.length (s : Int) (l : Int) = true := by unfold okArea; simp; omega
  rw [hoa] at har
  have hrd := rreadB_d s d r c G w h hc (by omega)
  have hro := fun b cp V hV hcp => readr_ok b cp l (d.read s) V hV hcp ⟨h8, by omega⟩ hok
  clear h hoa hok
  unfold RefLog ptr at *
  generalize d.read s = bs at *
  generalize seqH bs = sq at *
  generalize plH bs = pl at *
  generalize d.stable.length = n at *
  have HSZ := Lib.hid hsz; clear hsz
  have HAR := Lib.hid har; clear har
  have HRD := Lib.hid hrd; clear hrd
  have HRO := Lib.hid hro; clear hro
  go_enter Try.func40, Try.ntmps40
  go_wp2_with fail
  with_reducible refine HSZ.out.mono ?_
  rintro e w1 ⟨rfl, rfl⟩
  go_wp2_with fail
  with_reducible refine HAR.out.mono ?_
  rintro e w1 ⟨rfl, rfl⟩
  clear HSZ HAR
  go_wp2_with fail
  with_reducible refine HRD.out.mono ?_
  rintro e V ⟨b, cp, rfl, hh, hcp, hb⟩
  clear HRD
  have hcall := HRO.out b cp V hh hcp
  have HB := Lib.hid hb
  have HC := Lib.hid hcall
  clear HRO hh hcp hb hcall
  go_wp2_with fail
  with_reducible refine HC.out.mono ?_
  rintro e V2 ⟨rfl, hb2⟩
  have HB2 : Hid (Below w.heap.size w V2) := Lib.hid (HB.out.trans (hb2.mono HB.out.size))
  clear HC HB hb2
  go_wp2
  go_ret2
  exact ⟨V2.heap.size, rfl, heap_alloc_new V2 _, HB2.out.size, HB2.out.alloc HB2.out.size _⟩

set_option maxHeartbeats 1000000 in
theorem openr_unclean (s l : Nat) (S L : Int) (hS : S = (s : Int)) (hL : L = (l : Int)) (d : Dk.Dk) (r c : Nat) (G : Nat → Prop) (w : World) (h : RefDisk w r d c G) (hc : c ≤ 1048576) (h8 : 8 ≤ l) (hn : d.stable.length ≤ 1024) (hs : s + l ≤ d.stable.length) (hok : okH (d.read s) (l - 1) = false) :
    Calls Try.prog 40 #[ptr r, .int .i64 S, .int .i64 L] w fun e w' => e = .returned (.tuple #[.pointer none, .int .i64 13]) ∧ Below w.heap.size w w' := by
  subst hS hL
  have hsz := rsize_d d r c G w h
  have har := arear_any d.stable.length (s : Int) (l : Int) w hn
  have hoa : okArea d.stable.length (s : Int) (l : Int) = true := by unfold okArea; simp; omega
  rw [hoa] at har
  have hrd := rreadB_d s d r c G w h hc (by omega)
  have hro := fun b cp V hV hcp => readr_no b cp l (d.read s) V hV hcp ⟨h8, by omega⟩ hok
  clear h hoa hok
  unfold ptr at *
  generalize d.read s = bs at *
  generalize seqH bs = sq at *
  generalize plH bs = pl at *
  generalize d.stable.length = n at *
  have HSZ := Lib.hid hsz; clear hsz
  have HAR := Lib.hid har; clear har
  have HRD := Lib.hid hrd; clear hrd
  have HRO := Lib.hid hro; clear hro
  go_enter Try.func40, Try.ntmps40
  go_wp2_with fail
  with_reducible refine HSZ.out.mono ?_
  rintro e w1 ⟨rfl, rfl⟩
  go_wp2_with fail
  with_reducible refine HAR.out.mono ?_
  rintro e w1 ⟨rfl, rfl⟩
  clear HSZ HAR
  go_wp2_with fail
  with_reducible refine HRD.out.mono ?_
  rintro e V ⟨b, cp, rfl, hh, hcp, hb⟩
  clear HRD
  have hcall := HRO.out b cp V hh hcp
  have HB := Lib.hid hb
  have HC := Lib.hid hcall
  clear HRO hh hcp hb hcall
  go_wp2_with fail
  with_reducible refine HC.out.mono ?_
  rintro e V2 ⟨rfl, hb2⟩
  have HB2 : Hid (Below w.heap.size w V2) := Lib.hid (HB.out.trans (hb2.mono HB.out.size))
  clear HC HB hb2
  go_wp2
  go_ret2
  exact ⟨rfl, HB2.out⟩

set_option maxHeartbeats 1000000 in
theorem openr_not (S L : Int) (d : Dk.Dk) (r c : Nat) (G : Nat → Prop) (w : World) (h : RefDisk w r d c G) (hn : d.stable.length ≤ 1024) (hoa : okArea d.stable.length S L = false) :
    Calls Try.prog 40 #[ptr r, .int .i64 S, .int .i64 L] w fun e w' => e = .returned (.tuple #[.pointer none, .int .i64 1]) ∧ Below w.heap.size w w' := by
  have hsz := rsize_d d r c G w h
  have har := arear_any d.stable.length S L w hn
  rw [hoa] at har
  clear h hoa
  unfold ptr at *
  generalize d.stable.length = n at *
  have HSZ := Lib.hid hsz; clear hsz
  have HAR := Lib.hid har; clear har
  go_enter Try.func40, Try.ntmps40
  go_wp2_with fail
  with_reducible refine HSZ.out.mono ?_
  rintro e w1 ⟨rfl, rfl⟩
  go_wp2_with fail
  with_reducible refine HAR.out.mono ?_
  rintro e w1 ⟨rfl, rfl⟩
  clear HSZ HAR
  go_wp2
  go_ret2
  exact ⟨rfl, Below.refl _ _⟩
end Go.Proofs.Ytgffcjceeiokfaa.Log

namespace Go.Proofs.Ytgffcjceeiokfaa.Log
set_option maxRecDepth 20000
open Go.RowKit
open Go.Proofs.Ytgffcjceeiokfaa.Mem Go.Proofs.Ytgffcjceeiokfaa.Crc Go.Proofs.Ytgffcjceeiokfaa.Disk

theorem run_fill (w : World) (A : Option Addr) (n c B g : Nat) (hd Z : List UInt8) (h : Holds w B A n hd) (hZ : Z.length = 256) (hg : w.heap[g]? = some (.cells (Z.map byteV).toArray 5 (0, 0))) :
    ∃ (X : List UInt8) (k : Nat) (W' : World), (Builtin.copy_ #[33, 33] 3 #[.slice (some ⟨g, 0, none⟩) 256 256, .slice A n c]).run Try.prog w = .ok (goInt k) W' ∧ X.length = 256 ∧ W'.heap[g]? = some (.cells (X.map byteV).toArray 5 (0, 0)) ∧ Below g w W' := by
  by_cases h0 : n = 0
  · exact ⟨Z, 0, w, run_copy_none w _ _ _ 5 _ A 256 256 n c Try.underlying33 info_byte (by rw [h0]; rfl), hZ, hg, Below.refl _ _⟩
  · obtain ⟨b, off, rfl, _, hcell⟩ := h.2 (by omega)
    have hl := h.1
    have hrun := run_copy_row (P := Try.prog) w 33 33 3 5 g 0 256 256 ⟨b, off, none⟩ n c (Z.map byteV).toArray 5 ((hd.take 256).map byteV) Try.underlying33 info_byte hg
      (by rw [List.length_map, List.length_take, hl]; exact Nat.min_comm _ _)
      (fun j v hv => by
        have hj : j < (hd.take 256).length := by have := (List.getElem?_eq_some_iff.1 hv).1; simpa using this
        have hj2 : j < hd.length := by rw [List.length_take] at hj; omega
        rw [Addr.add_mid, hcell j hj2]
        rw [List.getElem?_map, List.getElem?_eq_getElem hj] at hv
        simpa [byteV] using hv)
      (by rw [List.length_map, List.length_take]; simp [hZ]; omega) (by intro v hv; obtain ⟨u, _, rfl⟩ := List.mem_map.1 hv; rfl)
    refine ⟨hd.take 256 ++ Z.drop (hd.take 256).length, _, _, hrun, ?_, ?_, below_setRow (Below.refl g w) (Nat.le_refl _) _⟩
    · rw [List.length_append, List.length_drop, hZ, List.length_take]; omega
    · rw [setRow_heap w g _ _ _ _ hg]
      simp

/-- What the two openings answer, one behind the other. -/
def Opens (p r : Nat) (S L : Int) (w : World) : Prop :=
  (∃ code : Int, (code = 1 ∨ code = 13) ∧ Calls Try.prog 33 #[.pointer (some ⟨p, 0, none⟩), .int .i64 S, .int .i64 L] w fun e w7 => e = .returned (.tuple #[.pointer none, .int .i64 code]) ∧ Below w.heap.size w w7 ∧
    Calls Try.prog 40 #[.pointer (some ⟨r, 0, none⟩), .int .i64 S, .int .i64 L] w7 fun e w8 => e = .returned (.tuple #[.pointer none, .int .i64 code]) ∧ Below w7.heap.size w7 w8) ∨
  (∃ s l seq pl : Nat, L = (l : Int) ∧ 8 ≤ l ∧ l ≤ 1024 ∧ Calls Try.prog 33 #[.pointer (some ⟨p, 0, none⟩), .int .i64 S, .int .i64 L] w fun e w7 => ∃ lp, e = .returned (.tuple #[.pointer (some ⟨lp, 0, none⟩), .int .i64 0]) ∧ LogAt w7 lp p (s : Int) ((l : Int) - 1) seq pl 0 (.slice none 0 0) ∧ Below w.heap.size w w7 ∧
    Calls Try.prog 40 #[.pointer (some ⟨r, 0, none⟩), .int .i64 S, .int .i64 L] w7 fun e w8 => ∃ m, e = .returned (.tuple #[.pointer (some ⟨m, 0, none⟩), .int .i64 0]) ∧ RefLog w8 m r (s : Int) (l : Int) seq pl ∧ Below w7.heap.size w7 w8)

theorem opens_at (p r c : Nat) (S L : Int) (d : Dk.Dk) (F G : Nat → Prop) (w : World) (hD : DiskAt w p d c F) (hR : RefDisk w r d c G) (hc : c ≤ 1048576) : Opens p r S L w := by
  have hn := hD.ok.2.2
  cases ha : okArea d.stable.length S L
  · refine .inl ⟨1, .inl rfl, (open_not S L d p c F w hD ha).mono ?_⟩
    rintro e w7 ⟨rfl, hb⟩
    exact ⟨rfl, hb, openr_not S L d r c G w7 (hR.later hb) hn ha⟩
  · simp only [okArea, Bool.and_eq_true, decide_eq_true_eq] at ha
    obtain ⟨s, hs⟩ : ∃ s : Nat, S = (s : Int) := ⟨S.toNat, by omega⟩
    obtain ⟨l, hl⟩ : ∃ l : Nat, L = (l : Int) := ⟨L.toNat, by omega⟩
    cases hok : okH (d.read s) (l - 1)
    · refine .inl ⟨13, .inr rfl, (open_unclean s l S L hs hl d p c F w hD hc (by omega) (by omega) hok).mono ?_⟩
      rintro e w7 ⟨rfl, hb⟩
      exact ⟨rfl, hb, openr_unclean s l S L hs hl d r c G w7 (hR.later hb) hc (by omega) hn (by omega) hok⟩
    · refine .inr ⟨s, l, seqH (d.read s), plH (d.read s), hl, by omega, by omega, (open_d s l S L hs hl d p c F w hD hc (by omega) (by omega) hok).mono ?_⟩
      rintro e w7 ⟨lp, rfl, hlog, _, hb⟩
      refine ⟨lp, rfl, hlog, hb, (openr_d s l S L hs hl d r c G w7 (hR.later hb) hc (by omega) hn (by omega) hok).mono ?_⟩
      rintro e w8 ⟨m, rfl, hm, _, hb8⟩
      exact ⟨m, rfl, hm, hb8⟩

theorem holds_row {w : World} {g : Nat} {X : List UInt8} (h : w.heap[g]? = some (.cells (X.map byteV).toArray 5 (0, 0))) : Holds w (g + 1) (some ⟨g, 0, none⟩) X.length X :=
  ⟨rfl, fun _ => ⟨g, 0, rfl, by omega, fun j hj => by
    rw [Nat.zero_add]
    exact cell_of_row w g j _ _ _ h |>.trans (by simp [hj, byteV])⟩⟩

/-- A block is written to both, and both are opened. -/
def Wrote2 (p r : Nat) (S L : Int) (v : Value) (B : Nat) (w : World) : Prop :=
  Calls Try.prog 26 #[.pointer (some ⟨p, 0, none⟩), .int .i64 S, v] w fun e w5 => (∃ u, e = .returned u) ∧ Below B w w5 ∧
    Calls Try.prog 39 #[.pointer (some ⟨r, 0, none⟩), .int .i64 S, v] w5 fun e w6 => (∃ u, e = .returned u) ∧ Below B w5 w6 ∧ Opens p r S L w6

theorem wrote_at (p r c g B : Nat) (S L : Int) (d : Dk.Dk) (F G : Nat → Prop) (w : World) (hD : DiskAt w p d c F) (hR : RefDisk w r d c G) (hap : ∀ k, F k → ¬ G k) (hF : ∀ k, F k → B ≤ k) (hG : ∀ k, G k → B ≤ k) (hB : B ≤ w.heap.size) (hc : c + 1 ≤ 1048576)
    (X : List UInt8) (hX : X.length = 256) (hg : w.heap[g]? = some (.cells (X.map byteV).toArray 5 (0, 0))) (hFg : ¬ F g) : Wrote2 p r S L (.slice (some ⟨g, 0, none⟩) 256 256) B w := by
  have hgl : g < w.heap.size := (Array.getElem?_eq_some_iff.1 hg).1
  cases hi : hasB d.stable.length S
  · refine (write_hasnt_d S _ 256 256 d p c F w hD hi).mono ?_
    rintro e w5 ⟨rfl, rfl⟩
    refine ⟨⟨_, rfl⟩, Below.refl _ _, ?_⟩
    have hR0 := hR
    obtain ⟨R, vb, vw, vg, hA, hRR, h1, h2, h3⟩ := hR0
    refine (refWrite_hasnt S _ 256 256 d.stable.length R r vb vw vg (Go.Proofs.Ytgffcjceeiokfaa.Disk.Own R) w hA hRR.size hRR.big.2 hi).mono ?_
    rintro e w6 ⟨rfl, rfl⟩
    exact ⟨⟨_, rfl⟩, Below.refl _ _, opens_at p r c S L d F G w hD hR (by omega)⟩
  · obtain ⟨e1, e2⟩ := hasB_nat hi
    have hh := holds_row hg
    rw [hX] at hh
    refine (writeH_d S S.toNat e1 _ 256 (g + 1) X d p c F w hD e2 hh (by omega)).mono ?_
    rintro e w5 ⟨F5, rfl, hD5, hF5, hT5⟩
    refine ⟨⟨_, rfl⟩, hT5.below hF hB, ?_⟩
    have hg5 := (hT5.block g hgl hFg).trans hg
    have hh5 := holds_row hg5
    rw [hX] at hh5
    have hcall := rwrite_d S.toNat (some ⟨g, 0, none⟩) 256 (g + 1) X d r c G w5 (hR.turns hT5 (fun k e e' => hap k e' e)) (by omega) e2 hh5 (by have := hT5.size; omega)
    rw [← e1] at hcall
    refine hcall.mono ?_
    rintro e w6 ⟨G6, rfl, hR6, hG6, hT6⟩
    refine ⟨⟨_, rfl⟩, hT6.below hG (by have := hT5.size; omega), opens_at p r (c + 1) S L _ F5 G6 w6 (hD5.turns hT6 fun k e e' => ?_) hR6 hc⟩
    rcases hF5 k e with h | h
    · exact hap k h e'
    · have := hR.lt k e'; omega
end Go.Proofs.Ytgffcjceeiokfaa.Log

