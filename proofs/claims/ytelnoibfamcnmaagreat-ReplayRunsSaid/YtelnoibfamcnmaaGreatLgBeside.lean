/- A log's opening by the program and by the document, on disks beside each other. -/
import Derived.Test.YtelnoibfamcnmaaGreatLgRef
import Derived.Test.YtelnoibfamcnmaaGreatLgAlive
namespace Go.Proofs.YtelnoibfamcnmaaGreat.Log
set_option maxRecDepth 20000
open Go.RowKit
open Go.Proofs.YtelnoibfamcnmaaGreat.Mem Go.Proofs.YtelnoibfamcnmaaGreat.Crc Go.Proofs.YtelnoibfamcnmaaGreat.Disk
open Go.Proofs.YtelnoibfamcnmaaGreat.Rec (eqB)

theorem rreadB_d (s : Nat) (d : Dk.Dk) (r c : Nat) (G : Nat → Prop) (w : World) (h : RefDisk w r d c G) (hc : c ≤ 1048576) (hs : s < d.stable.length) :
    Calls Tryz.prog 46 #[.pointer (some ⟨r, 0, none⟩), .int .i64 (s : Int)] w fun e V => ∃ b cp, e = .returned (.tuple #[.slice (some ⟨b, 0, none⟩) 256 cp, .int .i64 0]) ∧ Holds V V.heap.size (some ⟨b, 0, none⟩) 256 (d.read s) ∧ (256 ≤ cp ∧ cp ≤ 9223372036854775807) ∧ Below w.heap.size w V := by
  have hl : (d.read s).length = 256 := by
    obtain ⟨R, vb, vw, vg, hA, hR, h1, h2, hF⟩ := h
    rw [← hR.read s hs]
    exact readR_len hA hR.size hs
  refine (rread_d s d r c G w h hc hs).mono ?_
  rintro e V ⟨v, rfl, ho, hb⟩
  obtain ⟨g, cap, cur, rfl, hg, hlt, hh, hc1, hc2, h3, h4⟩ := Go.Proofs.YtelnoibfamcnmaaGreat.Rec.Owned.cut ho (by omega)
  have hr := Go.Proofs.YtelnoibfamcnmaaGreat.Rec.Owned.reads ho
  rw [hl] at hr hc1 ⊢
  exact ⟨g, cap, rfl, hr, ⟨hc1, by unfold maxLen at hc2; omega⟩, hb⟩

theorem readr_ok (b c l : Nat) (bs : List UInt8) (w : World) (h : Holds w w.heap.size (some ⟨b, 0, none⟩) 256 bs) (hc : 256 ≤ c ∧ c ≤ 9223372036854775807) (hl : 8 ≤ l ∧ l ≤ 1024) (hok : okH bs (l - 1) = true) :
    Calls Tryz.prog 66 #[.slice (some ⟨b, 0, none⟩) 256 c, .int .i64 (l : Int)] w fun e w' => e = .returned (.tuple #[.int .u64 (seqH bs : Int), .int .i64 (plH bs : Int), .bool true]) ∧ Below w.heap.size w w' := by
  unfold okH eqB at hok
  simp only [Bool.and_eq_true, decide_eq_true_eq] at hok
  exact readr_is b c l bs w h hc hl hok.1 hok.2

/-- A log of the document's at m. -/
def RefLog (w : World) (m r : Nat) (s l : Int) (seq pl : Nat) : Prop := w.heap[m]? = some (.cells #[.pointer (some ⟨r, 0, none⟩), .int .i64 s, .int .i64 l, .int .u64 (seq : Int), .int .i64 (pl : Int), .slice none 0 0] 139 (0, 0))

set_option maxHeartbeats 1000000 in
theorem openr_d (s l : Nat) (S L : Int) (hS : S = (s : Int)) (hL : L = (l : Int)) (d : Dk.Dk) (r c : Nat) (G : Nat → Prop) (w : World) (h : RefDisk w r d c G) (hc : c ≤ 1048576) (h8 : 8 ≤ l) (hn : d.stable.length ≤ 1024) (hs : s + l ≤ d.stable.length) (hok : okH (d.read s) (l - 1) = true) :
    Calls Tryz.prog 65 #[ptr r, .int .i64 S, .int .i64 L] w fun e w' => ∃ m, e = .returned (.tuple #[ptr m, .int .i64 0]) ∧ RefLog w' m r (s : Int) (l : Int) (seqH (d.read s)) (plH (d.read s)) ∧ w.heap.size ≤ m ∧ Below w.heap.size w w' := by
  subst hS hL
  have hsz := rsize_d d r c G w h
  have har := arear_any d.stable.length (s : Int) (l : Int) w hn
  have hoa : okArea d.stable.length (s : Int) (l : Int) = true := by unfold okArea; simp; omega
  rw [hoa] at har
  have hrd := rreadB_d s d r c G w h hc (by omega)
  have hro := fun b cp V hV hcp => readr_ok b cp l (d.read s) V hV hcp ⟨h8, by omega⟩ hok
  clear h hoa hok
  unfold RefLog ptr at *
  generalize d.read s = bs at *
  generalize seqH bs = sq at *
  generalize plH bs = pl at *
  generalize d.stable.length = n at *
  have HSZ := Lib.hid hsz; clear hsz
  have HAR := Lib.hid har; clear har
  have HRD := Lib.hid hrd; clear hrd
  have HRO := Lib.hid hro; clear hro
  go_enter Tryz.func65, Tryz.ntmps65
  go_wp2_with fail
  with_reducible refine HSZ.out.mono ?_
  rintro e w1 ⟨rfl, rfl⟩
  go_wp2_with fail
  with_reducible refine HAR.out.mono ?_
  rintro e w1 ⟨rfl, rfl⟩
  clear HSZ HAR
  go_wp2_with fail
  with_reducible refine HRD.out.mono ?_
  rintro e V ⟨b, cp, rfl, hh, hcp, hb⟩
  clear HRD
  have hcall := HRO.out b cp V hh hcp
  have HB := Lib.hid hb
  have HC := Lib.hid hcall
  clear HRO hh hcp hb hcall
  go_wp2_with fail
  with_reducible refine HC.out.mono ?_
  rintro e V2 ⟨rfl, hb2⟩
  have HB2 : Hid (Below w.heap.size w V2) := Lib.hid (HB.out.trans (hb2.mono HB.out.size))
  clear HC HB hb2
  go_wp2
  go_ret2
  exact ⟨V2.heap.size, rfl, heap_alloc_new V2 _, HB2.out.size, HB2.out.alloc HB2.out.size _⟩

end Go.Proofs.YtelnoibfamcnmaaGreat.Log

namespace Go.Proofs.YtelnoibfamcnmaaGreat.Log
set_option maxRecDepth 20000
open Go.RowKit
open Go.Proofs.YtelnoibfamcnmaaGreat.Mem Go.Proofs.YtelnoibfamcnmaaGreat.Crc Go.Proofs.YtelnoibfamcnmaaGreat.Disk

/-- What the two openings answer, one behind the other. -/
def Opens (p r : Nat) (S L : Int) (w : World) : Prop :=
  (∃ code : Int, (code = 1 ∨ code = 13) ∧ Calls Tryz.prog 19 #[.pointer (some ⟨p, 0, none⟩), .int .i64 S, .int .i64 L] w fun e w7 => e = .returned (.tuple #[.pointer none, .int .i64 code]) ∧ Below w.heap.size w w7 ∧
    Calls Tryz.prog 65 #[.pointer (some ⟨r, 0, none⟩), .int .i64 S, .int .i64 L] w7 fun e w8 => e = .returned (.tuple #[.pointer none, .int .i64 code]) ∧ Below w7.heap.size w7 w8) ∨
  (∃ s l seq pl : Nat, L = (l : Int) ∧ 8 ≤ l ∧ l ≤ 1024 ∧ Calls Tryz.prog 19 #[.pointer (some ⟨p, 0, none⟩), .int .i64 S, .int .i64 L] w fun e w7 => ∃ lp, e = .returned (.tuple #[.pointer (some ⟨lp, 0, none⟩), .int .i64 0]) ∧ LogAt w7 lp p (s : Int) ((l : Int) - 1) seq pl 0 (.slice none 0 0) ∧ Below w.heap.size w w7 ∧
    Calls Tryz.prog 65 #[.pointer (some ⟨r, 0, none⟩), .int .i64 S, .int .i64 L] w7 fun e w8 => ∃ m, e = .returned (.tuple #[.pointer (some ⟨m, 0, none⟩), .int .i64 0]) ∧ RefLog w8 m r (s : Int) (l : Int) seq pl ∧ Below w7.heap.size w7 w8)

/-- A block is written to both, and both are opened. -/
def Wrote2 (p r : Nat) (S L : Int) (v : Value) (B : Nat) (w : World) : Prop :=
  Calls Tryz.prog 62 #[.pointer (some ⟨p, 0, none⟩), .int .i64 S, v] w fun e w5 => (∃ u, e = .returned u) ∧ Below B w w5 ∧
    Calls Tryz.prog 43 #[.pointer (some ⟨r, 0, none⟩), .int .i64 S, v] w5 fun e w6 => (∃ u, e = .returned u) ∧ Below B w5 w6 ∧ Opens p r S L w6

end Go.Proofs.YtelnoibfamcnmaaGreat.Log

