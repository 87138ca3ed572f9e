/- ReplayCrash: for every area, records and bits, the chain behind a crash is no longer than the live records, and each of its records has the Seq of the live one in its place; and while nothing is lost it is all of these. -/
import Derived.Test.YtelnoibfamcnmaaRpArg
namespace Go.Proofs.Ytelnoibfamcnmaa.ReplayCrash
set_option maxRecDepth 20000
open Go.ChangeShapes Go.WideShapes Go.ChangeAt Go.RowKit
open Go.Proofs.Ytelnoibfamcnmaa.Mem Go.Proofs.Ytelnoibfamcnmaa.Lift Go.Proofs.Ytelnoibfamcnmaa.Crc Go.Proofs.Ytelnoibfamcnmaa.Disk Go.Proofs.Ytelnoibfamcnmaa.Log Go.Proofs.Ytelnoibfamcnmaa.Rp
open Go.Proofs.Ytelnoibfamcnmaa.Rec (Tx Wt TxAt sameB sameB_iff sameB_false same_any)

theorem inv_settle {n s r : Nat} {g : Lg} {s0 p0 : Nat} (h : Inv n s r g s0 p0) (bits : List UInt8) : Inv n s r { g with d := g.d.settle bits } s0 p0 := by
  have hroom := h.room
  refine ⟨Dk.settle_ok g.d h.ok bits, by show (g.d.settle bits).stable.length = n; rw [Dk.size_settle]; exact h.size, by show (g.d.settle bits).fuse = none; rw [settle_eq h.free]; exact h.free, hroom, ?_, ?_, h.seq, h.seqs, h.place, h.low.settle h.free bits, ?_, h.fair⟩
  · show (g.d.settle bits).stable.getD s [] = _
    rw [settle_eq h.free]
    rcases settleFrom_ver bits s g.d.pend 0 g.d.stable with e | e
    · exact e.trans h.head
    · exact absurd rfl (h.calm _ e)
  · show ∀ x ∈ (g.d.settle bits).pend, _
    rw [settle_eq h.free]
    intro x hx
    exact h.calm x (keepFrom_sub bits x _ _ hx)
  · show ringK (g.d.settle bits) s r p0 (sumT g.ts) = _
    rw [← h.ring]
    exact ringK_same _ (fun j _ => Dk.read_settle _ h.ok bits _)

set_option maxRecDepth 100000 in
set_option maxHeartbeats 4000000 in
theorem walk_bad (B S L : Int) (v u : Value) (w : World) (h : ∀ w1, Calls Try.prog 48 #[.agg #[.int .i64 B, .int .i64 S, .int .i64 L], v] w1 (Unfilled w1)) :
    Calls Try.prog 9 #[.agg #[.int .i64 B, .int .i64 S, .int .i64 L], v, u] w fun e w' => e = .returned (.bool true) ∧ Below w.heap.size w w' := by
  have hx0 : Hid ((w.alloc (.cells #[.int .i64 B, .int .i64 S, .int .i64 L] 85)).heap[w.heap.size]? = some (.cells #[.int .i64 B, .int .i64 S, .int .i64 L] 85 (0, 0))) := Lib.hid (heap_alloc_new w _)
  have hb0 : Hid (Below w.heap.size w (w.alloc (.cells #[.int .i64 B, .int .i64 S, .int .i64 L] 85))) := Lib.hid ((Below.refl _ _).alloc (Nat.le_refl _) _)
  have HOP := Lib.hid h; clear h
  go_enter Try.func9, Try.ntmps9
  go_wp2_with fail
  generalize w.alloc (.cells #[.int .i64 B, .int .i64 S, .int .i64 L] 85) = W at hx0 hb0 ⊢
  with_reducible refine (Rp.alive_any W).mono ?_
  rintro e w1 ⟨rfl, hb1⟩
  have hx1 := (hb1.block _ (Array.getElem?_eq_some_iff.1 hx0.out).1).trans hx0.out
  have q0 : w1.cell? ⟨w.heap.size, 0, none⟩ = some (.int .i64 B) := cell_of_row w1 _ 0 _ _ _ hx1
  have q1 : w1.cell? ⟨w.heap.size, 1, none⟩ = some (.int .i64 S) := cell_of_row w1 _ 1 _ _ _ hx1
  have q2 : w1.cell? ⟨w.heap.size, 2, none⟩ = some (.int .i64 L) := cell_of_row w1 _ 2 _ _ _ hx1
  have HB1 : Hid (Below w.heap.size w w1) := Lib.hid (hb0.out.trans (hb1.mono hb0.out.size))
  clear hx1 hb1 hx0 hb0
  have hop := HOP.out w1
  have HOP1 := Lib.hid hop; clear hop HOP
  go_wp2_with fail
  with_reducible refine HOP1.out.mono ?_
  rintro e w2 ⟨rfl, hb2⟩
  have HB2 : Hid (Below w.heap.size w w2) := Lib.hid (HB1.out.trans (hb2.mono HB1.out.size))
  clear hb2 HOP1 q0 q1 q2 HB1
  go_wp2
  go_ret
  exact ⟨rfl, HB2.out⟩

set_option maxRecDepth 100000 in
set_option maxHeartbeats 4000000 in
theorem walk_good (nb s l : Nat) (A : Option Addr) (n c : Nat) (xs : List TxL) (Ab : Option Addr) (bn bc : Nat) (bits : List UInt8) (w : World) (hx : TxsL w w.heap.size A n xs) (hnc : n ≤ c) (hcm : c ≤ maxLen) (hbt : Holds w w.heap.size Ab bn bits) (hbn : bn ≤ maxLen) (hn2 : nb ≤ 1024) (h8 : 8 ≤ l) (hl2 : l ≤ 1024) (hs : s + l ≤ nb) :
    Calls Try.prog 9 #[.agg #[.int .i64 (nb : Int), .int .i64 (s : Int), .int .i64 (l : Int)], .slice A n c, .slice Ab bn bc] w fun e w' => e = .returned (.bool true) ∧ Below w.heap.size w w' := by
  have hx0 : Hid ((w.alloc (.cells #[.int .i64 (nb : Int), .int .i64 (s : Int), .int .i64 (l : Int)] 85)).heap[w.heap.size]? = some (.cells #[.int .i64 (nb : Int), .int .i64 (s : Int), .int .i64 (l : Int)] 85 (0, 0))) := Lib.hid (heap_alloc_new w _)
  have hb0 : Hid (Below w.heap.size w (w.alloc (.cells #[.int .i64 (nb : Int), .int .i64 (s : Int), .int .i64 (l : Int)] 85))) := Lib.hid ((Below.refl _ _).alloc (Nat.le_refl _) _)
  have HX := Lib.hid hx; clear hx
  have HBT := Lib.hid hbt; clear hbt
  go_enter Try.func9, Try.ntmps9
  go_wp2_with fail
  generalize w.alloc (.cells #[.int .i64 (nb : Int), .int .i64 (s : Int), .int .i64 (l : Int)] 85) = W at hx0 hb0 ⊢
  with_reducible refine (Rp.alive_any W).mono ?_
  rintro e w1 ⟨rfl, hb1⟩
  have hwW : w.heap.size < W.heap.size := (Array.getElem?_eq_some_iff.1 hx0.out).1
  have hz1 : w.heap.size < w1.heap.size := by have := hb1.size; omega
  have hx1 := (hb1.block _ hwW).trans hx0.out
  have q0 : w1.cell? ⟨w.heap.size, 0, none⟩ = some (.int .i64 (nb : Int)) := cell_of_row w1 _ 0 _ _ _ hx1
  have q1 : w1.cell? ⟨w.heap.size, 1, none⟩ = some (.int .i64 (s : Int)) := cell_of_row w1 _ 1 _ _ _ hx1
  have q2 : w1.cell? ⟨w.heap.size, 2, none⟩ = some (.int .i64 (l : Int)) := cell_of_row w1 _ 2 _ _ _ hx1
  have hb1w := hb0.out.trans (hb1.mono hb0.out.size)
  have hfi := filled_ok nb s l A n c xs w1 ((HX.out.below hb1w).more (by omega)) hnc hcm hn2 h8 hl2 hs
  obtain ⟨g, hg⟩ : ∃ g, g = fillG nb s (l - 1) ((xs.take (few16 n)).map (·.t)) := ⟨_, rfl⟩
  have hlen : ((xs.take (few16 n)).map (·.t)).length ≤ 16 := by rw [List.length_map, List.length_take]; unfold few16; split <;> omega
  obtain ⟨⟨s0, p0, hinv⟩, hsq⟩ := fillG_inv nb s (l - 1) (by omega) ((xs.take (few16 n)).map (·.t)) (by omega)
  rw [← hg] at hfi hinv hsq
  have hsq : g.seq ≤ 17 := by omega
  clear hg hlen
  have HFI := Lib.hid hfi; clear hfi
  have HX1 := Lib.hid hx1; clear hx1
  have HB1 := Lib.hid hb1w; clear hb1w hb1 hx0 hb0 HX
  have HINV := Lib.hid hinv; clear hinv
  obtain ⟨r, hr⟩ : ∃ r, r = l - 1 := ⟨_, rfl⟩
  rw [← hr] at HFI HINV
  have HR := Lib.hid hr; clear hr
  go_wp2_with fail
  with_reducible refine HFI.out.mono ?_
  rintro e w2 ⟨p, lp, v, L, rfl, hfd⟩
  clear HFI q0 q1 q2
  obtain ⟨cd, F, A2, c2, hD, hcd, hF, -, hnl, hlpl, rfl, hlive, hown⟩ := hfd.parts
  have hb2 := HB1.out.trans (hfd.below.mono HB1.out.size)
  have hmap := hfd.map
  have hFw : ∀ q, F q → w.heap.size ≤ q := fun q e => by have := hF q e; omega
  have hz2 := hfd.below.size
  have hx2 := (hfd.below.block _ hz1).trans HX1.out
  -- the disk goes on from here; all else stays
  have hst := Rp.Homing.settle (Homing.start hD) (by omega) Ab bn bc w.heap.size bits (fun V hV => HBT.out.below (hb2.trans hV)) hFw (by omega) hbn
  have hkeep : ∀ V, Turns F w2 V → Below w.heap.size w V ∧ V.cell? ⟨w.heap.size, 1, none⟩ = some (.int .i64 (s : Int)) ∧ V.cell? ⟨w.heap.size, 2, none⟩ = some (.int .i64 (l : Int)) := fun V hV => by
    have hxV := (hV.block _ (by omega) (fun e => by have := hF _ e; omega)).trans hx2
    exact ⟨hb2.trans (hV.below hFw hb2.size), cell_of_row V _ 1 _ _ _ hxV, cell_of_row V _ 2 _ _ _ hxV⟩
  have hliveV : ∀ V, Turns F w2 V → ListAt V A2 L := fun V hV => ListAt.of (live_after hlive hV (fun q _ e => .inl e) (fun q e e' => (hown q e).1 e'))
  obtain ⟨nl, hnlen⟩ : ∃ nl, nl = L.length := ⟨_, rfl⟩
  have HST := Lib.hid hst; clear hst hD hlive hown hfd hx2 HX1
  have HKEEP := Lib.hid hkeep; clear hkeep
  have HLV := Lib.hid hliveV; clear hliveV
  have HMAP := Lib.hid hmap; clear hmap
  have HFW := Lib.hid hFw; clear hFw hF
  rw [← hnlen]
  have HNL := Lib.hid hnlen; clear hnlen
  have hi2 := inv_settle HINV.out bits
  have hch2 : chainD (g.d.settle bits) s r = g.ts := chain_whole HINV.out (by omega) _ (by rw [Dk.size_settle]; exact HINV.out.size) (fun i _ _ => Dk.read_settle _ HINV.out.ok bits i)
  have hgood2 : okH ((g.d.settle bits).read s) r = true := by
    have := hi2.head
    rw [head_read hi2.ok hi2.free hi2.calm, hi2.head]
    exact head_good hi2 (by show g.seq < _; omega)
  have hcc := crash_chain hi2 (by show g.seq < _; omega) bits
  have hgood3 : okH (((g.d.settle bits).crash bits).read s) r = true := by
    rw [crash_head hi2 bits]
    exact head_good hi2 (by show g.seq < _; omega)
  have hsz2 : (g.d.settle bits).stable.length = nb := by rw [Dk.size_settle]; exact HINV.out.size
  have hsz3 : ((g.d.settle bits).crash bits).stable.length = nb := by rw [Dk.size_crash]; exact hsz2
  obtain ⟨d2, hd2⟩ : ∃ d2, d2 = g.d.settle bits := ⟨_, rfl⟩
  rw [← hd2] at HST hch2 hgood2 hsz2
  obtain ⟨d3, hd3⟩ : ∃ d3, d3 = d2.crash bits := ⟨_, rfl⟩
  have hcc' : (chainD d3 s r).length ≤ g.ts.length ∧ ∀ i t, (chainD d3 s r)[i]? = some t → t.seq = s0 + i := by rw [hd3, hd2]; exact hcc
  have hgood3' : okH (d3.read s) r = true := by rw [hd3, hd2]; exact hgood3
  have hsz3' : d3.stable.length = nb := by rw [hd3, hd2]; exact hsz3
  have hseqs := HINV.out.seqs
  have HSEQ := Lib.hid hseqs; clear hseqs
  have HCC := Lib.hid hcc'; clear hcc hcc' hgood3 hsz3 hi2
  have HCH2 := Lib.hid hch2; clear hch2
  have HG2 := Lib.hid hgood2; clear hgood2
  have HG3 := Lib.hid hgood3'; clear hgood3'
  have HD3 := Lib.hid hd3; clear hd3 hd2
  have HB2 := Lib.hid hb2; clear hb2
  go_wp2_with fail
  with_reducible refine HST.out.mono ?_
  rintro e w3 ⟨rfl, hh3⟩
  clear HST
  obtain ⟨-, q1, q2⟩ := HKEEP.out w3 hh3.turns
  have hz3 := hh3.turns.size
  have hsc : Calls Try.prog 50 #[.pointer (some ⟨p, 0, none⟩), .int .i64 (s : Int), .int .i64 (l : Int)] w3 (ScanAt w3 nb s r g.ts) := by
    obtain ⟨F3, hD3, hF3, -⟩ := hh3
    have := scan_ok s l d2 p cd F3 w3 hD3 (by omega) h8 hl2 (by omega) (HR.out ▸ HG2.out)
    rw [← HR.out, HCH2.out, hsz2] at this
    exact this
  have HSC := Lib.hid hsc; clear hsc
  have HH3 := Lib.hid hh3; clear hh3
  go_wp2_with fail
  with_reducible refine HSC.out.mono ?_
  rintro e w4 ⟨A4, c4, L4, rfl, hlive4, hmap4, -, hb4⟩
  clear HSC q1 q2
  have hh4 := HH3.out.later hb4
  have hts : g.ts.length = nl := by rw [← HMAP.out, List.length_map, HNL.out]
  have hnl2 : nl ≤ 1024 := by have := HINV.out.place.2.2.2; have := HINV.out.room; have h5 : g.ts.length ≤ sumT g.ts := len_sum g.ts; omega
  rw [hts] at hlive4 ⊢
  have hsa := sameall_eq w4 A4 A2 nl c4 c2 L4 L (ListAt.of hlive4) (HLV.out w4 hh4.turns) hlive4.cnt (by rw [hmap4, HMAP.out]) (by omega)
  have HSA := Lib.hid hsa; clear hsa hlive4 hmap4
  have HH4 := Lib.hid hh4; clear hh4 HH3
  have HTS := Lib.hid hts; clear hts
  go_wp2_with fail
  with_reducible refine HSA.out.mono ?_
  rintro e w5 ⟨rfl, hb5⟩
  clear HSA
  have hh5 := HH4.out.later hb5
  have hcr := Rp.Homing.crash hh5 (by omega) Ab bn bc w.heap.size bits (fun V hV => HBT.out.below ((HKEEP.out w5 hh5.turns).1.trans hV)) HFW.out (by omega) hbn
  rw [← HD3.out] at hcr
  have HCR := Lib.hid hcr; clear hcr hh5 hb5 HH4
  go_wp2_with fail
  with_reducible refine HCR.out.mono ?_
  rintro e w6 ⟨rfl, hh6⟩
  clear HCR
  obtain ⟨-, q1, q2⟩ := HKEEP.out w6 hh6.turns
  have hsc : Calls Try.prog 50 #[.pointer (some ⟨p, 0, none⟩), .int .i64 (s : Int), .int .i64 (l : Int)] w6 (ScanAt w6 nb s r (chainD d3 s r)) := by
    obtain ⟨F6, hD6, hF6, -⟩ := hh6
    have := scan_ok s l d3 p 0 F6 w6 hD6 (by omega) h8 hl2 (by omega) (HR.out ▸ HG3.out)
    rw [← HR.out, hsz3'] at this
    exact this
  obtain ⟨ys, hys⟩ : ∃ ys, ys = chainD d3 s r := ⟨_, rfl⟩
  rw [← hys] at hsc HCC
  have HSC := Lib.hid hsc; clear hsc hys
  have HH6 := Lib.hid hh6; clear hh6
  obtain ⟨ny, hny⟩ : ∃ ny, ny = ys.length := ⟨_, rfl⟩
  have hnyl : ny ≤ nl := by have := HCC.out.1; have := HTS.out; omega
  have HNY := Lib.hid hny; clear hny
  have hcmp : decide ((nl : Int) < (ny : Int)) = false := decide_eq_false (by omega)
  have hcmp2 : decide (nl < ny) = false := decide_eq_false (by omega)
  go_wp2_with fail
  with_reducible refine HSC.out.mono ?_
  rintro e w7 ⟨A7, c7, L7, rfl, hlive7, hmap7, -, hb7⟩
  clear HSC q1 q2
  have hT7 := (HH6.out.later hb7).turns
  have hB7 := (HKEEP.out w7 hT7).1
  have hl7 : ListAt w7 A7 L7 := ListAt.of hlive7
  have hl0 : ListAt w7 A2 L := HLV.out w7 hT7
  have hlen7 : L7.length = ny := by rw [HNY.out, ← hmap7, List.length_map]
  rw [← HNY.out] at hlive7 ⊢
  have HL7 := Lib.hid hl7; clear hl7 hlive7
  have HL0 := Lib.hid hl0; clear hl0 HLV
  have HM7 := Lib.hid hmap7; clear hmap7
  have HLN7 := Lib.hid hlen7; clear hlen7
  have HB7 := Lib.hid hB7; clear hB7 hb7 hT7 HH6
  clear HKEEP HFW HG2 HG3 HD3 HCH2
  go_wp2_with fail
  go_loopw [14] (fun iv wr => ∃ k : Nat, k ≤ ny ∧ iv = .int .i64 (k : Int) ∧ Below w7.heap.size w7 wr) (fun iv _ => ny - (intOf iv).toNat)
  case atStart => exact ⟨0, Nat.zero_le _, rfl, Below.refl _ _⟩
  case round =>
    obtain ⟨k, hk, rfl, hb⟩ := hrel
    rcases Nat.lt_or_ge k ny with hlt | hge
    · obtain ⟨x, hx⟩ : ∃ x, L7[k]? = some x := ⟨_, List.getElem?_eq_getElem (by rw [HLN7.out]; exact hlt)⟩
      obtain ⟨y, hy⟩ : ∃ y, L[k]? = some y := ⟨_, List.getElem?_eq_getElem (by rw [← HNL.out]; omega)⟩
      have hxs : x.t.seq = s0 + k := HCC.out.2 k x.t (by rw [← HM7.out, List.getElem?_map, hx]; rfl)
      have hys : y.t.seq = s0 + k := HSEQ.out k y.t (by rw [← HMAP.out, List.getElem?_map, hy]; rfl)
      have hseq : (x.t.seq : Int) = (y.t.seq : Int) := by rw [hxs, hys]
      have hbd : Below w7.heap.size w7 wr.drew := hb.trans ((Below.refl _ wr).drew.mono hb.size)
      obtain ⟨ga, rfl, a0, a1, a2, at1⟩ := HL7.out wr.drew hbd k x hx
      obtain ⟨gb, rfl, b0, b1, b2, bt1⟩ := HL0.out wr.drew hbd k y hy
      have hsm := same_any x.t y.t x.Aw x.Ar _ x.cw _ x.cr _ y.Aw y.Ar _ y.cw _ y.cr _ wr.drew at1 (Nat.le_refl _) bt1 (Nat.le_refl _) (by have := at1.fits.2.1; omega) (by have := at1.fits.2.2.2; omega)
      have h2 : ∀ V, Below wr.drew.heap.size wr.drew V → (V.cell? ⟨ga, k * 3, none⟩ = some (.int .u64 (x.t.seq : Int)) ∧ V.cell? ⟨ga, k * 3 + 1, none⟩ = some (.slice x.Aw x.t.ws.length x.cw) ∧ V.cell? ⟨ga, k * 3 + 2, none⟩ = some (.slice x.Ar x.t.rs.length x.cr)) ∧ V.cell? ⟨gb, k * 3, none⟩ = some (.int .u64 (y.t.seq : Int)) ∧ V.cell? ⟨gb, k * 3 + 1, none⟩ = some (.slice y.Aw y.t.ws.length y.cw) ∧ V.cell? ⟨gb, k * 3 + 2, none⟩ = some (.slice y.Ar y.t.rs.length y.cr) := fun V hV =>
        ⟨⟨(hV.cell (p := ⟨ga, k * 3, none⟩) (block_lt_of_cell a0)).trans a0, (hV.cell (p := ⟨ga, k * 3 + 1, none⟩) (block_lt_of_cell a1)).trans a1, (hV.cell (p := ⟨ga, k * 3 + 2, none⟩) (block_lt_of_cell a2)).trans a2⟩,
          (hV.cell (p := ⟨gb, k * 3, none⟩) (block_lt_of_cell b0)).trans b0, (hV.cell (p := ⟨gb, k * 3 + 1, none⟩) (block_lt_of_cell b1)).trans b1, (hV.cell (p := ⟨gb, k * 3 + 2, none⟩) (block_lt_of_cell b2)).trans b2⟩
      have hS := h2 wr.drew (Below.refl _ _)
      have H2 := Lib.hid h2; clear h2
      have HSM := Lib.hid hsm; clear hsm
      have HSQ := Lib.hid hseq; clear hseq
      have hkk : (k : Int) < (ny : Int) := by omega
      have hkl : (k : Int) < (nl : Int) := by omega
      have HB := Lib.hid hb; clear hb hbd
      clear a0 a1 a2 b0 b1 b2 at1 bt1 hxs hys hx hy
      obtain ⟨bb, hbb⟩ : ∃ bb, bb = sameB x.t y.t := ⟨_, rfl⟩
      rw [← hbb] at HSM
      clear hbb
      cases bb
      all_goals
        go_wp2_with fail
        go_region_held (fun V => (V.cell? ⟨ga, k * 3, none⟩ = some (.int .u64 (x.t.seq : Int)) ∧ V.cell? ⟨ga, k * 3 + 1, none⟩ = some (.slice x.Aw x.t.ws.length x.cw) ∧ V.cell? ⟨ga, k * 3 + 2, none⟩ = some (.slice x.Ar x.t.rs.length x.cr)) ∧ V.cell? ⟨gb, k * 3, none⟩ = some (.int .u64 (y.t.seq : Int)) ∧ V.cell? ⟨gb, k * 3 + 1, none⟩ = some (.slice y.Aw y.t.ws.length y.cw) ∧ V.cell? ⟨gb, k * 3 + 2, none⟩ = some (.slice y.Ar y.t.rs.length y.cr)) (assumption)
          (first
            | (go_at_call 52
               with_reducible refine HSM.out.mono ?_
               rintro e w9 ⟨rfl, hb9⟩
               have hS9 := H2.out w9 hb9
               have HB9 := Lib.hid (HB.out.trans (((Below.refl _ wr).drew.trans hb9).mono HB.out.size))
               clear hb9))
      · clear hS
        obtain ⟨⟨z0, -, -⟩, y0, -, -⟩ := hS9
        rw [HSQ.out] at z0
        have hT9 : w9.drew.cell? ⟨ga, k * 3, none⟩ = some (.int .u64 (y.t.seq : Int)) ∧ w9.drew.cell? ⟨gb, k * 3, none⟩ = some (.int .u64 (y.t.seq : Int)) := ⟨z0, y0⟩
        clear z0 y0
        go_wp2_with fail
        go_region_held (fun V : World => V.cell? ⟨ga, k * 3, none⟩ = some (.int .u64 (y.t.seq : Int)) ∧ V.cell? ⟨gb, k * 3, none⟩ = some (.int .u64 (y.t.seq : Int))) (assumption) (fail)
        all_goals
          go_wp2
          go_ret
          exact ⟨by simp, HB7.out.trans (HB9.out.drew.mono HB7.out.size)⟩
      · clear hS hS9
        go_wp2
        go_roundw
        case rel => exact ⟨k + 1, by omega, by go_num, HB9.out⟩
        case measure => simp [intOf]; omega
    · obtain rfl : k = ny := by omega
      have HB := Lib.hid hb; clear hb
      go_wp2
      go_ret
      exact ⟨rfl, HB7.out.trans (HB.out.mono HB7.out.size)⟩

theorem walks : Walks 9 Try.f9 All := by
  intro H enc W base args ds p hval hA hsz _
  rw [Try.params9] at hA hval hsz
  obtain ⟨v0, vs0, d0, ds0, p0, q0, hargs, rfl, rfl, h0, r0⟩ := trodAll_cons hA
  obtain ⟨v1, vs1, d1, ds1, p1, q1, rfl, rfl, rfl, h1, r1⟩ := trodAll_cons r0
  obtain ⟨v2, vs2, d2, ds2, p2, q2, rfl, rfl, rfl, h2, r2⟩ := trodAll_cons r1
  obtain ⟨rfl, rfl, rfl⟩ := trodAll_nil r2
  obtain rfl : args = #[v0, v1, v2] := by cases args; simp_all
  obtain ⟨B, S, L, rfl⟩ := area5_by_value (hval 0 _ v0 rfl rfl) h0
  have hw : (d1.weights Try.prog 70).all (· ≤ reachBytes) = true := List.all_eq_true.2 fun x hx => List.all_eq_true.1 hsz _ (DataW.weights_mem_each (j := 1) rfl rfl x hx)
  obtain ⟨A, n, c, xs, rfl, hx, hn, hc⟩ := txs_of (hval 1 _ v1 rfl rfl) h1 hw
  obtain ⟨Ab, bn, bc, bits, rfl, hb, hbn, hbc⟩ := bits_of (hval 2 _ v2 rfl rfl) h2
  cases hm : mayB B
  · exact walk_bad B S L _ _ W (fun w1 => filled_none B S L _ w1 hm)
  · simp [mayB] at hm
    obtain ⟨nb, rfl⟩ : ∃ nb : Nat, B = (nb : Int) := ⟨B.toNat, by omega⟩
    cases ha : okArea nb S L
    · exact walk_bad _ S L _ _ W (fun w1 => filled_not nb S L _ w1 (by omega) (by omega) ha)
    · simp [okArea] at ha
      obtain ⟨s, rfl⟩ : ∃ s : Nat, S = (s : Int) := ⟨S.toNat, by omega⟩
      obtain ⟨l, rfl⟩ : ∃ l : Nat, L = (l : Int) := ⟨L.toNat, by omega⟩
      exact walk_good nb s l A n c xs Ab bn bc bits W hx hn hc hb (by omega) (by omega) (by omega) (by omega) (by omega)

set_option maxRecDepth 100000 in
theorem proved : Rows.ReplayCrashSaid :=
  OpenClaim.holds_of_wide 9 Try.f9 rfl rfl rfl rfl rfl rfl rfl ⟨rfl, rfl, rfl, rfl, rfl⟩ rfl rfl rfl rfl rfl (by kernel_rfl) Try.func9 (by kernel_rfl)
    (of_decide_eq_true (by kernel_rfl)) (by unfold Func.isWrapper; first | (rw [if_pos (by decide +kernel)]; kernel_rfl) | (rw [if_neg (by decide +kernel)]; exact ⟨rfl, rfl⟩))
    (fun os started H enc _ => lifted (s := Rows.replayCrashSpec) walks (by kernel_rfl) rfl rfl (fun H ds hl => by match ds, hl with | [d1, d2, d3], _ => rfl) (by kernel_rfl) Try.func9 os started H enc
      (ChangeSpec.witness6 (enc := enc) (C := Try.checked) false ⟨#[], #[.agg #[.int .i64 0, .int .i64 0, .int .i64 0], .slice none 0 0, .slice none 0 0], []⟩ 8 (by kernel_rfl) (by kernel_rfl) (by kernel_rfl) (by kernel_rfl)))
#print axioms proved
end Go.Proofs.Ytelnoibfamcnmaa.ReplayCrash
