/- Contract of the program's told, where something is told: the record in memory of the call's own. -/
import Derived.Test.YtjbelbhcdbbelaaRcTold
import Derived.Test.YtjbelbhcdbbelaaRcHeld
import Derived.Deep.RegionHeld3
import Derived.IntWalk
import Derived.Great.BuildSlice
import Derived.Deep.RegionLaw
import Derived.BigCall
namespace Go.Proofs.Ytjbelbhcdbbelaa.Rec
set_option maxRecDepth 20000
open Go.RowKit
open Go.Proofs.Ytjbelbhcdbbelaa.Mem Go.Proofs.Ytjbelbhcdbbelaa.Crc

def Gold (w : World) (bs : List UInt8) (seq : Nat) (e : Ending) (w' : World) : Prop := ∃ Aw cw Ar cr vs,
  e = .returned (.tuple #[.agg #[.int .u64 (seq : Int), .slice Aw (nW bs) cw, .slice Ar (nR bs) cr], .bool true]) ∧ OwnsT w' w.heap.size (tellL bs seq) Aw cw Ar cr vs ∧ Below w.heap.size w w'

/-- While it is told. -/
structure Telling (w wr : World) (p base seq : Nat) (Aw : Option Addr) (nw cw : Nat) (ws : List Wt) (vs : List Value) (Ar : Option Addr) (nr cr : Nat) (rs : List Int) : Prop where
  res : wr.heap[w.heap.size]? = some (.cells #[.int .u64 0, .slice none 0 0, .slice none 0 0] 26 (0, 0))
  box : wr.heap[p]? = some (.cells #[.int .u64 (seq : Int), .slice Aw nw cw, .slice Ar nr cr] 26 (0, 0))
  own : OwnsW wr base Aw nw cw ws vs
  ints : wr.ownsRow base 3 1 (.slice Ar nr cr) nr (rs.map (Value.int .i64))
  rl : rs.length = nr
  below : Below w.heap.size w wr
  size : base ≤ wr.heap.size

theorem Telling.nextW {w wr w5 w6 : World} {p base seq k cw g cap c5 : Nat} {Aw A5 : Option Addr} {bs D : List UInt8} {vs : List Value} {K : Nat} {N0 : Int}
    (h : Telling w wr p base seq Aw k cw ((List.range k).map (wtAt bs)) vs none 0 0 []) (hpb : p < base) (hwp : w.heap.size < p) (hb5 : Below wr.drew.heap.size wr.drew w5)
    (hbA : Below w5.heap.size w5 (w5.alloc (.cells #[.int .i64 N0, .slice A5 256 c5] 40)))
    (how : OwnsW (w5.alloc (.cells #[.int .i64 N0, .slice A5 256 c5] 40)) base Aw k cw ((List.range k).map (wtAt bs)) vs)
    (ho5 : (w5.alloc (.cells #[.int .i64 N0, .slice A5 256 c5] 40)).ownsRow wr.drew.heap.size 5 1 (.slice A5 256 c5) (outData K D).length ((outData K D).map byteV))
    (ho6 : w6.ownsRow base 40 2 (.slice (some ⟨g, 0, none⟩) (k + 1) cap) (k + 1) (wcells ((List.range k).map (wtAt bs)) vs ++ [.int .i64 N0, .slice A5 256 c5]))
    (hg6 : (w5.alloc (.cells #[.int .i64 N0, .slice A5 256 c5] 40)).grownBy w6 (Value.slice Aw k cw).ownBlock)
    (hbx6 : w6.heap[p]? = some (.cells #[.int .u64 (seq : Int), .slice Aw k cw, .slice none 0 0] 26 (0, 0)))
    (hN0 : N0 = (outNum K : Int)) (hwt : wtAt bs k = ((outNum K : Int), outData K D)) :
    Telling w (w6.setCell ⟨p, 1, none⟩ (.slice (some ⟨g, 0, none⟩) (k + 1) cap)) p base seq (some ⟨g, 0, none⟩) (k + 1) cap ((List.range (k + 1)).map (wtAt bs)) (vs ++ [.slice A5 256 c5]) none 0 0 [] := by
  have hsz := h.size
  have hbs := h.below.size
  have e5 : wr.drew.heap.size = wr.heap.size := rfl
  have h5s := hb5.size
  have hAs := hbA.size
  have hsame : ∀ q, q < base → q < wr.heap.size → w6.heap[q]? = wr.heap[q]? := fun q hq hq2 => by
    rw [hg6.block q (by omega) (fun e => by have := (World.ownsRow.lt how.row q e.symm).1; omega), hbA.block q (by omega), hb5.block q (by omega)]
    rfl
  have hres : (w6.setCell ⟨p, 1, none⟩ (.slice (some ⟨g, 0, none⟩) (k + 1) cap)).heap[w.heap.size]? = some (.cells #[.int .u64 0, .slice none 0 0, .slice none 0 0] 26 (0, 0)) := by
    rw [Below.heap_setCell _ _ _ _ (by show w.heap.size ≠ p; omega), hsame _ (by omega) (by omega)]; exact h.res
  have hrange : (List.range (k + 1)).map (wtAt bs) = (List.range k).map (wtAt bs) ++ [wtAt bs k] := by rw [List.range_succ, List.map_append]; rfl
  have hv : Owned (w5.alloc (.cells #[.int .i64 N0, .slice A5 256 c5] 40)) base (.slice A5 256 c5) (wtAt bs k).2 := by
    rw [hwt]; exact Owned.mono ho5 (by omega)
  have hnew : ∀ u ∈ vs, ∀ q, u.ownBlock = some q → (Value.slice A5 256 c5).ownBlock ≠ some q := fun u hu q hq e => by
    obtain ⟨j, hj, rfl⟩ := List.getElem_of_mem hu
    have hjl : j < ((List.range k).map (wtAt bs)).length := by rw [← h.own.len]; exact hj
    have h1 := (World.ownsRow.lt (h.own.data j _ _ (List.getElem?_eq_getElem hjl) (List.getElem?_eq_getElem hj)) q hq).2
    have h2 := (World.ownsRow.lt ho5 q e).1
    omega
  have hmore := OwnsW.more how (wtAt bs k) (.slice A5 256 c5) hv hnew (w' := w6) (g := g) (cap := cap) (by rw [hwt]; rw [hN0] at ho6; exact ho6) hg6
  refine ⟨hres, ?_, ?_, World.ownsRow_nil _ _ _ _, rfl, ?_, ?_⟩
  · rw [heap_setCell_same w6 p 1 _ _ _ hbx6]; rfl
  · rw [hrange]; exact hmore.kept (Kept.cell hpb)
  · have hb : Below w.heap.size w w6 := ((h.below.drew.trans (hb5.mono (by omega))).trans (hbA.mono (by omega))).grown hg6 (by omega) (fun q e => by have := (World.ownsRow.lt how.row q e).1; omega)
    exact hb.setCell (by show w.heap.size ≤ p; omega) _
  · have := hg6.size
    show base ≤ (w6.setCell _ _).heap.size
    simp [World.setCell]; omega

theorem Telling.nextR {w wr w6 : World} {p base seq k j cw cr g cap : Nat} {Aw Ar : Option Addr} {bs : List UInt8} {WS : List Wt} {vs : List Value} {K : Nat}
    (h : Telling w wr p base seq Aw k cw WS vs Ar j cr ((List.range j).map (rvAt bs k))) (hpb : p < base) (hwp : w.heap.size < p)
    {VV : World} (hbA : Below wr.heap.size wr VV)
    (how : VV.ownsRow base 3 1 (.slice Ar j cr) j (((List.range j).map (rvAt bs k)).map (Value.int .i64)))
    (ho6 : w6.ownsRow base 3 1 (.slice (some ⟨g, 0, none⟩) (j + 1) cap) (j + 1) (((List.range j).map (rvAt bs k)).map (Value.int .i64) ++ [.int .i64 (K : Int)]))
    (hg6 : VV.grownBy w6 (Value.slice Ar j cr).ownBlock)
    (hbx6 : w6.heap[p]? = some (.cells #[.int .u64 (seq : Int), .slice Aw k cw, .slice Ar j cr] 26 (0, 0)))
    (hrv : rvAt bs k j = (K : Int)) :
    Telling w (w6.setCell ⟨p, 2, none⟩ (.slice (some ⟨g, 0, none⟩) (j + 1) cap)) p base seq Aw k cw WS vs (some ⟨g, 0, none⟩) (j + 1) cap ((List.range (j + 1)).map (rvAt bs k)) := by
  have hsz := h.size
  have hbs := h.below.size
  have e5 : wr.drew.heap.size = wr.heap.size := rfl
  have hAs := hbA.size
  have hkeep : ∀ q, q < wr.heap.size → (Value.slice Ar j cr).ownBlock ≠ some q → w6.heap[q]? = wr.heap[q]? := fun q hq hne => by
    rw [hg6.block q (by omega) (fun e => hne e.symm), hbA.block q hq]
  have hnot : ∀ q, q < base → (Value.slice Ar j cr).ownBlock ≠ some q := fun q hq e => by have := (World.ownsRow.lt how q e).1; omega
  have hrange : (List.range (j + 1)).map (rvAt bs k) = (List.range j).map (rvAt bs k) ++ [rvAt bs k j] := by rw [List.range_succ, List.map_append]; rfl
  have hrow : ∀ {e : TypeId} {size n : Nat} {v : Value} {xs : List Value}, wr.ownsRow base e size v n xs → e ≠ 3 → w6.ownsRow base e size v n xs := fun {e size n v xs} ho hne => by
    obtain ⟨h1, h2⟩ := ho
    refine ⟨h1, ?_⟩
    rcases h2 with h2 | ⟨q, cp, cur, ev, hq, hh, r⟩
    · exact .inl h2
    · refine .inr ⟨q, cp, cur, ev, hq, (hkeep q (Array.getElem?_eq_some_iff.1 hh).1 fun e' => ?_).trans hh, r⟩
      obtain ⟨cur', h3⟩ := row_type h.ints e'
      rw [hh] at h3
      injection h3 with h3
      have h4 : e = 3 := by injection h3
      exact hne h4
  refine ⟨?_, ?_, ?_, ?_, by simp, ?_, ?_⟩
  · rw [Below.heap_setCell _ _ _ _ (by show w.heap.size ≠ p; omega), hkeep _ (by omega) (hnot _ (by omega))]; exact h.res
  · rw [heap_setCell_same w6 p 2 _ _ _ hbx6]; rfl
  · have ho : OwnsW w6 base Aw k cw WS vs := ⟨h.own.cnt, h.own.len, hrow h.own.row (by decide), fun i x v hx hv => hrow (h.own.data i x v hx hv) (by decide), h.own.apart⟩
    exact ho.kept (Kept.cell hpb)
  · rw [hrange, List.map_append]
    refine ownsRow_kept ?_ (Kept.cell hpb)
    rw [hrv]
    exact ho6
  · have hb : Below w.heap.size w w6 := (h.below.trans (hbA.mono (by omega))).grown hg6 (by omega) (fun q e => by have := (World.ownsRow.lt how q e).1; omega)
    exact hb.setCell (by show w.heap.size ≤ p; omega) _
  · have := hg6.size
    show base ≤ (w6.setCell _ _).heap.size
    simp [World.setCell]; omega

set_option maxHeartbeats 4000000 in
set_option maxRecDepth 100000 in
theorem told_some (A : Option Addr) (N c B : Nat) (bs : List UInt8) (seq : Nat) (w : World) (h : Holds w B A N bs) (hB : B ≤ w.heap.size) (hc : N ≤ c) (hm : c ≤ 9223372036854775807) (hlk : looks bs = true) (hN : 512 ≤ N) (hsum : nW bs + nR bs ≤ 58) (hlen : (nW bs + 2) * 256 ≤ N) :
    Calls Try.prog 14 #[.slice A N c, .int .u64 (seq : Int)] w (Gold w bs seq) := by
  have hb0 := (Below.refl w.heap.size w).alloc (Nat.le_refl _) (.cells #[.int .u64 0, .slice none 0 0, .slice none 0 0] 26)
  have hbk := heap_alloc_new w (.cells #[.int .u64 0, .slice none 0 0, .slice none 0 0] 26)
  have hs0 : w.heap.size < (w.alloc (.cells #[.int .u64 0, .slice none 0 0, .slice none 0 0] 26)).heap.size := by simp
  have h1 := h.below (hb0.mono hB)
  have H1 := Lib.hid h1; clear h1
  have HB0 := Lib.hid hb0; clear hb0
  have HBK := Lib.hid hbk; clear hbk
  have HL := Lib.hid hlk; clear hlk
  have H0 := Lib.hid h; clear h
  go_enter Try.func14, Try.ntmps14
  go_wp2_with fail
  generalize w.alloc (.cells #[.int .u64 0, .slice none 0 0, .slice none 0 0] 26) = W at H1 HB0 HBK hs0 ⊢
  refine (marked_any A N c B bs W H1.out (by omega) hc).mono ?_
  rintro e W1 ⟨rfl, hb1⟩
  rw [HL.out]
  have hbk1 := (hb1.block _ hs0).trans HBK.out
  have HB1 : Hid (Below w.heap.size w W1) := Lib.hid (HB0.out.trans (hb1.mono (by omega)))
  have q0 : W1.cell? ⟨w.heap.size, 0, none⟩ = some (.int .u64 0) := cell_of_row W1 w.heap.size 0 _ _ _ hbk1
  have q1 : W1.cell? ⟨w.heap.size, 1, none⟩ = some (.slice none 0 0) := cell_of_row W1 w.heap.size 1 _ _ _ hbk1
  have q2 : W1.cell? ⟨w.heap.size, 2, none⟩ = some (.slice none 0 0) := cell_of_row W1 w.heap.size 2 _ _ _ hbk1
  have f0 := frozen_of_row W1 w.heap.size 0 _ _ hbk1
  have f1 := frozen_of_row W1 w.heap.size 1 _ _ hbk1
  have f2 := frozen_of_row W1 w.heap.size 2 _ _ hbk1
  have h2 := H1.out.below (hb1.mono (show B ≤ W.heap.size by omega))
  have H2 := Lib.hid h2; clear h2
  have HBK1 := Lib.hid hbk1
  have HS1 : Hid (w.heap.size < W1.heap.size) := Lib.hid (by have := hb1.size; omega)
  clear hb1 hbk1
  have hN2 : ¬ (N : Int) < 512 := by omega
  have hw1 := nW_lt bs
  have hr1 := nR_lt bs
  have hwe : numFrom bs 16 2 = nW bs := rfl
  have hre : numFrom bs 18 2 = nR bs := rfl
  have HWE := Lib.hid hwe; clear hwe
  have HRE := Lib.hid hre; clear hre
  obtain ⟨nw, hnw⟩ : ∃ n, n = nW bs := ⟨_, rfl⟩
  obtain ⟨nr, hnr⟩ : ∃ n, n = nR bs := ⟨_, rfl⟩
  rw [← hnw] at hw1 HWE hsum hlen
  rw [← hnr] at hr1 HRE hsum
  have HNWE := Lib.hid hnw; clear hnw
  have HNRE := Lib.hid hnr; clear hnr
  go_wp2_with fail
  refine (numberV_any 16 2 A N c B bs W1 16 2 rfl rfl H2.out hc hm (by omega) (by omega) (by omega)).mono ?_
  rintro e w' ⟨rfl, rfl⟩
  rw [HWE.out]
  go_wp2_with fail
  refine (numberV_any 18 2 A N c B bs W1 18 2 rfl rfl H2.out hc hm (by omega) (by omega) (by omega)).mono ?_
  rintro e w' ⟨rfl, rfl⟩
  rw [HRE.out]
  have hs1 : ¬ (58 : Int) < (nw : Int) + (nr : Int) := by omega
  have hd1 : decide ((58 : Int) < (nw : Int) + (nr : Int)) = false := by simpa using hs1
  have hs2 : ¬ (N : Int) < ((nw : Int) + 2) * 256 := by omega
  clear q0 q1 q2 f0 f1 f2
  obtain ⟨W2, hW2⟩ : ∃ W, W = W1.alloc (.cells #[.int .u64 (seq : Int), .slice none 0 0, .slice none 0 0] 26) := ⟨_, rfl⟩
  have hzw : w.heap.size < W1.heap.size := by have := HB1.out.size; have := HS1.out; omega
  obtain ⟨base, hbase⟩ : ∃ b, b = W1.heap.size + 1 := ⟨_, rfl⟩
  obtain ⟨p, hp⟩ : ∃ p, p = W1.heap.size := ⟨_, rfl⟩
  have hT2 : Telling w W2 p base seq none 0 0 [] [] none 0 0 [] := by
    have hb2 : Below W1.heap.size W1 W2 := by rw [hW2]; exact (Below.refl _ _).alloc (Nat.le_refl _) _
    refine ⟨(hb2.block _ hzw).trans HBK1.out, by rw [hW2, hp]; exact heap_alloc_new W1 _, OwnsW.empty _ _, World.ownsRow_nil _ _ _ _, rfl, HB1.out.trans (hb2.mono (by omega)), by rw [hW2, hbase]; simp⟩
  have hB2 : Below B W1 W2 := by rw [hW2]; exact (Below.refl _ _).alloc (by omega) _
  have h22 := H2.out.below hB2
  have HT2 := Lib.hid hT2; clear hT2
  have H22 := Lib.hid h22; clear h22 hB2
  have hpb : p < base := by omega
  have hwp : w.heap.size < p := by omega
  have hBp : B ≤ w.heap.size := hB
  go_wp2_with fail
  rw [← hW2, ← hp]
  have HW2 := Lib.hid hW2; clear hW2
  have HBS := Lib.hid hbase; clear hbase
  have HP := Lib.hid hp; clear hp
  clear hzw
  go_loopw [9, 10, 43] (fun _ _ i wr => ∃ (k : Nat) (Aw : Option Addr) (cw : Nat) (vs : List Value), k ≤ nw ∧ i = .int .i64 k ∧ Telling w wr p base seq Aw k cw ((List.range k).map (wtAt bs)) vs none 0 0 []) (fun _ _ i _ => nw - (intOf i).toNat)
  case atStart => exact ⟨0, none, 0, [], by omega, rfl, HT2.out⟩
  case round =>
    obtain ⟨k, Aw, cw, vs, hk, rfl, hT⟩ := hrel
    have HT := Lib.hid hT; clear hT
    have hk0 : (0 : Int) ≤ (k : Int) := by omega
    have hh := H0.out.below (HT.out.below.mono hB)
    obtain ⟨b, off, hA⟩ := Holds.addr hh (by omega)
    subst hA
    have HH := Lib.hid hh; clear hh
    by_cases hlt : k < nw
    · have hk1 : (k : Int) < (nw : Int) := by omega
      have hb1 : ((k : Int) + 2) * 256 ≤ (N : Int) := by omega
      have hb2 : ((k : Int) + 2) * 256 ≤ (c : Int) := by omega
      have hk58 : k < 58 := by omega
      have hlen256 : (k + 2) * 256 - (k + 1) * 256 = 256 := by omega
      have HD : Hid (Holds wr.drew B (some ⟨b, off + (k + 1) * 256, none⟩) 256 ((bs.drop ((k + 1) * 256)).take 256)) := Lib.hid (Holds.drop (w := wr.drew) HH.out (by omega))
      have HHd : Hid (Holds wr.drew B (some ⟨b, off, none⟩) N bs) := HH
      obtain ⟨K, hK⟩ : ∃ K, K = numFrom bs (20 + 4 * k) 4 := ⟨_, rfl⟩
      have hKlt : K < 4294967296 := by rw [hK]; exact numFrom_lt _ _ _
      obtain ⟨D, hD⟩ : ∃ D, D = (bs.drop ((k + 1) * 256)).take 256 := ⟨_, rfl⟩
      have hwt : wtAt bs k = ((outNum K : Int), outData K D) := by rw [hK, hD]; rfl
      rw [← hD] at HD
      have HK := Lib.hid hK; clear hK hD
      have HWT := Lib.hid hwt; clear hwt
      have p1 : wr.cell? ⟨p, 1, none⟩ = some (.slice Aw k cw) := cell_of_row wr p 1 _ _ _ HT.out.box
      have pd1 : wr.drew.cell? ⟨p, 1, none⟩ = some (.slice Aw k cw) := p1
      have e1 : IntKind.i64.wrap (4 * (k : Int)) = 4 * (k : Int) := IntWalk.i64_in _ (by omega)
      have e2 : IntKind.i64.wrap (20 + 4 * (k : Int)) = 20 + 4 * (k : Int) := IntWalk.i64_in _ (by omega)
      have hszr : B ≤ wr.drew.heap.size := by have := HT.out.below.size; show B ≤ wr.heap.size; omega
      have hbr : base ≤ wr.drew.heap.size := HT.out.size
      obtain ⟨i0, hi, hz0, hz1, hz2⟩ := info_parts info_wt
      have HI := Lib.hid hi; clear hi
      have HZ0 := Lib.hid hz0; clear hz0
      have HZ1 := Lib.hid hz1; clear hz1
      have HZ2 := Lib.hid hz2; clear hz2
      obtain ⟨N0, hN0⟩ : ∃ x : Int, x = (outNum K : Int) := ⟨_, rfl⟩
      have HN0 := Lib.hid hN0; clear hN0
      go_wp2_with fail
      rw [hlen256]
      clear hb1 hb2 hlen256
      go_region_law ((first
          | (refine step_call3 (o := ⟨some 60, _, _, _, _, _⟩) rfl 20 _ _ (.tmp 56) (.tmp 59) (.const (.int .i64 4)) _ rfl Try.func20 (by kernel_rfl) rfl (.slice (some ⟨b, off, none⟩) N c) (.int .i64 (20 + 4 * (k : Int))) (.int .i64 4) (by go_simp) (by go_simp) (by go_simp) _ (numberV_any (20 + 4 * (k : Int)) 4 (some ⟨b, off, none⟩) N c B bs wr.drew (20 + 4 * k) 4 (by omega) rfl HHd.out hc hm (by omega) (by omega) (by omega)) ?_
             rintro e w' ⟨rfl, rfl⟩
             refine ⟨_, rfl, ?_⟩
             rw [← HK.out])
          | (refine step_call2 (o := ⟨some 62, _, _, _, _, _⟩) rfl 21 _ _ (.tmp 60) (.tmp 61) _ rfl Try.func21 (by kernel_rfl) rfl (.int .u64 (K : Int)) (.slice (some ⟨b, off + (k + 1) * 256, none⟩) 256 (c - (k + 1) * 256)) (by go_simp) (by go_simp) _ (write_any K (some ⟨b, off + (k + 1) * 256, none⟩) 256 (c - (k + 1) * 256) B D wr.drew hKlt HD.out (by omega) (by omega) hszr) ?_
             rintro e w5 ⟨A5, c5, rfl, ho5, hb5⟩
             refine ⟨_, rfl, ?_⟩
             rw [← HN0.out]
             have k1 := (hb5.cell (p := ⟨p, 1, none⟩) (by show p < wr.drew.heap.size; omega)).trans pd1
             have hbA := (Below.refl w5.heap.size w5).alloc (Nat.le_refl _) (.cells #[.int .i64 N0, .slice A5 256 c5] 40)
             have k2 := (hbA.cell (p := ⟨p, 1, none⟩) (by have := hb5.size; show p < w5.heap.size; omega)).trans k1
             have hkp : Kept base wr (w5.alloc (.cells #[.int .i64 N0, .slice A5 256 c5] 40)) := Kept.trans (b := w5) (show Kept base wr.drew w5 from Kept.of_below hb5 (Nat.le_refl _)) (Kept.of_below hbA (Nat.le_refl _)) hb5.size
             have HOW := Lib.hid (HT.out.own.kept hkp)
             have HO5 := Lib.hid (World.ownsRow.alloc ho5 (.cells #[.int .i64 N0, .slice A5 256 c5] 40))
             have HB5 := Lib.hid hb5
             have HBA := Lib.hid hbA
             have HNW := Lib.hid (World.news_of_block (w := w5.alloc (.cells #[.int .i64 N0, .slice A5 256 c5] 40)) (heap_alloc_new w5 (.cells #[.int .i64 N0, .slice A5 256 c5] 40)))
             have hb5s : base ≤ (w5.alloc (.cells #[.int .i64 N0, .slice A5 256 c5] 40)).heap.size := by have := hb5.size; simp; omega
             clear ho5 hb5 hbA hkp)
          | (refine step_append_lies (o := ⟨some 64, _, _, _, _, _⟩) _ rfl (.tmp 55) (.tmp 63) 23 rfl base 40 i0 (.agg #[.int .i64 0, .slice none 0 0]) 2 32 Try.underlying23 HI.out HZ0.out HZ1.out HZ2.out rfl (by omega) (.slice Aw k cw) k (wcells ((List.range k).map (wtAt bs)) vs) (by go_simp) HOW.out.row ⟨w5.heap.size, 0, none⟩ 1 1 [.int .i64 N0, .slice A5 256 c5] (by go_simp) rfl HNW.out (by intro u hu; simp at hu; rcases hu with rfl | rfl <;> rfl) (by omega) (by unfold maxLen; omega) (by omega) hb5s _ rfl ?_
             intro g cap w6 hown6 hgrow6 hat6 hlt6
             have hbx6 : w6.heap[p]? = some (.cells #[.int .u64 (seq : Int), .slice Aw k cw, .slice none 0 0] 26 (0, 0)) := by
               rw [hgrow6.block p (by omega) (fun e => by
                 have := (World.ownsRow.lt HOW.out.row p e.symm).1; omega), HBA.out.block p (by have := HB5.out.size; omega), HB5.out.block p (by omega)]
               exact HT.out.box
             have n1 : w6.cell? ⟨p, 1, none⟩ = some (.slice Aw k cw) := cell_of_row w6 p 1 _ _ _ hbx6
             have f1 : w6.frozen? ⟨p, 1, none⟩ = false := frozen_of_row w6 p 1 _ _ hbx6
             have HO6 := Lib.hid hown6
             have HG6 := Lib.hid hgrow6
             have HBX6 := Lib.hid hbx6
             clear hown6 hgrow6 hat6 hlt6 hbx6)))
      all_goals
        have hT7 := Telling.nextW HT.out hpb hwp HB5.out HBA.out HOW.out HO5.out HO6.out HG6.out HBX6.out HN0.out HWT.out
        have HT7 := Lib.hid hT7; clear hT7
        clear n1 f1 p1 pd1 k1 k2 hb5s
        go_wp2
        go_roundw
        case rel => exact ⟨k + 1, _, _, _, by omega, by go_num, HT7.out⟩
        case measure => simp [intOf]; omega
    · obtain rfl : k = nw := by omega
      obtain ⟨WS, hWS⟩ : ∃ l, l = (List.range k).map (wtAt bs) := ⟨_, rfl⟩
      rw [← hWS] at HT
      have HWS := Lib.hid hWS; clear hWS
      go_wp2
      go_loopw [11, 68] (fun _ i wr => ∃ (j : Nat) (Ar : Option Addr) (cr : Nat), j ≤ nr ∧ i = .int .i64 j ∧ Telling w wr p base seq Aw k cw WS vs Ar j cr ((List.range j).map (rvAt bs k))) (fun _ i _ => nr - (intOf i).toNat)
      case atStart => exact ⟨0, none, 0, by omega, rfl, HT.out⟩
      case round =>
        clear HT HH
        obtain ⟨j, Ar, cr, hj, rfl, hT⟩ := hrel
        have HT := Lib.hid hT; clear hT
        have HH := Lib.hid (H0.out.below (HT.out.below.mono hB))
        have hj0 : (0 : Int) ≤ (j : Int) := by omega
        by_cases hlt2 : j < nr
        · have hj1 : (j : Int) < (nr : Int) := by omega
          have HHd : Hid (Holds wr.drew B (some ⟨b, off, none⟩) N bs) := HH
          obtain ⟨K, hK⟩ : ∃ K, K = numFrom bs (20 + 4 * (k + j)) 4 := ⟨_, rfl⟩
          have hKlt : K < 4294967296 := by rw [hK]; exact numFrom_lt _ _ _
          have hrv : rvAt bs k j = (K : Int) := by rw [hK]; rfl
          have HK := Lib.hid hK; clear hK
          have HRV := Lib.hid hrv; clear hrv
          have p2 : wr.cell? ⟨p, 2, none⟩ = some (.slice Ar j cr) := cell_of_row wr p 2 _ _ _ HT.out.box
          have pd2 : wr.drew.cell? ⟨p, 2, none⟩ = some (.slice Ar j cr) := p2
          have e0 : IntKind.i64.wrap ((k : Int) + (j : Int)) = (k : Int) + (j : Int) := IntWalk.i64_in _ (by omega)
          have e1 : IntKind.i64.wrap (4 * ((k : Int) + (j : Int))) = 4 * ((k : Int) + (j : Int)) := IntWalk.i64_in _ (by omega)
          have e2 : IntKind.i64.wrap (20 + 4 * ((k : Int) + (j : Int))) = 20 + 4 * ((k : Int) + (j : Int)) := IntWalk.i64_in _ (by omega)
          have e3 : IntKind.i64.wrap (K : Int) = (K : Int) := IntWalk.i64_in _ (by omega)
          have hszr : base ≤ wr.drew.heap.size := HT.out.size
          obtain ⟨i1, hi, hz0, hz1, hz2⟩ := info_parts info_int
          have HI := Lib.hid hi; clear hi
          have HZ0 := Lib.hid hz0; clear hz0
          have HZ1 := Lib.hid hz1; clear hz1
          have HZ2 := Lib.hid hz2; clear hz2
          have hszr1 : base ≤ wr.heap.size := hszr
          have hpr : p < wr.heap.size := by omega
          have hbA := ((Below.refl wr.heap.size wr).alloc (Nat.le_refl _) (.cells #[.int .i64 (K : Int)] 3)).drew
          have k2 := (hbA.cell (p := ⟨p, 2, none⟩) hpr).trans p2
          have HOW : Hid ((wr.alloc (.cells #[.int .i64 (K : Int)] 3)).drew.ownsRow base 3 1 (.slice Ar j cr) j (((List.range j).map (rvAt bs k)).map (Value.int .i64))) := Lib.hid (World.ownsRow.alloc (w := wr) HT.out.ints (.cells #[.int .i64 (K : Int)] 3))
          have HNW := Lib.hid (World.news_of_block (w := (wr.alloc (.cells #[.int .i64 (K : Int)] 3)).drew) (show (wr.alloc (.cells #[.int .i64 (K : Int)] 3)).drew.heap[wr.heap.size]? = some (.cells #[.int .i64 (K : Int)] 3 (0, 0)) from heap_alloc_new wr (.cells #[.int .i64 (K : Int)] 3)))
          have hb5s : base ≤ (wr.alloc (.cells #[.int .i64 (K : Int)] 3)).drew.heap.size := by show base ≤ (wr.alloc _).heap.size; simp; omega
          have HBA := Lib.hid hbA; clear hbA
          go_wp2_with fail
          go_region_law ((first
              | (refine step_call3 (o := ⟨some 79, _, _, _, _, _⟩) rfl 20 _ _ (.tmp 73) (.tmp 78) (.const (.int .i64 4)) _ rfl Try.func20 (by kernel_rfl) rfl (.slice (some ⟨b, off, none⟩) N c) (.int .i64 (20 + 4 * ((k : Int) + (j : Int)))) (.int .i64 4) (by go_simp) (by go_simp) (by go_simp) _ (numberV_any (20 + 4 * ((k : Int) + (j : Int))) 4 (some ⟨b, off, none⟩) N c B bs wr.drew (20 + 4 * (k + j)) 4 (by omega) rfl HHd.out hc hm (by omega) (by omega) (by omega)) ?_
                 rintro e w' ⟨rfl, rfl⟩
                 refine ⟨_, rfl, ?_⟩
                 rw [← HK.out])
              | (refine step_append_lies (o := ⟨some 82, _, _, _, _, _⟩) _ rfl (.tmp 72) (.tmp 81) 24 rfl base 3 i1 (.int .i64 0) 1 8 Try.underlying24 HI.out HZ0.out HZ1.out HZ2.out rfl (by omega) (.slice Ar j cr) j (((List.range j).map (rvAt bs k)).map (Value.int .i64)) (by go_simp) HOW.out ⟨wr.heap.size, 0, none⟩ 1 1 [.int .i64 (K : Int)] (by go_simp) rfl HNW.out (by intro u hu; simp at hu; subst hu; rfl) (by omega) (by unfold maxLen; omega) (by omega) hb5s _ rfl ?_
                 intro g cap w6 hown6 hgrow6 hat6 hlt6
                 have hbx6 : w6.heap[p]? = some (.cells #[.int .u64 (seq : Int), .slice Aw k cw, .slice Ar j cr] 26 (0, 0)) := by
                   rw [hgrow6.block p (by omega) (fun e => by
                     have := (World.ownsRow.lt HOW.out p e.symm).1; omega), HBA.out.block p hpr]
                   exact HT.out.box
                 have n2 : w6.cell? ⟨p, 2, none⟩ = some (.slice Ar j cr) := cell_of_row w6 p 2 _ _ _ hbx6
                 have f2 : w6.frozen? ⟨p, 2, none⟩ = false := frozen_of_row w6 p 2 _ _ hbx6
                 have HO6 := Lib.hid hown6
                 have HG6 := Lib.hid hgrow6
                 have HBX6 := Lib.hid hbx6
                 clear hown6 hgrow6 hat6 hlt6 hbx6)))
          all_goals
            have hT7 := Telling.nextR HT.out hpb hwp HBA.out HOW.out HO6.out HG6.out HBX6.out HRV.out
            have HT7 := Lib.hid hT7; clear hT7
            clear n2 f2 p2 pd2 k2 hb5s
            go_wp2
            go_roundw
            case rel => exact ⟨j + 1, _, _, by omega, by go_num, HT7.out⟩
            case measure => simp [intOf]; omega
        · obtain rfl : j = nr := by omega
          have c0 : wr.cell? ⟨p, 0, none⟩ = some (.int .u64 (seq : Int)) := cell_of_row wr p 0 _ _ _ HT.out.box
          have c1 : wr.cell? ⟨p, 1, none⟩ = some (.slice Aw k cw) := cell_of_row wr p 1 _ _ _ HT.out.box
          have c2 : wr.cell? ⟨p, 2, none⟩ = some (.slice Ar j cr) := cell_of_row wr p 2 _ _ _ HT.out.box
          have q0 : wr.cell? ⟨w.heap.size, 0, none⟩ = some (.int .u64 0) := cell_of_row wr w.heap.size 0 _ _ _ HT.out.res
          have q1 : wr.cell? ⟨w.heap.size, 1, none⟩ = some (.slice none 0 0) := cell_of_row wr w.heap.size 1 _ _ _ HT.out.res
          have q2 : wr.cell? ⟨w.heap.size, 2, none⟩ = some (.slice none 0 0) := cell_of_row wr w.heap.size 2 _ _ _ HT.out.res
          have f0 := frozen_of_row wr w.heap.size 0 _ _ HT.out.res
          have f1 := frozen_of_row wr w.heap.size 1 _ _ HT.out.res
          have f2 := frozen_of_row wr w.heap.size 2 _ _ HT.out.res
          go_wp2_with fail
          refine bodyPost_ret (v := .tuple #[.agg #[.int .u64 (seq : Int), .slice Aw k cw, .slice Ar j cr], .bool true]) (by simp [results, go_sem, q0, q1, q2]) rfl ?_
          have hT := HT.out
          have hk1 : Kept base wr (((wr.setCell ⟨w.heap.size, 0, none⟩ (.int .u64 (seq : Int))).setCell ⟨w.heap.size, 1, none⟩ (.slice Aw k cw)).setCell ⟨w.heap.size, 2, none⟩ (.slice Ar j cr)) :=
            Kept.trans (Kept.trans (Kept.cell (by omega)) (Kept.cell (by omega)) (by simp [World.setCell])) (Kept.cell (by omega)) (by simp [World.setCell])
          refine ⟨Aw, cw, Ar, cr, vs, by rw [← HNWE.out, ← HNRE.out], ⟨?_, ?_⟩, ((hT.below.setCell (by simp) _).setCell (by simp) _).setCell (by simp) _⟩
          · have ho := hT.own.kept hk1
            have hl : (tellL bs seq).ws = WS := by rw [HWS.out, HNWE.out]; rfl
            rw [hl, hT.own.cnt]
            exact ho.mono (by omega)
          · have ho := ownsRow_kept hT.ints hk1
            have hl : (tellL bs seq).rs = (List.range j).map (rvAt bs k) := by rw [HNWE.out, HNRE.out]; rfl
            have hn : (tellL bs seq).rs.length = j := by rw [hl]; simp
            rw [hn, hl]
            exact ownsRow_mono ho (by omega)
end Go.Proofs.Ytjbelbhcdbbelaa.Rec
