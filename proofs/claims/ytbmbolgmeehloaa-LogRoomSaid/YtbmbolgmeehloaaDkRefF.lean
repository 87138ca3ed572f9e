/- The document's disk: writes laid over the stable bytes, and Flush. -/
import Derived.Test.YtbmbolgmeehloaaDkRefW
import Derived.Test.YtbmbolgmeehloaaDkFlush
import Derived.Deep.RegionHeldLaw
namespace Go.Proofs.Ytbmbolgmeehloaa.Disk
set_option maxRecDepth 20000
open Go.RowKit
open Go.Proofs.Ytbmbolgmeehloaa.Mem Go.Proofs.Ytbmbolgmeehloaa.Reg

theorem flat_cells (l : List WrAt) (k : Nat) (x : WrAt) (h : l[k]? = some x) : (l.flatMap WrAt.cells)[k * 2]? = some (.int .i64 (x.blk : Int)) ∧ (l.flatMap WrAt.cells)[k * 2 + 1]? = some (.slice x.A 256 x.c) := by
  induction l generalizing k with
  | nil => simp at h
  | cons y r ih =>
    rw [List.flatMap_cons]
    cases k with
    | zero =>
      simp at h
      subst h
      exact ⟨rfl, rfl⟩
    | succ k =>
      simp only [List.getElem?_cons_succ] at h
      have := ih k h
      rw [show (k + 1) * 2 = k * 2 + 1 + 1 by omega]
      exact this

/-- What lies where, of one of the Writes. -/
structure Spot (w : World) (r : Nat) (R : RefLow) (vb vw : Value) (n k : Nat) (x : WrAt) (g cap bw cw a off : Nat) (cur : Array Value) : Prop where
  eb : vb = .slice (some ⟨g, 0, none⟩) (256 * n) cap
  ew : vw = .slice (some ⟨bw, 0, none⟩) R.ws.length cw
  fit : 256 * n ≤ cap ∧ cap ≤ maxLen ∧ cur.size = cap
  ad : x.A = some ⟨a, off, none⟩
  num : w.cell? ⟨bw, k * 2, none⟩ = some (.int .i64 (x.blk : Int))
  slc : w.cell? ⟨bw, k * 2 + 1, none⟩ = some (.slice (some ⟨a, off, none⟩) 256 x.c)
  h0 : w.cell? ⟨r, 0, none⟩ = some vb
  h1 : w.cell? ⟨r, 1, none⟩ = some vw
  row : w.heap[g]? = some (.cells cur 5 (0, 0))
  bwl : bw < w.heap.size
  ne1 : bw ≠ g
  ne2 : r ≠ g
  src : w.rangeAt a off (x.data.map byteV)
  len : x.data.length = 256
  room : 256 ≤ x.c ∧ x.c ≤ maxLen
  took : cur.toList.take (256 * n) = R.st.map byteV
theorem RefAt.spot {w : World} {r : Nat} {R : RefLow} {vb vw vg : Value} {D : Nat → Prop} (h : RefAt w r R vb vw vg D) {n k : Nat} {x : WrAt} (hn : R.st.length = 256 * n) (h0 : 0 < n) (hx : R.ws[k]? = some x) :
    ∃ g cap bw cw a off cur, Spot w r R vb vw n k x g cap bw cw a off cur := by
  obtain ⟨g, cap, cur, hvb, hg, hc1, hc2, hc3, hc4⟩ := h.st.cut (by omega)
  have hk := (List.getElem?_eq_some_iff.1 hx).1
  obtain ⟨bw, cw, curw, hvw, hgw, hw1, hw2, hw3, hw4⟩ := h.ws.cut (by omega)
  obtain ⟨⟨hl, hroom⟩, a, off, ha, hD, hal, hsrc⟩ := h.data x (by simp [List.mem_of_getElem? hx])
  obtain ⟨q1, q2⟩ := flat_cells R.ws k x hx
  have hlen := WrAt.cells_len R.ws
  have hcell : ∀ j u, (R.ws.flatMap WrAt.cells)[j]? = some u → w.cell? ⟨bw, j, none⟩ = some u := fun j u hu => by
    rw [cell_of_row _ _ _ _ _ _ hgw]
    have hj := (List.getElem?_eq_some_iff.1 hu).1
    rw [← hw4, List.getElem?_take, if_pos (by omega)] at hu
    simpa using hu
  refine ⟨g, cap, bw, cw, a, off, cur, by rw [hvb, hn], hvw, ⟨by omega, hc2, by omega⟩, ha, hcell _ _ q1, ?_, h.f0, cell_of_row w r 1 _ _ _ h.head, hg, (Array.getElem?_eq_some_iff.1 hgw).1, ?_, ?_, hsrc.1, hl, hroom, by rw [← hn]; rwa [Nat.mul_one] at hc4⟩
  · rw [← ha]; exact hcell _ _ q2
  · intro e
    subst e
    rw [hgw] at hg
    injection hg with hg
    injection hg with _ hg
    exact absurd hg (by decide)
  · intro e
    have := h.head
    rw [e, hg] at this
    injection this with this
    injection this with _ this
    exact absurd this (by decide)

def RefLow.lay (R : RefLow) (x : WrAt) (f t : Nat) : RefLow := { R with st := laid R.st x.plain f t }
def piece (x : WrAt) (f t : Nat) : List Value := ((x.data.drop (f * 64)).take (t * 64 - f * 64)).map byteV
theorem piece_len (x : WrAt) (f t : Nat) (hl : x.data.length = 256) (ht : t ≤ 4) (hf : f < t) : (piece x f t).length = t * 64 - f * 64 := by
  unfold piece; simp; omega
theorem piece_one (x : WrAt) (f t : Nat) : ∀ v ∈ piece x f t, v.oneCell' = true := by
  intro v hv; obtain ⟨c, _, rfl⟩ := List.mem_map.1 hv; rfl
theorem piece_src {w : World} {a off : Nat} (x : WrAt) (f t : Nat) (h : w.rangeAt a off (x.data.map byteV)) : ∀ j v, (piece x f t)[j]? = some v → w.cell? ((⟨a, off + f * 64, none⟩ : Addr).add j) = some v := by
  intro j v hv
  rw [Addr.add_mid, Nat.add_assoc]
  unfold piece at hv
  rw [List.getElem?_map, List.getElem?_take] at hv
  split at hv
  · rw [List.getElem?_drop] at hv
    apply h
    rw [List.getElem?_map]
    exact hv
  · cases hv

/-- Sectors of a Write laid over the stable bytes. -/
theorem RefAt.laid {w : World} {r : Nat} {R : RefLow} {vb vw vg : Value} {D : Nat → Prop} (h : RefAt w r R vb vw vg D) {n k g cap bw cw a off f t : Nat} {x : WrAt} {cur : Array Value} (hn : R.st.length = 256 * n) (hs : Spot w r R vb vw n k x g cap bw cw a off cur)
    (hx : x.blk < n) (hf : f < t) (ht : t ≤ 4) (hD : ∀ k, D k → vb.ownBlock ≠ some k) :
    RefAt (w.drew.setRow g (splice cur.toList (x.blk * 256 + f * 64) (piece x f t)).toArray) r (R.lay x f t) vb vw vg D ∧ Turns (fun k => vb.ownBlock = some k) w (w.drew.setRow g (splice cur.toList (x.blk * 256 + f * 64) (piece x f t)).toArray) := by
  have hvb := hs.eb
  have hW : Turns (fun k => vb.ownBlock = some k) w (w.drew.setRow g (splice cur.toList (x.blk * 256 + f * 64) (piece x f t)).toArray) := (Turns.refl _ w).drew.setRow g _ (fun _ => by rw [hvb]; rfl)
  have hpl := piece_len x f t hs.len ht hf
  have hrow : (w.drew.setRow g (splice cur.toList (x.blk * 256 + f * 64) (piece x f t)).toArray).heap[g]? = some (.cells (splice cur.toList (x.blk * 256 + f * 64) (piece x f t)).toArray 5 (0, 0)) := setRow_heap _ _ _ _ _ _ hs.row
  have hap := h.apart
  have hlaid : (Disk.laid R.st x.plain f t).length = R.st.length := by
    unfold Disk.laid
    rw [length_splice _ _ _ ?_]
    have : ((x.plain.2.drop (f * 64)).take (t * 64 - f * 64)).length = t * 64 - f * 64 := by have := hs.len; simp [WrAt.plain]; omega
    rw [this]
    show x.blk * 256 + f * 64 + (t * 64 - f * 64) ≤ _
    omega
  refine ⟨⟨?_, ?_, h.ws.turns hW (fun k hk e => ?_), h.gs.turns hW (fun k hk e => ?_), h.far, fun y hy => ?_⟩, hW⟩
  · exact (hW.block r h.lt (fun e => hap.1 e)).trans h.head
  · show Row _ _ _ _ (Disk.laid R.st x.plain f t).length ((Disk.laid R.st x.plain f t).map byteV)
    rw [hlaid, hn, hvb]
    have hr := Row.laid (n := 256 * n) (xs := R.st.map byteV) hs.fit.1 hs.fit.2.1 (by have := hs.fit.2.2; omega) hs.took hrow (by omega)
    have e : (Disk.laid R.st x.plain f t).map byteV = splice (R.st.map byteV) (x.blk * 256 + f * 64) (piece x f t) := by
      simp [Disk.laid, splice, piece, WrAt.plain, List.map_take, List.map_drop]
    rw [e]
    exact hr
  · obtain ⟨c1, h1⟩ := row_type h.ws hk
    obtain ⟨c2, h2⟩ := row_type h.st e
    rw [h1] at h2
    injection h2 with h2
    injection h2 with _ h2
    exact absurd h2 (by decide)
  · obtain ⟨c1, h1⟩ := row_type h.gs hk
    obtain ⟨c2, h2⟩ := row_type h.st e
    rw [h1] at h2
    injection h2 with h2
    injection h2 with _ h2
    exact absurd h2 (by decide)
  · obtain ⟨hl, b, o, e, hDb, hb, hr⟩ := h.data y hy
    exact ⟨hl, b, o, e, hDb, by have := hW.size; omega, bytes_turns hr hW hb (hD b hDb)⟩

theorem refFlush_blown (R : RefLow) (r : Nat) (vb vw vg : Value) (D : Nat → Prop) (w : World) (h : RefAt w r R vb vw vg D) (hb : R.blown = true) :
    Calls Try.prog 48 #[.pointer (some ⟨r, 0, none⟩)] w fun e w' => e = .returned (.tuple #[]) ∧ w = w' := by
  have HB := Lib.hid (refBlown_true R r vb vw vg D w h hb)
  go_enter Try.func48, Try.ntmps48
  go_wp2_with fail
  with_reducible refine HB.out.mono ?_
  rintro e w' ⟨rfl, rfl⟩
  go_wp2
  refine bodyPost_ret (results_none rfl _ _ _) rfl ?_
  exact ⟨rfl, rfl⟩
def RefLow.flushed (R : RefLow) (k : Nat) : RefLow := { R with st := flushL (R.ws.map WrAt.plain) R.st k }
set_option maxRecDepth 100000 in
set_option maxHeartbeats 2000000 in
theorem refFlush_some (R : RefLow) (r n : Nat) (vb vw vg : Value) (D : Nat → Prop) (w : World) (h : RefAt w r R vb vw vg D) (hn : R.st.length = 256 * n) (h0 : 0 < n) (hm : n ≤ 1024) (hx : ∀ x ∈ R.ws, x.blk < n) (hfew : R.ws.length ≤ 1048576)
    (hb : R.blown = false) (hlf : R.left ≤ 9223372036854775807) (hD : ∀ k, D k → vb.ownBlock ≠ some k) :
    Calls Try.prog 48 #[.pointer (some ⟨r, 0, none⟩)] w fun e w' =>
      e = .returned (.tuple #[]) ∧ RefAt w' r { (R.flushed R.ws.length).tick with ws := [] } vb (.slice none 0 0) vg D ∧ Turns (fun k => k = r ∨ vb.ownBlock = some k) w w' := by
  have HBF := Lib.hid (refBlown_false R r vb vw vg D w h hb hlf)
  have HN := Lib.hid hn; clear hn
  have HX := Lib.hid hx; clear hx
  have H := Lib.hid h; clear h hb
  go_enter Try.func48, Try.ntmps48
  go_wp2_with fail
  with_reducible refine HBF.out.mono ?_
  clear HBF
  rintro e w1 ⟨rfl, hr1, ht1⟩
  have HR1 := Lib.hid hr1; clear hr1
  have HT1 := Lib.hid ht1; clear ht1
  have hl0 : (R.tick.ws) = R.ws := rfl
  go_wp2
  go_loopw [2] (fun i wr => ∃ k : Nat, k ≤ R.ws.length ∧ i = .int .i64 k ∧ RefAt wr r (R.tick.flushed k) vb vw vg D ∧ Turns (fun k => k = r ∨ vb.ownBlock = some k) w wr) (fun i _ => R.ws.length - (intOf i).toNat)
  case atStart => exact ⟨0, by omega, rfl, HR1.out, HT1.out.mono (fun _ _ e => .inl e)⟩
  case round =>
    clear HR1 HT1
    obtain ⟨k, hk, rfl, hR, hT⟩ := hrel
    have c1 : wr.cell? ⟨r, 1, none⟩ = some vw := cell_of_row wr r 1 _ _ _ hR.head
    obtain ⟨vwA, vwc, hvw⟩ : ∃ A c, vw = .slice A R.ws.length c := by
      rcases hR.ws.2 with ⟨e, e0⟩ | ⟨g, cap, cur, e, _⟩
      · exact ⟨none, 0, by rw [e]; congr 1; exact e0.symm⟩
      · exact ⟨_, _, e⟩
    rw [hvw] at c1
    have HVW := Lib.hid hvw; clear hvw
    have HR := Lib.hid hR; clear hR
    have HT := Lib.hid hT; clear hT
    have hk0 : (0 : Int) ≤ (k : Int) := by omega
    by_cases hlt : k < R.ws.length
    · have hkn : (k : Int) < (R.ws.length : Int) := by omega
      obtain ⟨x, hxk⟩ : ∃ x, R.ws[k]? = some x := ⟨_, List.getElem?_eq_getElem hlt⟩
      have hxn : x.blk < n := HX.out x (List.mem_of_getElem? hxk)
      have hstl : (R.tick.flushed k).st.length = 256 * n := flushL_len (R.ws.map WrAt.plain) R.st n HN.out (fun y hy => by
        obtain ⟨z, hz, rfl⟩ := List.mem_map.1 hy
        exact ⟨HX.out z hz, (H.out.data z (by simp [hz])).1.1⟩) k (by rw [List.length_map]; omega)
      obtain ⟨g, cap, bw, cw, a, off, cur, hs⟩ := HR.out.spot hstl h0 hxk
      have hfin := HR.out.laid hstl hs hxn (show 0 < 4 by omega) (Nat.le_refl 4) hD
      have hnext : (R.tick.flushed k).lay x 0 4 = R.tick.flushed (k + 1) := by
        unfold RefLow.lay RefLow.flushed
        have hg : (R.ws.map WrAt.plain).getD k (0, []) = x.plain := by rw [List.getD_eq_getElem?_getD, List.getElem?_map, hxk]; rfl
        show _ = ({ R.tick with st := Disk.laid (flushL (R.ws.map WrAt.plain) R.st k) ((R.ws.map WrAt.plain).getD k (0, [])) 0 4 } : RefLow)
        rw [hg]; rfl
      rw [hnext] at hfin
      have hvw2 : Value.slice vwA R.ws.length vwc = .slice (some ⟨bw, 0, none⟩) R.ws.length cw := by rw [← HVW.out]; exact hs.ew
      injection hvw2 with d1 d2 d3
      clear d2
      subst d1 d3
      have hN256 : 256 * n ≤ 262144 := by omega
      have hcap := hs.fit
      unfold maxLen at hcap
      have q1 := fun W => run_slice_from W g (256 * n) cap (x.blk * 256) ((x.blk : Int) * 256) (by omega) (by omega) hcap.1
      have e1 : IntKind.i64.wrap ((x.blk : Int) * 256) = (x.blk : Int) * 256 := IntWalk.i64_in _ (by omega)
      have s0 := hs.h0
      rw [hs.eb] at s0
      have s2 := hs.num
      have s3 := hs.slc
      have HS := Lib.hid hs; clear hs
      have HF := Lib.hid hfin; clear hfin hnext
      obtain ⟨V, hV⟩ : ∃ V, V = wr.drew.setRow g (splice cur.toList (x.blk * 256 + 0 * 64) (piece x 0 4)).toArray := ⟨_, rfl⟩
      have hk0' : V.cell? ⟨r, 0, none⟩ = some (.slice (some ⟨g, 0, none⟩) (256 * n) cap) := by rw [hV]; exact (World.cell?_of_block (w := wr) (setRow_other wr.drew g r _ HS.out.ne2)).trans s0
      have hk1' : V.cell? ⟨r, 1, none⟩ = some (.slice (some ⟨bw, 0, none⟩) R.ws.length vwc) := by rw [hV]; exact (World.cell?_of_block (w := wr) (setRow_other wr.drew g r _ HS.out.ne2)).trans c1
      have hk2' : V.cell? ⟨bw, k * 2, none⟩ = some (.int .i64 (x.blk : Int)) := by rw [hV]; exact (World.cell?_of_block (w := wr) (setRow_other wr.drew g bw _ HS.out.ne1)).trans s2
      have hk3' : V.cell? ⟨bw, k * 2 + 1, none⟩ = some (.slice (some ⟨a, off, none⟩) 256 x.c) := by rw [hV]; exact (World.cell?_of_block (w := wr) (setRow_other wr.drew g bw _ HS.out.ne1)).trans s3
      have hpl := piece_len x 0 4 HS.out.len (Nat.le_refl 4) (by omega)
      have hmin : (piece x 0 4).length = Nat.min 256 (256 * n - x.blk * 256) := by rw [hpl]; exact (Nat.min_eq_left (by omega)).symm
      have hfit : x.blk * 256 + (piece x 0 4).length ≤ cur.size := by rw [hpl, hcap.2.2]; omega
      have hsrc := piece_src x 0 4 HS.out.src
      have hrow : wr.drew.heap[g]? = some (.cells cur 5 (0, 0)) := HS.out.row
      have HROW := Lib.hid hrow; clear hrow
      have HSRC := Lib.hid hsrc; clear hsrc
      have HMIN := Lib.hid hmin; clear hmin
      have HK : Hid (V.cell? ⟨r, 0, none⟩ = some (.slice (some ⟨g, 0, none⟩) (256 * n) cap) ∧ V.cell? ⟨r, 1, none⟩ = some (.slice (some ⟨bw, 0, none⟩) R.ws.length vwc) ∧ V.cell? ⟨bw, k * 2, none⟩ = some (.int .i64 (x.blk : Int)) ∧ V.cell? ⟨bw, k * 2 + 1, none⟩ = some (.slice (some ⟨a, off, none⟩) 256 x.c)) := Lib.hid ⟨hk0', hk1', hk2', hk3'⟩
      have HV := Lib.hid hV; clear hV hk0' hk1' hk2' hk3' hpl hxk hstl
      go_wp2
      go_region_held_law (fun (U : World) => U.cell? ⟨r, 0, none⟩ = some (.slice (some ⟨g, 0, none⟩) (256 * n) cap) ∧ U.cell? ⟨r, 1, none⟩ = some (.slice (some ⟨bw, 0, none⟩) R.ws.length vwc) ∧ U.cell? ⟨bw, k * 2, none⟩ = some (.int .i64 (x.blk : Int)) ∧ U.cell? ⟨bw, k * 2 + 1, none⟩ = some (.slice (some ⟨a, off, none⟩) 256 x.c)) (first | go_keep | exact HK.out)
        ((refine step_copy_row rfl (.tmp 27) (.tmp 35) 33 33 rfl 5 Try.underlying33 info_byte g (x.blk * 256) _ _ ⟨a, off, none⟩ 256 _ rfl rfl cur 5 HROW.out (piece x 0 4) HMIN.out HSRC.out hfit (piece_one x 0 4) ?_
          rw [show wr.drew.setRow g (splice cur.toList (x.blk * 256) (piece x 0 4)).toArray = V from HV.out.symm]))
      go_wp2
      go_roundw
      case rel => exact ⟨k + 1, by omega, by go_num, by rw [HV.out]; exact HF.out.1, by rw [HV.out]; exact HT.out.trans HF.out.2 (fun _ _ e => .inr e)⟩
      case measure => simp [intOf]; omega
    · obtain rfl : k = R.ws.length := by omega
      have f1 := frozen_of_row wr r 1 _ _ HR.out.head
      go_wp2
      go_end0
      have hT2 : Turns (fun k => k = r) wr (wr.setCell ⟨r, 1, none⟩ (.slice none 0 0)) := turns_cell wr r 1 _
      have hap := HR.out.apart
      refine ⟨rfl, ⟨?_, HR.out.st.turns hT2 (fun k hk e => hap.1 (by rw [hk, e])), World.ownsRow_nil _ _ _ _, HR.out.gs.turns hT2 (fun k hk e => hap.2.2 (by rw [hk, e])), HR.out.far, fun y hy => ?_⟩, HT.out.trans hT2 (fun _ _ e => .inl e)⟩
      · rw [heap_setCell_same wr r 1 _ _ _ HR.out.head]; rfl
      · have hy' : y ∈ R.gs := by simpa [RefLow.flushed, RefLow.tick] using hy
        obtain ⟨hl, b, o, e, hDb, hb, hr⟩ := HR.out.data y (List.mem_append_right _ hy')
        exact ⟨hl, b, o, e, hDb, by have := hT2.size; omega, bytes_turns hr hT2 hb (fun e => HR.out.far (by rw [← e]; exact hDb))⟩
end Go.Proofs.Ytbmbolgmeehloaa.Disk
