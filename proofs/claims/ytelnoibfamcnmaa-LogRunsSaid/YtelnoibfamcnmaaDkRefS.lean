/- The document's disk: Settle. -/
import Derived.Test.YtelnoibfamcnmaaDkRefR
import Derived.Test.YtelnoibfamcnmaaDkSettle
namespace Go.Proofs.Ytelnoibfamcnmaa.Disk
set_option maxRecDepth 20000
open Go.RowKit
open Go.Proofs.Ytelnoibfamcnmaa.Mem Go.Proofs.Ytelnoibfamcnmaa.Reg

theorem refSettle_blown (A : Option Addr) (nb c : Nat) (R : RefLow) (r : Nat) (vb vw vg : Value) (D : Nat → Prop) (w : World) (h : RefAt w r R vb vw vg D) (hb : R.blown = true) :
    Calls Try.prog 59 #[.pointer (some ⟨r, 0, none⟩), .slice A nb c] w fun e w' => e = .returned (.tuple #[]) ∧ w = w' := by
  have h3 := h.f3
  have h4 := h.f4
  have hs : R.set = true := by unfold RefLow.blown at hb; simp at hb; exact hb.1
  have hl : R.left = 0 := by unfold RefLow.blown at hb; simp at hb; exact hb.2
  rw [hs] at h3
  rw [hl] at h4
  clear hb
  have H := Lib.hid h; clear h
  go_enter Try.func59, Try.ntmps59
  go_wp2
  refine bodyPost_ret (results_none rfl _ _ _) rfl ?_
  exact ⟨rfl, rfl⟩

/-- Which of the Writes are gone behind k rounds. -/
def goneF (bits : List UInt8) (bl : Nat → Nat) : Nat → Nat → Bool
  | 0, _ => false
  | k + 1, i => goneF bits bl k i || (Dk.bit bits k && (decide (i ≤ k) && bl i == bl k))
def inG (bits : List UInt8) (bl : Nat → Nat) (k j i : Nat) : Bool := goneF bits bl k i || (decide (i < j) && bl i == bl k)
theorem inG_zero (bits : List UInt8) (bl : Nat → Nat) (k i : Nat) : inG bits bl k 0 i = goneF bits bl k i := by simp [inG]
theorem inG_last (bits : List UInt8) (bl : Nat → Nat) (k i : Nat) (h : Dk.bit bits k = true) : inG bits bl k (k + 1) i = goneF bits bl (k + 1) i := by
  unfold inG; show _ = (goneF bits bl k i || _); rw [h]; simp [Nat.lt_succ_iff]
theorem inG_step (bits : List UInt8) (bl : Nat → Nat) (k j i : Nat) : inG bits bl k (j + 1) i = if i = j then (inG bits bl k j j || bl j == bl k) else inG bits bl k j i := by
  by_cases e : i = j
  · subst e; simp [inG]
  · have : decide (i < j + 1) = decide (i < j) := by rw [decide_eq_decide]; omega
    rw [if_neg e]; unfold inG; rw [this]
def flags (g : Nat → Bool) (n : Nat) : Array Value := ((List.range n).map (fun i => Value.bool (g i))).toArray
theorem flags_get (g : Nat → Bool) (n j : Nat) (h : j < n) : (flags g n)[j]? = some (.bool (g j)) := by
  unfold flags
  simp [h]
theorem flags_congr {g g' : Nat → Bool} (n : Nat) (h : ∀ i, g i = g' i) : flags g n = flags g' n := by
  have : g = g' := funext h
  rw [this]
theorem flags_set (g : Nat → Bool) (n j : Nat) (b : Bool) : (flags g n).setIfInBounds j (.bool b) = flags (fun i => if i = j then b else g i) n := by
  apply Array.ext_getElem?
  intro i
  rw [Array.getElem?_setIfInBounds]
  unfold flags
  by_cases e : j = i
  · subst e
    by_cases h : j < n
    · simp [h]
    · simp [h]
  · have e' : ¬ i = j := fun h => e h.symm
    by_cases h : i < n
    · simp [e, h, e']
    · simp [e, h]
theorem flags_made (n : Nat) : madeCells #[.bool false] n = flags (fun _ => false) n := by
  apply Array.ext_getElem?
  intro i
  unfold flags
  by_cases h : i < n
  · have : i % 1 = 0 := by omega
    simp [madeCells, h, this]
  · simp [madeCells, h]
theorem info_bool : (Try.prog.info? 4).map (fun i => (i.zero, i.size, i.bytes)) = some (some (.bool false), 1, 1) := by kernel_rfl
def blkOf (R : RefLow) (i : Nat) : Nat := ((R.ws.map WrAt.plain).getD i (0, [])).1
theorem blkOf_at {R : RefLow} {k : Nat} {x : WrAt} (h : R.ws[k]? = some x) : blkOf R k = x.blk := by
  unfold blkOf
  rw [List.getD_eq_getElem?_getD, List.getElem?_map, h]; rfl
def RefLow.settled (R : RefLow) (bits : List UInt8) (k : Nat) : RefLow := { R with st := settleL bits (R.ws.map WrAt.plain) R.st k }
def keptR (g : Nat → Bool) (ws : List WrAt) : Nat → List WrAt
  | 0 => []
  | k + 1 => keptR g ws k ++ (match ws[k]? with
    | some x => if g k then [] else [x]
    | none => [])
theorem keptR_len (g : Nat → Bool) (ws : List WrAt) : ∀ k, (keptR g ws k).length ≤ k
  | 0 => Nat.le_refl _
  | k + 1 => by
    unfold keptR
    rw [List.length_append]
    have := keptR_len g ws k
    split
    · split <;> simp <;> omega
    · simp; omega
theorem keptR_mem (g : Nat → Bool) (ws : List WrAt) (x : WrAt) : ∀ k, x ∈ keptR g ws k → x ∈ ws
  | 0, h => by cases h
  | k + 1, h => by
    unfold keptR at h
    rcases List.mem_append.1 h with h | h
    · exact keptR_mem g ws x k h
    · split at h
      · rename_i y hy
        split at h
        · cases h
        · rw [List.mem_singleton] at h
          subst h
          exact List.mem_of_getElem? hy
      · cases h
theorem keptR_gone {g : Nat → Bool} {ws : List WrAt} {k : Nat} (h : g k = true) : keptR g ws (k + 1) = keptR g ws k := by
  show keptR g ws k ++ _ = _
  cases ws[k]? <;> simp [h]
theorem keptR_stays {g : Nat → Bool} {ws : List WrAt} {k : Nat} {x : WrAt} (h : g k = false) (hx : ws[k]? = some x) : keptR g ws (k + 1) = keptR g ws k ++ [x] := by
  show keptR g ws k ++ _ = _
  rw [hx]; simp [h]

set_option maxRecDepth 100000 in
set_option maxHeartbeats 4000000 in
theorem refSettle_some (A : Option Addr) (nb c B : Nat) (bits : List UInt8) (R : RefLow) (r n : Nat) (vb vw vg : Value) (D : Nat → Prop) (w : World) (h : RefAt w r R vb vw vg D) (hb : R.blown = false) (hn : R.st.length = 256 * n) (h0 : 0 < n) (hm : n ≤ 1024) (hx : ∀ x ∈ R.ws, x.blk < n) (hfew : R.ws.length ≤ 1048576)
    (hbits : ∀ w', Turns (fun k => k = r ∨ vb.ownBlock = some k) w w' → Holds w' B A nb bits) (hnb : nb ≤ maxLen) (hD : ∀ k, D k → vb.ownBlock ≠ some k) (hDl : ∀ k, D k → k < w.heap.size) :
    Calls Try.prog 59 #[.pointer (some ⟨r, 0, none⟩), .slice A nb c] w fun e w' =>
      e = .returned (.tuple #[]) ∧ ∃ vw', RefAt w' r { R with st := (R.settled bits R.ws.length).st, ws := keptR (goneF bits (blkOf R) R.ws.length) R.ws R.ws.length } vb vw' vg D ∧ Turns (fun k => k = r ∨ vb.ownBlock = some k) w w' ∧ (∀ k, vw'.ownBlock = some k → w.heap.size ≤ k) := by
  have h3 := h.f3
  have h4 := h.f4
  have c1 : w.cell? ⟨r, 1, none⟩ = some vw := cell_of_row w r 1 _ _ _ h.head
  obtain ⟨vwA, vwc, hvw⟩ : ∃ A c, vw = .slice A R.ws.length c := by
    rcases h.ws.2 with ⟨e, e0⟩ | ⟨g, cap, cur, e, _⟩
    · exact ⟨none, 0, by rw [e]; congr 1; exact e0.symm⟩
    · exact ⟨_, _, e⟩
  rw [hvw] at c1
  have HVW := Lib.hid hvw; clear hvw
  have HN := Lib.hid hn; clear hn
  have HX := Lib.hid hx; clear hx
  have HBI := Lib.hid hbits; clear hbits
  have HDL := Lib.hid hDl; clear hDl
  have H := Lib.hid h; clear h
  have hrl : r < w.heap.size := H.out.lt
  have q0 : (Instr.makeSlice 144 (.int .i64 (R.ws.length : Int)) (.int .i64 (R.ws.length : Int))).run Try.prog w = .ok (.slice (some ⟨w.heap.size, 0, none⟩) R.ws.length R.ws.length) (w.alloc (.cells (flags (fun _ => false) R.ws.length) 4)) := by
    rw [← flags_made]
    exact run_make_row' 144 4 (.bool false) 1 Try.underlying144 info_bool rfl .i64 .i64 R.ws.length (by omega) (by omega) w
  have HQ := Lib.hid q0; clear q0
  have hvbl : ∀ k, vb.ownBlock = some k → k < w.heap.size := fun k hk => H.out.st.lt hk
  have hvwl : ∀ k, vw.ownBlock = some k → k < w.heap.size := fun k hk => H.out.ws.lt hk
  have hvgl : ∀ k, vg.ownBlock = some k → k < w.heap.size := fun k hk => H.out.gs.lt hk
  have HVL : Hid ((∀ k, vb.ownBlock = some k → k < w.heap.size) ∧ (∀ k, vw.ownBlock = some k → k < w.heap.size) ∧ (∀ k, vg.ownBlock = some k → k < w.heap.size)) := Lib.hid ⟨hvbl, hvwl, hvgl⟩
  clear hvbl hvwl hvgl
  -- what stands at or behind G is none of the device's
  have hfar : ∀ (R' : RefLow) (v : Value) (w1 w2 : World), (∀ k, v.ownBlock = some k → k < w.heap.size) → RefAt w1 r R' vb v vg D → Turns (fun k => w.heap.size ≤ k) w1 w2 → RefAt w2 r R' vb v vg D := fun R' v w1 w2 hv hR hT =>
    hR.turns hT (fun e => by omega) (fun k hk e => by have := HVL.out.1 k hk; omega) (fun k hk e => by have := hv k hk; omega) (fun k hk e => by have := HVL.out.2.2 k hk; omega) (fun k hk e => by have := HDL.out k hk; omega)
  have HFAR := Lib.hid hfar; clear hfar
  have hts : R.set = false ∨ (R.set = true ∧ ((R.left : Int) == 0) = false) := by
    cases hs : R.set
    · exact .inl rfl
    · right; refine ⟨rfl, ?_⟩
      unfold RefLow.blown at hb; rw [hs] at hb; simp at hb; simp; omega
  clear hb
  rcases hts with hs | ⟨hs, hl⟩
  all_goals
    rw [hs] at h3
    go_enter Try.func59, Try.ntmps59
    go_wp2
    rw [HQ.out]
    simp only [Result.andThen]
    rw [Oper.upon_value]
    clear HQ h3 h4 c1
    obtain ⟨G, hG⟩ : ∃ G, G = w.heap.size := ⟨_, rfl⟩
    rw [← hG]
    obtain ⟨w1, hw1⟩ : ∃ w1, w1 = w.alloc (.cells (flags (fun _ => false) R.ws.length) 4) := ⟨_, rfl⟩
    rw [← hw1]
    have hg1 : w1.heap[G]? = some (.cells (flags (goneF bits (blkOf R) 0) R.ws.length) 4 (0, 0)) := by rw [hw1, hG]; exact heap_alloc_new w _
    have ht1 : Turns (fun k => k = r ∨ vb.ownBlock = some k) w w1 := by rw [hw1]; exact (Turns.refl _ w).alloc _
    have hr1 : RefAt w1 r (R.settled bits 0) vb vw vg D := by rw [hw1]; exact HFAR.out _ _ w _ HVL.out.2.1 H.out ((Turns.refl _ w).alloc _)
    have HG := Lib.hid hG; clear hG
    have HG1 := Lib.hid hg1; clear hg1
    have HT1 := Lib.hid ht1; clear ht1
    have HR1 := Lib.hid hr1; clear hr1
    clear hw1
    go_wp2
    go_loopw [5, 6] (fun i _ wr => ∃ k : Nat, k ≤ R.ws.length ∧ i = .int .i64 (k : Int) ∧ RefAt wr r (R.settled bits k) vb vw vg D ∧ wr.heap[G]? = some (.cells (flags (goneF bits (blkOf R) k) R.ws.length) 4 (0, 0)) ∧ Turns (fun k => k = r ∨ vb.ownBlock = some k) w wr) (fun i _ _ => R.ws.length - (intOf i).toNat)
    case atStart => exact ⟨0, by omega, rfl, HR1.out, HG1.out, HT1.out⟩
    case round =>
      clear HR1 HG1 HT1
      obtain ⟨k, hk, rfl, hR, hg, hT⟩ := hrel
      have c1 : wr.cell? ⟨r, 1, none⟩ = some vw := cell_of_row wr r 1 _ _ _ hR.head
      rw [HVW.out] at c1
      have HR := Lib.hid hR; clear hR
      have HGG := Lib.hid hg; clear hg
      have HT := Lib.hid hT; clear hT
      have hk0 : (0 : Int) ≤ (k : Int) := by omega
      by_cases hlt : k < R.ws.length
      · have hkn : (k : Int) < (R.ws.length : Int) := by omega
        cases hbit : Dk.bit bits k
        · have hn1 : R.settled bits (k + 1) = R.settled bits k := by
            unfold RefLow.settled; show ({ R with st := if Dk.bit bits k = true then _ else _ } : RefLow) = _
            rw [hbit]; rfl
          have hn2 : ∀ i, goneF bits (blkOf R) k i = goneF bits (blkOf R) (k + 1) i := fun i => by
            show _ = (goneF bits (blkOf R) k i || _); rw [hbit]; simp
          have HBT := Lib.hid (refBit_any A nb c B k bits wr (HBI.out wr HT.out) hnb (by omega))
          rw [hbit] at HBT
          have HN1 := Lib.hid hn1; clear hn1
          have HN2 := Lib.hid hn2; clear hn2
          clear hbit
          go_wp2_with fail
          with_reducible refine HBT.out.mono ?_
          clear HBT
          rintro e w' ⟨rfl, hww⟩
          subst hww
          go_wp2
          go_roundw
          case rel => exact ⟨k + 1, by omega, by go_num, by rw [HN1.out]; exact HR.out, by rw [← flags_congr _ HN2.out]; exact HGG.out, HT.out⟩
          case measure => simp [intOf]; omega
        · have HBT := Lib.hid (refBit_any A nb c B k bits wr (HBI.out wr HT.out) hnb (by omega))
          rw [hbit] at HBT
          have HBIT := Lib.hid hbit; clear hbit
          obtain ⟨x, hxk⟩ : ∃ x, R.ws[k]? = some x := ⟨_, List.getElem?_eq_getElem hlt⟩
          have hxn : x.blk < n := HX.out x (List.mem_of_getElem? hxk)
          have hstl : (R.settled bits k).st.length = 256 * n := settleL_len bits (R.ws.map WrAt.plain) R.st n HN.out (fun y hy => by
            obtain ⟨z, hz, rfl⟩ := List.mem_map.1 hy
            exact ⟨HX.out z hz, (H.out.data z (by simp [hz])).1.1⟩) k (by rw [List.length_map]; omega)
          obtain ⟨g, cap, bw, cw, a, off, cur, hs⟩ := HR.out.spot hstl h0 hxk
          have hfin := HR.out.laid hstl hs hxn (show 0 < 4 by omega) (Nat.le_refl 4) hD
          have hnext : (R.settled bits k).lay x 0 4 = R.settled bits (k + 1) := by
            unfold RefLow.lay RefLow.settled
            have hg : (R.ws.map WrAt.plain).getD k (0, []) = x.plain := by rw [List.getD_eq_getElem?_getD, List.getElem?_map, hxk]; rfl
            show _ = ({ R with st := if Dk.bit bits k = true then Disk.laid (settleL bits (R.ws.map WrAt.plain) R.st k) ((R.ws.map WrAt.plain).getD k (0, [])) 0 4 else _ } : RefLow)
            rw [hg, HBIT.out]; rfl
          rw [hnext] at hfin
          have hvw2 : Value.slice vwA R.ws.length vwc = .slice (some ⟨bw, 0, none⟩) R.ws.length cw := by rw [← HVW.out]; exact hs.ew
          injection hvw2 with d1 d2 d3
          clear d2
          subst d1 d3
          have hN256 : 256 * n ≤ 262144 := by omega
          have hcap := hs.fit
          unfold maxLen at hcap
          have q1 := fun W => run_slice_from W g (256 * n) cap (x.blk * 256) ((x.blk : Int) * 256) (by omega) (by omega) hcap.1
          have e1 : IntKind.i64.wrap ((x.blk : Int) * 256) = (x.blk : Int) * 256 := IntWalk.i64_in _ (by omega)
          have s0 := hs.h0
          rw [hs.eb] at s0
          have s2 := hs.num
          have s3 := hs.slc
          have HS := Lib.hid hs; clear hs
          have HF := Lib.hid hfin; clear hfin hnext
          obtain ⟨V, hV⟩ : ∃ V, V = wr.drew.setRow g (splice cur.toList (x.blk * 256 + 0 * 64) (piece x 0 4)).toArray := ⟨_, rfl⟩
          have hk0' : V.cell? ⟨r, 0, none⟩ = some (.slice (some ⟨g, 0, none⟩) (256 * n) cap) := by rw [hV]; exact (World.cell?_of_block (w := wr) (setRow_other wr.drew g r _ HS.out.ne2)).trans s0
          have hk1' : V.cell? ⟨r, 1, none⟩ = some (.slice (some ⟨bw, 0, none⟩) R.ws.length vwc) := by rw [hV]; exact (World.cell?_of_block (w := wr) (setRow_other wr.drew g r _ HS.out.ne2)).trans c1
          have hk2' : V.cell? ⟨bw, k * 2, none⟩ = some (.int .i64 (x.blk : Int)) := by rw [hV]; exact (World.cell?_of_block (w := wr) (setRow_other wr.drew g bw _ HS.out.ne1)).trans s2
          have hk3' : V.cell? ⟨bw, k * 2 + 1, none⟩ = some (.slice (some ⟨a, off, none⟩) 256 x.c) := by rw [hV]; exact (World.cell?_of_block (w := wr) (setRow_other wr.drew g bw _ HS.out.ne1)).trans s3
          have hpl := piece_len x 0 4 HS.out.len (Nat.le_refl 4) (by omega)
          have hmin : (piece x 0 4).length = Nat.min 256 (256 * n - x.blk * 256) := by rw [hpl]; exact (Nat.min_eq_left (by omega)).symm
          have hfit : x.blk * 256 + (piece x 0 4).length ≤ cur.size := by rw [hpl, hcap.2.2]; omega
          have hsrc := piece_src x 0 4 HS.out.src
          have hrow : wr.drew.heap[g]? = some (.cells cur 5 (0, 0)) := HS.out.row
          have HROW := Lib.hid hrow; clear hrow
          have HSRC := Lib.hid hsrc; clear hsrc
          have HMIN := Lib.hid hmin; clear hmin
          have HK : Hid (V.cell? ⟨r, 0, none⟩ = some (.slice (some ⟨g, 0, none⟩) (256 * n) cap) ∧ V.cell? ⟨r, 1, none⟩ = some (.slice (some ⟨bw, 0, none⟩) R.ws.length vwc) ∧ V.cell? ⟨bw, k * 2, none⟩ = some (.int .i64 (x.blk : Int)) ∧ V.cell? ⟨bw, k * 2 + 1, none⟩ = some (.slice (some ⟨a, off, none⟩) 256 x.c)) := Lib.hid ⟨hk0', hk1', hk2', hk3'⟩
          have HV := Lib.hid hV; clear hV hk0' hk1' hk2' hk3' hpl hstl
          have HXK := Lib.hid hxk; clear hxk
          go_wp2_with fail
          with_reducible refine HBT.out.mono ?_
          clear HBT
          rintro e w' ⟨rfl, hww⟩
          subst hww
          go_wp2
          go_region_held_law (fun (U : World) => U.cell? ⟨r, 0, none⟩ = some (.slice (some ⟨g, 0, none⟩) (256 * n) cap) ∧ U.cell? ⟨r, 1, none⟩ = some (.slice (some ⟨bw, 0, none⟩) R.ws.length vwc) ∧ U.cell? ⟨bw, k * 2, none⟩ = some (.int .i64 (x.blk : Int)) ∧ U.cell? ⟨bw, k * 2 + 1, none⟩ = some (.slice (some ⟨a, off, none⟩) 256 x.c)) (first | go_keep | exact HK.out)
            ((refine step_copy_row rfl (.tmp 52) (.tmp 60) 33 33 rfl 5 Try.underlying33 info_byte g (x.blk * 256) _ _ ⟨a, off, none⟩ 256 _ rfl rfl cur 5 HROW.out (piece x 0 4) HMIN.out HSRC.out hfit (piece_one x 0 4) ?_
              rw [show wr.drew.setRow g (splice cur.toList (x.blk * 256) (piece x 0 4)).toArray = V from HV.out.symm]))
          clear HSRC HROW HMIN hfit q1 e1 s0 s2 s3 c1
          have HRV : Hid (RefAt V r (R.settled bits (k + 1)) vb vw vg D) := Lib.hid (by rw [HV.out]; exact HF.out.1)
          have HTV : Hid (Turns (fun k => k = r ∨ vb.ownBlock = some k) w V) := Lib.hid (by rw [HV.out]; exact HT.out.trans HF.out.2 (fun _ _ e => .inr e))
          have HGV : Hid (V.heap[G]? = some (.cells (flags (inG bits (blkOf R) k 0) R.ws.length) 4 (0, 0))) := Lib.hid (by
            rw [flags_congr _ (inG_zero bits (blkOf R) k), HV.out]
            refine (HF.out.2.block G ?_ ?_).trans HGG.out
            · exact (Array.getElem?_eq_some_iff.1 HGG.out).1
            · intro e; have := HVL.out.1 G e; have := HG.out; omega)
          have HBK : Hid (blkOf R k = x.blk) := Lib.hid (blkOf_at HXK.out)
          have HXK2 := HXK
          clear HV HF HS HK HXK HR HGG HT
          go_wp2
          go_loopw [6] (fun i wr => ∃ j : Nat, j ≤ k + 1 ∧ i = .int .i64 (j : Int) ∧ RefAt wr r (R.settled bits (k + 1)) vb vw vg D ∧ wr.heap[G]? = some (.cells (flags (inG bits (blkOf R) k j) R.ws.length) 4 (0, 0)) ∧ Turns (fun k => k = r ∨ vb.ownBlock = some k) w wr) (fun i _ => k + 1 - (intOf i).toNat)
          case atStart => exact ⟨0, by omega, rfl, HRV.out, HGV.out, HTV.out⟩
          case round =>
            clear HRV HGV HTV
            obtain ⟨j, hj, rfl, hR, hg, hT⟩ := hrel
            have hj0 : (0 : Int) ≤ (j : Int) := by omega
            by_cases hjk : j ≤ k
            · have hjkn : (j : Int) ≤ (k : Int) := by omega
              have hjl : j < R.ws.length := by omega
              have hjn : (j : Int) < (R.ws.length : Int) := by omega
              obtain ⟨y, hyk⟩ : ∃ y, R.ws[j]? = some y := ⟨_, List.getElem?_eq_getElem hjl⟩
              have c1 : wr.cell? ⟨r, 1, none⟩ = some vw := cell_of_row wr r 1 _ _ _ hR.head
              obtain ⟨bw2, cw2, hv2, c2, -⟩ := row_write hR.ws (show (R.settled bits (k + 1)).ws[j]? = some y from hyk)
              obtain ⟨bw3, cw3, hv3, c3, -⟩ := row_write hR.ws (show (R.settled bits (k + 1)).ws[k]? = some x from HXK2.out)
              rw [HVW.out] at hv2 hv3 c1
              have d1 : bw = bw2 := by injection hv2 with d1 _ _; injection d1 with d1; injection d1
              have d3 : bw = bw3 := by injection hv3 with d1 _ _; injection d1 with d1; injection d1
              rw [← d1] at c2
              rw [← d3] at c3
              clear d1 d3 hv2 hv3
              have c4 : wr.cell? ⟨G, j, none⟩ = some (.bool (inG bits (blkOf R) k j j)) := by
                rw [cell_of_row _ _ _ _ _ _ hg]; exact flags_get _ _ _ hjl
              have f4 := frozen_of_row wr G j _ _ hg
              have HST : Hid (∀ b, RefAt (wr.drew.setCell ⟨G, j, none⟩ (.bool b)) r (R.settled bits (k + 1)) vb vw vg D) := Lib.hid (fun b => HFAR.out _ _ wr _ HVL.out.2.1 hR (((Turns.refl _ wr).drew).setCell (p := ⟨G, j, none⟩) (fun _ => by have := HG.out; show w.heap.size ≤ G; omega) _))
              have HTT : Hid (∀ b, Turns (fun k => k = r ∨ vb.ownBlock = some k) w (wr.drew.setCell ⟨G, j, none⟩ (.bool b))) := Lib.hid (fun b => (hT.drew).setCell (p := ⟨G, j, none⟩) (fun e => absurd e (by have := HG.out; show ¬ G < _; omega)) _)
              have hbq : (blkOf R j == blkOf R k) = decide (y.blk = x.blk) := by rw [HBK.out, blkOf_at hyk]; rfl
              have HBQ := Lib.hid hbq; clear hbq
              have HGG := Lib.hid hg; clear hg
              have HYK := Lib.hid hyk; clear hyk
              clear hR hT
              cases hgj : inG bits (blkOf R) k j j
              · rw [hgj] at c4
                have HGJ := Lib.hid hgj; clear hgj
                by_cases hyx : y.blk = x.blk
                · rw [hyx] at c2
                  have hbq := HBQ.out
                  rw [decide_eq_true hyx] at hbq
                  clear HBQ
                  have HBQ := Lib.hid hbq; clear hbq
                  clear hyx
                  have hS : (fun V : World => V.cell? ⟨r, 1, none⟩ = some (.slice (some ⟨bw, 0, none⟩) R.ws.length vwc) ∧ V.cell? ⟨bw, j * 2, none⟩ = some (.int .i64 (x.blk : Int)) ∧ V.cell? ⟨bw, k * 2, none⟩ = some (.int .i64 (x.blk : Int)) ∧ V.cell? ⟨G, j, none⟩ = some (.bool false)) wr.drew := ⟨c1, c2, c3, c4⟩
                  go_wp2
                  refine wp_region_E (fun V : World => V.cell? ⟨r, 1, none⟩ = some (.slice (some ⟨bw, 0, none⟩) R.ws.length vwc) ∧ V.cell? ⟨bw, j * 2, none⟩ = some (.int .i64 (x.blk : Int)) ∧ V.cell? ⟨bw, k * 2, none⟩ = some (.int .i64 (x.blk : Int)) ∧ V.cell? ⟨G, j, none⟩ = some (.bool false)) 26 (by kernel_rfl) ?_
                  refine wpE_take 0 _ (v := ?_) [25, 26] rfl (by kernel_rfl) (by kernel_rfl) (by kernel_rfl) (by kernel_rfl) (fun _ _ _ h => h) hS (Or.inl ⟨by rfl, ?_⟩) ?_
                  rotate_left
                  · (intro V hSw; obtain ⟨s1, s2, s3, s4⟩ := hSw; go_simp; try with_reducible rfl)
                  simp only [Act.put]
                  refine wpE_take 1 _ (v := ?_) [25, 26] rfl (by kernel_rfl) (by kernel_rfl) (by kernel_rfl) (by kernel_rfl) (fun _ _ _ h => h) hS (Or.inl ⟨by rfl, ?_⟩) ?_
                  rotate_left
                  · (intro V hSw; obtain ⟨s1, s2, s3, s4⟩ := hSw; go_simp; try with_reducible rfl)
                  simp only [Act.put]
                  refine wpE_take 2 _ (v := ?_) [4, 5, 6, 7, 8, 9, 10, 11, 12, 13, 14, 15, 16, 17, 18, 19, 20, 21, 22, 23, 24, 26] rfl (by kernel_rfl) (by kernel_rfl) (by kernel_rfl) (by kernel_rfl) (fun _ _ _ h => h) hS (Or.inl ⟨by rfl, ?_⟩) ?_
                  rotate_left
                  · (intro V hSw; obtain ⟨s1, s2, s3, s4⟩ := hSw; go_simp; try with_reducible rfl)
                  simp only [Act.put]
                  refine wpE_take 3 _ (v := ?_) [4, 5, 6, 7, 8, 9, 10, 11, 12, 13, 14, 15, 16, 17, 18, 19, 20, 21, 22, 23, 24, 26] rfl (by kernel_rfl) (by kernel_rfl) (by kernel_rfl) (by kernel_rfl) (fun _ _ _ h => h) hS (Or.inl ⟨by rfl, ?_⟩) ?_
                  rotate_left
                  · (intro V hSw; obtain ⟨s1, s2, s3, s4⟩ := hSw; go_simp; try with_reducible rfl)
                  simp only [Act.put]
                  refine wpE_take 4 _ (v := ?_) [5, 6, 7, 8, 9, 10, 11, 12, 13, 14, 15, 16, 17, 18, 19, 20, 21, 22, 23, 24, 26] rfl (by kernel_rfl) (by kernel_rfl) (by kernel_rfl) (by kernel_rfl) (fun _ _ _ h => h) hS (Or.inl ⟨by rfl, ?_⟩) ?_
                  rotate_left
                  · (intro V hSw; obtain ⟨s1, s2, s3, s4⟩ := hSw; go_simp; try with_reducible rfl)
                  simp only [Act.put]
                  refine wpE_take 5 _ (v := ?_) [6, 7, 8, 9, 10, 11, 12, 13, 14, 15, 16, 17, 18, 19, 20, 21, 22, 23, 24, 26] rfl (by kernel_rfl) (by kernel_rfl) (by kernel_rfl) (by kernel_rfl) (fun _ _ _ h => h) hS (Or.inl ⟨by rfl, ?_⟩) ?_
                  rotate_left
                  · (intro V hSw; obtain ⟨s1, s2, s3, s4⟩ := hSw; go_simp; try with_reducible rfl)
                  simp only [Act.put]
                  refine wpE_take 6 _ (v := ?_) [7, 8, 9, 10, 11, 12, 13, 14, 15, 16, 17, 18, 19, 20, 21, 22, 23, 24, 26] rfl (by kernel_rfl) (by kernel_rfl) (by kernel_rfl) (by kernel_rfl) (fun _ _ _ h => h) hS (Or.inl ⟨by rfl, ?_⟩) ?_
                  rotate_left
                  · (intro V hSw; obtain ⟨s1, s2, s3, s4⟩ := hSw; go_simp; try with_reducible rfl)
                  simp only [Act.put]
                  refine wpE_take 7 _ (v := ?_) [8, 9, 10, 12, 13, 14, 23, 24, 26] rfl (by kernel_rfl) (by kernel_rfl) (by kernel_rfl) (by kernel_rfl) (fun _ _ _ h => h) hS (Or.inl ⟨by kernel_rfl, ?_⟩) ?_
                  rotate_left
                  · (intro V hSw; obtain ⟨s1, s2, s3, s4⟩ := hSw; go_simp; try with_reducible rfl)
                  simp only [Act.put]
                  refine wpE_take 8 _ (v := ?_) [9, 10, 12, 13, 14, 23, 24, 26] rfl (by kernel_rfl) (by kernel_rfl) (by kernel_rfl) (by kernel_rfl) (fun _ _ _ h => h) hS (Or.inl ⟨by kernel_rfl, ?_⟩) ?_
                  rotate_left
                  · (intro V hSw; obtain ⟨s1, s2, s3, s4⟩ := hSw; go_simp; try with_reducible rfl)
                  simp only [Act.put]
                  refine wpE_take 9 _ (v := ?_) [10, 12, 13, 14, 23, 24, 26] rfl (by kernel_rfl) (by kernel_rfl) (by kernel_rfl) (by kernel_rfl) (fun _ _ _ h => h) hS (Or.inl ⟨by kernel_rfl, ?_⟩) ?_
                  rotate_left
                  · (intro V hSw; obtain ⟨s1, s2, s3, s4⟩ := hSw; go_simp; try with_reducible rfl)
                  simp only [Act.put]
                  refine wpE_take 10 _ (v := ?_) [12, 13, 14, 23, 24, 26] rfl (by kernel_rfl) (by kernel_rfl) (by kernel_rfl) (by kernel_rfl) (fun _ _ _ h => h) hS (Or.inl ⟨by kernel_rfl, ?_⟩) ?_
                  rotate_left
                  · (intro V hSw; obtain ⟨s1, s2, s3, s4⟩ := hSw; go_simp; try with_reducible rfl)
                  simp only [Act.put]
                  refine wpE_take 11 _ (v := ?_) [12, 13, 14, 23, 24, 26] rfl (by kernel_rfl) (by kernel_rfl) (by kernel_rfl) (by kernel_rfl) (fun _ _ _ h => h) hS (Or.inl ⟨by kernel_rfl, ?_⟩) ?_
                  rotate_left
                  · (intro V hSw; obtain ⟨s1, s2, s3, s4⟩ := hSw; go_simp; try with_reducible rfl)
                  simp only [Act.put]
                  refine wpE_take 12 _ (v := ?_) [13, 14, 23, 24, 26] rfl (by kernel_rfl) (by kernel_rfl) (by kernel_rfl) (by kernel_rfl) (fun _ _ _ h => h) hS (Or.inl ⟨by kernel_rfl, ?_⟩) ?_
                  rotate_left
                  · (intro V hSw; obtain ⟨s1, s2, s3, s4⟩ := hSw; go_simp; try with_reducible rfl)
                  simp only [Act.put]
                  refine wpE_take 13 _ (v := ?_) [14, 23, 24, 26] rfl (by kernel_rfl) (by kernel_rfl) (by kernel_rfl) (by kernel_rfl) (fun _ _ _ h => h) hS (Or.inl ⟨by kernel_rfl, ?_⟩) ?_
                  rotate_left
                  · (intro V hSw; obtain ⟨s1, s2, s3, s4⟩ := hSw; go_simp; try with_reducible rfl)
                  simp only [Act.put]
                  refine wpE_take 14 _ (v := ?_) [23, 24, 26] rfl (by kernel_rfl) (by kernel_rfl) (by kernel_rfl) (by kernel_rfl) (fun _ _ _ h => h) hS (Or.inl ⟨by kernel_rfl, ?_⟩) ?_
                  rotate_left
                  · (intro V hSw; obtain ⟨s1, s2, s3, s4⟩ := hSw; go_simp; try with_reducible rfl)
                  simp only [Act.put]
                  refine wpE_take 15 _ (v := ?_) [16, 17, 18, 20, 21, 22, 23, 24, 26] rfl (by kernel_rfl) (by kernel_rfl) (by kernel_rfl) (by kernel_rfl) (fun _ _ _ h => h) hS (Or.inl ⟨by kernel_rfl, ?_⟩) ?_
                  rotate_left
                  · (intro V hSw; obtain ⟨s1, s2, s3, s4⟩ := hSw; go_simp; try with_reducible rfl)
                  simp only [Act.put]
                  refine wpE_take 16 _ (v := ?_) [17, 18, 20, 21, 22, 23, 24, 26] rfl (by kernel_rfl) (by kernel_rfl) (by kernel_rfl) (by kernel_rfl) (fun _ _ _ h => h) hS (Or.inl ⟨by kernel_rfl, ?_⟩) ?_
                  rotate_left
                  · (intro V hSw; obtain ⟨s1, s2, s3, s4⟩ := hSw; go_simp; try with_reducible rfl)
                  simp only [Act.put]
                  refine wpE_take 17 _ (v := ?_) [18, 20, 21, 22, 23, 24, 26] rfl (by kernel_rfl) (by kernel_rfl) (by kernel_rfl) (by kernel_rfl) (fun _ _ _ h => h) hS (Or.inl ⟨by kernel_rfl, ?_⟩) ?_
                  rotate_left
                  · (intro V hSw; obtain ⟨s1, s2, s3, s4⟩ := hSw; go_simp; try with_reducible rfl)
                  simp only [Act.put]
                  refine wpE_take 18 _ (v := ?_) [20, 21, 22, 23, 24, 26] rfl (by kernel_rfl) (by kernel_rfl) (by kernel_rfl) (by kernel_rfl) (fun _ _ _ h => h) hS (Or.inl ⟨by kernel_rfl, ?_⟩) ?_
                  rotate_left
                  · (intro V hSw; obtain ⟨s1, s2, s3, s4⟩ := hSw; go_simp; try with_reducible rfl)
                  simp only [Act.put]
                  refine wpE_take 19 _ (v := ?_) [20, 21, 22, 23, 24, 26] rfl (by kernel_rfl) (by kernel_rfl) (by kernel_rfl) (by kernel_rfl) (fun _ _ _ h => h) hS (Or.inl ⟨by kernel_rfl, ?_⟩) ?_
                  rotate_left
                  · (intro V hSw; obtain ⟨s1, s2, s3, s4⟩ := hSw; go_simp; try with_reducible rfl)
                  simp only [Act.put]
                  refine wpE_take 20 _ (v := ?_) [21, 22, 23, 24, 26] rfl (by kernel_rfl) (by kernel_rfl) (by kernel_rfl) (by kernel_rfl) (fun _ _ _ h => h) hS (Or.inl ⟨by kernel_rfl, ?_⟩) ?_
                  rotate_left
                  · (intro V hSw; obtain ⟨s1, s2, s3, s4⟩ := hSw; go_simp; try with_reducible rfl)
                  simp only [Act.put]
                  refine wpE_take 21 _ (v := ?_) [22, 23, 24, 26] rfl (by kernel_rfl) (by kernel_rfl) (by kernel_rfl) (by kernel_rfl) (fun _ _ _ h => h) hS (Or.inl ⟨by kernel_rfl, ?_⟩) ?_
                  rotate_left
                  · (intro V hSw; obtain ⟨s1, s2, s3, s4⟩ := hSw; go_simp; try with_reducible rfl)
                  simp only [Act.put]
                  refine wpE_take 22 _ (v := ?_) [23, 24, 26] rfl (by kernel_rfl) (by kernel_rfl) (by kernel_rfl) (by kernel_rfl) (fun _ _ _ h => h) hS (Or.inl ⟨by kernel_rfl, ?_⟩) ?_
                  rotate_left
                  · (intro V hSw; obtain ⟨s1, s2, s3, s4⟩ := hSw; go_simp; try with_reducible rfl)
                  simp only [Act.put]
                  refine wpE_take 23 _ (v := ?_) [24, 26] rfl (by kernel_rfl) (by kernel_rfl) (by kernel_rfl) (by kernel_rfl) (fun _ _ _ h => h) hS (Or.inl ⟨by kernel_rfl, ?_⟩) ?_
                  rotate_left
                  · (intro V hSw; obtain ⟨s1, s2, s3, s4⟩ := hSw; go_simp; try with_reducible rfl)
                  simp only [Act.put]
                  refine wpE_take 24 _ (v := ?_) [26] rfl (by kernel_rfl) (by kernel_rfl) (by kernel_rfl) (by kernel_rfl) (fun _ _ _ h => h) hS (Or.inl ⟨by rfl, ?_⟩) ?_
                  rotate_left
                  · (intro V hSw; obtain ⟨s1, s2, s3, s4⟩ := hSw; go_simp; try with_reducible rfl)
                  simp only [Act.put]
                  refine wpE_take 25 _ (v := ?_) [26] rfl (by kernel_rfl) (by kernel_rfl) (by kernel_rfl) (by kernel_rfl) (fun _ _ _ h => h) hS (Or.inl ⟨by rfl, ?_⟩) ?_
                  rotate_left
                  · (intro V hSw; obtain ⟨s1, s2, s3, s4⟩ := hSw; go_simp; try with_reducible rfl)
                  simp only [Act.put]
                  refine wpE_last (by kernel_rfl) rfl (fun K hK => ?_)
                  go_simp
                  refine hK.out _ _ ?_
                  clear hK K
                  refine wpE_done (by kernel_rfl) ?_ _
                  clear hS c1 c2 c3 c4
                  go_wp2
                  go_roundw
                  case rel =>
                    refine ⟨j + 1, by omega, by go_num, HST.out true, ?_, HTT.out true⟩
                    have hrow := heap_setCell_same wr.drew G j _ _ (.bool true) HGG.out
                    rw [flags_set] at hrow
                    rw [flags_congr (g' := inG bits (blkOf R) k (j + 1)) _ (fun i => by rw [inG_step]; split <;> simp [HGJ.out, HBQ.out])] at hrow
                    exact hrow
                  case measure => simp [intOf]; omega
                · have hyd : ((y.blk : Int) == (x.blk : Int)) = false := by simp; omega
                  have hyn : ¬ (y.blk : Int) = (x.blk : Int) := by omega
                  have hbq := HBQ.out
                  rw [decide_eq_false hyx] at hbq
                  clear HBQ
                  have HBQ := Lib.hid hbq; clear hbq
                  clear hyx
                  have hS : (fun V : World => V.cell? ⟨r, 1, none⟩ = some (.slice (some ⟨bw, 0, none⟩) R.ws.length vwc) ∧ V.cell? ⟨bw, j * 2, none⟩ = some (.int .i64 (y.blk : Int)) ∧ V.cell? ⟨bw, k * 2, none⟩ = some (.int .i64 (x.blk : Int)) ∧ V.cell? ⟨G, j, none⟩ = some (.bool false)) wr.drew := ⟨c1, c2, c3, c4⟩
                  go_wp2
                  refine wp_region_E (fun V : World => V.cell? ⟨r, 1, none⟩ = some (.slice (some ⟨bw, 0, none⟩) R.ws.length vwc) ∧ V.cell? ⟨bw, j * 2, none⟩ = some (.int .i64 (y.blk : Int)) ∧ V.cell? ⟨bw, k * 2, none⟩ = some (.int .i64 (x.blk : Int)) ∧ V.cell? ⟨G, j, none⟩ = some (.bool false)) 26 (by kernel_rfl) ?_
                  refine wpE_take 0 _ (v := ?_) [25, 26] rfl (by kernel_rfl) (by kernel_rfl) (by kernel_rfl) (by kernel_rfl) (fun _ _ _ h => h) hS (Or.inl ⟨by rfl, ?_⟩) ?_
                  rotate_left
                  · (intro V hSw; obtain ⟨s1, s2, s3, s4⟩ := hSw; go_simp; try with_reducible rfl)
                  simp only [Act.put]
                  refine wpE_take 1 _ (v := ?_) [25, 26] rfl (by kernel_rfl) (by kernel_rfl) (by kernel_rfl) (by kernel_rfl) (fun _ _ _ h => h) hS (Or.inl ⟨by rfl, ?_⟩) ?_
                  rotate_left
                  · (intro V hSw; obtain ⟨s1, s2, s3, s4⟩ := hSw; go_simp; try with_reducible rfl)
                  simp only [Act.put]
                  refine wpE_take 2 _ (v := ?_) [4, 5, 6, 7, 8, 9, 10, 11, 12, 13, 14, 15, 16, 17, 18, 19, 20, 21, 22, 23, 24, 26] rfl (by kernel_rfl) (by kernel_rfl) (by kernel_rfl) (by kernel_rfl) (fun _ _ _ h => h) hS (Or.inl ⟨by rfl, ?_⟩) ?_
                  rotate_left
                  · (intro V hSw; obtain ⟨s1, s2, s3, s4⟩ := hSw; go_simp; try with_reducible rfl)
                  simp only [Act.put]
                  refine wpE_take 3 _ (v := ?_) [4, 5, 6, 7, 8, 9, 10, 11, 12, 13, 14, 15, 16, 17, 18, 19, 20, 21, 22, 23, 24, 26] rfl (by kernel_rfl) (by kernel_rfl) (by kernel_rfl) (by kernel_rfl) (fun _ _ _ h => h) hS (Or.inl ⟨by rfl, ?_⟩) ?_
                  rotate_left
                  · (intro V hSw; obtain ⟨s1, s2, s3, s4⟩ := hSw; go_simp; try with_reducible rfl)
                  simp only [Act.put]
                  refine wpE_take 4 _ (v := ?_) [5, 6, 7, 8, 9, 10, 11, 12, 13, 14, 15, 16, 17, 18, 19, 20, 21, 22, 23, 24, 26] rfl (by kernel_rfl) (by kernel_rfl) (by kernel_rfl) (by kernel_rfl) (fun _ _ _ h => h) hS (Or.inl ⟨by rfl, ?_⟩) ?_
                  rotate_left
                  · (intro V hSw; obtain ⟨s1, s2, s3, s4⟩ := hSw; go_simp; try with_reducible rfl)
                  simp only [Act.put]
                  refine wpE_take 5 _ (v := ?_) [6, 7, 8, 9, 10, 11, 12, 13, 14, 15, 16, 17, 18, 19, 20, 21, 22, 23, 24, 26] rfl (by kernel_rfl) (by kernel_rfl) (by kernel_rfl) (by kernel_rfl) (fun _ _ _ h => h) hS (Or.inl ⟨by rfl, ?_⟩) ?_
                  rotate_left
                  · (intro V hSw; obtain ⟨s1, s2, s3, s4⟩ := hSw; go_simp; try with_reducible rfl)
                  simp only [Act.put]
                  refine wpE_take 6 _ (v := ?_) [7, 8, 9, 10, 11, 12, 13, 14, 15, 16, 17, 18, 19, 20, 21, 22, 23, 24, 26] rfl (by kernel_rfl) (by kernel_rfl) (by kernel_rfl) (by kernel_rfl) (fun _ _ _ h => h) hS (Or.inl ⟨by rfl, ?_⟩) ?_
                  rotate_left
                  · (intro V hSw; obtain ⟨s1, s2, s3, s4⟩ := hSw; go_simp; try with_reducible rfl)
                  simp only [Act.put]
                  refine wpE_take 7 _ (v := ?_) [8, 9, 10, 12, 13, 14, 23, 24, 26] rfl (by kernel_rfl) (by kernel_rfl) (by kernel_rfl) (by kernel_rfl) (fun _ _ _ h => h) hS (Or.inl ⟨by kernel_rfl, ?_⟩) ?_
                  rotate_left
                  · (intro V hSw; obtain ⟨s1, s2, s3, s4⟩ := hSw; go_simp; try with_reducible rfl)
                  simp only [Act.put]
                  refine wpE_take 8 _ (v := ?_) [9, 10, 12, 13, 14, 23, 24, 26] rfl (by kernel_rfl) (by kernel_rfl) (by kernel_rfl) (by kernel_rfl) (fun _ _ _ h => h) hS (Or.inl ⟨by kernel_rfl, ?_⟩) ?_
                  rotate_left
                  · (intro V hSw; obtain ⟨s1, s2, s3, s4⟩ := hSw; go_simp; try with_reducible rfl)
                  simp only [Act.put]
                  refine wpE_take 9 _ (v := ?_) [10, 12, 13, 14, 23, 24, 26] rfl (by kernel_rfl) (by kernel_rfl) (by kernel_rfl) (by kernel_rfl) (fun _ _ _ h => h) hS (Or.inl ⟨by kernel_rfl, ?_⟩) ?_
                  rotate_left
                  · (intro V hSw; obtain ⟨s1, s2, s3, s4⟩ := hSw; go_simp; try with_reducible rfl)
                  simp only [Act.put]
                  refine wpE_take 10 _ (v := ?_) [12, 13, 14, 23, 24, 26] rfl (by kernel_rfl) (by kernel_rfl) (by kernel_rfl) (by kernel_rfl) (fun _ _ _ h => h) hS (Or.inl ⟨by kernel_rfl, ?_⟩) ?_
                  rotate_left
                  · (intro V hSw; obtain ⟨s1, s2, s3, s4⟩ := hSw; go_simp; try with_reducible rfl)
                  simp only [Act.put]
                  refine wpE_take 11 _ (v := ?_) [12, 13, 14, 23, 24, 26] rfl (by kernel_rfl) (by kernel_rfl) (by kernel_rfl) (by kernel_rfl) (fun _ _ _ h => h) hS (Or.inl ⟨by kernel_rfl, ?_⟩) ?_
                  rotate_left
                  · (intro V hSw; obtain ⟨s1, s2, s3, s4⟩ := hSw; go_simp; try with_reducible rfl)
                  simp only [Act.put]
                  refine wpE_take 12 _ (v := ?_) [13, 14, 23, 24, 26] rfl (by kernel_rfl) (by kernel_rfl) (by kernel_rfl) (by kernel_rfl) (fun _ _ _ h => h) hS (Or.inl ⟨by kernel_rfl, ?_⟩) ?_
                  rotate_left
                  · (intro V hSw; obtain ⟨s1, s2, s3, s4⟩ := hSw; go_simp; try with_reducible rfl)
                  simp only [Act.put]
                  refine wpE_take 13 _ (v := ?_) [14, 23, 24, 26] rfl (by kernel_rfl) (by kernel_rfl) (by kernel_rfl) (by kernel_rfl) (fun _ _ _ h => h) hS (Or.inl ⟨by kernel_rfl, ?_⟩) ?_
                  rotate_left
                  · (intro V hSw; obtain ⟨s1, s2, s3, s4⟩ := hSw; go_simp; try with_reducible rfl)
                  simp only [Act.put]
                  refine wpE_take 14 _ (v := ?_) [23, 24, 26] rfl (by kernel_rfl) (by kernel_rfl) (by kernel_rfl) (by kernel_rfl) (fun _ _ _ h => h) hS (Or.inl ⟨by kernel_rfl, ?_⟩) ?_
                  rotate_left
                  · (intro V hSw; obtain ⟨s1, s2, s3, s4⟩ := hSw; go_simp; try with_reducible rfl)
                  simp only [Act.put]
                  refine wpE_take 15 _ (v := ?_) [16, 17, 18, 20, 21, 22, 23, 24, 26] rfl (by kernel_rfl) (by kernel_rfl) (by kernel_rfl) (by kernel_rfl) (fun _ _ _ h => h) hS (Or.inl ⟨by kernel_rfl, ?_⟩) ?_
                  rotate_left
                  · (intro V hSw; obtain ⟨s1, s2, s3, s4⟩ := hSw; go_simp; try with_reducible rfl)
                  simp only [Act.put]
                  refine wpE_take 16 _ (v := ?_) [17, 18, 20, 21, 22, 23, 24, 26] rfl (by kernel_rfl) (by kernel_rfl) (by kernel_rfl) (by kernel_rfl) (fun _ _ _ h => h) hS (Or.inl ⟨by kernel_rfl, ?_⟩) ?_
                  rotate_left
                  · (intro V hSw; obtain ⟨s1, s2, s3, s4⟩ := hSw; go_simp; try with_reducible rfl)
                  simp only [Act.put]
                  refine wpE_take 17 _ (v := ?_) [18, 20, 21, 22, 23, 24, 26] rfl (by kernel_rfl) (by kernel_rfl) (by kernel_rfl) (by kernel_rfl) (fun _ _ _ h => h) hS (Or.inl ⟨by kernel_rfl, ?_⟩) ?_
                  rotate_left
                  · (intro V hSw; obtain ⟨s1, s2, s3, s4⟩ := hSw; go_simp; try with_reducible rfl)
                  simp only [Act.put]
                  refine wpE_take 18 _ (v := ?_) [20, 21, 22, 23, 24, 26] rfl (by kernel_rfl) (by kernel_rfl) (by kernel_rfl) (by kernel_rfl) (fun _ _ _ h => h) hS (Or.inl ⟨by kernel_rfl, ?_⟩) ?_
                  rotate_left
                  · (intro V hSw; obtain ⟨s1, s2, s3, s4⟩ := hSw; go_simp; try with_reducible rfl)
                  simp only [Act.put]
                  refine wpE_take 19 _ (v := ?_) [20, 21, 22, 23, 24, 26] rfl (by kernel_rfl) (by kernel_rfl) (by kernel_rfl) (by kernel_rfl) (fun _ _ _ h => h) hS (Or.inl ⟨by kernel_rfl, ?_⟩) ?_
                  rotate_left
                  · (intro V hSw; obtain ⟨s1, s2, s3, s4⟩ := hSw; go_simp; try with_reducible rfl)
                  simp only [Act.put]
                  refine wpE_take 20 _ (v := ?_) [21, 22, 23, 24, 26] rfl (by kernel_rfl) (by kernel_rfl) (by kernel_rfl) (by kernel_rfl) (fun _ _ _ h => h) hS (Or.inl ⟨by kernel_rfl, ?_⟩) ?_
                  rotate_left
                  · (intro V hSw; obtain ⟨s1, s2, s3, s4⟩ := hSw; go_simp; try with_reducible rfl)
                  simp only [Act.put]
                  refine wpE_take 21 _ (v := ?_) [22, 23, 24, 26] rfl (by kernel_rfl) (by kernel_rfl) (by kernel_rfl) (by kernel_rfl) (fun _ _ _ h => h) hS (Or.inl ⟨by kernel_rfl, ?_⟩) ?_
                  rotate_left
                  · (intro V hSw; obtain ⟨s1, s2, s3, s4⟩ := hSw; go_simp; try with_reducible rfl)
                  simp only [Act.put]
                  refine wpE_take 22 _ (v := ?_) [23, 24, 26] rfl (by kernel_rfl) (by kernel_rfl) (by kernel_rfl) (by kernel_rfl) (fun _ _ _ h => h) hS (Or.inl ⟨by kernel_rfl, ?_⟩) ?_
                  rotate_left
                  · (intro V hSw; obtain ⟨s1, s2, s3, s4⟩ := hSw; go_simp; try with_reducible rfl)
                  simp only [Act.put]
                  refine wpE_take 23 _ (v := ?_) [24, 26] rfl (by kernel_rfl) (by kernel_rfl) (by kernel_rfl) (by kernel_rfl) (fun _ _ _ h => h) hS (Or.inl ⟨by kernel_rfl, ?_⟩) ?_
                  rotate_left
                  · (intro V hSw; obtain ⟨s1, s2, s3, s4⟩ := hSw; go_simp; try with_reducible rfl)
                  simp only [Act.put]
                  refine wpE_take 24 _ (v := ?_) [26] rfl (by kernel_rfl) (by kernel_rfl) (by kernel_rfl) (by kernel_rfl) (fun _ _ _ h => h) hS (Or.inl ⟨by rfl, ?_⟩) ?_
                  rotate_left
                  · (intro V hSw; obtain ⟨s1, s2, s3, s4⟩ := hSw; go_simp; try with_reducible rfl)
                  simp only [Act.put]
                  refine wpE_take 25 _ (v := ?_) [26] rfl (by kernel_rfl) (by kernel_rfl) (by kernel_rfl) (by kernel_rfl) (fun _ _ _ h => h) hS (Or.inl ⟨by rfl, ?_⟩) ?_
                  rotate_left
                  · (intro V hSw; obtain ⟨s1, s2, s3, s4⟩ := hSw; go_simp; try with_reducible rfl)
                  simp only [Act.put]
                  refine wpE_last (by kernel_rfl) rfl (fun K hK => ?_)
                  go_simp
                  refine hK.out _ _ ?_
                  clear hK K
                  refine wpE_done (by kernel_rfl) ?_ _
                  clear hS c1 c2 c3 c4
                  go_wp2
                  go_roundw
                  case rel =>
                    refine ⟨j + 1, by omega, by go_num, HST.out false, ?_, HTT.out false⟩
                    have hrow := heap_setCell_same wr.drew G j _ _ (.bool false) HGG.out
                    rw [flags_set] at hrow
                    rw [flags_congr (g' := inG bits (blkOf R) k (j + 1)) _ (fun i => by rw [inG_step]; split <;> simp [HGJ.out, HBQ.out])] at hrow
                    exact hrow
                  case measure => simp [intOf]; omega
              · rw [hgj] at c4
                have HGJ := Lib.hid hgj; clear hgj
                have hS : (fun V : World => V.cell? ⟨r, 1, none⟩ = some (.slice (some ⟨bw, 0, none⟩) R.ws.length vwc) ∧ V.cell? ⟨bw, j * 2, none⟩ = some (.int .i64 (y.blk : Int)) ∧ V.cell? ⟨bw, k * 2, none⟩ = some (.int .i64 (x.blk : Int)) ∧ V.cell? ⟨G, j, none⟩ = some (.bool true)) wr.drew := ⟨c1, c2, c3, c4⟩
                go_wp2
                refine wp_region_E (fun V : World => V.cell? ⟨r, 1, none⟩ = some (.slice (some ⟨bw, 0, none⟩) R.ws.length vwc) ∧ V.cell? ⟨bw, j * 2, none⟩ = some (.int .i64 (y.blk : Int)) ∧ V.cell? ⟨bw, k * 2, none⟩ = some (.int .i64 (x.blk : Int)) ∧ V.cell? ⟨G, j, none⟩ = some (.bool true)) 26 (by kernel_rfl) ?_
                refine wpE_take 0 _ (v := ?_) [25, 26] rfl (by kernel_rfl) (by kernel_rfl) (by kernel_rfl) (by kernel_rfl) (fun _ _ _ h => h) hS (Or.inl ⟨by rfl, ?_⟩) ?_
                rotate_left
                · (intro V hSw; obtain ⟨s1, s2, s3, s4⟩ := hSw; go_simp; try with_reducible rfl)
                simp only [Act.put]
                refine wpE_take 1 _ (v := ?_) [25, 26] rfl (by kernel_rfl) (by kernel_rfl) (by kernel_rfl) (by kernel_rfl) (fun _ _ _ h => h) hS (Or.inl ⟨by rfl, ?_⟩) ?_
                rotate_left
                · (intro V hSw; obtain ⟨s1, s2, s3, s4⟩ := hSw; go_simp; try with_reducible rfl)
                simp only [Act.put]
                refine wpE_take 2 _ (v := ?_) [4, 5, 6, 7, 8, 9, 10, 11, 12, 13, 14, 15, 16, 17, 18, 19, 20, 21, 22, 23, 24, 26] rfl (by kernel_rfl) (by kernel_rfl) (by kernel_rfl) (by kernel_rfl) (fun _ _ _ h => h) hS (Or.inl ⟨by rfl, ?_⟩) ?_
                rotate_left
                · (intro V hSw; obtain ⟨s1, s2, s3, s4⟩ := hSw; go_simp; try with_reducible rfl)
                simp only [Act.put]
                refine wpE_take 3 _ (v := ?_) [4, 5, 6, 7, 8, 9, 10, 11, 12, 13, 14, 15, 16, 17, 18, 19, 20, 21, 22, 23, 24, 26] rfl (by kernel_rfl) (by kernel_rfl) (by kernel_rfl) (by kernel_rfl) (fun _ _ _ h => h) hS (Or.inl ⟨by rfl, ?_⟩) ?_
                rotate_left
                · (intro V hSw; obtain ⟨s1, s2, s3, s4⟩ := hSw; go_simp; try with_reducible rfl)
                simp only [Act.put]
                refine wpE_take 4 _ (v := ?_) [5, 6, 7, 8, 9, 10, 11, 12, 13, 14, 15, 16, 17, 18, 19, 20, 21, 22, 23, 24, 26] rfl (by kernel_rfl) (by kernel_rfl) (by kernel_rfl) (by kernel_rfl) (fun _ _ _ h => h) hS (Or.inl ⟨by rfl, ?_⟩) ?_
                rotate_left
                · (intro V hSw; obtain ⟨s1, s2, s3, s4⟩ := hSw; go_simp; try with_reducible rfl)
                simp only [Act.put]
                refine wpE_take 5 _ (v := ?_) [6, 7, 8, 9, 10, 11, 12, 13, 14, 15, 16, 17, 18, 19, 20, 21, 22, 23, 24, 26] rfl (by kernel_rfl) (by kernel_rfl) (by kernel_rfl) (by kernel_rfl) (fun _ _ _ h => h) hS (Or.inl ⟨by rfl, ?_⟩) ?_
                rotate_left
                · (intro V hSw; obtain ⟨s1, s2, s3, s4⟩ := hSw; go_simp; try with_reducible rfl)
                simp only [Act.put]
                refine wpE_take 6 _ (v := ?_) [7, 8, 9, 10, 11, 12, 13, 14, 15, 16, 17, 18, 19, 20, 21, 22, 23, 24, 26] rfl (by kernel_rfl) (by kernel_rfl) (by kernel_rfl) (by kernel_rfl) (fun _ _ _ h => h) hS (Or.inl ⟨by rfl, ?_⟩) ?_
                rotate_left
                · (intro V hSw; obtain ⟨s1, s2, s3, s4⟩ := hSw; go_simp; try with_reducible rfl)
                simp only [Act.put]
                refine wpE_take 7 _ (v := undef) [8, 9, 10, 12, 13, 14, 23, 24, 26] rfl (by kernel_rfl) (by kernel_rfl) (by kernel_rfl) (by kernel_rfl) (fun _ _ _ h => h) hS (Or.inr ⟨by kernel_rfl, rfl⟩) ?_
                simp only [Act.put]
                refine wpE_take 8 _ (v := undef) [9, 10, 12, 13, 14, 23, 24, 26] rfl (by kernel_rfl) (by kernel_rfl) (by kernel_rfl) (by kernel_rfl) (fun _ _ _ h => h) hS (Or.inr ⟨by kernel_rfl, rfl⟩) ?_
                simp only [Act.put]
                refine wpE_take 9 _ (v := undef) [10, 12, 13, 14, 23, 24, 26] rfl (by kernel_rfl) (by kernel_rfl) (by kernel_rfl) (by kernel_rfl) (fun _ _ _ h => h) hS (Or.inr ⟨by kernel_rfl, rfl⟩) ?_
                simp only [Act.put]
                refine wpE_take 10 _ (v := undef) [12, 13, 14, 23, 24, 26] rfl (by kernel_rfl) (by kernel_rfl) (by kernel_rfl) (by kernel_rfl) (fun _ _ _ h => h) hS (Or.inr ⟨by kernel_rfl, rfl⟩) ?_
                simp only [Act.put]
                refine wpE_take 11 _ (v := undef) [12, 13, 14, 23, 24, 26] rfl (by kernel_rfl) (by kernel_rfl) (by kernel_rfl) (by kernel_rfl) (fun _ _ _ h => h) hS (Or.inr ⟨by kernel_rfl, rfl⟩) ?_
                simp only [Act.put]
                refine wpE_take 12 _ (v := undef) [13, 14, 23, 24, 26] rfl (by kernel_rfl) (by kernel_rfl) (by kernel_rfl) (by kernel_rfl) (fun _ _ _ h => h) hS (Or.inr ⟨by kernel_rfl, rfl⟩) ?_
                simp only [Act.put]
                refine wpE_take 13 _ (v := undef) [14, 23, 24, 26] rfl (by kernel_rfl) (by kernel_rfl) (by kernel_rfl) (by kernel_rfl) (fun _ _ _ h => h) hS (Or.inr ⟨by kernel_rfl, rfl⟩) ?_
                simp only [Act.put]
                refine wpE_take 14 _ (v := undef) [23, 24, 26] rfl (by kernel_rfl) (by kernel_rfl) (by kernel_rfl) (by kernel_rfl) (fun _ _ _ h => h) hS (Or.inr ⟨by kernel_rfl, rfl⟩) ?_
                simp only [Act.put]
                refine wpE_take 15 _ (v := undef) [16, 17, 18, 20, 21, 22, 23, 24, 26] rfl (by kernel_rfl) (by kernel_rfl) (by kernel_rfl) (by kernel_rfl) (fun _ _ _ h => h) hS (Or.inr ⟨by kernel_rfl, rfl⟩) ?_
                simp only [Act.put]
                refine wpE_take 16 _ (v := undef) [17, 18, 20, 21, 22, 23, 24, 26] rfl (by kernel_rfl) (by kernel_rfl) (by kernel_rfl) (by kernel_rfl) (fun _ _ _ h => h) hS (Or.inr ⟨by kernel_rfl, rfl⟩) ?_
                simp only [Act.put]
                refine wpE_take 17 _ (v := undef) [18, 20, 21, 22, 23, 24, 26] rfl (by kernel_rfl) (by kernel_rfl) (by kernel_rfl) (by kernel_rfl) (fun _ _ _ h => h) hS (Or.inr ⟨by kernel_rfl, rfl⟩) ?_
                simp only [Act.put]
                refine wpE_take 18 _ (v := undef) [20, 21, 22, 23, 24, 26] rfl (by kernel_rfl) (by kernel_rfl) (by kernel_rfl) (by kernel_rfl) (fun _ _ _ h => h) hS (Or.inr ⟨by kernel_rfl, rfl⟩) ?_
                simp only [Act.put]
                refine wpE_take 19 _ (v := undef) [20, 21, 22, 23, 24, 26] rfl (by kernel_rfl) (by kernel_rfl) (by kernel_rfl) (by kernel_rfl) (fun _ _ _ h => h) hS (Or.inr ⟨by kernel_rfl, rfl⟩) ?_
                simp only [Act.put]
                refine wpE_take 20 _ (v := undef) [21, 22, 23, 24, 26] rfl (by kernel_rfl) (by kernel_rfl) (by kernel_rfl) (by kernel_rfl) (fun _ _ _ h => h) hS (Or.inr ⟨by kernel_rfl, rfl⟩) ?_
                simp only [Act.put]
                refine wpE_take 21 _ (v := undef) [22, 23, 24, 26] rfl (by kernel_rfl) (by kernel_rfl) (by kernel_rfl) (by kernel_rfl) (fun _ _ _ h => h) hS (Or.inr ⟨by kernel_rfl, rfl⟩) ?_
                simp only [Act.put]
                refine wpE_take 22 _ (v := undef) [23, 24, 26] rfl (by kernel_rfl) (by kernel_rfl) (by kernel_rfl) (by kernel_rfl) (fun _ _ _ h => h) hS (Or.inr ⟨by kernel_rfl, rfl⟩) ?_
                simp only [Act.put]
                refine wpE_take 23 _ (v := undef) [24, 26] rfl (by kernel_rfl) (by kernel_rfl) (by kernel_rfl) (by kernel_rfl) (fun _ _ _ h => h) hS (Or.inr ⟨by kernel_rfl, rfl⟩) ?_
                simp only [Act.put]
                refine wpE_take 24 _ (v := ?_) [26] rfl (by kernel_rfl) (by kernel_rfl) (by kernel_rfl) (by kernel_rfl) (fun _ _ _ h => h) hS (Or.inl ⟨by rfl, ?_⟩) ?_
                rotate_left
                · (intro V hSw; obtain ⟨s1, s2, s3, s4⟩ := hSw; go_simp; try with_reducible rfl)
                simp only [Act.put]
                refine wpE_take 25 _ (v := ?_) [26] rfl (by kernel_rfl) (by kernel_rfl) (by kernel_rfl) (by kernel_rfl) (fun _ _ _ h => h) hS (Or.inl ⟨by rfl, ?_⟩) ?_
                rotate_left
                · (intro V hSw; obtain ⟨s1, s2, s3, s4⟩ := hSw; go_simp; try with_reducible rfl)
                simp only [Act.put]
                refine wpE_last (by kernel_rfl) rfl (fun K hK => ?_)
                go_simp
                refine hK.out _ _ ?_
                clear hK K
                refine wpE_done (by kernel_rfl) ?_ _
                clear hS c1 c2 c3 c4
                go_wp2
                go_roundw
                case rel =>
                  refine ⟨j + 1, by omega, by go_num, HST.out true, ?_, HTT.out true⟩
                  have hrow := heap_setCell_same wr.drew G j _ _ (.bool true) HGG.out
                  rw [flags_set] at hrow
                  rw [flags_congr (g' := inG bits (blkOf R) k (j + 1)) _ (fun i => by rw [inG_step]; split <;> simp [HGJ.out])] at hrow
                  exact hrow
                case measure => simp [intOf]; omega
            · have hjkn : ¬ (j : Int) ≤ (k : Int) := by omega
              obtain rfl : j = k + 1 := by omega
              have HR := Lib.hid hR; clear hR
              have HGG := Lib.hid hg; clear hg
              have HT := Lib.hid hT; clear hT
              go_wp2
              go_roundw
              case rel => exact ⟨k + 1, by omega, by go_num, HR.out, by rw [← flags_congr _ (fun i => inG_last bits (blkOf R) k i HBIT.out)]; exact HGG.out, HT.out⟩
              case measure => simp [intOf]; omega
      · obtain rfl : k = R.ws.length := by omega
        obtain ⟨w2, hw2⟩ : ∃ w2, w2 = wr := ⟨_, rfl⟩
        subst hw2
        have hG2 : G < w2.heap.size := (Array.getElem?_eq_some_iff.1 HGG.out).1
        obtain ⟨g, hgd⟩ : ∃ g, g = goneF bits (blkOf R) R.ws.length := ⟨_, rfl⟩
        rw [← hgd] at HGG
        have HGD := Lib.hid hgd; clear hgd
        go_wp2
        clear c1
        go_loopw [7, 8] (fun v i wr => ∃ (k : Nat) (vA : Option Addr) (vc : Nat), k ≤ R.ws.length ∧ i = .int .i64 (k : Int) ∧ v = .slice vA (keptR g R.ws k).length vc ∧ wr.ownsRow (G + 1) 83 2 v (keptR g R.ws k).length ((keptR g R.ws k).flatMap WrAt.cells) ∧ Turns (fun k => G < k) w2 wr) (fun _ i _ => R.ws.length - (intOf i).toNat)
        case atStart => exact ⟨0, none, 0, by omega, rfl, rfl, World.ownsRow_nil _ _ _ _, Turns.refl _ _⟩
        case round =>
          obtain ⟨k, vA, vc, hk, rfl, rfl, hO, hT2⟩ := hrel
          have hR3 := HFAR.out _ _ w2 wr HVL.out.2.1 HR.out (hT2.mono (fun i _ e => by have := HG.out; omega))
          have hg3 := (hT2.block G hG2 (by omega)).trans HGG.out
          have c1 : wr.cell? ⟨r, 1, none⟩ = some vw := cell_of_row wr r 1 _ _ _ hR3.head
          rw [HVW.out] at c1
          have hlk := keptR_len g R.ws k
          have HR3 := Lib.hid hR3; clear hR3
          have HO := Lib.hid hO; clear hO
          have HT2 := Lib.hid hT2; clear hT2
          have hk0 : (0 : Int) ≤ (k : Int) := by omega
          by_cases hlt : k < R.ws.length
          · have hkn : (k : Int) < (R.ws.length : Int) := by omega
            have c4 : wr.cell? ⟨G, k, none⟩ = some (.bool (g k)) := by
              rw [cell_of_row _ _ _ _ _ _ hg3]; exact flags_get _ _ _ hlt
            clear hg3
            cases hgk : g k
            · rw [hgk] at c4
              obtain ⟨x, hxk⟩ : ∃ x, R.ws[k]? = some x := ⟨_, List.getElem?_eq_getElem hlt⟩
              obtain ⟨bw, cw, hv2, c2, c3⟩ := row_write HR3.out.ws (show (R.settled bits R.ws.length).ws[k]? = some x from hxk)
              rw [HVW.out] at hv2
              have d1 : vwA = some ⟨bw, 0, none⟩ := by injection hv2
              clear hv2
              subst d1
              have HKS := Lib.hid (keptR_stays hgk hxk)
              obtain ⟨X, hX⟩ : ∃ X, X = x.A := ⟨_, rfl⟩
              have HXE := Lib.hid hX
              rw [← hX] at c3
              clear hgk hxk hX
              obtain ⟨L, hL⟩ : ∃ L, L = (keptR g R.ws k).length := ⟨_, rfl⟩
              rw [← hL] at HO ⊢ hlk
              have HL := Lib.hid hL; clear hL
              obtain ⟨if0, hi1, hz0, hz1, hz2⟩ := info_parts info_write
              have hO5 := World.ownsRow.alloc (w := wr) HO.out (.cells #[.int .i64 (x.blk : Int), .slice X 256 x.c] 83)
              have HO5 := Lib.hid hO5; clear hO5
              have hB5 : G + 1 ≤ (wr.alloc (.cells #[.int .i64 (x.blk : Int), .slice X 256 x.c] 83)).heap.size := by
                have := HT2.out.size; simp; omega
              have HB5 := Lib.hid hB5; clear hB5
              go_wp2_with (at_builtin; refine wpList_append_lies (o := ⟨some 116, _, _, _, _, _⟩) _ rfl (.tmp 107) (.tmp 115) 37 rfl (G + 1) 83 if0 (.agg #[.int .i64 0, .slice none 0 0]) 2 32 Try.underlying37 hi1 hz0 hz1 hz2 rfl (by omega) (.slice vA L vc) L ((keptR g R.ws k).flatMap WrAt.cells) rfl HO5.out ⟨wr.heap.size, 0, none⟩ 1 1 [.int .i64 (x.blk : Int), .slice X 256 x.c] rfl rfl (World.news_of_block (heap_alloc_new wr (.cells #[.int .i64 (x.blk : Int), .slice X 256 x.c] 83))) (by intro u hu; simp at hu; rcases hu with rfl | rfl <;> rfl) (by omega) (by unfold maxLen; omega) (by omega) HB5.out _ rfl ?_)
              intro g' cap w4 hown hgrow hat hgl
              have HOWN := Lib.hid hown; clear hown
              have hT4 : Turns (fun k => G < k) w2 w4 := (HT2.out.alloc _).grown hgrow (fun k e _ => by have := (World.ownsRow.lt HO.out k e).1; omega)
              have HT4 := Lib.hid hT4
              clear hgrow hat hgl hT4 c1 c2 c3 c4 hi1 hz0 hz1 hz2
              go_wp2
              go_roundw
              case rel =>
                refine ⟨k + 1, some ⟨g', 0, none⟩, cap, by omega, by go_num, by rw [HKS.out, List.length_append, ← HL.out]; rfl, ?_, HT4.out⟩
                rw [HKS.out, List.length_append, List.flatMap_append, ← HL.out]
                have := HOWN.out
                rw [HXE.out] at this
                simpa [WrAt.cells] using this
              case measure => simp [intOf]; omega
            · rw [hgk] at c4
              have HKG := Lib.hid (keptR_gone (ws := R.ws) hgk)
              clear hgk
              go_wp2
              go_roundw
              case rel => exact ⟨k + 1, vA, vc, by omega, by go_num, by rw [HKG.out], by rw [HKG.out]; exact HO.out, HT2.out⟩
              case measure => simp [intOf]; omega
          · obtain rfl : k = R.ws.length := by omega
            have f1 := frozen_of_row wr r 1 _ _ HR3.out.head
            clear hg3
            go_wp2
            go_end0
            rw [← HGD.out]
            have hap := HR3.out.apart
            have hTc := turns_cell wr r 1 (.slice vA (keptR g R.ws R.ws.length).length vc)
            have hrow : Row wr 83 2 (.slice vA (keptR g R.ws R.ws.length).length vc) (keptR g R.ws R.ws.length).length ((keptR g R.ws R.ws.length).flatMap WrAt.cells) := by
              obtain ⟨e1, e2⟩ := HO.out
              refine ⟨e1, ?_⟩
              rcases e2 with e2 | ⟨g', cap', cur', e, hg, rr⟩
              · exact .inl e2
              · exact .inr ⟨g', cap', cur', e, Nat.zero_le _, rr⟩
            refine ⟨rfl, .slice vA (keptR g R.ws R.ws.length).length vc, ⟨?_, HR3.out.st.turns hTc (fun k hk e => hap.1 (by rw [hk, e])), row_store hrow HR3.out.head (by decide), HR3.out.gs.turns hTc (fun k hk e => hap.2.2 (by rw [hk, e])), HR3.out.far, fun y hy => ?_⟩, ?_, fun k hk => ?_⟩
            · rw [heap_setCell_same wr r 1 _ _ _ HR3.out.head]; rfl
            · have hy' : y ∈ R.ws ++ R.gs := by
                rcases List.mem_append.1 hy with e | e
                · exact List.mem_append_left _ (keptR_mem g R.ws y _ e)
                · exact List.mem_append_right _ e
              obtain ⟨hl, b, o, e, hDb, hb, hr⟩ := HR3.out.data y hy'
              exact ⟨hl, b, o, e, hDb, by have := hTc.size; omega, bytes_turns hr hTc hb (fun e => HR3.out.far (by rw [← e]; exact hDb))⟩
            · exact (HT.out.trans HT2.out (fun i hi e => by have := HG.out; omega)).trans hTc (fun i _ e => .inl e)
            · have := (World.ownsRow.lt HO.out k hk).1
              have := HG.out
              omega
end Go.Proofs.Ytelnoibfamcnmaa.Disk
