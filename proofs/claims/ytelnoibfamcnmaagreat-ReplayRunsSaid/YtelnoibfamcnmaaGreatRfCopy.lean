/- Contract of the document's copying of a record: another one, in memory of the call's own. -/
import Derived.Test.YtelnoibfamcnmaaGreatRcList
import Derived.Test.YtelnoibfamcnmaaGreatRcWide
import Derived.Test.YtelnoibfamcnmaaGreatReg
import Derived.Deep.RegionHeldLaw
namespace Go.Proofs.YtelnoibfamcnmaaGreat.Rec
set_option maxRecDepth 20000
open Go.RowKit
open Go.Proofs.YtelnoibfamcnmaaGreat.Mem Go.Proofs.YtelnoibfamcnmaaGreat.Crc Go.Proofs.YtelnoibfamcnmaaGreat.Reg

/-- While it is copied. -/
structure Copying (w wr : World) (p : Nat) (seq : Nat) (Aw : Option Addr) (nw cw : Nat) (Ar : Option Addr) (nr cr : Nat) (ws : List Wt) (rs : List Int) (k : Nat) (Bw : Option Addr) (dw : Nat) (Br : Option Addr) (dr : Nat) (vs : List Value) : Prop where
  par : wr.heap[w.heap.size]? = some (.cells #[.int .u64 (seq : Int), .slice Aw nw cw, .slice Ar nr cr] 63 (0, 0))
  res : wr.heap[w.heap.size + 1]? = some (.cells #[.int .u64 0, .slice none 0 0, .slice none 0 0] 63 (0, 0))
  box : wr.heap[p]? = some (.cells #[.int .u64 (seq : Int), .slice Bw k dw, .slice Br nr dr] 63 (0, 0))
  own : OwnsW wr (w.heap.size + 2) Bw k dw (ws.take k) vs
  ints : wr.ownsRow (w.heap.size + 2) 3 1 (.slice Br nr dr) nr (rs.map (Value.int .i64))
  below : Below w.heap.size w wr
  size : w.heap.size + 2 ≤ wr.heap.size
  pbase : w.heap.size + 2 ≤ p

theorem Copying.next {w wr V2 V4 : World} {p seq nw cw nr cr k dw dr g cap : Nat} {Aw Ar Bw Br : Option Addr} {ws : List Wt} {rs : List Int} {vs : List Value} {x : Wt} {v2 : Value}
    (h : Copying w wr p seq Aw nw cw Ar nr cr ws rs k Bw dw Br dr vs) (hx : ws[k]? = some x) (ho2 : Owned V2 wr.heap.size v2 x.2) (hb2 : Below wr.heap.size wr V2)
    (ho4 : V4.ownsRow (w.heap.size + 2) 56 2 (.slice (some ⟨g, 0, none⟩) (k + 1) cap) (k + 1) (wcells (ws.take k) vs ++ [.int .i64 x.1, v2]))
    (hg4 : (V2.alloc (.cells #[.int .i64 x.1, v2] 56)).grownBy V4 (Value.slice Bw k dw).ownBlock) :
    Copying w (V4.setCell ⟨p, 1, none⟩ (.slice (some ⟨g, 0, none⟩) (k + 1) cap)) p seq Aw nw cw Ar nr cr ws rs (k + 1) (some ⟨g, 0, none⟩) cap Br dr (vs ++ [v2]) := by
  obtain ⟨V3, hV3⟩ : ∃ V, V = V2.alloc (.cells #[.int .i64 x.1, v2] 56) := ⟨_, rfl⟩
  rw [← hV3] at hg4
  have hbA : Below V2.heap.size V2 V3 := by rw [hV3]; exact (Below.refl _ _).alloc (Nat.le_refl _) _
  have hb3 : Below wr.heap.size wr V3 := hb2.trans (hbA.mono hb2.size)
  have hown3 : OwnsW V3 (w.heap.size + 2) Bw k dw (ws.take k) vs := h.own.kept (Kept.of_below hb3 (Nat.le_refl _))
  have hints3 := ownsRow_kept h.ints (Kept.of_below hb3 (Nat.le_refl _))
  have hpar3 := (hb3.block _ (Array.getElem?_eq_some_iff.1 h.par).1).trans h.par
  have hres3 := (hb3.block _ (Array.getElem?_eq_some_iff.1 h.res).1).trans h.res
  have hbox3 := (hb3.block _ (Array.getElem?_eq_some_iff.1 h.box).1).trans h.box
  have hpar4 := block_grown hpar3 hown3.row (by decide) hg4
  have hres4 := block_grown hres3 hown3.row (by decide) hg4
  have hbox4 := block_grown hbox3 hown3.row (by decide) hg4
  have hints4 := ownsRow_grown hints3 hown3.row (by decide) hg4
  have hv3 : Owned V3 wr.heap.size v2 x.2 := Owned.keep ho2 hbA (Nat.le_refl _)
  have hnew : ∀ u ∈ vs, ∀ q, u.ownBlock = some q → v2.ownBlock ≠ some q := fun u hu q hq e => by
    obtain ⟨j, hj, rfl⟩ := List.getElem_of_mem hu
    have hjl : j < (ws.take k).length := by rw [← h.own.len]; exact hj
    have h1 := (World.ownsRow.lt (h.own.data j _ _ (List.getElem?_eq_getElem hjl) (List.getElem?_eq_getElem hj)) q hq).2
    have h2 := (World.ownsRow.lt hv3 q e).1
    omega
  have hmore := OwnsW.more hown3 x v2 (Owned.mono hv3 h.size) hnew ho4 hg4
  have hsz := hg4.size
  have hb4 : Below w.heap.size w V4 := (h.below.trans (hb3.mono h.below.size)).grown hg4 (by have := h.below.size; have := hb3.size; omega) (fun q e => by have := (World.ownsRow.lt hown3.row q e).1; omega)
  have hpb := h.pbase
  have hne : ∀ (q : Nat) {u : Value}, q ≠ p → (V4.setCell ⟨p, 1, none⟩ u).heap[q]? = V4.heap[q]? := fun q u hq => Below.heap_setCell _ _ _ _ hq
  refine ⟨by rw [hne _ (by omega)]; exact hpar4, by rw [hne _ (by omega)]; exact hres4, by rw [heap_setCell_same V4 p 1 _ _ _ hbox4]; rfl, ?_, ownsRow_store hints4 hbox4 (by decide), hb4.setCell (by show w.heap.size ≤ p; omega) _, ?_, hpb⟩
  · rw [show ws.take (k + 1) = ws.take k ++ [x] by
      obtain ⟨hk, rfl⟩ := List.getElem?_eq_some_iff.1 hx
      exact List.take_succ_eq_append_getElem hk]
    exact hmore.store hbox4 (by decide) (by decide)
  · have := h.size
    have := hb3.size
    show w.heap.size + 2 ≤ (V4.setCell _ _).heap.size
    simp [World.setCell]; omega

theorem Copying.start {w w1 : World} {p seq nw cw nr cr dr : Nat} {Aw Ar Br : Option Addr} {ws : List Wt} {rs : List Int}
    (hpar : w1.heap[w.heap.size]? = some (.cells #[.int .u64 (seq : Int), .slice Aw nw cw, .slice Ar nr cr] 63 (0, 0)))
    (hres : w1.heap[w.heap.size + 1]? = some (.cells #[.int .u64 0, .slice none 0 0, .slice none 0 0] 63 (0, 0)))
    (hbox : w1.heap[p]? = some (.cells #[.int .u64 0, .slice none 0 0, .slice none 0 0] 63 (0, 0)))
    (hints : w1.ownsRow (w.heap.size + 2) 3 1 (.slice Br nr dr) nr (rs.map (Value.int .i64))) (hb : Below w.heap.size w w1) (hsz : w.heap.size + 2 ≤ w1.heap.size) (hp : w.heap.size + 2 ≤ p) :
    Copying w (((w1.setCell ⟨p, 0, none⟩ (.int .u64 (seq : Int))).setCell ⟨p, 1, none⟩ (.slice none 0 0)).setCell ⟨p, 2, none⟩ (.slice Br nr dr)) p seq Aw nw cw Ar nr cr ws rs 0 none 0 Br dr [] := by
  have h1 : (w1.setCell ⟨p, 0, none⟩ (.int .u64 (seq : Int))).heap[p]? = _ := heap_setCell_same w1 p 0 _ _ _ hbox
  have h2 : ((w1.setCell ⟨p, 0, none⟩ (.int .u64 (seq : Int))).setCell ⟨p, 1, none⟩ (.slice none 0 0)).heap[p]? = _ := heap_setCell_same _ p 1 _ _ _ h1
  have h3 : (((w1.setCell ⟨p, 0, none⟩ (.int .u64 (seq : Int))).setCell ⟨p, 1, none⟩ (.slice none 0 0)).setCell ⟨p, 2, none⟩ (.slice Br nr dr)).heap[p]? = _ := heap_setCell_same _ p 2 _ _ _ h2
  have hne : ∀ (q : Nat), q ≠ p → (((w1.setCell ⟨p, 0, none⟩ (.int .u64 (seq : Int))).setCell ⟨p, 1, none⟩ (.slice none 0 0)).setCell ⟨p, 2, none⟩ (.slice Br nr dr)).heap[q]? = w1.heap[q]? := fun q hq => by
    rw [Below.heap_setCell _ _ _ _ hq, Below.heap_setCell _ _ _ _ hq, Below.heap_setCell _ _ _ _ hq]
  refine ⟨by rw [hne _ (by omega)]; exact hpar, by rw [hne _ (by omega)]; exact hres, by rw [h3]; rfl, OwnsW.empty _ _, ?_, ?_, by simp [World.setCell]; exact hsz, hp⟩
  · exact ownsRow_store (ownsRow_store (ownsRow_store hints hbox (by decide)) h1 (by decide)) h2 (by decide)
  · exact ((hb.setCell (by show w.heap.size ≤ p; omega) _).setCell (by show w.heap.size ≤ p; omega) _).setCell (by show w.heap.size ≤ p; omega) _

theorem Copying.start' {w w1 : World} {p seq nw cw nr cr dr : Nat} {Aw Ar Br : Option Addr} (ws : List Wt) {rs : List Int}
    (hpar : w1.heap[w.heap.size]? = some (.cells #[.int .u64 (seq : Int), .slice Aw nw cw, .slice Ar nr cr] 63 (0, 0)))
    (hres : w1.heap[w.heap.size + 1]? = some (.cells #[.int .u64 0, .slice none 0 0, .slice none 0 0] 63 (0, 0)))
    (hbox : w1.heap[p]? = some (.cells #[.int .u64 0, .slice none 0 0, .slice none 0 0] 63 (0, 0)))
    (hints : w1.ownsRow (w.heap.size + 2) 3 1 (.slice Br nr dr) nr (rs.map (Value.int .i64))) (hb : Below w.heap.size w w1) (hsz : w.heap.size + 2 ≤ w1.heap.size) (hp : w.heap.size + 2 ≤ p) :
    ∃ X, ((w1.setCell ⟨p, 0, none⟩ (.int .u64 (seq : Int))).setCell ⟨p, 1, none⟩ (.slice none 0 0)).setCell ⟨p, 2, none⟩ (.slice Br nr dr) = X ∧ Copying w X p seq Aw nw cw Ar nr cr ws rs 0 none 0 Br dr [] :=
  ⟨_, rfl, Copying.start hpar hres hbox hints hb hsz hp⟩
theorem Copying.startC {w w1 : World} {seq nw cw nr cr dr : Nat} {Aw Ar Br : Option Addr} (ws : List Wt) {rs : List Int}
    (hpar : w1.heap[w.heap.size]? = some (.cells #[.int .u64 (seq : Int), .slice Aw nw cw, .slice Ar nr cr] 63 (0, 0)))
    (hres : w1.heap[w.heap.size + 1]? = some (.cells #[.int .u64 0, .slice none 0 0, .slice none 0 0] 63 (0, 0)))
    (hints : w1.ownsRow (w.heap.size + 2) 3 1 (.slice Br nr dr) nr (rs.map (Value.int .i64))) (hb : Below w.heap.size w w1) (hsz : w.heap.size + 2 ≤ w1.heap.size) :
    ∃ X, w1.alloc (.cells #[.int .u64 (seq : Int), .slice none 0 0, .slice Br nr dr] 63) = X ∧ Copying w X w1.heap.size seq Aw nw cw Ar nr cr ws rs 0 none 0 Br dr [] := by
  have hbA := (Below.refl w1.heap.size w1).alloc (Nat.le_refl _) (.cells #[.int .u64 (seq : Int), .slice none 0 0, .slice Br nr dr] 63)
  exact ⟨_, rfl, (hbA.block _ (by omega)).trans hpar, (hbA.block _ (by omega)).trans hres, heap_alloc_new w1 _, OwnsW.empty _ _, World.ownsRow.alloc hints _, hb.trans (hbA.mono hb.size), by simp; omega, hsz⟩

def Copied (w : World) (t : Tx) (nw nr : Nat) (e : Ending) (w' : World) : Prop := ∃ Bw dw Br dr vs,
  e = .returned (.agg #[.int .u64 (t.seq : Int), .slice Bw nw dw, .slice Br nr dr]) ∧ OwnsT w' w.heap.size t Bw dw Br dr vs ∧ Below w.heap.size w w'

set_option maxRecDepth 100000 in
set_option maxHeartbeats 4000000 in
theorem copy_any (t : Tx) (Aw Ar : Option Addr) (nw cw nr cr B : Nat) (w : World) (h : TxAt w B t Aw nw cw Ar nr cr) (hW : Wide t) (hB : B ≤ w.heap.size) :
    Calls Tryz.prog 27 #[.agg #[.int .u64 (t.seq : Int), .slice Aw nw cw, .slice Ar nr cr]] w (Copied w t nw nr) := by
  obtain ⟨seq, ws, rs⟩ := t
  obtain ⟨cur, hcur⟩ : ∃ c, c = #[Value.int .u64 (seq : Int), .slice Aw nw cw, .slice Ar nr cr] := ⟨_, rfl⟩
  obtain ⟨W, hWW⟩ : ∃ V, V = (w.alloc (.cells cur 63)).alloc (.cells #[.int .u64 0, .slice none 0 0, .slice none 0 0] 63) := ⟨_, rfl⟩
  have hb0 : Below w.heap.size w W := by rw [hWW]; exact ((Below.refl w.heap.size w).alloc (Nat.le_refl _) _).alloc (by simp) _
  have hz0 : W.heap.size = w.heap.size + 2 := by rw [hWW]; simp
  have hpar : W.heap[w.heap.size]? = some (.cells #[.int .u64 (seq : Int), .slice Aw nw cw, .slice Ar nr cr] 63 (0, 0)) := by
    rw [hWW, Below.heap_alloc _ _ _ (by simp), hcur]; exact heap_alloc_new w _
  have hres : W.heap[w.heap.size + 1]? = some (.cells #[.int .u64 0, .slice none 0 0, .slice none 0 0] 63 (0, 0)) := by
    rw [hWW]
    have := heap_alloc_new (w.alloc (.cells cur 63)) (.cells #[.int .u64 0, .slice none 0 0, .slice none 0 0] 63)
    rwa [show (w.alloc (.cells cur 63)).heap.size = w.heap.size + 1 by simp] at this
  have p0 : W.cell? ⟨w.heap.size, 0, none⟩ = some (.int .u64 (seq : Int)) := cell_of_row _ _ _ _ _ _ hpar
  have p1 : W.cell? ⟨w.heap.size, 1, none⟩ = some (.slice Aw nw cw) := cell_of_row _ _ _ _ _ _ hpar
  have p2 : W.cell? ⟨w.heap.size, 2, none⟩ = some (.slice Ar nr cr) := cell_of_row _ _ _ _ _ _ hpar
  have H := Lib.hid h; clear h
  have HW := Lib.hid hW; clear hW
  have HPAR := Lib.hid hpar; clear hpar
  have HRES := Lib.hid hres; clear hres
  have HB0 := Lib.hid hb0; clear hb0
  have HZ0 := Lib.hid hz0; clear hz0
  have HWW := Lib.hid hWW; clear hWW
  have HC := Lib.hid hcur; clear hcur
  go_enter Tryz.func27, Tryz.ntmps27
  go_wp2_with fail
  rw [← HC.out, ← HWW.out]
  have hnr : nr * 8 ≤ 140737488355328 := by have h1 := HW.out.nr; have h2 := H.out.rs.1; dsimp only at h1 h2; omega
  have hbW : Below W.heap.size W W.drew := (Below.refl _ W).drew
  have hoa := World.ownsRow_lit (base := w.heap.size + 2) (e := 3) (size := 1) (W.drew.alloc (.cells #[.int .u64 0, .slice none 0 0, .slice none 0 0] 63)) #[] 0 (by have := HZ0.out; show _ ≤ (W.alloc _).heap.size; simp; omega) (by unfold maxLen; omega) (by simp)
  have hoc := World.ownsRow_lit (base := w.heap.size + 2) (e := 3) (size := 1) W.drew #[] 0 (by have := HZ0.out; show _ ≤ W.heap.size; omega) (by unfold maxLen; omega) (by simp)
  have hob := World.ownsRow.alloc hoc (.cells #[.int .u64 0, .slice none 0 0, .slice none 0 0] 63)
  have hba := (hbW.alloc (Nat.le_refl _) (.cells #[.int .u64 0, .slice none 0 0, .slice none 0 0] 63)).alloc (by show _ ≤ (W.alloc _).heap.size; simp) (.cells #[] 3)
  have hbc := hbW.alloc (Nat.le_refl _) (.cells #[] 3)
  have hbb := hbc.alloc (by show _ ≤ (W.alloc _).heap.size; simp) (.cells #[.int .u64 0, .slice none 0 0, .slice none 0 0] 63)
  have hlt0 : w.heap.size < W.heap.size := by have := HZ0.out; omega
  have hlt1 : w.heap.size + 1 < W.heap.size := by have := HZ0.out; omega
  have hza : ((W.drew.alloc (.cells #[.int .u64 0, .slice none 0 0, .slice none 0 0] 63)).alloc (.cells #[] 3)).heap[W.heap.size]? = some (.cells #[.int .u64 0, .slice none 0 0, .slice none 0 0] 63 (0, 0)) := by
    rw [Below.heap_alloc _ _ _ (by show _ < (W.alloc _).heap.size; simp)]; exact heap_alloc_new W.drew _
  have hzb : ((W.drew.alloc (.cells #[] 3)).alloc (.cells #[.int .u64 0, .slice none 0 0, .slice none 0 0] 63)).heap[W.heap.size + 1]? = some (.cells #[.int .u64 0, .slice none 0 0, .slice none 0 0] 63 (0, 0)) := by
    have := heap_alloc_new (W.drew.alloc (.cells #[] 3)) (.cells #[.int .u64 0, .slice none 0 0, .slice none 0 0] 63)
    rwa [show (W.drew.alloc (.cells #[] 3)).heap.size = W.heap.size + 1 by show (W.alloc _).heap.size = _; simp] at this
  have HZA := Lib.hid hza; clear hza
  have HZB := Lib.hid hzb; clear hzb
  have HOA := Lib.hid hoa; clear hoa
  have HOB := Lib.hid hob; clear hob
  have HOC := Lib.hid hoc; clear hoc
  have HBA := Lib.hid hba; clear hba
  have HBB := Lib.hid hbb; clear hbb
  have HBC := Lib.hid hbc; clear hbc hbW
  go_region_held_law (fun (V : World) => V.cell? ⟨w.heap.size, 0, none⟩ = some (.int .u64 (seq : Int)) ∧ V.cell? ⟨w.heap.size, 2, none⟩ = some (.slice Ar nr cr)) (first | go_keep | (refine ⟨?_, ?_⟩ <;> (rw [World.cell?_setCell_far _ _ _ _ (by dsimp only; omega), World.cell?_setCell_far _ _ _ _ (by dsimp only; omega), World.cell?_setCell_far _ _ _ _ (by dsimp only; omega)]; first | assumption | go_keep)))
    (first
      | (refine step_addints (o := ⟨some 10, _, _, _, _, _⟩) rfl (.tmp 7) (.tmp 9) rfl (w.heap.size + 2) _ (by go_simp) HOA.out B Ar nr cr rs (by go_simp) (H.out.rs.below ((HB0.out.trans (HBA.out.mono HB0.out.size)).mono hB)) hnr (by have := HZ0.out; show _ ≤ ((W.alloc _).alloc _).heap.size; simp; omega) ?_
         intro Br dr w1 ho hg
         have hpar1 := block_grown ((HBA.out.block _ hlt0).trans HPAR.out) HOA.out (by decide) hg
         have hres1 := block_grown ((HBA.out.block _ hlt1).trans HRES.out) HOA.out (by decide) hg
         have k0 : w1.cell? ⟨w.heap.size, 0, none⟩ = some (.int .u64 (seq : Int)) := cell_of_row _ _ _ _ _ _ hpar1
         have k2 : w1.cell? ⟨w.heap.size, 2, none⟩ = some (.slice Ar nr cr) := cell_of_row _ _ _ _ _ _ hpar1
         have hbox1 := block_grown HZA.out HOA.out (by decide) hg
         have z0 : w1.cell? ⟨W.heap.size, 0, none⟩ = some (.int .u64 0) := cell_of_row _ _ _ _ _ _ hbox1
         have z1 : w1.cell? ⟨W.heap.size, 1, none⟩ = some (.slice none 0 0) := cell_of_row _ _ _ _ _ _ hbox1
         have z2 : w1.cell? ⟨W.heap.size, 2, none⟩ = some (.slice none 0 0) := cell_of_row _ _ _ _ _ _ hbox1
         have f0 := frozen_of_row _ _ 0 _ _ hbox1
         have f1 := frozen_of_row _ _ 1 _ _ hbox1
         have f2 := frozen_of_row _ _ 2 _ _ hbox1
         have HBOX := Lib.hid hbox1; clear hbox1
         have HPAR1 := Lib.hid hpar1
         have HRES1 := Lib.hid hres1
         have HI1 := Lib.hid ho
         have hbw : Below w.heap.size w w1 := (HB0.out.trans (HBA.out.mono HB0.out.size)).grown hg (by have := HZ0.out; have := HBA.out.size; omega) (fun q e => by have := (World.ownsRow.lt HOA.out q e).1; omega)
         have hsw : w.heap.size + 2 ≤ w1.heap.size := by have h1 := Nat.le_trans HBA.out.size hg.size; have := HZ0.out; omega
         have HBW1 := Lib.hid hbw
         clear hbw hpar1 hres1 ho hg)
      | (refine step_addints (o := ⟨some 10, _, _, _, _, _⟩) rfl (.tmp 7) (.tmp 9) rfl (w.heap.size + 2) _ (by go_simp) HOB.out B Ar nr cr rs (by go_simp) (H.out.rs.below ((HB0.out.trans (HBB.out.mono HB0.out.size)).mono hB)) hnr (by have := HZ0.out; show _ ≤ ((W.alloc _).alloc _).heap.size; simp; omega) ?_
         intro Br dr w1 ho hg
         have hpar1 := block_grown ((HBB.out.block _ hlt0).trans HPAR.out) HOB.out (by decide) hg
         have hres1 := block_grown ((HBB.out.block _ hlt1).trans HRES.out) HOB.out (by decide) hg
         have k0 : w1.cell? ⟨w.heap.size, 0, none⟩ = some (.int .u64 (seq : Int)) := cell_of_row _ _ _ _ _ _ hpar1
         have k2 : w1.cell? ⟨w.heap.size, 2, none⟩ = some (.slice Ar nr cr) := cell_of_row _ _ _ _ _ _ hpar1
         have hbox1 := block_grown HZB.out HOB.out (by decide) hg
         have z0 : w1.cell? ⟨W.heap.size + 1, 0, none⟩ = some (.int .u64 0) := cell_of_row _ _ _ _ _ _ hbox1
         have z1 : w1.cell? ⟨W.heap.size + 1, 1, none⟩ = some (.slice none 0 0) := cell_of_row _ _ _ _ _ _ hbox1
         have z2 : w1.cell? ⟨W.heap.size + 1, 2, none⟩ = some (.slice none 0 0) := cell_of_row _ _ _ _ _ _ hbox1
         have f0 := frozen_of_row _ _ 0 _ _ hbox1
         have f1 := frozen_of_row _ _ 1 _ _ hbox1
         have f2 := frozen_of_row _ _ 2 _ _ hbox1
         have HBOX := Lib.hid hbox1; clear hbox1
         have HPAR1 := Lib.hid hpar1
         have HRES1 := Lib.hid hres1
         have HI1 := Lib.hid ho
         have hbw : Below w.heap.size w w1 := (HB0.out.trans (HBB.out.mono HB0.out.size)).grown hg (by have := HZ0.out; have := HBB.out.size; omega) (fun q e => by have := (World.ownsRow.lt HOB.out q e).1; omega)
         have hsw : w.heap.size + 2 ≤ w1.heap.size := by have h1 := Nat.le_trans HBB.out.size hg.size; have := HZ0.out; omega
         have HBW1 := Lib.hid hbw
         clear hbw hpar1 hres1 ho hg)
      | (refine step_addints (o := ⟨some 10, _, _, _, _, _⟩) rfl (.tmp 7) (.tmp 9) rfl (w.heap.size + 2) _ (by go_simp) HOC.out B Ar nr cr rs (by go_simp) (H.out.rs.below ((HB0.out.trans (HBC.out.mono HB0.out.size)).mono hB)) hnr (by have := HZ0.out; show _ ≤ (W.alloc _).heap.size; simp; omega) ?_
         intro Br dr w1 ho hg
         have hpar1 := block_grown ((HBC.out.block _ hlt0).trans HPAR.out) HOC.out (by decide) hg
         have hres1 := block_grown ((HBC.out.block _ hlt1).trans HRES.out) HOC.out (by decide) hg
         have k0 : w1.cell? ⟨w.heap.size, 0, none⟩ = some (.int .u64 (seq : Int)) := cell_of_row _ _ _ _ _ _ hpar1
         have k2 : w1.cell? ⟨w.heap.size, 2, none⟩ = some (.slice Ar nr cr) := cell_of_row _ _ _ _ _ _ hpar1
         have HPAR1 := Lib.hid hpar1
         have HRES1 := Lib.hid hres1
         have HI1 := Lib.hid ho
         have hbw : Below w.heap.size w w1 := (HB0.out.trans (HBC.out.mono HB0.out.size)).grown hg (by have := HZ0.out; have := HBC.out.size; omega) (fun q e => by have := (World.ownsRow.lt HOC.out q e).1; omega)
         have hsw : w.heap.size + 2 ≤ w1.heap.size := by have h1 := Nat.le_trans HBC.out.size hg.size; have := HZ0.out; omega
         have HBW1 := Lib.hid hbw
         clear hbw hpar1 hres1 ho hg))
  all_goals
    first
      | (obtain ⟨X, hX, hC⟩ := Copying.start' ws HPAR1.out HRES1.out HBOX.out HI1.out HBW1.out hsw (by have := HZ0.out; omega)
         rw [hX]
         clear hX HBOX z0 z1 z2 f0 f1 f2)
      | (obtain ⟨X, hX, hC⟩ := Copying.startC ws HPAR1.out HRES1.out HI1.out HBW1.out hsw
         rw [hX]
         clear hX)
    clear k0 k2 HPAR1 HRES1 HI1 HBW1 hsw HOA HOB HOC HBA HBB HBC HZA HZB
    clear p0 p1 p2 HPAR HRES HWW HC HB0
    first
      | (obtain ⟨p, hp⟩ : ∃ p, p = w1.heap.size := ⟨_, rfl⟩
         rw [← hp] at hC ⊢
         clear hp)
      | (obtain ⟨p, hp⟩ : ∃ p, p = W.heap.size + 1 := ⟨_, rfl⟩
         rw [← hp] at hC ⊢
         clear hp)
      | (obtain ⟨p, hp⟩ : ∃ p, p = W.heap.size := ⟨_, rfl⟩
         rw [← hp] at hC ⊢
         clear hp)
    have HX := Lib.hid hC; clear hC
    go_wp2
    go_loopw [4] (fun i wr => ∃ (k : Nat) (Bw : Option Addr) (dw : Nat) (vs : List Value), k ≤ nw ∧ i = .int .i64 k ∧ Copying w wr p seq Aw nw cw Ar nr cr ws rs k Bw dw Br dr vs) (fun i _ => nw - (intOf i).toNat)
    case atStart => exact ⟨0, none, 0, [], by omega, rfl, HX.out⟩
    case round =>
      clear HX
      obtain ⟨k, Bw, dw, vs, hk, rfl, hC⟩ := hrel
      have q1 : wr.cell? ⟨w.heap.size, 1, none⟩ = some (.slice Aw nw cw) := cell_of_row _ _ _ _ _ _ hC.par
      have HX := Lib.hid hC; clear hC
      have hk0 : (0 : Int) ≤ (k : Int) := by omega
      by_cases hlt : k < nw
      · have hkn : (k : Int) < (nw : Int) := by omega
        go_wp2
        have hwsl : ws.length = nw := H.out.ws.1
        have hws : ws.length ≤ 4398046510976 := HW.out.nw
        obtain ⟨x, hx⟩ : ∃ x, ws[k]? = some x := ⟨_, List.getElem?_eq_getElem (by omega)⟩
        have hwr : Below w.heap.size w wr := HX.out.below
        obtain ⟨b, off, rfl, hbB, hcell⟩ := (H.out.ws.below (hwr.mono hB)).2 (by omega)
        obtain ⟨e0, A', c', e1, hread, hlc, hcm⟩ := hcell k x hx
        have hxl : x.2.length ≤ 140737488351232 := HW.out.data x (List.mem_of_getElem? hx)
        have b1 : wr.cell? ⟨p, 1, none⟩ = some (.slice Bw k dw) := cell_of_row _ _ _ _ _ _ HX.out.box
        have hszr : w.heap.size + 2 ≤ wr.heap.size := HX.out.size
        have hpr : p < wr.heap.size := (Array.getElem?_eq_some_iff.1 HX.out.box).1
        have hbr : b < wr.heap.size := by omega
        obtain ⟨x1, x2⟩ := x
        dsimp only at e0 e1 hread hlc hxl
        obtain ⟨L, hL⟩ : ∃ L, L = x2.length := ⟨_, rfl⟩
        rw [← hL] at e1 hread hlc hxl
        clear hcell
        have hS : (fun V : World => V.cell? ⟨w.heap.size, 1, none⟩ = some (.slice (some ⟨b, off, none⟩) nw cw) ∧ V.cell? ⟨p, 1, none⟩ = some (.slice Bw k dw) ∧ V.cell? ⟨b, off + k * 2, none⟩ = some (.int .i64 x1) ∧ V.cell? ⟨b, off + k * 2 + 1, none⟩ = some (.slice A' L c')) wr.drew := ⟨q1, b1, e0, e1⟩
        have keepS : ∀ V, Below wr.heap.size wr V → (fun V : World => V.cell? ⟨w.heap.size, 1, none⟩ = some (.slice (some ⟨b, off, none⟩) nw cw) ∧ V.cell? ⟨p, 1, none⟩ = some (.slice Bw k dw) ∧ V.cell? ⟨b, off + k * 2, none⟩ = some (.int .i64 x1) ∧ V.cell? ⟨b, off + k * 2 + 1, none⟩ = some (.slice A' L c')) V := fun V hV =>
          ⟨(hV.cell (p := ⟨w.heap.size, 1, none⟩) (by show w.heap.size < _; omega)).trans q1, (hV.cell (p := ⟨p, 1, none⟩) hpr).trans b1, (hV.cell (p := ⟨b, off + k * 2, none⟩) hbr).trans e0, (hV.cell (p := ⟨b, off + k * 2 + 1, none⟩) hbr).trans e1⟩
        have KEEP := Lib.hid keepS; clear keepS
        have HR := Lib.hid hread; clear hread
        have HXX := Lib.hid hx; clear hx
        have HWR := Lib.hid hwr; clear hwr
        have HL := Lib.hid hL; clear hL
        clear q1 b1 e0 e1
        refine wp_region_E (fun V : World => V.cell? ⟨w.heap.size, 1, none⟩ = some (.slice (some ⟨b, off, none⟩) nw cw) ∧ V.cell? ⟨p, 1, none⟩ = some (.slice Bw k dw) ∧ V.cell? ⟨b, off + k * 2, none⟩ = some (.int .i64 x1) ∧ V.cell? ⟨b, off + k * 2 + 1, none⟩ = some (.slice A' L c')) 20 (by kernel_rfl) ?_
        refine wpE_take 0 _ (v := ?_) [1, 18, 20] rfl (by kernel_rfl) (by kernel_rfl) (by kernel_rfl) (by kernel_rfl) (fun _ _ _ h => h) hS (Or.inl ⟨by rfl, ?_⟩) ?_
        rotate_left
        · (intro V hSw; obtain ⟨s1, s2, s3, s4⟩ := hSw; go_simp; try with_reducible rfl)
        simp only [Act.put]
        refine wpE_take 1 _ (v := ?_) [18, 20] rfl (by kernel_rfl) (by kernel_rfl) (by kernel_rfl) (by kernel_rfl) (fun _ _ _ h => h) hS (Or.inl ⟨by rfl, ?_⟩) ?_
        rotate_left
        · (intro V hSw; obtain ⟨s1, s2, s3, s4⟩ := hSw; go_simp; try with_reducible rfl)
        simp only [Act.put]
        refine wpE_take 2 _ (v := ?_) [3, 5, 6, 7, 16, 17, 18, 20] rfl (by kernel_rfl) (by kernel_rfl) (by kernel_rfl) (by kernel_rfl) (fun _ _ _ h => h) hS (Or.inl ⟨by rfl, ?_⟩) ?_
        rotate_left
        · (intro V hSw; obtain ⟨s1, s2, s3, s4⟩ := hSw; go_simp; try with_reducible rfl)
        simp only [Act.put]
        refine wpE_take 3 _ (v := ?_) [5, 6, 7, 16, 17, 18, 20] rfl (by kernel_rfl) (by kernel_rfl) (by kernel_rfl) (by kernel_rfl) (fun _ _ _ h => h) hS (Or.inl ⟨by rfl, ?_⟩) ?_
        rotate_left
        · (intro V hSw; obtain ⟨s1, s2, s3, s4⟩ := hSw; go_simp; try with_reducible rfl)
        simp only [Act.put]
        refine wpE_take 4 _ (v := ?_) [5, 6, 7, 16, 17, 18, 20] rfl (by kernel_rfl) (by kernel_rfl) (by kernel_rfl) (by kernel_rfl) (fun _ _ _ h => h) hS (Or.inl ⟨by rfl, ?_⟩) ?_
        rotate_left
        · (intro V hSw; obtain ⟨s1, s2, s3, s4⟩ := hSw; go_simp; try with_reducible rfl)
        simp only [Act.put]
        refine wpE_take 5 _ (v := ?_) [6, 7, 16, 17, 18, 20] rfl (by kernel_rfl) (by kernel_rfl) (by kernel_rfl) (by kernel_rfl) (fun _ _ _ h => h) hS (Or.inl ⟨by rfl, ?_⟩) ?_
        rotate_left
        · (intro V hSw; obtain ⟨s1, s2, s3, s4⟩ := hSw; go_simp; try with_reducible rfl)
        simp only [Act.put]
        refine wpE_take 6 _ (v := ?_) [7, 16, 17, 18, 20] rfl (by kernel_rfl) (by kernel_rfl) (by kernel_rfl) (by kernel_rfl) (fun _ _ _ h => h) hS (Or.inl ⟨by rfl, ?_⟩) ?_
        rotate_left
        · (intro V hSw; obtain ⟨s1, s2, s3, s4⟩ := hSw; go_simp; try with_reducible rfl)
        simp only [Act.put]
        refine wpE_take 7 _ (v := ?_) [16, 17, 18, 20] rfl (by kernel_rfl) (by kernel_rfl) (by kernel_rfl) (by kernel_rfl) (fun _ _ _ h => h) hS (Or.inl ⟨by rfl, ?_⟩) ?_
        rotate_left
        · (intro V hSw; obtain ⟨s1, s2, s3, s4⟩ := hSw; go_simp; try with_reducible rfl)
        simp only [Act.put]
        refine wpE_take 9 _ (v := ?_) [10, 12, 13, 14, 15, 16, 17, 18, 20] rfl (by kernel_rfl) (by kernel_rfl) (by kernel_rfl) (by kernel_rfl) (fun _ _ _ h => h) hS (Or.inl ⟨by rfl, ?_⟩) ?_
        rotate_left
        · (intro V hSw; obtain ⟨s1, s2, s3, s4⟩ := hSw; go_simp; try with_reducible rfl)
        simp only [Act.put]
        refine wpE_take 10 _ (v := ?_) [12, 13, 14, 15, 16, 17, 18, 20] rfl (by kernel_rfl) (by kernel_rfl) (by kernel_rfl) (by kernel_rfl) (fun _ _ _ h => h) hS (Or.inl ⟨by rfl, ?_⟩) ?_
        rotate_left
        · (intro V hSw; obtain ⟨s1, s2, s3, s4⟩ := hSw; go_simp; try with_reducible rfl)
        simp only [Act.put]
        refine wpE_take 11 _ (v := ?_) [12, 13, 14, 15, 16, 17, 18, 20] rfl (by kernel_rfl) (by kernel_rfl) (by kernel_rfl) (by kernel_rfl) (fun _ _ _ h => h) hS (Or.inl ⟨by rfl, ?_⟩) ?_
        rotate_left
        · (intro V hSw; obtain ⟨s1, s2, s3, s4⟩ := hSw; go_simp; try with_reducible rfl)
        simp only [Act.put]
        refine wpE_take 12 _ (v := ?_) [13, 14, 15, 16, 17, 18, 20] rfl (by kernel_rfl) (by kernel_rfl) (by kernel_rfl) (by kernel_rfl) (fun _ _ _ h => h) hS (Or.inl ⟨by rfl, ?_⟩) ?_
        rotate_left
        · (intro V hSw; obtain ⟨s1, s2, s3, s4⟩ := hSw; go_simp; try with_reducible rfl)
        simp only [Act.put]
        refine wpE_take 13 _ (v := ?_) [14, 15, 16, 17, 18, 20] rfl (by kernel_rfl) (by kernel_rfl) (by kernel_rfl) (by kernel_rfl) (fun _ _ _ h => h) hS (Or.inl ⟨by rfl, ?_⟩) ?_
        rotate_left
        · (intro V hSw; obtain ⟨s1, s2, s3, s4⟩ := hSw; go_simp; try with_reducible rfl)
        simp only [Act.put]
        refine wpE_take 14 _ (v := ?_) [15, 16, 17, 18, 20] rfl (by kernel_rfl) (by kernel_rfl) (by kernel_rfl) (by kernel_rfl) (fun _ _ _ h => h) hS (Or.inl ⟨by rfl, ?_⟩) ?_
        rotate_left
        · (intro V hSw; obtain ⟨s1, s2, s3, s4⟩ := hSw; go_simp; try with_reducible rfl)
        simp only [Act.put]
        refine wpE_one 8 (by kernel_rfl) rfl (fun K hK => ?_)
        go_simp
        refine hK.out _ _ (KEEP.out _ ?_) (fun hS => ?_)
        · exact (Below.refl _ wr).drew.alloc (Nat.le_refl _) _
        clear hK K
        have hoe : Owned (wr.drew.alloc (.cells #[] 5)) wr.heap.size (.slice (some ⟨wr.heap.size, 0, none⟩) 0 0) [] := owned_made wr.drew [] wr.heap.size (Nat.le_refl _) (by unfold maxLen; simp)
        have hbe : Below wr.heap.size wr (wr.drew.alloc (.cells #[] 5)) := (Below.refl _ wr).drew.alloc (Nat.le_refl _) _
        have HR1 := Lib.hid (HR.out.below (hbe.mono (show B ≤ wr.heap.size by omega)))
        refine wpE_one 15 (by kernel_rfl) rfl (fun K hK => ?_)
        refine step_addall rfl (.tmp 27) (.tmp 33) rfl wr.heap.size _ [] (by go_simp) hoe B A' L c' x2 (by go_simp) HR1.out (by simp; omega) hbe.size ?_
        intro v2 V2 ho2 hb2
        rw [List.nil_append] at ho2
        have hb2w : Below wr.heap.size wr V2 := hbe.trans hb2
        refine hK.out _ _ (KEEP.out _ hb2w) (fun hS => ?_)
        clear hK K
        obtain ⟨A2, c2, rfl⟩ := Owned.shape ho2
        rw [← HL.out] at ho2 ⊢
        simp only [Act.put]
        refine wpE_take 16 _ (v := ?_) [17, 18, 20] rfl (by kernel_rfl) (by kernel_rfl) (by kernel_rfl) (by kernel_rfl) (fun _ _ _ h => h) hS (Or.inl ⟨by rfl, ?_⟩) ?_
        rotate_left
        · (intro V hSw; obtain ⟨s1, s2, s3, s4⟩ := hSw; go_simp; try with_reducible rfl)
        simp only [Act.put]
        have hb3w : Below wr.heap.size wr (V2.alloc (.cells #[.int .i64 x1, .slice A2 L c2] 56)) := hb2w.alloc hb2w.size _
        refine wpE_one 17 (by kernel_rfl) rfl (fun K hK => ?_)
        go_simp
        refine hK.out _ _ (KEEP.out _ hb3w) (fun hS => ?_)
        clear hK K
        have hown3 := HX.out.own.kept (Kept.of_below hb3w (Nat.le_refl _))
        obtain ⟨i0, hi, hz0, hz1, hz2⟩ := info_parts info_wt
        refine wpE_one 18 (by kernel_rfl) rfl (fun K hK => ?_)
        refine step_append_lies (o := ⟨some 37, _, _, _, _, _⟩) _ rfl (.tmp 20) (.tmp 36) 57 rfl (w.heap.size + 2) 56 i0 (.agg #[.int .i64 0, .slice none 0 0]) 2 32 Tryz.underlying57 hi hz0 hz1 hz2 rfl (by omega) (.slice Bw k dw) k (wcells (ws.take k) vs) (by go_simp) hown3.row ⟨V2.heap.size, 0, none⟩ 1 1 [.int .i64 x1, .slice A2 L c2] (by go_simp) rfl (World.news_of_block (heap_alloc_new V2 (.cells #[.int .i64 x1, .slice A2 L c2] 56))) (by intro u hu; simp at hu; rcases hu with rfl | rfl <;> rfl) (by omega) (by unfold maxLen; omega) (by omega) (by have := hb3w.size; omega) _ rfl ?_
        intro g cap V4 hown4 hgrow4 hat4 hlt4
        have hbox4 := block_grown ((hb3w.block _ hpr).trans HX.out.box) hown3.row (by decide) hgrow4
        refine hK.out _ _ ?_ (fun hS => ?_)
        · have hpar4 := block_grown ((hb3w.block _ (Array.getElem?_eq_some_iff.1 HX.out.par).1).trans HX.out.par) hown3.row (by decide) hgrow4
          have hfar : ∀ q, q < w.heap.size → ∀ j, V4.cell? ⟨q, j, none⟩ = (V2.alloc (.cells #[.int .i64 x1, .slice A2 L c2] 56)).cell? ⟨q, j, none⟩ := fun q hq j =>
            (Below.grown (B := w.heap.size) (Below.refl w.heap.size _) hgrow4 (by have := hb3w.size; omega) (fun q' e => by have := (World.ownsRow.lt hown3.row q' e).1; omega)).cell hq
          obtain ⟨s1, s2, s3, s4⟩ := hS
          exact ⟨cell_of_row _ _ _ _ _ _ hpar4, cell_of_row _ _ _ _ _ _ hbox4, (hfar b (by omega) _).trans s3, (hfar b (by omega) _).trans s4⟩
        clear hK K
        simp only [Act.put]
        have g1 : V4.cell? ⟨p, 1, none⟩ = some (.slice Bw k dw) := cell_of_row _ _ _ _ _ _ hbox4
        have f1 := frozen_of_row _ _ 1 _ _ hbox4
        have hnext := Copying.next HX.out HXX.out ho2 hb2w hown4 hgrow4
        have HN := Lib.hid hnext
        clear hnext hbox4 hown4 hgrow4 hown3 ho2 hb2 hb2w hb3w hoe hbe hi hz0 hz1 hz2
        refine wpE_take 19 _ (v := ?_) [20] rfl (by kernel_rfl) (by kernel_rfl) (by kernel_rfl) (by kernel_rfl) (fun _ _ _ h => h) hS (Or.inl ⟨by rfl, ?_⟩) ?_
        rotate_left
        · (intro V hSw; obtain ⟨s1, s2, s3, s4⟩ := hSw; go_simp; try with_reducible rfl)
        simp only [Act.put]
        refine wpE_last (by kernel_rfl) rfl (fun K hK => ?_)
        go_simp
        refine hK.out _ _ ?_
        clear hK K
        refine wpE_done (by kernel_rfl) ?_ _
        go_wp2
        go_roundw
        case rel => exact ⟨k + 1, _, _, _, by omega, by go_num, HN.out⟩
        case measure => simp [intOf]; omega
      · obtain rfl : k = nw := by omega
        have hwsl : ws.length = k := H.out.ws.1
        have b0 : wr.cell? ⟨p, 0, none⟩ = some (.int .u64 (seq : Int)) := cell_of_row _ _ _ _ _ _ HX.out.box
        have b1 : wr.cell? ⟨p, 1, none⟩ = some (.slice Bw k dw) := cell_of_row _ _ _ _ _ _ HX.out.box
        have b2 : wr.cell? ⟨p, 2, none⟩ = some (.slice Br nr dr) := cell_of_row _ _ _ _ _ _ HX.out.box
        have r0 : wr.cell? ⟨w.heap.size + 1, 0, none⟩ = some (.int .u64 0) := cell_of_row _ _ _ _ _ _ HX.out.res
        have r1 : wr.cell? ⟨w.heap.size + 1, 1, none⟩ = some (.slice none 0 0) := cell_of_row _ _ _ _ _ _ HX.out.res
        have r2 : wr.cell? ⟨w.heap.size + 1, 2, none⟩ = some (.slice none 0 0) := cell_of_row _ _ _ _ _ _ HX.out.res
        have f0 := frozen_of_row _ _ 0 _ _ HX.out.res
        have f1 := frozen_of_row _ _ 1 _ _ HX.out.res
        have f2 := frozen_of_row _ _ 2 _ _ HX.out.res
        have HWSL := Lib.hid hwsl; clear hwsl
        go_wp2
        refine bodyPost_ret (v := .agg #[.int .u64 (seq : Int), .slice Bw k dw, .slice Br nr dr]) (by simp [results, go_sem, r0, r1, r2]) rfl ?_
        have hC := HX.out
        have hrl : rs.length = nr := H.out.rs.1
        have hR := HX.out.res
        have hR1 : (wr.setCell ⟨w.heap.size + 1, 0, none⟩ (.int .u64 (seq : Int))).heap[w.heap.size + 1]? = _ := heap_setCell_same _ _ 0 _ _ _ hR
        have hR2 : ((wr.setCell ⟨w.heap.size + 1, 0, none⟩ (.int .u64 (seq : Int))).setCell ⟨w.heap.size + 1, 1, none⟩ (.slice Bw k dw)).heap[w.heap.size + 1]? = _ := heap_setCell_same _ _ 1 _ _ _ hR1
        refine ⟨Bw, dw, Br, dr, vs, rfl, ⟨?_, ?_⟩, ((hC.below.setCell (by show w.heap.size ≤ w.heap.size + 1; omega) _).setCell (by show w.heap.size ≤ w.heap.size + 1; omega) _).setCell (by show w.heap.size ≤ w.heap.size + 1; omega) _⟩
        · have ho := ((hC.own.store (j := 0) (u := .int .u64 (seq : Int)) hR (by decide) (by decide)).store (j := 1) (u := .slice Bw k dw) hR1 (by decide) (by decide)).store (j := 2) (u := .slice Br nr dr) hR2 (by decide) (by decide)
          rw [List.take_of_length_le (by rw [HWSL.out]; exact Nat.le_refl _)] at ho
          show OwnsW _ _ Bw ws.length dw ws vs
          rw [HWSL.out]
          exact ho.mono (by omega)
        · have ho := ownsRow_store (ownsRow_store (ownsRow_store hC.ints (j := 0) (u := .int .u64 (seq : Int)) hR (by decide)) (j := 1) (u := .slice Bw k dw) hR1 (by decide)) (j := 2) (u := .slice Br nr dr) hR2 (by decide)
          show World.ownsRow _ _ _ _ (.slice Br rs.length dr) rs.length (rs.map (Value.int .i64))
          rw [hrl]
          exact ownsRow_mono ho (by omega)
end Go.Proofs.YtelnoibfamcnmaaGreat.Rec
