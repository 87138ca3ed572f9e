/- The document's disk: writes laid over the stable bytes, and Flush. -/
import Derived.Test.YtelnoibfamcnmaaGreatDkRef
import Derived.Test.YtelnoibfamcnmaaGreatReg
import Derived.Deep.AppendLies
import Derived.Test.YtelnoibfamcnmaaGreatDkFlush
import Derived.Deep.RegionHeldLaw
namespace Go.Proofs.YtelnoibfamcnmaaGreat.Disk
set_option maxRecDepth 20000
open Go.RowKit
open Go.Proofs.YtelnoibfamcnmaaGreat.Mem Go.Proofs.YtelnoibfamcnmaaGreat.Reg

theorem info_write : (Tryz.prog.info? 56).map (fun i => (i.zero, i.size, i.bytes)) = some (some (.agg #[.int .i64 0, .slice none 0 0]), 2, 32) := by kernel_rfl
theorem WrAt.cells_len (l : List WrAt) : (l.flatMap WrAt.cells).length = l.length * 2 := by
  induction l with
  | nil => rfl
  | cons x r ih => simp only [List.flatMap_cons, List.length_append, List.length_cons, ih]; simp only [WrAt.cells, List.length_cons, List.length_nil]; omega

theorem row_store {w : World} {e : TypeId} {size n : Nat} {v : Value} {xs : List Value} (h : Row w e size v n xs) {p j : Nat} {u : Value} {cur : Array Value} {T : TypeId} (hp : w.heap[p]? = some (.cells cur T (0, 0))) (hne : e ≠ T) : Row (w.setCell ⟨p, j, none⟩ u) e size v n xs := by
  obtain ⟨h1, h2⟩ := h
  refine ⟨h1, ?_⟩
  rcases h2 with h2 | ⟨g, cap, cu, ev, hg, hh, r⟩
  · exact .inl h2
  · refine .inr ⟨g, cap, cu, ev, hg, ?_, r⟩
    rw [Below.heap_setCell _ _ _ _ ?_]
    · exact hh
    · show g ≠ p
      intro e1
      subst e1
      rw [hh] at hp
      injection hp with hp
      injection hp with _ hp
      exact hne hp
/-- Of the blocks of bytes none is a row of Writes, or the struct. -/
theorem RefAt.bytes {w : World} {r : Nat} {R : RefLow} {vb vw vg : Value} {D : Nat → Prop} (h : RefAt w r R vb vw vg D) : ∀ x ∈ R.ws ++ R.gs, ∃ b off, x.A = some ⟨b, off, none⟩ ∧ D b ∧ b < w.heap.size ∧ BytesAt w b off (x.data.map byteV) ∧ x.data.length = 256 := fun x hx => by
  obtain ⟨hl, b, off, e, hD, hb, hr⟩ := h.data x hx
  exact ⟨b, off, e, hD, hb, hr, hl.1⟩

/-- What a write has made of the document's disk: one of its two rows is longer, or lies in another block. -/
structure Wrote (w w' : World) (r : Nat) (R' : RefLow) (vb vw vg vw' vg' : Value) (D D' : Nat → Prop) : Prop where
  at_ : RefAt w' r R' vb vw' vg' D'
  turns : Turns (fun k => k = r ∨ vw.ownBlock = some k ∨ vg.ownBlock = some k) w w'
  rowW : ∀ k, vw'.ownBlock = some k → vw.ownBlock = some k ∨ w.heap.size ≤ k
  rowG : ∀ k, vg'.ownBlock = some k → vg.ownBlock = some k ∨ w.heap.size ≤ k
  more : ∀ k, D' k → D k ∨ w.heap.size ≤ k

def RefLow.addW (R : RefLow) (x : WrAt) : RefLow := { R with ws := R.ws ++ [x] }
def RefLow.addG (R : RefLow) (x : WrAt) : RefLow := { R with gs := R.gs ++ [x] }

/-- The row of Writes is longer now, and the struct says so. -/
theorem wrote_w {w w3 : World} {r : Nat} {R : RefLow} {vb vw vg : Value} {D : Nat → Prop} {x : WrAt} {g cap a : Nat} (h : RefAt w r R vb vw vg D)
    (hx : (x.data.length = 256 ∧ 256 ≤ x.c ∧ x.c ≤ maxLen) ∧ ∃ off, x.A = some ⟨a, off, none⟩ ∧ a < w.heap.size ∧ BytesAt w a off (x.data.map byteV)) (hnr : a ≠ r) (hnw : vw.ownBlock ≠ some a) (hDw : ∀ k, D k → vw.ownBlock ≠ some k)
    (hg : w.grownBy w3 vw.ownBlock) (hown : Row w3 56 2 (.slice (some ⟨g, 0, none⟩) (R.ws.length + 1) cap) (R.ws.length + 1) (R.ws.flatMap WrAt.cells ++ x.cells)) (hwg : ∀ k, vw.ownBlock = some k → vg.ownBlock ≠ some k) (hwb : ∀ k, vw.ownBlock = some k → vb.ownBlock ≠ some k) :
    RefAt (w3.setCell ⟨r, 1, none⟩ (.slice (some ⟨g, 0, none⟩) (R.ws.length + 1) cap)) r (R.addW x) vb (.slice (some ⟨g, 0, none⟩) (R.ws.length + 1) cap) vg (fun k => D k ∨ k = a) := by
  have hT : Turns (fun k => vw.ownBlock = some k) w w3 := (Turns.refl _ w).grown hg (fun k e _ => e)
  have hap := h.apart
  have hhead3 : w3.heap[r]? = _ := (hT.block r h.lt hap.2.1).trans h.head
  have hst3 := h.st.turns hT (fun k hk e => hwb k e hk)
  have hgs3 := h.gs.turns hT (fun k hk e => hwg k e hk)
  refine ⟨?_, row_store hst3 hhead3 (by decide), ?_, row_store hgs3 hhead3 (by decide), ?_, fun y hy => ?_⟩
  · rw [heap_setCell_same w3 r 1 _ _ _ hhead3]; rfl
  · have h1 := row_store hown (j := 1) (u := .slice (some ⟨g, 0, none⟩) (R.ws.length + 1) cap) hhead3 (by decide)
    show Row _ _ _ _ (R.ws ++ [x]).length ((R.ws ++ [x]).flatMap WrAt.cells)
    rw [List.length_append, List.flatMap_append, List.flatMap_cons, List.flatMap_nil, List.append_nil]
    exact h1
  · rintro (e | e)
    · exact h.far e
    · exact hnr e.symm
  · have hT2 : Turns (fun k => vw.ownBlock = some k ∨ k = r) w (w3.setCell ⟨r, 1, none⟩ (.slice (some ⟨g, 0, none⟩) (R.ws.length + 1) cap)) :=
      (hT.mono (fun i _ e => .inl e)).setCell (p := ⟨r, 1, none⟩) (fun _ => .inr rfl) _
    have hkeep : ∀ b off (ys : List UInt8), b < w.heap.size → vw.ownBlock ≠ some b → b ≠ r → BytesAt w b off (ys.map byteV) → BytesAt (w3.setCell ⟨r, 1, none⟩ (.slice (some ⟨g, 0, none⟩) (R.ws.length + 1) cap)) b off (ys.map byteV) := fun b off ys hb h1 h2 hr =>
      bytes_turns hr hT2 hb (fun e => e.elim h1 h2)
    have hsz := hT2.size
    have hmem : y ∈ R.ws ++ R.gs ∨ y = x := by
      have : y ∈ (R.ws ++ [x]) ++ R.gs := hy
      simp only [List.mem_append, List.mem_singleton] at this ⊢
      rcases this with (h1 | h1) | h1
      · exact .inl (.inl h1)
      · exact .inr h1
      · exact .inl (.inr h1)
    rcases hmem with hm | rfl
    · obtain ⟨hl, b, off, e, hD, hb, hr⟩ := h.data y hm
      exact ⟨hl, b, off, e, .inl hD, by omega, hkeep b off _ hb (hDw b hD) (fun e => h.far (e ▸ hD)) hr⟩
    · obtain ⟨hl, off, e, hb, hr⟩ := hx
      exact ⟨hl, a, off, e, .inr rfl, by omega, hkeep a off _ hb hnw hnr hr⟩
theorem wrote_g {w w3 : World} {r : Nat} {R : RefLow} {vb vw vg : Value} {D : Nat → Prop} {x : WrAt} {g cap a : Nat} (h : RefAt w r R vb vw vg D)
    (hx : (x.data.length = 256 ∧ 256 ≤ x.c ∧ x.c ≤ maxLen) ∧ ∃ off, x.A = some ⟨a, off, none⟩ ∧ a < w.heap.size ∧ BytesAt w a off (x.data.map byteV)) (hnr : a ≠ r) (hnw : vg.ownBlock ≠ some a) (hDw : ∀ k, D k → vg.ownBlock ≠ some k)
    (hg : w.grownBy w3 vg.ownBlock) (hown : Row w3 56 2 (.slice (some ⟨g, 0, none⟩) (R.gs.length + 1) cap) (R.gs.length + 1) (R.gs.flatMap WrAt.cells ++ x.cells)) (hwg : ∀ k, vg.ownBlock = some k → vw.ownBlock ≠ some k) (hwb : ∀ k, vg.ownBlock = some k → vb.ownBlock ≠ some k) :
    RefAt (w3.setCell ⟨r, 2, none⟩ (.slice (some ⟨g, 0, none⟩) (R.gs.length + 1) cap)) r (R.addG x) vb vw (.slice (some ⟨g, 0, none⟩) (R.gs.length + 1) cap) (fun k => D k ∨ k = a) := by
  have hT : Turns (fun k => vg.ownBlock = some k) w w3 := (Turns.refl _ w).grown hg (fun k e _ => e)
  have hap := h.apart
  have hhead3 : w3.heap[r]? = _ := (hT.block r h.lt hap.2.2).trans h.head
  have hst3 := h.st.turns hT (fun k hk e => hwb k e hk)
  have hws3 := h.ws.turns hT (fun k hk e => hwg k e hk)
  refine ⟨?_, row_store hst3 hhead3 (by decide), row_store hws3 hhead3 (by decide), ?_, ?_, fun y hy => ?_⟩
  · rw [heap_setCell_same w3 r 2 _ _ _ hhead3]; rfl
  · have h1 := row_store hown (j := 2) (u := .slice (some ⟨g, 0, none⟩) (R.gs.length + 1) cap) hhead3 (by decide)
    show Row _ _ _ _ (R.gs ++ [x]).length ((R.gs ++ [x]).flatMap WrAt.cells)
    rw [List.length_append, List.flatMap_append, List.flatMap_cons, List.flatMap_nil, List.append_nil]
    exact h1
  · rintro (e | e)
    · exact h.far e
    · exact hnr e.symm
  · have hT2 : Turns (fun k => vg.ownBlock = some k ∨ k = r) w (w3.setCell ⟨r, 2, none⟩ (.slice (some ⟨g, 0, none⟩) (R.gs.length + 1) cap)) :=
      (hT.mono (fun i _ e => .inl e)).setCell (p := ⟨r, 2, none⟩) (fun _ => .inr rfl) _
    have hkeep : ∀ b off (ys : List UInt8), b < w.heap.size → vg.ownBlock ≠ some b → b ≠ r → BytesAt w b off (ys.map byteV) → BytesAt (w3.setCell ⟨r, 2, none⟩ (.slice (some ⟨g, 0, none⟩) (R.gs.length + 1) cap)) b off (ys.map byteV) := fun b off ys hb h1 h2 hr =>
      bytes_turns hr hT2 hb (fun e => e.elim h1 h2)
    have hsz := hT2.size
    have hmem : y ∈ R.ws ++ R.gs ∨ y = x := by
      have : y ∈ R.ws ++ (R.gs ++ [x]) := hy
      simp only [List.mem_append, List.mem_singleton] at this ⊢
      rcases this with h1 | h1 | h1
      · exact .inl (.inl h1)
      · exact .inl (.inr h1)
      · exact .inr h1
    rcases hmem with hm | rfl
    · obtain ⟨hl, b, off, e, hD, hb, hr⟩ := h.data y hm
      exact ⟨hl, b, off, e, .inl hD, by omega, hkeep b off _ hb (hDw b hD) (fun e => h.far (e ▸ hD)) hr⟩
    · obtain ⟨hl, off, e, hb, hr⟩ := hx
      exact ⟨hl, a, off, e, .inr rfl, by omega, hkeep a off _ hb hnw hnr hr⟩

set_option maxRecDepth 100000 in
set_option maxHeartbeats 2000000 in
theorem refWrite_pend (i : Nat) (A : Option Addr) (c B n : Nat) (data : List UInt8) (R : RefLow) (r : Nat) (vb vw vg : Value) (D : Nat → Prop) (w : World) (h : RefAt w r R vb vw vg D) (hn : R.st.length = 256 * n) (hm : n ≤ 1024) (hi : i < n) (hd : Holds w B A 256 data) (hB : B ≤ w.heap.size)
    (hbl : R.blown = false) (hf : R.left ≤ 9223372036854775807) (hfew : R.ws.length ≤ 1048576)
    (hD : ∀ k, D k → vw.ownBlock ≠ some k) (hwg : ∀ k, vw.ownBlock = some k → vg.ownBlock ≠ some k) :
    Calls Tryz.prog 43 #[.pointer (some ⟨r, 0, none⟩), .int .i64 (i : Int), .slice A 256 c] w fun e w' => ∃ A2 c2 vw' D', e = .returned (.int .i64 0) ∧ Wrote w w' r (R.tick.addW ⟨i, A2, c2, data⟩) vb vw vg vw' vg D D' := by
  have HN := Lib.hid hn; clear hn
  have H := Lib.hid h; clear h
  have HH := Lib.hid hd; clear hd
  have HBL := Lib.hid hbl; clear hbl
  have h0 : ¬ (i : Int) < 0 := by omega
  have h1 : ¬ (n : Int) ≤ (i : Int) := by omega
  have h1d : decide ((n : Int) ≤ (i : Int)) = false := decide_eq_false h1
  have h1n : decide (n ≤ i) = false := decide_eq_false (by omega)
  go_enter Tryz.func43, Tryz.ntmps43
  go_wp2_with fail
  with_reducible refine (refSize_any R r n vb vw vg D w H.out HN.out hm).mono ?_
  rintro e w' ⟨rfl, rfl⟩
  have hoe : Owned (w.alloc (.cells #[] 5)) w.heap.size (.slice (some ⟨w.heap.size, 0, none⟩) 0 0) [] := owned_made w [] w.heap.size (Nat.le_refl _) (by unfold maxLen; simp)
  have hbe : Below w.heap.size w (w.alloc (.cells #[] 5)) := (Below.refl _ w).alloc (Nat.le_refl _) _
  have HDe := Lib.hid (HH.out.below (hbe.mono hB))
  go_wp2_with (at_builtin; refine wpList_addall (o := ⟨some 22, _, _, _, _, _⟩) rfl _ _ rfl w.heap.size _ [] rfl hoe B A 256 c data rfl HDe.out (by simp) hbe.size ?_)
  intro v2 w2 ho2 hb2
  have hdl : data.length = 256 := HH.out.1
  have ho2' : Owned w2 w.heap.size v2 data := ho2
  clear ho2
  obtain ⟨A2, c2, rfl, -⟩ := Owned.holds ho2'
  rw [hdl] at ho2' ⊢
  have HB2 : Hid (Below w.heap.size w w2) := Lib.hid (hbe.trans hb2)
  have HO2 := Lib.hid ho2'
  have HDL := Lib.hid hdl
  clear hoe hbe hb2 ho2' HDe hdl
  obtain ⟨w3, hw3⟩ : ∃ V, V = w2.alloc (.cells #[.int .i64 (i : Int), .slice A2 256 c2] 56) := ⟨_, rfl⟩
  have hb3 : Below w2.heap.size w2 w3 := by rw [hw3]; exact (Below.refl _ _).alloc (Nat.le_refl _) _
  have hq3 : w3.heap[w2.heap.size]? = some (.cells #[.int .i64 (i : Int), .slice A2 256 c2] 56 (0, 0)) := by rw [hw3]; exact heap_alloc_new w2 _
  have hb3w : Below w.heap.size w w3 := HB2.out.trans (hb3.mono HB2.out.size)
  have h3 : RefAt w3 r R vb vw vg D := H.out.turns (F := fun _ => False) (Turns.of_below hb3w) (fun h => h) (fun _ _ h => h) (fun _ _ h => h) (fun _ _ h => h) (fun _ _ h => h)
  obtain ⟨q, hq⟩ : ∃ q, q = w2.heap.size := ⟨_, rfl⟩
  have hwq : w.heap.size ≤ q := by rw [hq]; exact HB2.out.size
  have hq3l : q < w3.heap.size := by rw [hq]; exact (Array.getElem?_eq_some_iff.1 hq3).1
  have ho3 : Owned w3 w.heap.size (.slice A2 256 c2) data := Owned.keep HO2.out hb3 (Nat.le_refl _)
  have HBF := Lib.hid (refBlown_false R r vb vw vg D w3 h3 HBL.out hf)
  rw [← hq] at hq3
  have HQ3 := Lib.hid hq3; clear hq3
  have HO3 := Lib.hid ho3; clear ho3
  have HB3 := Lib.hid hb3w; clear hb3w hb3 h3
  have HW3 := Lib.hid hw3; clear hw3
  have HQ := Lib.hid hq; clear hq
  go_wp2_with fail
  rw [← HW3.out, ← HQ.out]
  with_reducible refine HBF.out.mono ?_
  clear HBF
  rintro e w4 ⟨rfl, hr4, ht4⟩
  have hrq : q ≠ r := by have := H.out.lt; omega
  have hq4b := (ht4.block q hq3l hrq).trans HQ3.out
  have g1 : w4.cell? ⟨r, 1, none⟩ = some vw := cell_of_row w4 r 1 _ _ _ hr4.head
  have g2 : w4.cell? ⟨q, 0, none⟩ = some (.int .i64 (i : Int)) := cell_of_row w4 q 0 _ _ _ hq4b
  have g3 : w4.cell? ⟨q, 1, none⟩ = some (.slice A2 256 c2) := cell_of_row w4 q 1 _ _ _ hq4b
  have hr4l := hr4.lt
  have hr4 : r < w4.heap.size := hr4l
  have hq4 : q < w4.heap.size := by have := ht4.size; omega
  have HR4 := Lib.hid ‹RefAt w4 r R.tick vb vw vg D›
  have HT4 := Lib.hid ht4
  obtain ⟨vwA, vwc, hvw⟩ : ∃ A c, vw = .slice A R.ws.length c := by
    rcases HR4.out.ws.2 with ⟨e, e0⟩ | ⟨g, cap, cur, e, _⟩
    · exact ⟨none, 0, by rw [e]; congr 1; exact e0.symm⟩
    · exact ⟨_, _, e⟩
  clear ht4 hr4l hq4b
  have hS : (fun V : World => V.cell? ⟨r, 1, none⟩ = some vw ∧ V.cell? ⟨q, 0, none⟩ = some (.int .i64 (i : Int)) ∧ V.cell? ⟨q, 1, none⟩ = some (.slice A2 256 c2)) w4.drew := ⟨g1, g2, g3⟩
  go_wp2
  refine wp_region_E (fun V : World => V.cell? ⟨r, 1, none⟩ = some vw ∧ V.cell? ⟨q, 0, none⟩ = some (.int .i64 (i : Int)) ∧ V.cell? ⟨q, 1, none⟩ = some (.slice A2 256 c2)) 10 (by kernel_rfl) ?_
  refine wpE_take 0 _ (v := ?_) [8, 9, 10] rfl (by kernel_rfl) (by kernel_rfl) (by kernel_rfl) (by kernel_rfl) (fun _ _ _ h => h) hS (Or.inl ⟨by rfl, ?_⟩) ?_
  rotate_left
  · (intro V hSw; obtain ⟨s1, s2, s3⟩ := hSw; go_simp; try with_reducible rfl)
  simp only [Act.put]
  refine wpE_take 1 _ (v := ?_) [2, 3, 4, 7, 10] rfl (by kernel_rfl) (by kernel_rfl) (by kernel_rfl) (by kernel_rfl) (fun _ _ _ h => h) hS (Or.inl ⟨by rfl, ?_⟩) ?_
  rotate_left
  · (intro V hSw; obtain ⟨s1, s2, s3⟩ := hSw; go_simp; try with_reducible rfl)
  simp only [Act.put]
  refine wpE_take 2 _ (v := ?_) [3, 4, 7, 10] rfl (by kernel_rfl) (by kernel_rfl) (by kernel_rfl) (by kernel_rfl) (fun _ _ _ h => h) hS (Or.inl ⟨by rfl, ?_⟩) ?_
  rotate_left
  · (intro V hSw; obtain ⟨s1, s2, s3⟩ := hSw; go_simp; try with_reducible rfl)
  simp only [Act.put]
  refine wpE_take 3 _ (v := ?_) [4, 7, 10] rfl (by kernel_rfl) (by kernel_rfl) (by kernel_rfl) (by kernel_rfl) (fun _ _ _ h => h) hS (Or.inl ⟨by rfl, ?_⟩) ?_
  rotate_left
  · (intro V hSw; obtain ⟨s1, s2, s3⟩ := hSw; go_simp; try with_reducible rfl)
  simp only [Act.put]
  refine wpE_take 4 _ (v := ?_) [7, 10] rfl (by kernel_rfl) (by kernel_rfl) (by kernel_rfl) (by kernel_rfl) (fun _ _ _ h => h) hS (Or.inl ⟨by rfl, ?_⟩) ?_
  rotate_left
  · (intro V hSw; obtain ⟨s1, s2, s3⟩ := hSw; go_simp; try with_reducible rfl)
  simp only [Act.put]
  refine wpE_take 5 _ (v := ?_) [6, 7, 10] rfl (by kernel_rfl) (by kernel_rfl) (by kernel_rfl) (by kernel_rfl) (fun _ _ _ h => h) hS (Or.inl ⟨by rfl, ?_⟩) ?_
  rotate_left
  · (intro V hSw; obtain ⟨s1, s2, s3⟩ := hSw; go_simp; try with_reducible rfl)
  simp only [Act.put]
  have hb5 : Below w4.heap.size w4 (w4.drew.alloc (.cells #[.int .i64 (i : Int), .slice A2 256 c2] 56)) := (Below.refl _ w4).drew.alloc (Nat.le_refl _) _
  refine wpE_one 6 (by kernel_rfl) rfl (fun K hK => ?_)
  go_simp
  refine hK.out _ _ ⟨(hb5.cell (p := ⟨r, 1, none⟩) hr4).trans g1, (hb5.cell (p := ⟨q, 0, none⟩) hq4).trans g2, (hb5.cell (p := ⟨q, 1, none⟩) hq4).trans g3⟩ (fun hS => ?_)
  clear hK K
  obtain ⟨if0, hi1, hz0, hz1, hz2⟩ := info_parts info_write
  have hrow5 := (HR4.out.ws).turns (Turns.of_below (F := fun _ => False) hb5) (fun _ _ h => h)
  refine wpE_one 7 (by kernel_rfl) rfl (fun K hK => ?_)
  refine step_append_lies (o := ⟨some 43, _, _, _, _, _⟩) _ rfl (.tmp 40) (.tmp 42) 57 rfl 0 56 if0 (.agg #[.int .i64 0, .slice none 0 0]) 2 32 Tryz.underlying57 hi1 hz0 hz1 hz2 rfl (by omega) vw R.ws.length (R.ws.flatMap WrAt.cells) (by go_simp) hrow5 ⟨w4.heap.size, 0, none⟩ 1 1 [.int .i64 (i : Int), .slice A2 256 c2] (by go_simp) rfl (World.news_of_block (heap_alloc_new w4.drew (.cells #[.int .i64 (i : Int), .slice A2 256 c2] 56))) (by intro u hu; simp at hu; rcases hu with rfl | rfl <;> rfl) (by omega) (by unfold maxLen; omega) (by omega) (Nat.zero_le _) _ rfl ?_
  intro g cap w6 hown6 hgrow0 hat6 hlt6
  have hgrow6 : World.grownBy (w4.drew.alloc (.cells #[.int .i64 (i : Int), .slice A2 256 c2] 56)) w6 vw.ownBlock := hgrow0
  clear hgrow0
  have h5 : RefAt (w4.drew.alloc (.cells #[.int .i64 (i : Int), .slice A2 256 c2] 56)) r R.tick vb vw vg D :=
    HR4.out.turns (F := fun _ => False) (Turns.of_below hb5) (fun h => h) (fun _ _ h => h) (fun _ _ h => h) (fun _ _ h => h) (fun _ _ h => h)
  obtain ⟨a, cap2, cur2, hv2, ha1, ha2, hcap⟩ : ∃ g cap cur, Value.slice A2 256 c2 = .slice (some ⟨g, 0, none⟩) data.length cap ∧ w.heap.size ≤ g ∧ g < w3.heap.size ∧ 256 ≤ c2 ∧ c2 ≤ maxLen := by
    rcases HO3.out.2 with ⟨e, e0⟩ | ⟨g, cap, cur, e, hg, hh, hk1, hk2, _⟩
    · have := HDL.out; omega
    · have hdl := HDL.out
      have e' := e
      injection e' with _ _ e3
      exact ⟨g, cap, cur, e, hg, (Array.getElem?_eq_some_iff.1 hh).1, by omega, by omega⟩
  injection hv2 with d1 d2 d3
  clear d2 d3
  subst d1
  have har : a ≠ r := by have := H.out.lt; omega
  have hvl : ∀ k, vw.ownBlock = some k → k < w.heap.size := fun k hk => H.out.ws.lt hk
  have hax : (vw.ownBlock ≠ some a) := fun e => by have := hvl a e; omega
  have hO4 : Owned w4 w.heap.size (.slice (some ⟨a, 0, none⟩) 256 c2) data := by
    obtain ⟨e1, e2⟩ := HO3.out
    refine ⟨e1, ?_⟩
    rcases e2 with e2 | ⟨g', cap', cur', e, hg, hh, rr⟩
    · exact .inl e2
    · have hga : g' = a := by injection e with e _ _; injection e with e; injection e with e; exact e.symm
      exact .inr ⟨g', cap', cur', e, hg, (HT4.out.block g' (Array.getElem?_eq_some_iff.1 hh).1 (by rw [hga]; exact har)).trans hh, rr⟩
  have hO5 : Owned (w4.drew.alloc (.cells #[.int .i64 (i : Int), .slice (some ⟨a, 0, none⟩) 256 c2] 56)) w.heap.size (.slice (some ⟨a, 0, none⟩) 256 c2) data := Owned.keep hO4 hb5 (Nat.le_refl _)
  have hr5 : (w4.drew.alloc (.cells #[.int .i64 (i : Int), .slice (some ⟨a, 0, none⟩) 256 c2] 56)).rangeAt a 0 (data.map byteV) := fun j v hv => by
    have hj : j < data.length := by
      have := (List.getElem?_eq_some_iff.1 hv).1
      simpa using this
    obtain ⟨A', c', e, hh⟩ := Owned.holds hO5
    injection e with e _ _
    obtain ⟨b', off', e', _, hc'⟩ := hh.2 (by have := HDL.out; omega)
    rw [← e] at e'
    injection e' with e'
    injection e' with e1 e2
    subst e1 e2
    rw [hc' j hj]
    rw [List.getElem?_map, List.getElem?_eq_getElem hj] at hv
    exact hv
  have ht5 : ∃ cur, (w4.drew.alloc (.cells #[.int .i64 (i : Int), .slice (some ⟨a, 0, none⟩) 256 c2] 56)).heap[a]? = some (.cells cur 5 (0, 0)) := by
    rcases hO5.2 with ⟨_, e0⟩ | ⟨g', cap', cur', e, _, hh, _⟩
    · have := HDL.out; omega
    · have : a = g' := by
        injection e with e _ _
        injection e with e
        injection e with e
      exact ⟨cur', by rw [← this] at hh; exact hh⟩
  have hal : a < (w4.drew.alloc (.cells #[.int .i64 (i : Int), .slice (some ⟨a, 0, none⟩) 256 c2] 56)).heap.size := by have := HT4.out.size; have := hb5.size; omega
  have hfin := wrote_w (x := ⟨i, some ⟨a, 0, none⟩, c2, data⟩) h5 ⟨⟨HDL.out, hcap⟩, 0, rfl, hal, hr5, ht5⟩ har hax hD hgrow6 hown6 hwg (fun k hk e => by
    obtain ⟨cu1, hc1⟩ := row_type H.out.ws hk
    obtain ⟨cu2, hc2⟩ := row_type H.out.st e
    rw [hc1] at hc2
    injection hc2 with hc2
    injection hc2 with _ hc2
    exact absurd hc2 (by decide))
  have hT6 : Turns (fun k => k = r ∨ vw.ownBlock = some k ∨ vg.ownBlock = some k) w w6 := by
    have t1 : Turns (fun k => k = r ∨ vw.ownBlock = some k ∨ vg.ownBlock = some k) w w4 := (Turns.of_below HB3.out).trans HT4.out (fun _ _ e => .inl e)
    exact (t1.trans (Turns.of_below (F := fun _ => False) hb5) (fun _ _ e => e.elim)).grown hgrow6 (fun k e _ => .inr (.inl e))
  have hTf := hT6.setCell (p := ⟨r, 1, none⟩) (fun _ => .inl rfl) (.slice (some ⟨g, 0, none⟩) (R.ws.length + 1) cap)
  have hkeep6 : ∀ k, vw.ownBlock ≠ some k → k < w4.heap.size → w6.heap[k]? = w4.heap[k]? := fun k hk hl => by
    rw [hgrow6.block k (by have := hb5.size; omega) (fun e => hk e.symm), hb5.block k hl]
  have hr6 := (hkeep6 r (HR4.out.apart.2.1) hr4).trans HR4.out.head
  have hq6 : w6.heap[q]? = some (.cells #[.int .i64 (i : Int), .slice (some ⟨a, 0, none⟩) 256 c2] 56 (0, 0)) := by
    rw [hkeep6 q (fun e => by have := hvl q e; omega) hq4]
    exact (HT4.out.block q hq3l hrq).trans HQ3.out
  refine hK.out _ _ ⟨cell_of_row _ _ _ _ _ _ hr6, cell_of_row _ _ _ _ _ _ hq6, cell_of_row _ _ _ _ _ _ hq6⟩ (fun hS => ?_)
  clear hK K
  simp only [Act.put]
  have n1 : w6.cell? ⟨r, 1, none⟩ = some vw := cell_of_row _ _ _ _ _ _ hr6
  have f1 := frozen_of_row _ _ 1 _ _ hr6
  have HFIN := Lib.hid hfin
  have HTF := Lib.hid hTf
  have HAT := Lib.hid hat6
  have hs5 : w.heap.size ≤ (w4.drew.alloc (.cells #[.int .i64 (i : Int), .slice (some ⟨a, 0, none⟩) 256 c2] 56)).heap.size := Nat.le_trans (Nat.le_trans HB3.out.size HT4.out.size) hb5.size
  have HS5 := Lib.hid hs5
  clear hfin hTf hat6 hT6 hr6 hq6 hkeep6 hr5 hO5 hO4 h5 hown6 hgrow6 hlt6 hrow5 hi1 hz0 hz1 hz2 hb5 hal hs5
  refine wpE_take 8 _ (v := ?_) [9, 10] rfl (by kernel_rfl) (by kernel_rfl) (by kernel_rfl) (by kernel_rfl) (fun _ _ _ h => h) hS (Or.inl ⟨by rfl, ?_⟩) ?_
  rotate_left
  · (intro V hSw; obtain ⟨s1, s2, s3⟩ := hSw; go_simp; try with_reducible rfl)
  simp only [Act.put]
  refine wpE_take 9 _ (v := ?_) [10] rfl (by kernel_rfl) (by kernel_rfl) (by kernel_rfl) (by kernel_rfl) (fun _ _ _ h => h) hS (Or.inl ⟨by rfl, ?_⟩) ?_
  rotate_left
  · (intro V hSw; obtain ⟨s1, s2, s3⟩ := hSw; go_simp; try with_reducible rfl)
  simp only [Act.put]
  refine wpE_last (by kernel_rfl) rfl (fun K hK => ?_)
  go_simp
  refine hK.out _ _ ?_
  clear hK K
  refine wpE_done (by kernel_rfl) ?_ _
  go_wp2
  go_ret
  refine ⟨some ⟨a, 0, none⟩, c2, .slice (some ⟨g, 0, none⟩) (R.ws.length + 1) cap, _, rfl, HFIN.out, HTF.out, fun k hk => ?_, fun k hk => .inl hk, fun k hk => ?_⟩
  · have : k = g := by injection hk with hk; exact hk.symm
    subst this
    rcases HAT.out with e | e
    · exact .inl e
    · exact .inr (by rw [e]; exact HS5.out)
  · rcases hk with hk | hk
    · exact .inl hk
    · exact .inr (by omega)
set_option maxRecDepth 100000 in
set_option maxHeartbeats 2000000 in
theorem refWrite_ghost (i : Nat) (A : Option Addr) (c B n : Nat) (data : List UInt8) (R : RefLow) (r : Nat) (vb vw vg : Value) (D : Nat → Prop) (w : World) (h : RefAt w r R vb vw vg D) (hn : R.st.length = 256 * n) (hm : n ≤ 1024) (hi : i < n) (hd : Holds w B A 256 data) (hB : B ≤ w.heap.size)
    (hbl : R.blown = true) (hfew : R.gs.length ≤ 1048576)
    (hD : ∀ k, D k → vg.ownBlock ≠ some k) (hwg : ∀ k, vg.ownBlock = some k → vw.ownBlock ≠ some k) :
    Calls Tryz.prog 43 #[.pointer (some ⟨r, 0, none⟩), .int .i64 (i : Int), .slice A 256 c] w fun e w' => ∃ A2 c2 vg' D', e = .returned (.int .i64 0) ∧ Wrote w w' r (R.addG ⟨i, A2, c2, data⟩) vb vw vg vw vg' D D' := by
  have HN := Lib.hid hn; clear hn
  have H := Lib.hid h; clear h
  have HH := Lib.hid hd; clear hd
  have HBL := Lib.hid hbl; clear hbl
  have h0 : ¬ (i : Int) < 0 := by omega
  have h1 : ¬ (n : Int) ≤ (i : Int) := by omega
  have h1d : decide ((n : Int) ≤ (i : Int)) = false := decide_eq_false h1
  have h1n : decide (n ≤ i) = false := decide_eq_false (by omega)
  go_enter Tryz.func43, Tryz.ntmps43
  go_wp2_with fail
  with_reducible refine (refSize_any R r n vb vw vg D w H.out HN.out hm).mono ?_
  rintro e w' ⟨rfl, rfl⟩
  have hoe : Owned (w.alloc (.cells #[] 5)) w.heap.size (.slice (some ⟨w.heap.size, 0, none⟩) 0 0) [] := owned_made w [] w.heap.size (Nat.le_refl _) (by unfold maxLen; simp)
  have hbe : Below w.heap.size w (w.alloc (.cells #[] 5)) := (Below.refl _ w).alloc (Nat.le_refl _) _
  have HDe := Lib.hid (HH.out.below (hbe.mono hB))
  go_wp2_with (at_builtin; refine wpList_addall (o := ⟨some 22, _, _, _, _, _⟩) rfl _ _ rfl w.heap.size _ [] rfl hoe B A 256 c data rfl HDe.out (by simp) hbe.size ?_)
  intro v2 w2 ho2 hb2
  have hdl : data.length = 256 := HH.out.1
  have ho2' : Owned w2 w.heap.size v2 data := ho2
  clear ho2
  obtain ⟨A2, c2, rfl, -⟩ := Owned.holds ho2'
  rw [hdl] at ho2' ⊢
  have HB2 : Hid (Below w.heap.size w w2) := Lib.hid (hbe.trans hb2)
  have HO2 := Lib.hid ho2'
  have HDL := Lib.hid hdl
  clear hoe hbe hb2 ho2' HDe hdl
  obtain ⟨w3, hw3⟩ : ∃ V, V = w2.alloc (.cells #[.int .i64 (i : Int), .slice A2 256 c2] 56) := ⟨_, rfl⟩
  have hb3 : Below w2.heap.size w2 w3 := by rw [hw3]; exact (Below.refl _ _).alloc (Nat.le_refl _) _
  have hq3 : w3.heap[w2.heap.size]? = some (.cells #[.int .i64 (i : Int), .slice A2 256 c2] 56 (0, 0)) := by rw [hw3]; exact heap_alloc_new w2 _
  have hb3w : Below w.heap.size w w3 := HB2.out.trans (hb3.mono HB2.out.size)
  have h3 : RefAt w3 r R vb vw vg D := H.out.turns (F := fun _ => False) (Turns.of_below hb3w) (fun h => h) (fun _ _ h => h) (fun _ _ h => h) (fun _ _ h => h) (fun _ _ h => h)
  obtain ⟨q, hq⟩ : ∃ q, q = w2.heap.size := ⟨_, rfl⟩
  have hwq : w.heap.size ≤ q := by rw [hq]; exact HB2.out.size
  have hq3l : q < w3.heap.size := by rw [hq]; exact (Array.getElem?_eq_some_iff.1 hq3).1
  have ho3 : Owned w3 w.heap.size (.slice A2 256 c2) data := Owned.keep HO2.out hb3 (Nat.le_refl _)
  have HBF := Lib.hid (refBlown_true R r vb vw vg D w3 h3 HBL.out)
  rw [← hq] at hq3
  have HQ3 := Lib.hid hq3; clear hq3
  have HO3 := Lib.hid ho3; clear ho3
  have HB3 := Lib.hid hb3w; clear hb3w hb3
  have HR3 := Lib.hid h3; clear h3
  have HW3 := Lib.hid hw3; clear hw3
  have HQ := Lib.hid hq; clear hq
  go_wp2_with fail
  rw [← HW3.out, ← HQ.out]
  with_reducible refine HBF.out.mono ?_
  clear HBF
  rintro e w4 ⟨rfl, hw4⟩
  have hr4 : RefAt w4 r R vb vw vg D := by rw [← hw4]; exact HR3.out
  have ht4 : Turns (fun k => k = r) w3 w4 := by rw [← hw4]; exact Turns.refl _ _
  clear hw4
  have hrq : q ≠ r := by have := H.out.lt; omega
  have hq4b := (ht4.block q hq3l hrq).trans HQ3.out
  have g1 : w4.cell? ⟨r, 2, none⟩ = some vg := cell_of_row w4 r 2 _ _ _ hr4.head
  have g2 : w4.cell? ⟨q, 0, none⟩ = some (.int .i64 (i : Int)) := cell_of_row w4 q 0 _ _ _ hq4b
  have g3 : w4.cell? ⟨q, 1, none⟩ = some (.slice A2 256 c2) := cell_of_row w4 q 1 _ _ _ hq4b
  have hr4l := hr4.lt
  have hr4 : r < w4.heap.size := hr4l
  have hq4 : q < w4.heap.size := by have := ht4.size; omega
  have HR4 := Lib.hid ‹RefAt w4 r R vb vw vg D›
  have HT4 := Lib.hid ht4
  obtain ⟨vgA, vgc, hvg⟩ : ∃ A c, vg = .slice A R.gs.length c := by
    rcases HR4.out.gs.2 with ⟨e, e0⟩ | ⟨g, cap, cur, e, _⟩
    · exact ⟨none, 0, by rw [e]; congr 1; exact e0.symm⟩
    · exact ⟨_, _, e⟩
  clear ht4 hr4l hq4b
  have hS : (fun V : World => V.cell? ⟨r, 2, none⟩ = some vg ∧ V.cell? ⟨q, 0, none⟩ = some (.int .i64 (i : Int)) ∧ V.cell? ⟨q, 1, none⟩ = some (.slice A2 256 c2)) w4.drew := ⟨g1, g2, g3⟩
  go_wp2
  refine wp_region_E (fun V : World => V.cell? ⟨r, 2, none⟩ = some vg ∧ V.cell? ⟨q, 0, none⟩ = some (.int .i64 (i : Int)) ∧ V.cell? ⟨q, 1, none⟩ = some (.slice A2 256 c2)) 10 (by kernel_rfl) ?_
  refine wpE_take 0 _ (v := ?_) [8, 9, 10] rfl (by kernel_rfl) (by kernel_rfl) (by kernel_rfl) (by kernel_rfl) (fun _ _ _ h => h) hS (Or.inl ⟨by rfl, ?_⟩) ?_
  rotate_left
  · (intro V hSw; obtain ⟨s1, s2, s3⟩ := hSw; go_simp; try with_reducible rfl)
  simp only [Act.put]
  refine wpE_take 1 _ (v := ?_) [2, 3, 4, 7, 10] rfl (by kernel_rfl) (by kernel_rfl) (by kernel_rfl) (by kernel_rfl) (fun _ _ _ h => h) hS (Or.inl ⟨by rfl, ?_⟩) ?_
  rotate_left
  · (intro V hSw; obtain ⟨s1, s2, s3⟩ := hSw; go_simp; try with_reducible rfl)
  simp only [Act.put]
  refine wpE_take 2 _ (v := ?_) [3, 4, 7, 10] rfl (by kernel_rfl) (by kernel_rfl) (by kernel_rfl) (by kernel_rfl) (fun _ _ _ h => h) hS (Or.inl ⟨by rfl, ?_⟩) ?_
  rotate_left
  · (intro V hSw; obtain ⟨s1, s2, s3⟩ := hSw; go_simp; try with_reducible rfl)
  simp only [Act.put]
  refine wpE_take 3 _ (v := ?_) [4, 7, 10] rfl (by kernel_rfl) (by kernel_rfl) (by kernel_rfl) (by kernel_rfl) (fun _ _ _ h => h) hS (Or.inl ⟨by rfl, ?_⟩) ?_
  rotate_left
  · (intro V hSw; obtain ⟨s1, s2, s3⟩ := hSw; go_simp; try with_reducible rfl)
  simp only [Act.put]
  refine wpE_take 4 _ (v := ?_) [7, 10] rfl (by kernel_rfl) (by kernel_rfl) (by kernel_rfl) (by kernel_rfl) (fun _ _ _ h => h) hS (Or.inl ⟨by rfl, ?_⟩) ?_
  rotate_left
  · (intro V hSw; obtain ⟨s1, s2, s3⟩ := hSw; go_simp; try with_reducible rfl)
  simp only [Act.put]
  refine wpE_take 5 _ (v := ?_) [6, 7, 10] rfl (by kernel_rfl) (by kernel_rfl) (by kernel_rfl) (by kernel_rfl) (fun _ _ _ h => h) hS (Or.inl ⟨by rfl, ?_⟩) ?_
  rotate_left
  · (intro V hSw; obtain ⟨s1, s2, s3⟩ := hSw; go_simp; try with_reducible rfl)
  simp only [Act.put]
  have hb5 : Below w4.heap.size w4 (w4.drew.alloc (.cells #[.int .i64 (i : Int), .slice A2 256 c2] 56)) := (Below.refl _ w4).drew.alloc (Nat.le_refl _) _
  refine wpE_one 6 (by kernel_rfl) rfl (fun K hK => ?_)
  go_simp
  refine hK.out _ _ ⟨(hb5.cell (p := ⟨r, 2, none⟩) hr4).trans g1, (hb5.cell (p := ⟨q, 0, none⟩) hq4).trans g2, (hb5.cell (p := ⟨q, 1, none⟩) hq4).trans g3⟩ (fun hS => ?_)
  clear hK K
  obtain ⟨if0, hi1, hz0, hz1, hz2⟩ := info_parts info_write
  have hrow5 := (HR4.out.gs).turns (Turns.of_below (F := fun _ => False) hb5) (fun _ _ h => h)
  refine wpE_one 7 (by kernel_rfl) rfl (fun K hK => ?_)
  refine step_append_lies (o := ⟨some 33, _, _, _, _, _⟩) _ rfl (.tmp 30) (.tmp 32) 57 rfl 0 56 if0 (.agg #[.int .i64 0, .slice none 0 0]) 2 32 Tryz.underlying57 hi1 hz0 hz1 hz2 rfl (by omega) vg R.gs.length (R.gs.flatMap WrAt.cells) (by go_simp) hrow5 ⟨w4.heap.size, 0, none⟩ 1 1 [.int .i64 (i : Int), .slice A2 256 c2] (by go_simp) rfl (World.news_of_block (heap_alloc_new w4.drew (.cells #[.int .i64 (i : Int), .slice A2 256 c2] 56))) (by intro u hu; simp at hu; rcases hu with rfl | rfl <;> rfl) (by omega) (by unfold maxLen; omega) (by omega) (Nat.zero_le _) _ rfl ?_
  intro g cap w6 hown6 hgrow0 hat6 hlt6
  have hgrow6 : World.grownBy (w4.drew.alloc (.cells #[.int .i64 (i : Int), .slice A2 256 c2] 56)) w6 vg.ownBlock := hgrow0
  clear hgrow0
  have h5 : RefAt (w4.drew.alloc (.cells #[.int .i64 (i : Int), .slice A2 256 c2] 56)) r R vb vw vg D :=
    HR4.out.turns (F := fun _ => False) (Turns.of_below hb5) (fun h => h) (fun _ _ h => h) (fun _ _ h => h) (fun _ _ h => h) (fun _ _ h => h)
  obtain ⟨a, cap2, cur2, hv2, ha1, ha2, hcap⟩ : ∃ g cap cur, Value.slice A2 256 c2 = .slice (some ⟨g, 0, none⟩) data.length cap ∧ w.heap.size ≤ g ∧ g < w3.heap.size ∧ 256 ≤ c2 ∧ c2 ≤ maxLen := by
    rcases HO3.out.2 with ⟨e, e0⟩ | ⟨g, cap, cur, e, hg, hh, hk1, hk2, _⟩
    · have := HDL.out; omega
    · have hdl := HDL.out
      have e' := e
      injection e' with _ _ e3
      exact ⟨g, cap, cur, e, hg, (Array.getElem?_eq_some_iff.1 hh).1, by omega, by omega⟩
  injection hv2 with d1 d2 d3
  clear d2 d3
  subst d1
  have har : a ≠ r := by have := H.out.lt; omega
  have hvl : ∀ k, vg.ownBlock = some k → k < w.heap.size := fun k hk => H.out.gs.lt hk
  have hax : (vg.ownBlock ≠ some a) := fun e => by have := hvl a e; omega
  have hO4 : Owned w4 w.heap.size (.slice (some ⟨a, 0, none⟩) 256 c2) data := by
    obtain ⟨e1, e2⟩ := HO3.out
    refine ⟨e1, ?_⟩
    rcases e2 with e2 | ⟨g', cap', cur', e, hg, hh, rr⟩
    · exact .inl e2
    · have hga : g' = a := by injection e with e _ _; injection e with e; injection e with e; exact e.symm
      exact .inr ⟨g', cap', cur', e, hg, (HT4.out.block g' (Array.getElem?_eq_some_iff.1 hh).1 (by rw [hga]; exact har)).trans hh, rr⟩
  have hO5 : Owned (w4.drew.alloc (.cells #[.int .i64 (i : Int), .slice (some ⟨a, 0, none⟩) 256 c2] 56)) w.heap.size (.slice (some ⟨a, 0, none⟩) 256 c2) data := Owned.keep hO4 hb5 (Nat.le_refl _)
  have hr5 : (w4.drew.alloc (.cells #[.int .i64 (i : Int), .slice (some ⟨a, 0, none⟩) 256 c2] 56)).rangeAt a 0 (data.map byteV) := fun j v hv => by
    have hj : j < data.length := by
      have := (List.getElem?_eq_some_iff.1 hv).1
      simpa using this
    obtain ⟨A', c', e, hh⟩ := Owned.holds hO5
    injection e with e _ _
    obtain ⟨b', off', e', _, hc'⟩ := hh.2 (by have := HDL.out; omega)
    rw [← e] at e'
    injection e' with e'
    injection e' with e1 e2
    subst e1 e2
    rw [hc' j hj]
    rw [List.getElem?_map, List.getElem?_eq_getElem hj] at hv
    exact hv
  have ht5 : ∃ cur, (w4.drew.alloc (.cells #[.int .i64 (i : Int), .slice (some ⟨a, 0, none⟩) 256 c2] 56)).heap[a]? = some (.cells cur 5 (0, 0)) := by
    rcases hO5.2 with ⟨_, e0⟩ | ⟨g', cap', cur', e, _, hh, _⟩
    · have := HDL.out; omega
    · have : a = g' := by
        injection e with e _ _
        injection e with e
        injection e with e
      exact ⟨cur', by rw [← this] at hh; exact hh⟩
  have hal : a < (w4.drew.alloc (.cells #[.int .i64 (i : Int), .slice (some ⟨a, 0, none⟩) 256 c2] 56)).heap.size := by have := HT4.out.size; have := hb5.size; omega
  have hfin := wrote_g (x := ⟨i, some ⟨a, 0, none⟩, c2, data⟩) h5 ⟨⟨HDL.out, hcap⟩, 0, rfl, hal, hr5, ht5⟩ har hax hD hgrow6 hown6 hwg (fun k hk e => by
    obtain ⟨cu1, hc1⟩ := row_type H.out.gs hk
    obtain ⟨cu2, hc2⟩ := row_type H.out.st e
    rw [hc1] at hc2
    injection hc2 with hc2
    injection hc2 with _ hc2
    exact absurd hc2 (by decide))
  have hT6 : Turns (fun k => k = r ∨ vw.ownBlock = some k ∨ vg.ownBlock = some k) w w6 := by
    have t1 : Turns (fun k => k = r ∨ vw.ownBlock = some k ∨ vg.ownBlock = some k) w w4 := (Turns.of_below HB3.out).trans HT4.out (fun _ _ e => .inl e)
    exact (t1.trans (Turns.of_below (F := fun _ => False) hb5) (fun _ _ e => e.elim)).grown hgrow6 (fun k e _ => .inr (.inr e))
  have hTf := hT6.setCell (p := ⟨r, 2, none⟩) (fun _ => .inl rfl) (.slice (some ⟨g, 0, none⟩) (R.gs.length + 1) cap)
  have hkeep6 : ∀ k, vg.ownBlock ≠ some k → k < w4.heap.size → w6.heap[k]? = w4.heap[k]? := fun k hk hl => by
    rw [hgrow6.block k (by have := hb5.size; omega) (fun e => hk e.symm), hb5.block k hl]
  have hr6 := (hkeep6 r (HR4.out.apart.2.2) hr4).trans HR4.out.head
  have hq6 : w6.heap[q]? = some (.cells #[.int .i64 (i : Int), .slice (some ⟨a, 0, none⟩) 256 c2] 56 (0, 0)) := by
    rw [hkeep6 q (fun e => by have := hvl q e; omega) hq4]
    exact (HT4.out.block q hq3l hrq).trans HQ3.out
  refine hK.out _ _ ⟨cell_of_row _ _ _ _ _ _ hr6, cell_of_row _ _ _ _ _ _ hq6, cell_of_row _ _ _ _ _ _ hq6⟩ (fun hS => ?_)
  clear hK K
  simp only [Act.put]
  have n1 : w6.cell? ⟨r, 2, none⟩ = some vg := cell_of_row _ _ _ _ _ _ hr6
  have f1 := frozen_of_row _ _ 2 _ _ hr6
  have HFIN := Lib.hid hfin
  have HTF := Lib.hid hTf
  have HAT := Lib.hid hat6
  have hs5 : w.heap.size ≤ (w4.drew.alloc (.cells #[.int .i64 (i : Int), .slice (some ⟨a, 0, none⟩) 256 c2] 56)).heap.size := Nat.le_trans (Nat.le_trans HB3.out.size HT4.out.size) hb5.size
  have HS5 := Lib.hid hs5
  clear hfin hTf hat6 hT6 hr6 hq6 hkeep6 hr5 hO5 hO4 h5 hown6 hgrow6 hlt6 hrow5 hi1 hz0 hz1 hz2 hb5 hal hs5
  refine wpE_take 8 _ (v := ?_) [9, 10] rfl (by kernel_rfl) (by kernel_rfl) (by kernel_rfl) (by kernel_rfl) (fun _ _ _ h => h) hS (Or.inl ⟨by rfl, ?_⟩) ?_
  rotate_left
  · (intro V hSw; obtain ⟨s1, s2, s3⟩ := hSw; go_simp; try with_reducible rfl)
  simp only [Act.put]
  refine wpE_take 9 _ (v := ?_) [10] rfl (by kernel_rfl) (by kernel_rfl) (by kernel_rfl) (by kernel_rfl) (fun _ _ _ h => h) hS (Or.inl ⟨by rfl, ?_⟩) ?_
  rotate_left
  · (intro V hSw; obtain ⟨s1, s2, s3⟩ := hSw; go_simp; try with_reducible rfl)
  simp only [Act.put]
  refine wpE_last (by kernel_rfl) rfl (fun K hK => ?_)
  go_simp
  refine hK.out _ _ ?_
  clear hK K
  refine wpE_done (by kernel_rfl) ?_ _
  go_wp2
  go_ret
  refine ⟨some ⟨a, 0, none⟩, c2, .slice (some ⟨g, 0, none⟩) (R.gs.length + 1) cap, _, rfl, HFIN.out, HTF.out, fun k hk => .inl hk, fun k hk => ?_, fun k hk => ?_⟩
  · have : k = g := by injection hk with hk; exact hk.symm
    subst this
    rcases HAT.out with e | e
    · exact .inl e
    · exact .inr (by rw [e]; exact HS5.out)
  · rcases hk with hk | hk
    · exact .inl hk
    · exact .inr (by omega)
end Go.Proofs.YtelnoibfamcnmaaGreat.Disk

namespace Go.Proofs.YtelnoibfamcnmaaGreat.Disk
set_option maxRecDepth 20000
open Go.RowKit
open Go.Proofs.YtelnoibfamcnmaaGreat.Mem Go.Proofs.YtelnoibfamcnmaaGreat.Reg

theorem flat_cells (l : List WrAt) (k : Nat) (x : WrAt) (h : l[k]? = some x) : (l.flatMap WrAt.cells)[k * 2]? = some (.int .i64 (x.blk : Int)) ∧ (l.flatMap WrAt.cells)[k * 2 + 1]? = some (.slice x.A 256 x.c) := by
  induction l generalizing k with
  | nil => simp at h
  | cons y r ih =>
    rw [List.flatMap_cons]
    cases k with
    | zero =>
      simp at h
      subst h
      exact ⟨rfl, rfl⟩
    | succ k =>
      simp only [List.getElem?_cons_succ] at h
      have := ih k h
      rw [show (k + 1) * 2 = k * 2 + 1 + 1 by omega]
      exact this

/-- What lies where, of one of the Writes. -/
structure Spot (w : World) (r : Nat) (R : RefLow) (vb vw : Value) (n k : Nat) (x : WrAt) (g cap bw cw a off : Nat) (cur : Array Value) : Prop where
  eb : vb = .slice (some ⟨g, 0, none⟩) (256 * n) cap
  ew : vw = .slice (some ⟨bw, 0, none⟩) R.ws.length cw
  fit : 256 * n ≤ cap ∧ cap ≤ maxLen ∧ cur.size = cap
  ad : x.A = some ⟨a, off, none⟩
  num : w.cell? ⟨bw, k * 2, none⟩ = some (.int .i64 (x.blk : Int))
  slc : w.cell? ⟨bw, k * 2 + 1, none⟩ = some (.slice (some ⟨a, off, none⟩) 256 x.c)
  h0 : w.cell? ⟨r, 0, none⟩ = some vb
  h1 : w.cell? ⟨r, 1, none⟩ = some vw
  row : w.heap[g]? = some (.cells cur 5 (0, 0))
  bwl : bw < w.heap.size
  ne1 : bw ≠ g
  ne2 : r ≠ g
  src : w.rangeAt a off (x.data.map byteV)
  len : x.data.length = 256
  room : 256 ≤ x.c ∧ x.c ≤ maxLen
  took : cur.toList.take (256 * n) = R.st.map byteV
theorem RefAt.spot {w : World} {r : Nat} {R : RefLow} {vb vw vg : Value} {D : Nat → Prop} (h : RefAt w r R vb vw vg D) {n k : Nat} {x : WrAt} (hn : R.st.length = 256 * n) (h0 : 0 < n) (hx : R.ws[k]? = some x) :
    ∃ g cap bw cw a off cur, Spot w r R vb vw n k x g cap bw cw a off cur := by
  obtain ⟨g, cap, cur, hvb, hg, hc1, hc2, hc3, hc4⟩ := h.st.cut (by omega)
  have hk := (List.getElem?_eq_some_iff.1 hx).1
  obtain ⟨bw, cw, curw, hvw, hgw, hw1, hw2, hw3, hw4⟩ := h.ws.cut (by omega)
  obtain ⟨⟨hl, hroom⟩, a, off, ha, hD, hal, hsrc⟩ := h.data x (by simp [List.mem_of_getElem? hx])
  obtain ⟨q1, q2⟩ := flat_cells R.ws k x hx
  have hlen := WrAt.cells_len R.ws
  have hcell : ∀ j u, (R.ws.flatMap WrAt.cells)[j]? = some u → w.cell? ⟨bw, j, none⟩ = some u := fun j u hu => by
    rw [cell_of_row _ _ _ _ _ _ hgw]
    have hj := (List.getElem?_eq_some_iff.1 hu).1
    rw [← hw4, List.getElem?_take, if_pos (by omega)] at hu
    simpa using hu
  refine ⟨g, cap, bw, cw, a, off, cur, by rw [hvb, hn], hvw, ⟨by omega, hc2, by omega⟩, ha, hcell _ _ q1, ?_, h.f0, cell_of_row w r 1 _ _ _ h.head, hg, (Array.getElem?_eq_some_iff.1 hgw).1, ?_, ?_, hsrc.1, hl, hroom, by rw [← hn]; rwa [Nat.mul_one] at hc4⟩
  · rw [← ha]; exact hcell _ _ q2
  · intro e
    subst e
    rw [hgw] at hg
    injection hg with hg
    injection hg with _ hg
    exact absurd hg (by decide)
  · intro e
    have := h.head
    rw [e, hg] at this
    injection this with this
    injection this with _ this
    exact absurd this (by decide)

def RefLow.lay (R : RefLow) (x : WrAt) (f t : Nat) : RefLow := { R with st := laid R.st x.plain f t }
def piece (x : WrAt) (f t : Nat) : List Value := ((x.data.drop (f * 64)).take (t * 64 - f * 64)).map byteV
theorem piece_len (x : WrAt) (f t : Nat) (hl : x.data.length = 256) (ht : t ≤ 4) (hf : f < t) : (piece x f t).length = t * 64 - f * 64 := by
  unfold piece; simp; omega
theorem piece_one (x : WrAt) (f t : Nat) : ∀ v ∈ piece x f t, v.oneCell' = true := by
  intro v hv; obtain ⟨c, _, rfl⟩ := List.mem_map.1 hv; rfl
theorem piece_src {w : World} {a off : Nat} (x : WrAt) (f t : Nat) (h : w.rangeAt a off (x.data.map byteV)) : ∀ j v, (piece x f t)[j]? = some v → w.cell? ((⟨a, off + f * 64, none⟩ : Addr).add j) = some v := by
  intro j v hv
  rw [Addr.add_mid, Nat.add_assoc]
  unfold piece at hv
  rw [List.getElem?_map, List.getElem?_take] at hv
  split at hv
  · rw [List.getElem?_drop] at hv
    apply h
    rw [List.getElem?_map]
    exact hv
  · cases hv

/-- Sectors of a Write laid over the stable bytes. -/
theorem RefAt.laid {w : World} {r : Nat} {R : RefLow} {vb vw vg : Value} {D : Nat → Prop} (h : RefAt w r R vb vw vg D) {n k g cap bw cw a off f t : Nat} {x : WrAt} {cur : Array Value} (hn : R.st.length = 256 * n) (hs : Spot w r R vb vw n k x g cap bw cw a off cur)
    (hx : x.blk < n) (hf : f < t) (ht : t ≤ 4) (hD : ∀ k, D k → vb.ownBlock ≠ some k) :
    RefAt (w.drew.setRow g (splice cur.toList (x.blk * 256 + f * 64) (piece x f t)).toArray) r (R.lay x f t) vb vw vg D ∧ Turns (fun k => vb.ownBlock = some k) w (w.drew.setRow g (splice cur.toList (x.blk * 256 + f * 64) (piece x f t)).toArray) := by
  have hvb := hs.eb
  have hW : Turns (fun k => vb.ownBlock = some k) w (w.drew.setRow g (splice cur.toList (x.blk * 256 + f * 64) (piece x f t)).toArray) := (Turns.refl _ w).drew.setRow g _ (fun _ => by rw [hvb]; rfl)
  have hpl := piece_len x f t hs.len ht hf
  have hrow : (w.drew.setRow g (splice cur.toList (x.blk * 256 + f * 64) (piece x f t)).toArray).heap[g]? = some (.cells (splice cur.toList (x.blk * 256 + f * 64) (piece x f t)).toArray 5 (0, 0)) := setRow_heap _ _ _ _ _ _ hs.row
  have hap := h.apart
  have hlaid : (Disk.laid R.st x.plain f t).length = R.st.length := by
    unfold Disk.laid
    rw [length_splice _ _ _ ?_]
    have : ((x.plain.2.drop (f * 64)).take (t * 64 - f * 64)).length = t * 64 - f * 64 := by have := hs.len; simp [WrAt.plain]; omega
    rw [this]
    show x.blk * 256 + f * 64 + (t * 64 - f * 64) ≤ _
    omega
  refine ⟨⟨?_, ?_, h.ws.turns hW (fun k hk e => ?_), h.gs.turns hW (fun k hk e => ?_), h.far, fun y hy => ?_⟩, hW⟩
  · exact (hW.block r h.lt (fun e => hap.1 e)).trans h.head
  · show Row _ _ _ _ (Disk.laid R.st x.plain f t).length ((Disk.laid R.st x.plain f t).map byteV)
    rw [hlaid, hn, hvb]
    have hr := Row.laid (n := 256 * n) (xs := R.st.map byteV) hs.fit.1 hs.fit.2.1 (by have := hs.fit.2.2; omega) hs.took hrow (by omega)
    have e : (Disk.laid R.st x.plain f t).map byteV = splice (R.st.map byteV) (x.blk * 256 + f * 64) (piece x f t) := by
      simp [Disk.laid, splice, piece, WrAt.plain, List.map_take, List.map_drop]
    rw [e]
    exact hr
  · obtain ⟨c1, h1⟩ := row_type h.ws hk
    obtain ⟨c2, h2⟩ := row_type h.st e
    rw [h1] at h2
    injection h2 with h2
    injection h2 with _ h2
    exact absurd h2 (by decide)
  · obtain ⟨c1, h1⟩ := row_type h.gs hk
    obtain ⟨c2, h2⟩ := row_type h.st e
    rw [h1] at h2
    injection h2 with h2
    injection h2 with _ h2
    exact absurd h2 (by decide)
  · obtain ⟨hl, b, o, e, hDb, hb, hr⟩ := h.data y hy
    exact ⟨hl, b, o, e, hDb, by have := hW.size; omega, bytes_turns hr hW hb (hD b hDb)⟩

theorem refFlush_blown (R : RefLow) (r : Nat) (vb vw vg : Value) (D : Nat → Prop) (w : World) (h : RefAt w r R vb vw vg D) (hb : R.blown = true) :
    Calls Tryz.prog 42 #[.pointer (some ⟨r, 0, none⟩)] w fun e w' => e = .returned (.tuple #[]) ∧ w = w' := by
  have HB := Lib.hid (refBlown_true R r vb vw vg D w h hb)
  go_enter Tryz.func42, Tryz.ntmps42
  go_wp2_with fail
  with_reducible refine HB.out.mono ?_
  rintro e w' ⟨rfl, rfl⟩
  go_wp2
  refine bodyPost_ret (results_none rfl _ _ _) rfl ?_
  exact ⟨rfl, rfl⟩
def RefLow.flushed (R : RefLow) (k : Nat) : RefLow := { R with st := flushL (R.ws.map WrAt.plain) R.st k }
set_option maxRecDepth 100000 in
set_option maxHeartbeats 2000000 in
theorem refFlush_some (R : RefLow) (r n : Nat) (vb vw vg : Value) (D : Nat → Prop) (w : World) (h : RefAt w r R vb vw vg D) (hn : R.st.length = 256 * n) (h0 : 0 < n) (hm : n ≤ 1024) (hx : ∀ x ∈ R.ws, x.blk < n) (hfew : R.ws.length ≤ 1048576)
    (hb : R.blown = false) (hlf : R.left ≤ 9223372036854775807) (hD : ∀ k, D k → vb.ownBlock ≠ some k) :
    Calls Tryz.prog 42 #[.pointer (some ⟨r, 0, none⟩)] w fun e w' =>
      e = .returned (.tuple #[]) ∧ RefAt w' r { (R.flushed R.ws.length).tick with ws := [] } vb (.slice none 0 0) vg D ∧ Turns (fun k => k = r ∨ vb.ownBlock = some k) w w' := by
  have HBF := Lib.hid (refBlown_false R r vb vw vg D w h hb hlf)
  have HN := Lib.hid hn; clear hn
  have HX := Lib.hid hx; clear hx
  have H := Lib.hid h; clear h hb
  go_enter Tryz.func42, Tryz.ntmps42
  go_wp2_with fail
  with_reducible refine HBF.out.mono ?_
  clear HBF
  rintro e w1 ⟨rfl, hr1, ht1⟩
  have HR1 := Lib.hid hr1; clear hr1
  have HT1 := Lib.hid ht1; clear ht1
  have hl0 : (R.tick.ws) = R.ws := rfl
  go_wp2
  go_loopw [2] (fun i wr => ∃ k : Nat, k ≤ R.ws.length ∧ i = .int .i64 k ∧ RefAt wr r (R.tick.flushed k) vb vw vg D ∧ Turns (fun k => k = r ∨ vb.ownBlock = some k) w wr) (fun i _ => R.ws.length - (intOf i).toNat)
  case atStart => exact ⟨0, by omega, rfl, HR1.out, HT1.out.mono (fun _ _ e => .inl e)⟩
  case round =>
    clear HR1 HT1
    obtain ⟨k, hk, rfl, hR, hT⟩ := hrel
    have c1 : wr.cell? ⟨r, 1, none⟩ = some vw := cell_of_row wr r 1 _ _ _ hR.head
    obtain ⟨vwA, vwc, hvw⟩ : ∃ A c, vw = .slice A R.ws.length c := by
      rcases hR.ws.2 with ⟨e, e0⟩ | ⟨g, cap, cur, e, _⟩
      · exact ⟨none, 0, by rw [e]; congr 1; exact e0.symm⟩
      · exact ⟨_, _, e⟩
    rw [hvw] at c1
    have HVW := Lib.hid hvw; clear hvw
    have HR := Lib.hid hR; clear hR
    have HT := Lib.hid hT; clear hT
    have hk0 : (0 : Int) ≤ (k : Int) := by omega
    by_cases hlt : k < R.ws.length
    · have hkn : (k : Int) < (R.ws.length : Int) := by omega
      obtain ⟨x, hxk⟩ : ∃ x, R.ws[k]? = some x := ⟨_, List.getElem?_eq_getElem hlt⟩
      have hxn : x.blk < n := HX.out x (List.mem_of_getElem? hxk)
      have hstl : (R.tick.flushed k).st.length = 256 * n := flushL_len (R.ws.map WrAt.plain) R.st n HN.out (fun y hy => by
        obtain ⟨z, hz, rfl⟩ := List.mem_map.1 hy
        exact ⟨HX.out z hz, (H.out.data z (by simp [hz])).1.1⟩) k (by rw [List.length_map]; omega)
      obtain ⟨g, cap, bw, cw, a, off, cur, hs⟩ := HR.out.spot hstl h0 hxk
      have hfin := HR.out.laid hstl hs hxn (show 0 < 4 by omega) (Nat.le_refl 4) hD
      have hnext : (R.tick.flushed k).lay x 0 4 = R.tick.flushed (k + 1) := by
        unfold RefLow.lay RefLow.flushed
        have hg : (R.ws.map WrAt.plain).getD k (0, []) = x.plain := by rw [List.getD_eq_getElem?_getD, List.getElem?_map, hxk]; rfl
        show _ = ({ R.tick with st := Disk.laid (flushL (R.ws.map WrAt.plain) R.st k) ((R.ws.map WrAt.plain).getD k (0, [])) 0 4 } : RefLow)
        rw [hg]; rfl
      rw [hnext] at hfin
      have hvw2 : Value.slice vwA R.ws.length vwc = .slice (some ⟨bw, 0, none⟩) R.ws.length cw := by rw [← HVW.out]; exact hs.ew
      injection hvw2 with d1 d2 d3
      clear d2
      subst d1 d3
      have hN256 : 256 * n ≤ 262144 := by omega
      have hcap := hs.fit
      unfold maxLen at hcap
      have q1 := fun W => run_slice_from W g (256 * n) cap (x.blk * 256) ((x.blk : Int) * 256) (by omega) (by omega) hcap.1
      have e1 : IntKind.i64.wrap ((x.blk : Int) * 256) = (x.blk : Int) * 256 := IntWalk.i64_in _ (by omega)
      have s0 := hs.h0
      rw [hs.eb] at s0
      have s2 := hs.num
      have s3 := hs.slc
      have HS := Lib.hid hs; clear hs
      have HF := Lib.hid hfin; clear hfin hnext
      obtain ⟨V, hV⟩ : ∃ V, V = wr.drew.setRow g (splice cur.toList (x.blk * 256 + 0 * 64) (piece x 0 4)).toArray := ⟨_, rfl⟩
      have hk0' : V.cell? ⟨r, 0, none⟩ = some (.slice (some ⟨g, 0, none⟩) (256 * n) cap) := by rw [hV]; exact (World.cell?_of_block (w := wr) (setRow_other wr.drew g r _ HS.out.ne2)).trans s0
      have hk1' : V.cell? ⟨r, 1, none⟩ = some (.slice (some ⟨bw, 0, none⟩) R.ws.length vwc) := by rw [hV]; exact (World.cell?_of_block (w := wr) (setRow_other wr.drew g r _ HS.out.ne2)).trans c1
      have hk2' : V.cell? ⟨bw, k * 2, none⟩ = some (.int .i64 (x.blk : Int)) := by rw [hV]; exact (World.cell?_of_block (w := wr) (setRow_other wr.drew g bw _ HS.out.ne1)).trans s2
      have hk3' : V.cell? ⟨bw, k * 2 + 1, none⟩ = some (.slice (some ⟨a, off, none⟩) 256 x.c) := by rw [hV]; exact (World.cell?_of_block (w := wr) (setRow_other wr.drew g bw _ HS.out.ne1)).trans s3
      have hpl := piece_len x 0 4 HS.out.len (Nat.le_refl 4) (by omega)
      have hmin : (piece x 0 4).length = Nat.min 256 (256 * n - x.blk * 256) := by rw [hpl]; exact (Nat.min_eq_left (by omega)).symm
      have hfit : x.blk * 256 + (piece x 0 4).length ≤ cur.size := by rw [hpl, hcap.2.2]; omega
      have hsrc := piece_src x 0 4 HS.out.src
      have hrow : wr.drew.heap[g]? = some (.cells cur 5 (0, 0)) := HS.out.row
      have HROW := Lib.hid hrow; clear hrow
      have HSRC := Lib.hid hsrc; clear hsrc
      have HMIN := Lib.hid hmin; clear hmin
      have HK : Hid (V.cell? ⟨r, 0, none⟩ = some (.slice (some ⟨g, 0, none⟩) (256 * n) cap) ∧ V.cell? ⟨r, 1, none⟩ = some (.slice (some ⟨bw, 0, none⟩) R.ws.length vwc) ∧ V.cell? ⟨bw, k * 2, none⟩ = some (.int .i64 (x.blk : Int)) ∧ V.cell? ⟨bw, k * 2 + 1, none⟩ = some (.slice (some ⟨a, off, none⟩) 256 x.c)) := Lib.hid ⟨hk0', hk1', hk2', hk3'⟩
      have HV := Lib.hid hV; clear hV hk0' hk1' hk2' hk3' hpl hxk hstl
      go_wp2
      go_region_held_law (fun (U : World) => U.cell? ⟨r, 0, none⟩ = some (.slice (some ⟨g, 0, none⟩) (256 * n) cap) ∧ U.cell? ⟨r, 1, none⟩ = some (.slice (some ⟨bw, 0, none⟩) R.ws.length vwc) ∧ U.cell? ⟨bw, k * 2, none⟩ = some (.int .i64 (x.blk : Int)) ∧ U.cell? ⟨bw, k * 2 + 1, none⟩ = some (.slice (some ⟨a, off, none⟩) 256 x.c)) (first | go_keep | exact HK.out)
        ((refine step_copy_row rfl (.tmp 27) (.tmp 35) 25 25 rfl 5 Tryz.underlying25 info_byte g (x.blk * 256) _ _ ⟨a, off, none⟩ 256 _ rfl rfl cur 5 HROW.out (piece x 0 4) HMIN.out HSRC.out hfit (piece_one x 0 4) ?_
          rw [show wr.drew.setRow g (splice cur.toList (x.blk * 256) (piece x 0 4)).toArray = V from HV.out.symm]))
      go_wp2
      go_roundw
      case rel => exact ⟨k + 1, by omega, by go_num, by rw [HV.out]; exact HF.out.1, by rw [HV.out]; exact HT.out.trans HF.out.2 (fun _ _ e => .inr e)⟩
      case measure => simp [intOf]; omega
    · obtain rfl : k = R.ws.length := by omega
      have f1 := frozen_of_row wr r 1 _ _ HR.out.head
      go_wp2
      go_end0
      have hT2 : Turns (fun k => k = r) wr (wr.setCell ⟨r, 1, none⟩ (.slice none 0 0)) := turns_cell wr r 1 _
      have hap := HR.out.apart
      refine ⟨rfl, ⟨?_, HR.out.st.turns hT2 (fun k hk e => hap.1 (by rw [hk, e])), World.ownsRow_nil _ _ _ _, HR.out.gs.turns hT2 (fun k hk e => hap.2.2 (by rw [hk, e])), HR.out.far, fun y hy => ?_⟩, HT.out.trans hT2 (fun _ _ e => .inl e)⟩
      · rw [heap_setCell_same wr r 1 _ _ _ HR.out.head]; rfl
      · have hy' : y ∈ R.gs := by simpa [RefLow.flushed, RefLow.tick] using hy
        obtain ⟨hl, b, o, e, hDb, hb, hr⟩ := HR.out.data y (List.mem_append_right _ hy')
        exact ⟨hl, b, o, e, hDb, by have := hT2.size; omega, bytes_turns hr hT2 hb (fun e => HR.out.far (by rw [← e]; exact hDb))⟩
end Go.Proofs.YtelnoibfamcnmaaGreat.Disk
