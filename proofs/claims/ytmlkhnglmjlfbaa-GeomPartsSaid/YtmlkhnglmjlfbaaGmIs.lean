/- Contracts of the test whether it is a geometry: the program's and the document's. -/
import Derived.Test.YtmlkhnglmjlfbaaGmLay
import Derived.Deep.DrawnRows
namespace Go.Proofs.Ytmlkhnglmjlfbaa.Gm
set_option maxRecDepth 20000
open Go.RowKit
open Go.Proofs.Ytmlkhnglmjlfbaa.Mem
attribute [local go_sem ↓] ldG_eq stG_eq eqG_eq

theorem is_not {g : Gm} (h : g.blocks < 128 ∨ 1024 < g.blocks) : g.is = false := by
  unfold Gm.is
  rw [decide_eq_false]
  omega
theorem is_in {g : Gm} (h1 : 128 ≤ g.blocks) (h2 : g.blocks ≤ 1024) : g.is = decide (g = lay g.blocks) := by
  unfold Gm.is
  simp [h1, h2]

set_option maxRecDepth 100000 in
theorem maybe_any (g : Gm) (w : World) :
    Calls Try.prog 19 #[.agg g.c] w fun e w' => e = .returned (.bool g.is) ∧ Below w.heap.size w w' := by
  obtain ⟨W, hW⟩ : ∃ W, W = w.alloc (.cells g.c 23) := ⟨_, rfl⟩
  have hz : W.heap.size = w.heap.size + 1 := by rw [hW]; simp
  have hx : W.heap[w.heap.size]? = some (.cells g.c 23 (0, 0)) := by rw [hW]; exact heap_alloc_new w _
  have hbw : Below w.heap.size w W := by rw [hW]; exact (Below.refl _ _).alloc (Nat.le_refl _) _
  have q0 : W.cell? ⟨w.heap.size, 0, none⟩ = some (.int .i64 g.blocks) := cell_of_row W _ 0 _ _ _ hx
  have HW := Lib.hid hW; clear hW
  have HX := Lib.hid hx; clear hx
  have HB := Lib.hid hbw; clear hbw
  have hc0 : g.c[0]? = some (.int .i64 g.blocks) := rfl
  by_cases h : 128 ≤ g.blocks ∧ g.blocks ≤ 1024
  · go_enter Try.func19, Try.ntmps19
    go_wp2_with fail
    rw [← HW.out]
    with_reducible refine (layout_ok g.blocks _ h.1 h.2).mono ?_
    rintro e w1 ⟨rfl, hb⟩
    have HY : Hid (_ = _) := Lib.hid ((heap_alloc_old w1 (.cells (lay g.blocks).c 23) (r := w.heap.size) (by have := hb.size; omega)).trans ((hb.block w.heap.size (by omega)).trans HX.out))
    have HB1 : Hid (Below w.heap.size w (w1.alloc (.cells (lay g.blocks).c 23))) := Lib.hid ((HB.out.trans (hb.mono (by omega))).alloc (by have := hb.size; omega) _)
    have l1 := run_ldG _ _ _ HY.out
    have l2 := run_ldG (w1.alloc (.cells (lay g.blocks).c 23)) w1.heap.size (lay g.blocks) (heap_alloc_new _ _)
    have l3 := run_eqG (w1.alloc (.cells (lay g.blocks).c 23)) g (lay g.blocks)
    have l0 := run_stG_new w1 (lay g.blocks)
    clear hb hc0
    go_wp2
    go_ret
    refine ⟨?_, HB1.out⟩
    rw [is_in h.1 h.2]
    rfl
  · have h' : g.blocks < 128 ∨ 1024 < g.blocks := by omega
    have hn := is_not h'
    have HN := Lib.hid hn; clear hn
    go_enter Try.func19, Try.ntmps19
    go_wp2_with fail
    rw [← HW.out]
    with_reducible refine (layout_no g.blocks _ h').mono ?_
    rintro e w1 ⟨rfl, hb⟩
    have HB1 : Hid (Below w.heap.size w (w1.alloc (.cells gm0.c 23))) := Lib.hid ((HB.out.trans (hb.mono (by omega))).alloc (by have := hb.size; omega) _)
    have l0 := run_stG_new w1 gm0
    clear hb hc0 h h'
    go_wp2
    go_ret
    refine ⟨?_, HB1.out⟩
    rw [HN.out]
    rfl

set_option maxRecDepth 100000 in
theorem ris_any (g : Gm) (w : World) :
    Calls Try.prog 21 #[.agg g.c] w fun e w' => e = .returned (.bool g.is) ∧ Below w.heap.size w w' := by
  obtain ⟨W, hW⟩ : ∃ W, W = w.alloc (.cells g.c 23) := ⟨_, rfl⟩
  have hz : W.heap.size = w.heap.size + 1 := by rw [hW]; simp
  have hx : W.heap[w.heap.size]? = some (.cells g.c 23 (0, 0)) := by rw [hW]; exact heap_alloc_new w _
  have hbw : Below w.heap.size w W := by rw [hW]; exact (Below.refl _ _).alloc (Nat.le_refl _) _
  have q0 : W.cell? ⟨w.heap.size, 0, none⟩ = some (.int .i64 g.blocks) := cell_of_row W _ 0 _ _ _ hx
  have HW := Lib.hid hW; clear hW
  have HX := Lib.hid hx; clear hx
  have HB := Lib.hid hbw; clear hbw
  have hc0 : g.c[0]? = some (.int .i64 g.blocks) := rfl
  by_cases h : 128 ≤ g.blocks ∧ g.blocks ≤ 1024
  · go_enter Try.func21, Try.ntmps21
    go_wp2_with fail
    rw [← HW.out]
    with_reducible refine (rlayout_ok g.blocks _ h.1 h.2).mono ?_
    rintro e w1 ⟨rfl, hb⟩
    have HY : Hid (_ = _) := Lib.hid ((heap_alloc_old w1 (.cells (lay g.blocks).c 23) (r := w.heap.size) (by have := hb.size; omega)).trans ((hb.block w.heap.size (by omega)).trans HX.out))
    have HB1 : Hid (Below w.heap.size w (w1.alloc (.cells (lay g.blocks).c 23))) := Lib.hid ((HB.out.trans (hb.mono (by omega))).alloc (by have := hb.size; omega) _)
    have l1 := run_ldG _ _ _ HY.out
    have l2 := run_ldG (w1.alloc (.cells (lay g.blocks).c 23)) w1.heap.size (lay g.blocks) (heap_alloc_new _ _)
    have l3 := run_eqG (w1.alloc (.cells (lay g.blocks).c 23)) g (lay g.blocks)
    have l0 := run_stG_new w1 (lay g.blocks)
    clear hb hc0
    go_wp2
    go_ret
    refine ⟨?_, HB1.out⟩
    rw [is_in h.1 h.2]
    rfl
  · have h' : g.blocks < 128 ∨ 1024 < g.blocks := by omega
    have hn := is_not h'
    have HN := Lib.hid hn; clear hn
    go_enter Try.func21, Try.ntmps21
    go_wp2_with fail
    rw [← HW.out]
    with_reducible refine (rlayout_no g.blocks _ h').mono ?_
    rintro e w1 ⟨rfl, hb⟩
    have HB1 : Hid (Below w.heap.size w (w1.alloc (.cells gm0.c 23))) := Lib.hid ((HB.out.trans (hb.mono (by omega))).alloc (by have := hb.size; omega) _)
    have l0 := run_stG_new w1 gm0
    clear hb hc0 h h'
    go_wp2
    go_ret
    refine ⟨?_, HB1.out⟩
    rw [HN.out]
    rfl
end Go.Proofs.Ytmlkhnglmjlfbaa.Gm
