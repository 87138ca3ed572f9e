/- Free and Give: what they answer. -/
import Derived.Test.YtnkiblifnknbkaaBdOrders
import Derived.Laws.ResultCell
import Derived.Laws.StructEq
import Derived.Deep.WholeRow
namespace Go.Proofs.Ytnkiblifnknbkaa.Buddy
set_option maxRecDepth 20000
open Go Go.RowKit
open Go.Proofs.Ytnkiblifnknbkaa.Mem Go.Proofs.Ytnkiblifnknbkaa.Bt Go.Proofs.Ytnkiblifnknbkaa.Rec Go.Proofs.Ytnkiblifnknbkaa.Bits Go.Proofs.Ytnkiblifnknbkaa.Bd

/-! ### A span by value, sealed -/
def ldS (x : Value) : Sem Value := Instr.loadAt 27 x
theorem ldS_eq (x : Value) : Instr.loadAt 27 x = ldS x := rfl
theorem run_ldS (w : World) (g : Nat) (s l : Int) (hg : w.heap[g]? = some (.cells (spanV s l) 27 (0, 0))) : (ldS (.pointer (some ⟨g, 0, none⟩))).run Try.prog w = .ok (.agg (spanV s l)) w := by
  have hl : (loadVar 27 ⟨g, 0, none⟩).run Try.prog w = .ok (.agg (spanV s l)) w := run_loadVar_row w g _ _ (spanV s l) (0, 0) _ hg Try.underlying27 rfl (by kernel_rfl)
  unfold ldS Instr.loadAt Instr.sureAddr
  simp [hl]
attribute [local go_sem ↓] ldS_eq

/-- How many blocks are free. -/
def freeN (bs : List UInt8) (nn : Nat) : Nat := nn - cnt (bt bs) 0 nn

section
variable (A : Option Addr) (len c B : Nat) (bs : List UInt8) (w : World)
theorem free_bad (x : Int) (hl : len ≤ 140737488355328) (hp : poolB len x = false) :
    Calls Try.prog 17 #[.slice A len c, .int .i64 x] w fun e w' => e = .returned (.tuple #[.int .i64 0, .int .i64 1]) ∧ w = w' := by
  have hpool := pool_any A len c x w hl
  rw [hp] at hpool
  have HP := Lib.hid hpool; clear hpool hp
  go_enter Try.func17, Try.ntmps17
  go_wp2_with fail
  with_reducible refine HP.out.mono ?_
  rintro e w1 ⟨rfl, rfl⟩
  go_wp2
  go_ret2
  exact ⟨rfl, rfl⟩
theorem free_ok (nn : Nat) (h : Holds w B A len bs) (hB : B ≤ w.heap.size) (hl : len ≤ 140737488355328) (hnn : nn ≤ 8 * len) :
    Calls Try.prog 17 #[.slice A len c, .int .i64 (nn : Int)] w fun e w' => e = .returned (.tuple #[.int .i64 (freeN bs nn : Int), .int .i64 0]) ∧ Below w.heap.size w w' := by
  have hpool := pool_any A len c (nn : Int) w hl
  have hpb : poolB len (nn : Int) = true := decide_eq_true (by omega)
  rw [hpb] at hpool
  have hc := count_at B A len c bs w h hB hl 0 nn
  have hle := cnt_le (bt bs) 0 nn
  unfold freeN
  obtain ⟨t, ht⟩ : ∃ t, t = cnt (bt bs) 0 nn := ⟨_, rfl⟩
  rw [← ht] at hc hle ⊢
  rw [Nat.zero_add] at hc
  have e1 : IntKind.i64.wrap ((nn : Int) - (t : Int)) = ((nn - t : Nat) : Int) := by rw [IntWalk.i64_in _ (by omega)]; omega
  have hc' : Calls Try.prog 33 #[.slice A len c, .int .i64 0, .int .i64 (nn : Int)] w _ := hc
  have HP := Lib.hid hpool; clear hpool hpb
  have HC := Lib.hid hc'; clear hc hc' ht h hle
  go_enter Try.func17, Try.ntmps17
  go_wp2_with fail
  with_reducible refine HP.out.mono ?_
  rintro e w1 ⟨rfl, rfl⟩
  go_wp2_with fail
  with_reducible refine HC.out.mono ?_
  rintro e w1 ⟨rfl, hb⟩
  have HB := Lib.hid hb; clear hb
  go_wp2
  go_ret2
  exact ⟨rfl, HB.out⟩
theorem orders_bad (x : Int) (hl : len ≤ 140737488355328) (hp : poolB len x = false) :
    Calls Try.prog 15 #[.slice A len c, .int .i64 x] w fun e w' => e = .returned (.tuple #[.slice none 0 0, .int .i64 1]) ∧ Below w.heap.size w w' := by
  have hpool := pool_any A len c x w hl
  rw [hp] at hpool
  have HP := Lib.hid hpool; clear hpool hp
  refine (callsIn_wide (n := 5)).1 ?_
  refine callsIn_of_wp_marks Try.func15 rfl trivial ?_ rfl
  simp only [Try.ntmps15, List.size_toArray, List.length_cons, List.length_nil, Nat.reduceAdd, Nat.reduceSub, Array.replicate_succ, Array.replicate_zero, List.push_toArray, List.append_toArray, List.nil_append, List.cons_append]
  gi_wp2_with fail
  refine ⟨trivial, (callsIn_wide (n := 4)).2 (HP.out.mono ?_)⟩
  rintro e W0 ⟨rfl, rfl⟩
  gi_wp2
  exact ⟨_, results_tmp2 rfl _ _ _, rfl, Below.refl _ _⟩

/-! ### Give -/
theorem give_bad (x s l : Int) (hl : len ≤ 140737488355328) (h1 : s ≤ 9223372036854775807) (h3 : x ≤ 9223372036854775807) (hp : (poolB len x && withinB s l x) = false) :
    Calls Try.prog 13 #[.slice A len c, .int .i64 x, .agg (spanV s l)] w fun e w' => e = .returned (.tuple #[.slice none 0 0, .int .i64 1]) ∧ Below w.heap.size w w' := by
  obtain ⟨W, hW⟩ : ∃ W, W = w.alloc (.cells (spanV s l) 27) := ⟨_, rfl⟩
  have hb : Below w.heap.size w W := by rw [hW]; exact (Below.refl _ w).alloc (Nat.le_refl _) _
  have hx : W.heap[w.heap.size]? = some (.cells (spanV s l) 27 (0, 0)) := by rw [hW]; exact heap_alloc_new w _
  have hz : w.heap.size ≤ W.heap.size := hb.size
  have q := run_ldS W w.heap.size s l hx
  have hpool := pool_any A len c x W hl
  have hwi := fun (h2 : 0 ≤ x) => within_any s l x W h1 h2 h3
  cases hpb : poolB len x with
  | false =>
    rw [hpb] at hpool
    have HP := Lib.hid hpool; clear hpool hp hpb hwi
    have HB := Lib.hid hb; clear hb hx
    have HW := Lib.hid hW; clear hW
    go_enter Try.func13, Try.ntmps13
    go_wp2_with fail
    rw [← HW.out]
    with_reducible refine HP.out.mono ?_
    rintro e w1 ⟨rfl, rfl⟩
    go_wp2
    go_ret2
    exact ⟨rfl, HB.out⟩
  | true =>
    rw [hpb, Bool.true_and] at hp
    rw [hpb] at hpool
    have hx0 : 0 ≤ x := (of_decide_eq_true hpb).1
    replace hwi := hwi hx0
    rw [hp] at hwi
    have HP := Lib.hid hpool; clear hpool hp hpb
    have HWI := Lib.hid hwi; clear hwi
    have HB := Lib.hid hb; clear hb hx
    have HW := Lib.hid hW; clear hW
    go_enter Try.func13, Try.ntmps13
    go_wp2_with fail
    rw [← HW.out]
    with_reducible refine HP.out.mono ?_
    rintro e w1 ⟨rfl, rfl⟩
    go_wp2_with fail
    with_reducible refine HWI.out.mono ?_
    rintro e w1 ⟨rfl, hb2⟩
    have HB2 := Lib.hid (HB.out.trans (hb2.mono hz)); clear hb2
    go_wp2
    go_ret2
    exact ⟨rfl, HB2.out⟩

/-- All blocks of a span are taken, or one isn't. -/
theorem fst_all {f : Nat → Bool} {s l : Nat} {r : Int} (h : IsFst (fun i => f i == false) s (s + l) r) : (r = -1 ∧ cnt f s l = l) ∨ (0 ≤ r ∧ cnt f s l ≠ l) := by
  rcases h with ⟨rfl, h⟩ | ⟨i, rfl, h1, h2, h3, _⟩
  · refine .inl ⟨rfl, cnt_all1 fun j hj => ?_⟩
    have := h (s + j) (by omega) (by omega)
    simpa using this
  · refine .inr ⟨by omega, fun e => ?_⟩
    have := cnt_full e (i - s) (by omega)
    rw [show s + (i - s) = i by omega] at this
    dsimp only at h3
    rw [this] at h3
    simp at h3

set_option maxHeartbeats 1000000 in
theorem give_run (nn s l : Nat) (h : Holds w B A len bs) (hB : B ≤ w.heap.size) (hl : len ≤ 140737488351232) (hnn : nn ≤ 8 * len) (hs : s + l ≤ nn) (h1 : 1 ≤ l) :
    Calls Try.prog 13 #[.slice A len c, .int .i64 (nn : Int), .agg (spanV (s : Int) (l : Int))] w fun e w' =>
      (cnt (bt bs) s l ≠ l → e = .returned (.tuple #[.slice none 0 0, .int .i64 4]) ∧ Below w.heap.size w w') ∧
      (cnt (bt bs) s l = l → ∃ A' c', e = .returned (.tuple #[.slice A' len c', .int .i64 0]) ∧ Below w.heap.size w w' ∧ Owned w' w.heap.size (.slice A' len c') (fillL bs (s : Int) ((s + l : Nat) : Int) false) ∧ Text w' (.slice A' len c') (fillL bs (s : Int) ((s + l : Nat) : Int) false)) := by
  obtain ⟨W, hW⟩ : ∃ W, W = w.alloc (.cells (spanV (s : Int) (l : Int)) 27) := ⟨_, rfl⟩
  have hb : Below w.heap.size w W := by rw [hW]; exact (Below.refl _ w).alloc (Nat.le_refl _) _
  have hx : W.heap[w.heap.size]? = some (.cells (spanV (s : Int) (l : Int)) 27 (0, 0)) := by rw [hW]; exact heap_alloc_new w _
  have hz : W.heap.size = w.heap.size + 1 := by rw [hW]; simp
  have q := run_ldS W w.heap.size (s : Int) (l : Int) hx
  have hpool := pool_any A len c (nn : Int) W (by omega)
  have hpb : poolB len (nn : Int) = true := decide_eq_true (by omega)
  rw [hpb] at hpool
  have hwi := within_any (s : Int) (l : Int) (nn : Int) W (by omega) (by omega) (by omega)
  have hwb : withinB (s : Int) (l : Int) (nn : Int) = true := decide_eq_true (by omega)
  rw [hwb] at hwi
  have hhi : hiN len ((s + l : Nat) : Int) = s + l := by unfold hiN hiE; split <;> omega
  have hfst := fun (V : World) (hV : Below W.heap.size W V) => first_any A len c B bs (s : Int) ((s + l : Nat) : Int) false V ((h.below (hb.mono hB)).below (hV.mono (by omega))) (by have := hV.size; omega) (by omega)
  simp only [hhi, Int.toNat_natCast] at hfst
  have hfil := fun (V : World) (hV : Below W.heap.size W V) => fill_told A len c B bs false V (s : Int) ((s + l : Nat) : Int) ((h.below (hb.mono hB)).below (hV.mono (by omega))) (by have := hV.size; omega) (by omega)
  obtain ⟨E, hE⟩ : ∃ E, E = s + l := ⟨_, rfl⟩
  rw [← hE] at hfil hfst ⊢
  obtain ⟨ys, hys⟩ : ∃ ys, ys = fillL bs (s : Int) (E : Int) false := ⟨_, rfl⟩
  rw [← hys] at hfil ⊢
  have e1 : IntKind.i64.wrap ((s : Int) + (l : Int)) = (E : Int) := by rw [IntWalk.i64_in _ (by omega)]; omega
  have hfa := fun (r : Int) (hh : IsFst (fun i => bt bs i == false) s E r) => fst_all (f := bt bs) (s := s) (l := l) (hE ▸ hh)
  have cells : ∀ V, Below W.heap.size W V → V.cell? ⟨w.heap.size, 0, none⟩ = some (.int .i64 (s : Int)) ∧ V.cell? ⟨w.heap.size, 1, none⟩ = some (.int .i64 (l : Int)) := fun V hV => by
    have hh := (hV.block w.heap.size (by omega)).trans hx
    exact ⟨cell_of_row V _ 0 _ _ _ hh, cell_of_row V _ 1 _ _ _ hh⟩
  have HP := Lib.hid hpool; clear hpool hpb
  have HWI := Lib.hid hwi; clear hwi hwb
  have HFST := Lib.hid hfst; clear hfst hhi
  have HFIL := Lib.hid hfil; clear hfil hys
  have HFA := Lib.hid hfa; clear hfa
  have HCELLS := Lib.hid cells; clear cells
  have HE := Lib.hid hE; clear hE h
  have HB := Lib.hid hb; clear hb hx
  have HW := Lib.hid hW; clear hW
  go_enter Try.func13, Try.ntmps13
  go_wp2_with fail
  rw [← HW.out]
  with_reducible refine HP.out.mono ?_
  rintro e w1 ⟨rfl, rfl⟩
  go_wp2_with fail
  with_reducible refine HWI.out.mono ?_
  rintro e w1 ⟨rfl, hb2⟩
  obtain ⟨c0, c1⟩ := HCELLS.out w1 hb2
  have HB2 := Lib.hid hb2; clear hb2
  go_wp2_with fail
  with_reducible refine (HFST.out w1 HB2.out).mono ?_
  rintro e w2 ⟨r, hr, rfl, hb3⟩
  have hb3' : Below W.heap.size W w2 := HB2.out.trans (hb3.mono HB2.out.size)
  obtain ⟨d0, d1⟩ := HCELLS.out w2 hb3'
  have HB3 := Lib.hid hb3'; clear hb3 hb3'
  rcases HFA.out r hr with ⟨rfl, hall⟩ | ⟨hr0, hall⟩
  · have HALL := Lib.hid hall; clear hall hr
    go_wp2_with fail
    with_reducible refine (HFIL.out w2 HB3.out).mono ?_
    rintro e w3 ⟨A', c', rfl, hb4, ho, ht⟩
    have HO := Lib.hid ho; clear ho
    have HT := Lib.hid ht; clear ht
    have HB4 := Lib.hid hb4; clear hb4
    go_wp2
    go_ret2
    refine ⟨fun hn => absurd HALL.out hn, fun _ => ⟨A', c', rfl, ?_, ?_, HT.out⟩⟩
    · exact (HB.out.trans (HB3.out.mono (by omega))).trans (HB4.out.mono (by have := HB3.out.size; omega))
    · exact Owned.mono HO.out (by have := HB3.out.size; omega)
  · have hr1 : r ≥ 0 := hr0
    have HALL := Lib.hid hall; clear hall hr
    go_wp2
    go_ret2
    exact ⟨fun _ => ⟨rfl, HB.out.trans (HB3.out.mono (by omega))⟩, fun hh => absurd hh HALL.out⟩
end
end Go.Proofs.Ytnkiblifnknbkaa.Buddy
