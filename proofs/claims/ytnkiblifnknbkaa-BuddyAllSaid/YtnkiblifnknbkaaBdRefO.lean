/- The document's answers of buddy: Give and Orders. -/
import Derived.Test.YtnkiblifnknbkaaBdRef
namespace Go.Proofs.Ytnkiblifnknbkaa.Buddy
set_option maxRecDepth 20000
open Go Go.RowKit
open Go.Proofs.Ytnkiblifnknbkaa.Mem Go.Proofs.Ytnkiblifnknbkaa.Bt Go.Proofs.Ytnkiblifnknbkaa.Rec Go.Proofs.Ytnkiblifnknbkaa.Bits Go.Proofs.Ytnkiblifnknbkaa.Bd Go.Proofs.Ytnkiblifnknbkaa.Reg
attribute [local go_sem ↓] ldS_eq stS_eq shlN_eq remN_eq

section
variable (A : Option Addr) (len c B : Nat) (bs : List UInt8) (w : World)
set_option maxHeartbeats 1000000 in
theorem rgive_bad (x s l : Int) (hl : len ≤ 140737488355328) (h3 : x ≤ 9223372036854775807) (hp : (poolB len x && withinB s l x) = false) :
    Calls Try.prog 14 #[.slice A len c, .int .i64 x, .agg (spanV s l)] w fun e w' => e = .returned (.tuple #[.slice none 0 0, .int .i64 1]) ∧ Below w.heap.size w w' := by
  have hx : (w.alloc (.cells (spanV s l) 27)).heap[w.heap.size]? = some (.cells (spanV s l) 27 (0, 0)) := heap_alloc_new w _
  have hb : Below w.heap.size w (w.alloc (.cells (spanV s l) 27)) := (Below.refl _ w).alloc (Nat.le_refl _) _
  have q0 : (w.alloc (.cells (spanV s l) 27)).cell? ⟨w.heap.size, 0, none⟩ = some (.int .i64 s) := cell_of_row _ _ 0 _ _ _ hx
  have q1 : (w.alloc (.cells (spanV s l) 27)).cell? ⟨w.heap.size, 1, none⟩ = some (.int .i64 l) := cell_of_row _ _ 1 _ _ _ hx
  have hpool := fun W => rpool_any A len c x W hl
  have HB := Lib.hid hb; clear hb hx
  cases hpb : poolB len x with
  | false =>
    rw [hpb] at hpool
    have HP := Lib.hid hpool; clear hpool hp hpb
    go_enter Try.func14, Try.ntmps14
    go_wp2_with fail
    with_reducible refine (HP.out _).mono ?_
    rintro e w1 ⟨rfl, rfl⟩
    go_wp2
    go_ret2
    exact ⟨rfl, HB.out⟩
  | true =>
    rw [hpb, Bool.true_and] at hp
    rw [hpb] at hpool
    have hx0 := (of_decide_eq_true hpb).1
    have hw := of_decide_eq_false hp
    have HP := Lib.hid hpool; clear hpool hp hpb
    rcases (show l < 1 ∨ (1 ≤ l ∧ s < 0) ∨ (1 ≤ l ∧ 0 ≤ s ∧ x < l) ∨ (1 ≤ l ∧ 0 ≤ s ∧ l ≤ x ∧ x - l < s) by omega) with c1 | ⟨c1, c2⟩ | ⟨c1, c2, c3⟩ | ⟨c1, c2, c3, c4⟩
    · clear hw
      go_enter Try.func14, Try.ntmps14
      go_wp2_with fail
      with_reducible refine (HP.out _).mono ?_
      rintro e w1 ⟨rfl, rfl⟩
      go_wp2
      go_ret2
      exact ⟨rfl, HB.out⟩
    · clear hw
      go_enter Try.func14, Try.ntmps14
      go_wp2_with fail
      with_reducible refine (HP.out _).mono ?_
      rintro e w1 ⟨rfl, rfl⟩
      go_wp2
      go_ret2
      exact ⟨rfl, HB.out⟩
    · clear hw
      go_enter Try.func14, Try.ntmps14
      go_wp2_with fail
      with_reducible refine (HP.out _).mono ?_
      rintro e w1 ⟨rfl, rfl⟩
      go_wp2
      go_ret2
      exact ⟨rfl, HB.out⟩
    · clear hw
      have e1 : IntKind.i64.wrap (x - l) = x - l := IntWalk.i64_in _ (by omega)
      go_enter Try.func14, Try.ntmps14
      go_wp2_with fail
      with_reducible refine (HP.out _).mono ?_
      rintro e w1 ⟨rfl, rfl⟩
      go_wp2
      go_ret2
      exact ⟨rfl, HB.out⟩

set_option maxRecDepth 100000 in
set_option maxHeartbeats 2000000 in
theorem rgive_run (nn s l : Nat) (h : Holds w B A len bs) (hB : B ≤ w.heap.size) (hl : len ≤ 140737488351232) (hnn : nn ≤ 8 * len) (hs : s + l ≤ nn) (h1 : 1 ≤ l) :
    Calls Try.prog 14 #[.slice A len c, .int .i64 (nn : Int), .agg (spanV (s : Int) (l : Int))] w fun e w' =>
      (cnt (bt bs) s l ≠ l → e = .returned (.tuple #[.slice none 0 0, .int .i64 4]) ∧ Below w.heap.size w w') ∧
      (cnt (bt bs) s l = l → ∃ A' c', e = .returned (.tuple #[.slice A' len c', .int .i64 0]) ∧ Below w.heap.size w w' ∧ Owned w' w.heap.size (.slice A' len c') (fillL bs (s : Int) ((s + l : Nat) : Int) false) ∧ Text w' (.slice A' len c') (fillL bs (s : Int) ((s + l : Nat) : Int) false)) := by
  obtain ⟨W, hW⟩ : ∃ W, W = w.alloc (.cells (spanV (s : Int) (l : Int)) 27) := ⟨_, rfl⟩
  have hb : Below w.heap.size w W := by rw [hW]; exact (Below.refl _ w).alloc (Nat.le_refl _) _
  have hx : W.heap[w.heap.size]? = some (.cells (spanV (s : Int) (l : Int)) 27 (0, 0)) := by rw [hW]; exact heap_alloc_new w _
  have hz : W.heap.size = w.heap.size + 1 := by rw [hW]; simp
  have hpool := rpool_any A len c (nn : Int) W (by omega)
  have hpb : poolB len (nn : Int) = true := decide_eq_true (by omega)
  rw [hpb] at hpool
  have hcnt := fun (V : World) (hV : Below W.heap.size W V) => rcount_at A len c B bs V ((h.below (hb.mono hB)).below (hV.mono (by omega))) (by have := hV.size; omega) (by omega) s l
  have hfil := fun (V : World) (hV : Below W.heap.size W V) => rfill_told A len c B bs false V (s : Int) ((s + l : Nat) : Int) ((h.below (hb.mono hB)).below (hV.mono (by omega))) (by have := hV.size; omega) (by omega)
  obtain ⟨t, ht⟩ : ∃ t, t = cnt (bt bs) s l := ⟨_, rfl⟩
  rw [← ht] at hcnt ⊢
  have htl : t ≤ l := ht ▸ cnt_le (bt bs) s l
  obtain ⟨E, hE⟩ : ∃ E, E = s + l := ⟨_, rfl⟩
  rw [← hE] at hfil hcnt ⊢
  obtain ⟨ys, hys⟩ : ∃ ys, ys = fillL bs (s : Int) (E : Int) false := ⟨_, rfl⟩
  rw [← hys] at hfil ⊢
  have e1 : IntKind.i64.wrap ((s : Int) + (l : Int)) = (E : Int) := by rw [IntWalk.i64_in _ (by omega)]; omega
  have e2 : IntKind.i64.wrap ((nn : Int) - (l : Int)) = (nn : Int) - (l : Int) := IntWalk.i64_in _ (by omega)
  have c1 : ¬ (l : Int) < 1 := by omega
  have c2 : ¬ (s : Int) < 0 := by omega
  have c3 : ¬ (nn : Int) < (l : Int) := by omega
  have c4 : ¬ (nn : Int) - (l : Int) < (s : Int) := by omega
  have x0 : W.cell? ⟨w.heap.size, 0, none⟩ = some (.int .i64 (s : Int)) := cell_of_row W _ 0 _ _ _ hx
  have x1 : W.cell? ⟨w.heap.size, 1, none⟩ = some (.int .i64 (l : Int)) := cell_of_row W _ 1 _ _ _ hx
  have x0' : W.drew.cell? ⟨w.heap.size, 0, none⟩ = some (.int .i64 (s : Int)) := x0
  have x1' : W.drew.cell? ⟨w.heap.size, 1, none⟩ = some (.int .i64 (l : Int)) := x1
  have HP := Lib.hid hpool; clear hpool hpb
  have HCNT := Lib.hid hcnt; clear hcnt ht
  have HFIL := Lib.hid hfil; clear hfil hys
  have HX := Lib.hid hx; clear hx
  have HE := Lib.hid hE; clear hE h
  have HB := Lib.hid hb; clear hb
  have HW := Lib.hid hW; clear hW
  go_enter Try.func14, Try.ntmps14
  go_wp2_with fail
  rw [← HW.out]
  with_reducible refine HP.out.mono ?_
  rintro e w1 ⟨rfl, rfl⟩
  clear HP
  go_wp2_with fail
  have hS : W.drew.cell? ⟨w.heap.size, 0, none⟩ = some (.int .i64 (s : Int)) ∧ W.drew.cell? ⟨w.heap.size, 1, none⟩ = some (.int .i64 (l : Int)) := ⟨x0', x1'⟩
  refine wp_region_E (fun V : World => V.cell? ⟨w.heap.size, 0, none⟩ = some (.int .i64 (s : Int)) ∧ V.cell? ⟨w.heap.size, 1, none⟩ = some (.int .i64 (l : Int))) 11 (by kernel_rfl) ?_
  refine wpE_take 0 ⟨some 37, _, _, _, _, _⟩ (v := ?_) [8, 11] rfl (by kernel_rfl) (by kernel_rfl) (by kernel_rfl) (by kernel_rfl) (fun _ _ _ h => h) hS (Or.inl ⟨by rfl, ?_⟩) ?_
  rotate_left
  · (intro V hSw; obtain ⟨s0, s1⟩ := hSw; go_simp; try with_reducible rfl)
  try simp only [Act.put]
  refine wpE_take 1 ⟨some 38, _, _, _, _, _⟩ (v := ?_) [2, 8, 11] rfl (by kernel_rfl) (by kernel_rfl) (by kernel_rfl) (by kernel_rfl) (fun _ _ _ h => h) hS (Or.inl ⟨by rfl, ?_⟩) ?_
  rotate_left
  · (intro V hSw; obtain ⟨s0, s1⟩ := hSw; go_simp; try with_reducible rfl)
  try simp only [Act.put]
  refine wpE_take 2 ⟨some 39, _, _, _, _, _⟩ (v := ?_) [8, 11] rfl (by kernel_rfl) (by kernel_rfl) (by kernel_rfl) (by kernel_rfl) (fun _ _ _ h => h) hS (Or.inl ⟨by rfl, ?_⟩) ?_
  rotate_left
  · (intro V hSw; obtain ⟨s0, s1⟩ := hSw; go_simp; try with_reducible rfl)
  try simp only [Act.put]
  refine wpE_take 3 ⟨some 40, _, _, _, _, _⟩ (v := ?_) [4, 7, 8, 11] rfl (by kernel_rfl) (by kernel_rfl) (by kernel_rfl) (by kernel_rfl) (fun _ _ _ h => h) hS (Or.inl ⟨by rfl, ?_⟩) ?_
  rotate_left
  · (intro V hSw; obtain ⟨s0, s1⟩ := hSw; go_simp; try with_reducible rfl)
  try simp only [Act.put]
  refine wpE_take 4 ⟨some 41, _, _, _, _, _⟩ (v := ?_) [7, 8, 11] rfl (by kernel_rfl) (by kernel_rfl) (by kernel_rfl) (by kernel_rfl) (fun _ _ _ h => h) hS (Or.inl ⟨by rfl, ?_⟩) ?_
  rotate_left
  · (intro V hSw; obtain ⟨s0, s1⟩ := hSw; go_simp; try with_reducible rfl)
  try simp only [Act.put]
  refine wpE_take 5 ⟨some 42, _, _, _, _, _⟩ (v := ?_) [6, 7, 8, 11] rfl (by kernel_rfl) (by kernel_rfl) (by kernel_rfl) (by kernel_rfl) (fun _ _ _ h => h) hS (Or.inl ⟨by rfl, ?_⟩) ?_
  rotate_left
  · (intro V hSw; obtain ⟨s0, s1⟩ := hSw; go_simp; try with_reducible rfl)
  try simp only [Act.put]
  refine wpE_take 6 ⟨some 43, _, _, _, _, _⟩ (v := ?_) [7, 8, 11] rfl (by kernel_rfl) (by kernel_rfl) (by kernel_rfl) (by kernel_rfl) (fun _ _ _ h => h) hS (Or.inl ⟨by rfl, ?_⟩) ?_
  rotate_left
  · (intro V hSw; obtain ⟨s0, s1⟩ := hSw; go_simp; try with_reducible rfl)
  try simp only [Act.put]
  refine wpE_take 7 ⟨some 44, _, _, _, _, _⟩ (v := ?_) [8, 11] rfl (by kernel_rfl) (by kernel_rfl) (by kernel_rfl) (by kernel_rfl) (fun _ _ _ h => h) hS (Or.inl ⟨by rfl, ?_⟩) ?_
  rotate_left
  · (intro V hSw; obtain ⟨s0, s1⟩ := hSw; go_simp; try with_reducible rfl)
  try simp only [Act.put]
  refine wpE_take 9 ⟨some 46, _, _, _, _, _⟩ (v := ?_) [10, 11] rfl (by kernel_rfl) (by kernel_rfl) (by kernel_rfl) (by kernel_rfl) (fun _ _ _ h => h) hS (Or.inl ⟨by rfl, ?_⟩) ?_
  rotate_left
  · (intro V hSw; obtain ⟨s0, s1⟩ := hSw; go_simp; try with_reducible rfl)
  try simp only [Act.put]
  refine wpE_take 10 ⟨some 47, _, _, _, _, _⟩ (v := ?_) [11] rfl (by kernel_rfl) (by kernel_rfl) (by kernel_rfl) (by kernel_rfl) (fun _ _ _ h => h) hS (Or.inl ⟨by rfl, ?_⟩) ?_
  rotate_left
  · (intro V hSw; obtain ⟨s0, s1⟩ := hSw; go_simp; try with_reducible rfl)
  try simp only [Act.put]
  have hcall := HCNT.out W.drew (Below.refl _ _).drew
  refine wpE_one 8 (o := ⟨some 45, _, _, _, _, _⟩) (by kernel_rfl) rfl (fun K' hK' => ?_)
  rw [if_pos (by kernel_rfl)]
  refine call_wp 30 _ _ _ _ rfl Try.func30 (by kernel_rfl) rfl _ ?hv _ hcall ?_
  case hv => simp only [List.map_toArray, List.map_cons, List.map_nil]; go_simp
  rintro e w2 ⟨rfl, hb2⟩
  have hb2' : Below W.heap.size W w2 := (Below.refl _ _).drew.trans (hb2.mono (by simp))
  have hrow2 := (hb2'.block w.heap.size (by omega)).trans HX.out
  have y0 : w2.cell? ⟨w.heap.size, 0, none⟩ = some (.int .i64 (s : Int)) := cell_of_row w2 _ 0 _ _ _ hrow2
  have y1 : w2.cell? ⟨w.heap.size, 1, none⟩ = some (.int .i64 (l : Int)) := cell_of_row w2 _ 1 _ _ _ hrow2
  refine ⟨_, rfl, hK'.out _ _ ⟨y0, y1⟩ (fun hS => ?_)⟩
  clear hK' K' hcall hrow2
  have HB2 := Lib.hid hb2'; clear hb2 hb2'
  try simp only [Act.put]
  refine wpE_last (by kernel_rfl) rfl (fun K' hK' => ?_)
  go_simp
  refine hK'.out _ _ ?_
  clear hK' K'
  refine wpE_done (by kernel_rfl) ?_ _
  by_cases hall : t = l
  · subst hall
    go_wp2_with fail
    with_reducible refine (HFIL.out w2 HB2.out).mono ?_
    rintro e w3 ⟨A', c', rfl, hb4, ho, ht⟩
    have HO := Lib.hid ho; clear ho
    have HT := Lib.hid ht; clear ht
    have HB4 := Lib.hid hb4; clear hb4
    go_wp2
    go_ret2
    exact ⟨A', c', rfl, (HB.out.trans (HB2.out.mono (by omega))).trans (HB4.out.mono (by have := HB2.out.size; omega)), Owned.mono HO.out (by have := HB2.out.size; omega), HT.out⟩
  · have hne : ¬ (t : Int) = (l : Int) := by omega
    have hnb : ((t : Int) == (l : Int)) = false := by rw [beq_eq_false_iff_ne]; exact hne
    have HALL := Lib.hid hall; clear hall
    go_wp2
    go_ret2
    exact ⟨fun _ => ⟨rfl, HB.out.trans (HB2.out.mono (by omega))⟩, fun hh => absurd hh HALL.out⟩

theorem rorders_bad (x : Int) (hl : len ≤ 140737488355328) (hp : poolB len x = false) :
    Calls Try.prog 16 #[.slice A len c, .int .i64 x] w fun e w' => e = .returned (.tuple #[.slice none 0 0, .int .i64 1]) ∧ w = w' := by
  have hpool := rpool_any A len c x w hl
  rw [hp] at hpool
  have HP := Lib.hid hpool; clear hpool hp
  go_enter Try.func16, Try.ntmps16
  go_wp2_with fail
  with_reducible refine HP.out.mono ?_
  rintro e w1 ⟨rfl, rfl⟩
  go_wp2
  go_ret2
  exact ⟨rfl, rfl⟩

/-- A row of seven numbers. -/
def cells7 (g : Nat → Nat) : Array Value := #[.int .i64 (g 0 : Int), .int .i64 (g 1 : Int), .int .i64 (g 2 : Int), .int .i64 (g 3 : Int), .int .i64 (g 4 : Int), .int .i64 (g 5 : Int), .int .i64 (g 6 : Int)]
theorem cells7_get (g : Nat → Nat) (j : Nat) (h : j ≤ 6) : (cells7 g)[j]? = some (.int .i64 (g j : Int)) := by
  rcases (show j = 0 ∨ j = 1 ∨ j = 2 ∨ j = 3 ∨ j = 4 ∨ j = 5 ∨ j = 6 by omega) with rfl | rfl | rfl | rfl | rfl | rfl | rfl <;> rfl
/-- The numbers of the orders below k are told, y of order k. -/
def upTo (M : Nat → Nat) (k y : Nat) (j : Nat) : Nat := if j < k then M j else if j = k then y else 0
theorem upTo_set (M : Nat → Nat) (k y v : Nat) (h : k ≤ 6) : (cells7 (upTo M k y)).setIfInBounds k (.int .i64 (v : Int)) = cells7 (upTo M k v) := by
  rcases (show k = 0 ∨ k = 1 ∨ k = 2 ∨ k = 3 ∨ k = 4 ∨ k = 5 ∨ k = 6 by omega) with rfl | rfl | rfl | rfl | rfl | rfl | rfl <;> simp [cells7, upTo]
theorem upTo_next (M : Nat → Nat) (k : Nat) : upTo M k (M k) = upTo M (k + 1) 0 := by
  funext j
  unfold upTo
  by_cases h1 : j < k
  · rw [if_pos h1, if_pos (by omega)]
  · rw [if_neg h1]
    by_cases h2 : j = k
    · subst h2; rw [if_pos rfl, if_pos (by omega)]
    · rw [if_neg h2, if_neg (by omega)]; split <;> rfl
theorem upTo_all (l : List (Nat × Nat)) : cells7 (upTo (many l) 7 0) = cnts l := by simp [cells7, upTo, cnts]

/-- What the document counts at the chunk number i of order k. -/
theorem maxAt_eq (f : Nat → Bool) (n k i : Nat) : maxAt f n k i = (decide (FreeC f n (i * 2 ^ k) k) && (decide (k = 6) || !decide (FreeC f n (i * 2 ^ k - i * 2 ^ k % 2 ^ (k + 1)) (k + 1)))) := by
  unfold maxAt MaxC
  by_cases h1 : FreeC f n (i * 2 ^ k) k <;> by_cases h2 : k = 6 <;> by_cases h3 : FreeC f n (i * 2 ^ k - i * 2 ^ k % 2 ^ (k + 1)) (k + 1) <;> simp [h1, h2, h3]

set_option maxRecDepth 100000 in
set_option maxHeartbeats 4000000 in
theorem rorders_ok (nn : Nat) (h : Holds w B A len bs) (hB : B ≤ w.heap.size) (hl : len ≤ 140737488355328) (hnn : nn ≤ 8 * len) :
    Calls Try.prog 16 #[.slice A len c, .int .i64 (nn : Int)] w (MadeInts w (cnts (chunksL (bt bs) nn))) := by
  have hpool := rpool_any A len c (nn : Int) w hl
  have hpb : poolB len (nn : Int) = true := decide_eq_true (by omega)
  rw [hpb] at hpool
  have HP := Lib.hid hpool; clear hpool hpb
  have hmk := run_make7
  have hfr := fun (a k : Nat) (ha : a ≤ 1125899906842688) (hk : k ≤ 6) (hd : 2 ^ k ∣ a) (V : World) (hV : Below w.heap.size w V) => rfree_any A len c B bs V nn a k (h.below (hV.mono hB)) (by have := hV.size; omega) hl (by omega) ha hk hd
  have HFR := Lib.hid hfr; clear hfr h
  have hML := fun j => many_le (chunksL (bt bs) nn) j
  have hcl := chunks_len (bt bs) nn
  have hMC := fun j (hj : j ≤ 6) => chunks_many (bt bs) nn j hj
  have hupa := upTo_all (chunksL (bt bs) nn)
  obtain ⟨M, hM⟩ : ∃ M, M = many (chunksL (bt bs) nn) := ⟨_, rfl⟩
  rw [← hM] at hML hMC hupa
  have HML := Lib.hid (fun j => Nat.le_trans (hML j) hcl : ∀ j, M j ≤ nn); clear hML hcl
  have HMC := Lib.hid hMC; clear hMC
  have HUP := Lib.hid hupa; clear hupa hM
  go_enter Try.func16, Try.ntmps16
  go_wp2_with fail
  with_reducible refine HP.out.mono ?_
  rintro e w1 ⟨rfl, rfl⟩
  clear HP
  obtain ⟨zs, hzs⟩ : ∃ zs : Array Value, zs = Array.replicate 7 (.int .i64 0) := ⟨_, rfl⟩
  rw [← hzs] at hmk
  have HZS := Lib.hid hzs; clear hzs
  go_wp2_with fail
  clear hmk
  obtain ⟨R, hR⟩ : ∃ R, R = w.heap.size := ⟨_, rfl⟩
  have hrow0 : (w.alloc (.cells zs 3)).heap[R]? = some (.cells (cells7 (upTo M 0 0)) 3 (0, 0)) := by
    rw [hR, heap_alloc_new, HZS.out]
    rfl
  have hb0 : Below w.heap.size w (w.alloc (.cells zs 3)) := (Below.refl _ w).alloc (Nat.le_refl _) _
  rw [← hR]
  have hRle : w.heap.size ≤ R := Nat.le_of_eq hR.symm
  clear HZS hR
  go_loopw [7] (fun i wr => ∃ k : Nat, k ≤ 7 ∧ i = .int .i64 (k : Int) ∧ wr.heap[R]? = some (.cells (cells7 (upTo M k 0)) 3 (0, 0)) ∧ Below w.heap.size w wr) (fun i _ => 7 - (intOf i).toNat)
  case atStart => exact ⟨0, by omega, by first | trivial | rfl, hrow0, hb0⟩
  case round =>
    obtain ⟨k, hk, rfl, hrow, hb⟩ := hrel
    have HROW := Lib.hid hrow; clear hrow
    have HB := Lib.hid hb; clear hb
    by_cases hlt : k < 7
    · have hlt' : (k : Int) < 7 := by omega
      have q := run_shl1 k (by omega)
      have qq := run_shl2 k (by omega)
      have hz1 := Nat.two_pow_pos k
      have hz2 : 2 ^ k ≤ 2 ^ 6 := Nat.pow_le_pow_right (by omega) (by omega)
      have hzz : 2 ^ (k + 1) = 2 ^ k + 2 ^ k := two_succ k
      have hrowk : wr.heap[R]? = some (.cells (cells7 (upTo M k (cnt (maxAt (bt bs) nn k) 0 0))) 3 (0, 0)) := HROW.out
      have HMk := Lib.hid (HMC.out k (by omega))
      have hst := fun i => starts_iff nn k i
      have HST := Lib.hid hst; clear hst
      have hmx := fun i => maxAt_eq (bt bs) nn k i
      obtain ⟨z, hz⟩ : ∃ z, z = 2 ^ k := ⟨_, rfl⟩
      obtain ⟨zz, hzzd⟩ : ∃ zz, zz = 2 ^ (k + 1) := ⟨_, rfl⟩
      rw [← hzzd, ← hz] at hzz
      rw [← hz] at q hz1 hz2
      rw [← hzzd] at qq
      have HMX := Lib.hid hmx; clear hmx
      have HZ := Lib.hid (⟨hz, hzzd⟩ : z = 2 ^ k ∧ zz = 2 ^ (k + 1)); clear hz hzzd
      have HZZ := Lib.hid hzz; clear hzz
      go_wp2_with fail
      go_loopw [8] (fun i wr => ∃ j a y : Nat, j ≤ starts nn k ∧ a = j * z ∧ i = .int .i64 (a : Int) ∧ y = cnt (maxAt (bt bs) nn k) 0 j ∧ wr.heap[R]? = some (.cells (cells7 (upTo M k y)) 3 (0, 0)) ∧ Below w.heap.size w wr) (fun i _ => nn + 128 - (intOf i).toNat)
      case atStart => exact ⟨0, 0, 0, Nat.zero_le _, by omega, by first | trivial | rfl, rfl, hrowk, HB.out⟩
      case round =>
        obtain ⟨j, a, y, hj, ha, rfl, hy, hrow, hb⟩ := hrel
        have hyj : y ≤ j := hy ▸ cnt_le _ _ _
        have hja : j ≤ a := by rw [ha]; exact Nat.le_mul_of_pos_right j hz1
        have hiff := HST.out j
        rw [← HZ.out.1, ← ha] at hiff
        by_cases hlta : a < nn
        · have hlta' : (a : Int) < (nn : Int) := by omega
          have hjs := hiff.2 hlta
          have hsucc : (j + 1) * z = a + z := by rw [ha, Nat.add_mul, Nat.one_mul]
          have hcs : cnt (maxAt (bt bs) nn k) 0 (j + 1) = y + one (maxAt (bt bs) nn k j) := by rw [hy]; show _ + one (maxAt (bt bs) nn k (0 + j)) = _; rw [Nat.zero_add]
          have hmxj := HMX.out j
          rw [← HZ.out.1, ← HZ.out.2, ← ha] at hmxj
          have hda : 2 ^ k ∣ a := by rw [ha, HZ.out.1]; exact Nat.dvd_mul_left _ _
          have q3 := run_remZ a zz (by have := HZZ.out; omega)
          obtain ⟨m, hm⟩ : ∃ m, m = a % zz := ⟨_, rfl⟩
          rw [← hm] at q3 hmxj
          have hma : m ≤ a := hm ▸ Nat.mod_le _ _
          obtain ⟨u, hu⟩ : ∃ u, u = a - m := ⟨_, rfl⟩
          rw [← hu] at hmxj
          have hdu : 2 ^ (k + 1) ∣ u := by rw [hu, hm, ← HZ.out.2]; exact Nat.dvd_sub_mod _
          have e1 : IntKind.i64.wrap ((a : Int) - (m : Int)) = (u : Int) := by rw [IntWalk.i64_in _ (by omega)]; omega
          have e2 : IntKind.i64.wrap ((a : Int) + (z : Int)) = ((a + z : Nat) : Int) := by rw [IntWalk.i64_in _ (by omega)]; push_cast; rfl
          have e3 : IntKind.i64.wrap ((y : Int) + 1) = ((y + 1 : Nat) : Int) := by rw [IntWalk.i64_in _ (by omega)]; push_cast; rfl
          have e4 : IntKind.i64.wrap ((k : Int) + 1) = ((k + 1 : Nat) : Int) := by rw [IntWalk.i64_in _ (by omega)]; push_cast; rfl
          have hcall1 := HFR.out a k (by omega) (by omega) hda wr hb
          have hcall2 : ∀ (h6 : k < 6) (V : World), Below w.heap.size w V → Calls Try.prog 32 #[.slice A len c, .int .i64 (nn : Int), .int .i64 (u : Int), .int .i64 ((k : Int) + 1)] V fun e w' => e = .returned (.bool (decide (FreeC (bt bs) nn u (k + 1)))) ∧ Below V.heap.size V w' := fun h6 V hV => HFR.out u (k + 1) (by omega) (by omega) hdu V hV
          have hk0 : (0 : Int) ≤ (k : Int) := by omega
          -- the two ends of a round
          have hskip : maxAt (bt bs) nn k j = false → ∀ V, Below w.heap.size w V → V.heap[R]? = some (.cells (cells7 (upTo M k y)) 3 (0, 0)) → ∃ j' a' y' : Nat, j' ≤ starts nn k ∧ a' = j' * z ∧ ((a + z : Nat) : Int) = (a' : Int) ∧ y' = cnt (maxAt (bt bs) nn k) 0 j' ∧ V.heap[R]? = some (.cells (cells7 (upTo M k y')) 3 (0, 0)) ∧ Below w.heap.size w V :=
            fun hmf V h1 h2 => ⟨j + 1, a + z, y, hjs, hsucc.symm, rfl, by rw [hcs, hmf]; rfl, h2, h1⟩
          have htake : maxAt (bt bs) nn k j = true → ∀ V v, v = Value.int .i64 ((y + 1 : Nat) : Int) → Below w.heap.size w V → V.heap[R]? = some (.cells (cells7 (upTo M k y)) 3 (0, 0)) → ∃ j' a' y' : Nat, j' ≤ starts nn k ∧ a' = j' * z ∧ ((a + z : Nat) : Int) = (a' : Int) ∧ y' = cnt (maxAt (bt bs) nn k) 0 j' ∧ (V.setCell ⟨R, k, none⟩ v).heap[R]? = some (.cells (cells7 (upTo M k y')) 3 (0, 0)) ∧ Below w.heap.size w (V.setCell ⟨R, k, none⟩ v) :=
            fun hmf V v hv h1 h2 => ⟨j + 1, a + z, y + 1, hjs, hsucc.symm, rfl, by rw [hcs, hmf]; rfl, by rw [hv, ← upTo_set M k y (y + 1) (by omega)]; exact heap_setCell_same V R k _ _ _ h2, h1.setCell (p := ⟨R, k, none⟩) (by show w.heap.size ≤ R; omega) _⟩
          have hcells : ∀ V : World, V.heap[R]? = some (.cells (cells7 (upTo M k y)) 3 (0, 0)) → V.cell? ⟨R, k, none⟩ = some (.int .i64 (y : Int)) ∧ V.frozen? ⟨R, k, none⟩ = false := fun V hV => ⟨by
            have := (cell_of_row V R k _ _ _ hV).trans (cells7_get _ k (by omega))
            rw [this]
            unfold upTo
            rw [if_neg (by omega), if_pos rfl], frozen_of_row V R k _ _ hV⟩
          have HSKIP := Lib.hid hskip; clear hskip
          have HTAKE := Lib.hid htake; clear htake
          have HCELLS := Lib.hid hcells; clear hcells
          have HCALL2 := Lib.hid hcall2; clear hcall2
          have HRW := Lib.hid hrow; clear hrow
          have HBB := Lib.hid hb; clear hb
          have hRs : R < wr.heap.size := (Array.getElem?_eq_some_iff.1 HRW.out).1
          clear hcs hsucc hu hm hdu hda hy hiff ha hj hjs
          by_cases hF1 : FreeC (bt bs) nn a k
          · rw [decide_eq_true hF1, Bool.true_and] at hmxj
            rw [decide_eq_true hF1] at hcall1
            have HC1 := Lib.hid hcall1; clear hcall1 hF1
            by_cases h6 : k = 6
            · rw [decide_eq_true h6, Bool.true_or] at hmxj
              have HT := Lib.hid (HTAKE.out hmxj); clear hmxj HTAKE HSKIP
              have h6' : (k : Int) = 6 := by omega
              have h6b : ((k : Int) == 6) = true := by rw [h6']; rfl
              have H6 := Lib.hid h6'; clear h6' h6
              go_wp2_with fail
              with_reducible refine HC1.out.mono ?_
              rintro e w1 ⟨rfl, hb1⟩
              have hrow1 := (hb1.block R hRs).trans HRW.out
              obtain ⟨c0, c1⟩ := HCELLS.out w1 hrow1
              have HTT := Lib.hid (fun v hv => HT.out w1 v hv (HBB.out.trans (hb1.mono HBB.out.size)) hrow1); clear hb1 hrow1 HT HC1
              go_wp2
              go_roundw
              case rel =>
                obtain ⟨j', a', y', g1, g2, g3, g4, g5, g6⟩ := HTT.out _ rfl
                exact ⟨j', a', y', g1, g2, by rw [← g3]; push_cast; rfl, g4, g5, g6⟩
              case measure => simp [intOf]; omega
            · rw [decide_eq_false h6, Bool.false_or] at hmxj
              have h6' : ¬ (k : Int) = 6 := by omega
              have h6b : ((k : Int) == 6) = false := by rw [beq_eq_false_iff_ne]; exact h6'
              have hcall2 := HCALL2.out (by omega)
              clear HCALL2
              by_cases hF2 : FreeC (bt bs) nn u (k + 1)
              · rw [decide_eq_true hF2] at hmxj hcall2
                have HS := Lib.hid (HSKIP.out hmxj); clear hmxj HTAKE HSKIP hF2
                have HC2 := Lib.hid hcall2; clear hcall2
                go_wp2_with fail
                with_reducible refine HC1.out.mono ?_
                rintro e w1 ⟨rfl, hb1⟩
                have hrow1 := (hb1.block R hRs).trans HRW.out
                have HB1 := Lib.hid (HBB.out.trans (hb1.mono HBB.out.size))
                have hRs1 : R < w1.heap.size := by have := hb1.size; omega
                clear hb1 HC1
                have HR1 := Lib.hid hrow1; clear hrow1
                go_wp2_with fail
                with_reducible refine (HC2.out w1 HB1.out).mono ?_
                rintro e w2 ⟨rfl, hb2⟩
                have HSS := Lib.hid (HS.out w2 (HB1.out.trans (hb2.mono HB1.out.size)) ((hb2.block R hRs1).trans HR1.out)); clear hb2 HS HC2
                go_wp2
                go_roundw
                case rel =>
                  obtain ⟨j', a', y', g1, g2, g3, g4, g5, g6⟩ := HSS.out
                  exact ⟨j', a', y', g1, g2, by rw [← g3]; push_cast; rfl, g4, g5, g6⟩
                case measure => simp [intOf]; omega
              · rw [decide_eq_false hF2] at hmxj hcall2
                have HT := Lib.hid (HTAKE.out hmxj); clear hmxj HTAKE HSKIP hF2
                have HC2 := Lib.hid hcall2; clear hcall2
                go_wp2_with fail
                with_reducible refine HC1.out.mono ?_
                rintro e w1 ⟨rfl, hb1⟩
                have hrow1 := (hb1.block R hRs).trans HRW.out
                have HB1 := Lib.hid (HBB.out.trans (hb1.mono HBB.out.size))
                have hRs1 : R < w1.heap.size := by have := hb1.size; omega
                clear hb1 HC1
                have HR1 := Lib.hid hrow1; clear hrow1
                go_wp2_with fail
                with_reducible refine (HC2.out w1 HB1.out).mono ?_
                rintro e w2 ⟨rfl, hb2⟩
                have hrow2 := (hb2.block R hRs1).trans HR1.out
                obtain ⟨c0, c1⟩ := HCELLS.out w2 hrow2
                have HTT := Lib.hid (fun v hv => HT.out w2 v hv (HB1.out.trans (hb2.mono HB1.out.size)) hrow2); clear hb2 hrow2 HT HC2
                go_wp2
                go_roundw
                case rel =>
                  obtain ⟨j', a', y', g1, g2, g3, g4, g5, g6⟩ := HTT.out _ rfl
                  exact ⟨j', a', y', g1, g2, by rw [← g3]; push_cast; rfl, g4, g5, g6⟩
                case measure => simp [intOf]; omega
          · rw [decide_eq_false hF1, Bool.false_and] at hmxj
            rw [decide_eq_false hF1] at hcall1
            have HS := Lib.hid (HSKIP.out hmxj); clear hmxj HTAKE HSKIP hF1 HCALL2
            have HC1 := Lib.hid hcall1; clear hcall1
            go_wp2_with fail
            with_reducible refine HC1.out.mono ?_
            rintro e w1 ⟨rfl, hb1⟩
            have HSS := Lib.hid (HS.out w1 (HBB.out.trans (hb1.mono HBB.out.size)) ((hb1.block R hRs).trans HRW.out)); clear hb1 HS HC1
            go_wp2
            go_roundw
            case rel =>
              obtain ⟨j', a', y', g1, g2, g3, g4, g5, g6⟩ := HSS.out
              exact ⟨j', a', y', g1, g2, by rw [← g3]; push_cast; rfl, g4, g5, g6⟩
            case measure => simp [intOf]; omega
        · have hlta' : ¬ (a : Int) < (nn : Int) := by omega
          have hje : j = starts nn k := by
            have := mt hiff.1 hlta
            omega
          have hrowe : wr.heap[R]? = some (.cells (cells7 (upTo M (k + 1) 0)) 3 (0, 0)) := by rw [hrow, hy, hje, ← HMk.out, upTo_next]
          have HRE := Lib.hid hrowe; clear hrowe hrow
          have HBE := Lib.hid hb; clear hb hy hje hiff ha hj
          go_wp2
          go_roundw
          case rel => exact ⟨k + 1, by omega, by go_num, HRE.out, HBE.out⟩
          case measure => simp [intOf]; omega
    · have hlt' : ¬ (k : Int) < 7 := by omega
      obtain rfl : k = 7 := by omega
      have hrow7 := HROW.out
      rw [HUP.out] at hrow7
      have HR7 := Lib.hid hrow7; clear hrow7
      go_wp2
      go_ret2
      exact ⟨R, by omega, rfl, HR7.out, HB.out⟩
end
end Go.Proofs.Ytnkiblifnknbkaa.Buddy
