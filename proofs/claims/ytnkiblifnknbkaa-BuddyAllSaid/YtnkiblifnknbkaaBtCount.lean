/- Count: how many bits of a part are 1. -/
import Derived.Test.YtnkiblifnknbkaaBtLoop
namespace Go.Proofs.Ytnkiblifnknbkaa.Bits
set_option maxRecDepth 20000
open Go Go.RowKit Go.Shelf
open Go.Proofs.Ytnkiblifnknbkaa.Mem Go.Proofs.Ytnkiblifnknbkaa.Bt Go.Proofs.Ytnkiblifnknbkaa.Reg
attribute [local go_sem] Oper.semAt_some
attribute [local go_sem ↓] quoN_eq remN_eq shrB_eq shlB_eq andB_eq orB_eq clrB_eq subB_eq

/-- How many a round finds. -/
def cntR (bs : List UInt8) (a b : Nat) (k : Nat) (x : Fin k) : Nat := cnt (bt bs) (st a x.1) (en a b x.1 - st a x.1)
theorem cntR_le (bs : List UInt8) (a b k : Nat) (x : Fin k) : cntR bs a b k x ≤ 8 := by
  have := cnt_le (bt bs) (st a x.1) (en a b x.1 - st a x.1)
  have : en a b x.1 - st a x.1 ≤ 8 := by unfold en st; omega
  unfold cntR; omega
def sumR (bs : List UInt8) (a b k : Nat) (pre : List (Fin k)) : Nat := (pre.map (cntR bs a b k)).sum
theorem sumR_snoc (bs : List UInt8) (a b k : Nat) (pre : List (Fin k)) (x : Fin k) : sumR bs a b k (pre ++ [x]) = sumR bs a b k pre + cntR bs a b k x := by simp [sumR]
theorem sumR_le (bs : List UInt8) (a b k : Nat) : ∀ pre : List (Fin k), sumR bs a b k pre ≤ 8 * pre.length
  | [] => by simp [sumR]
  | x :: pre => by
    have h1 := sumR_le bs a b k pre
    have h2 := cntR_le bs a b k x
    have : sumR bs a b k (x :: pre) = cntR bs a b k x + sumR bs a b k pre := by simp [sumR]
    rw [this, List.length_cons]; omega
theorem sumR_all (bs : List UInt8) (a b k : Nat) (hk : k = rounds a b) : sumR bs a b k (List.finRange k) = cnt (bt bs) a (b - a) := by
  subst hk
  exact cnt_all (bt bs) a b
/-- The ones of a round's byte. -/
theorem cntR_byte (bs : List UInt8) (a b k : Nat) (hk : k = rounds a b) (x : Fin k) : cnt (fun j => ((bs.getD (a / 8 + x.1) 0).toNat &&& mask (st a x.1) b).testBit j) 0 8 = cntR bs a b k x := by
  have hx : x.1 < rounds a b := by have := x.2; omega
  have hs := (rounds_iff a b x.1).1 hx
  have hb := st_byte a x.1
  have he := st_en a b x.1 hs
  unfold mask cntR
  rw [cnt_mask _ _ _ (by omega) (by omega) (by omega)]
  rw [show en a b x.1 - st a x.1 = min (st a x.1 % 8 + (b - st a x.1)) 8 - st a x.1 % 8 by omega]
  refine cnt_congr (fun j hj => ?_)
  rw [show st a x.1 + j = 8 * (a / 8 + x.1) + (st a x.1 % 8 + j) by omega, bt_byte _ _ _ (by omega)]

def hiN (n : Nat) (to : Int) : Nat := (hiE n to).toNat
theorem hiN_le (n : Nat) (to : Int) : hiN n to ≤ 8 * n := by unfold hiN hiE; split <;> omega

set_option maxRecDepth 100000 in
set_option maxHeartbeats 4000000 in
theorem count_any (A : Option Addr) (n c B : Nat) (bs : List UInt8) (fr to : Int) (w : World) (h : Holds w B A n bs) (hB : B ≤ w.heap.size) (hn : n ≤ 140737488355328) :
    Calls Try.prog 33 #[.slice A n c, .int .i64 fr, .int .i64 to] w fun e w' => e = .returned (.int .i64 (cnt (bt bs) fr.toNat (hiN n to - fr.toNat) : Int)) ∧ Below w.heap.size w w' := by
  have hhi := hiN_le n to
  obtain ⟨a, ha⟩ : ∃ a, a = fr.toNat := ⟨_, rfl⟩
  obtain ⟨bI, hbI⟩ : ∃ bI, bI = hiE n to := ⟨_, rfl⟩
  obtain ⟨b, hb⟩ : ∃ b, b = bI.toNat := ⟨_, rfl⟩
  have hbE : hiN n to = b := by unfold hiN; rw [← hbI, hb]
  rw [hbE] at hhi ⊢
  rw [← ha]
  obtain ⟨k, hk⟩ : ∃ k, k = rounds a b := ⟨_, rfl⟩
  have hkn : k ≤ n + 1 := by rw [hk]; unfold rounds; split <;> omega
  have hbI2 : bI < 4611686018427387904 := by omega
  refine (callsIn_wide (n := 3)).1 ?_
  refine callsIn_of_wp_marks Try.func33 rfl trivial ?_ rfl
  simp only [Try.ntmps33, List.size_toArray, List.length_cons, List.length_nil, Nat.reduceAdd, Nat.reduceSub, Array.replicate_succ, Array.replicate_zero, List.push_toArray, List.append_toArray, List.nil_append, List.cons_append]
  gi_wp2_with fail
  obtain ⟨W1, hW1⟩ : ∃ W1, W1 = (w.alloc (.cells #[.slice A n c] 22)).alloc (.cells #[.int .i64 0] 3) := ⟨_, rfl⟩
  have z1 : (w.alloc (.cells #[.slice A n c] 22)).heap.size = w.heap.size + 1 := by simp
  have hM : W1.heap[w.heap.size]? = some (.cells #[.slice A n c] 22 (0, 0)) := by
    rw [hW1]
    exact (Below.heap_alloc _ _ _ (by rw [z1]; omega)).trans (heap_alloc_new w _)
  have hT : W1.heap[w.heap.size + 1]? = some (.cells #[.int .i64 0] 3 (0, 0)) := by
    rw [hW1, ← z1]
    exact heap_alloc_new _ _
  have hz : W1.heap.size = w.heap.size + 2 := by rw [hW1]; simp
  have hbl : Below w.heap.size w W1 := by rw [hW1]; exact ((Below.refl _ w).alloc (Nat.le_refl _) _).alloc (by simp) _
  rw [← hW1]
  clear hW1 z1
  refine ⟨trivial, (callsIn_wide (n := 2)).2 ((part_mk A n c hn fr to W1).mono ?_)⟩
  rintro e W0 ⟨rfl, hbl0, hq0, hq1, hz0⟩
  rw [loE_nat, ← ha] at hq0
  rw [← hbI] at hq1
  have hM0 := (hbl0.block w.heap.size (by omega)).trans hM
  have hT0 := (hbl0.block (w.heap.size + 1) (by omega)).trans hT
  have hB0 : Below w.heap.size w W0 := hbl.trans (hbl0.mono (by omega))
  rw [hz] at hq0 hq1 hz0 ⊢
  clear hM hT hbl hbl0 hz hbI
  obtain ⟨M, hMe⟩ : ∃ M, M = w.heap.size := ⟨_, rfl⟩
  rw [← hMe] at hM0 hT0 hz0 hq0 hq1 ⊢
  have HH := Lib.hid h; clear h
  have HB0 := Lib.hid hB0; clear hB0
  have HM0 := Lib.hid hM0; clear hM0
  have HT0 := Lib.hid hT0; clear hT0
  have HQ0 := Lib.hid hq0; clear hq0
  have HQ1 := Lib.hid hq1; clear hq1
  have HK := Lib.hid hk; clear hk
  have HBB := Lib.hid hb; clear hb
  have HA := Lib.hid ha; clear ha hbE
  have hMle : w.heap.size ≤ M := Nat.le_of_eq hMe.symm
  gi_wp2
  rw [← hMe]
  clear hMe
  refine wpIn_rangeFunc_ownG (F := Fence.wide) (n := 3) rfl (by omega) (gf := 42) (lb := #[.pointer (some ⟨M + 2, 0, none⟩), .pointer (some ⟨M + 2 + 1, 0, none⟩)]) rfl trivial (enters_of Try.func42 (by kernel_rfl) rfl)
    (part_stops (3 - 1) (by omega) (M + 2) (M + 2 + 1) a b k bI HBB.out HK.out hbI2 W0 (cell_of_row _ _ 0 _ _ _ HQ0.out) (cell_of_row _ _ 0 _ _ _ HQ1.out))
    (fun h1 h2 => ⟨h2.1.trans h1.1, h2.2.trans h1.2⟩) ?hKb (Below.refl _ _) (fun _ => rfl)
    (Lp W0 (M + 1) (fun (pre : List (Fin k)) o => o = .cells #[.int .i64 (sumR bs a b k pre : Int)] 3 (0, 0))) (fun _ _ _ => False) (lp_own W0 (M + 1) (by omega) _) (fun _ _ _ _ _ hs _ _ => hs) ⟨World.grownBy.refl _ _, _, HT0.out, rfl⟩
    (fun x => { tmps := #[.slice A n c, .int .i64 fr, .int .i64 to, .pointer (some ⟨M, 0, none⟩), undef, undef, .int .i64 0, .pointer (some ⟨M + 1, 0, none⟩), .int .i64 ((a / 8 + x.1 : Nat) : Int), .int .u8 (mask (st a x.1) b : Int), .slice A n c, .int .i64 fr, .int .i64 to, .func (.func 42) #[] #[.pointer (some ⟨M + 2, 0, none⟩), .pointer (some ⟨M + 2 + 1, 0, none⟩)], .int .i64 ((a / 8 + x.1 : Nat) : Int), .int .u8 (mask (st a x.1) b : Int), undef, undef, undef, undef, undef, undef, undef, undef, undef, undef], defers := [] }) ?assign ?body ?done ?stop
  case hKb =>
    intro V q o o' hq ho hoc hw
    exact ⟨World.putObj_heap_other (by omega), World.putObj_heap_other (by omega)⟩
  case assign =>
    intro l x V K hK
    dsimp only [partV] at hK ⊢
    obtain ⟨P, hP⟩ : ∃ P, P = a / 8 + x.1 := ⟨_, rfl⟩
    rw [← hP] at hK ⊢
    clear hP
    gi_wp2
    exact hK
  case body =>
    rintro l pre x V ⟨hg, o, ho, rfl⟩ hlen
    have hx := x.2
    have hs := (rounds_iff a b x.1).1 (by rw [← HK.out]; exact hx)
    have hby := st_byte a x.1
    have hsn := sumR_snoc bs a b k pre x
    have hle := sumR_le bs a b k pre
    have hle2 := cntR_le bs a b k x
    have hcb := cntR_byte bs a b k HK.out x
    obtain ⟨P, hP⟩ : ∃ P, P = a / 8 + x.1 := ⟨_, rfl⟩
    have hPn : P < n := by omega
    rw [← hP] at hcb ⊢
    have hVB : Below w.heap.size w V := below_grown HB0.out (by omega) hg
    obtain ⟨bb, off, u, rfl, hu, hcell⟩ := holds_cell (holds_grown HH.out hB hVB) P hPn
    have hmB : V.heap[M]? = some (.cells #[.slice (some ⟨bb, off, none⟩) n c] 22 (0, 0)) := (hg.block M (by omega) (fun e => by injection e with e; omega)).trans HM0.out
    rw [hu] at hcb
    have q1 := run_andB u.toNat (mask (st a x.1) b) u.toNat_lt (mask_lt _ _)
    have hcall := ones8_any (u.toNat &&& mask (st a x.1) b) (by have := Nat.and_le_left (n := u.toNat) (m := mask (st a x.1) b); have := u.toNat_lt; omega)
    rw [hcb] at hcall
    obtain ⟨X, hX⟩ : ∃ X, X = u.toNat &&& mask (st a x.1) b := ⟨_, rfl⟩
    rw [← hX] at q1 hcall
    obtain ⟨mm, hmm⟩ : ∃ mm, mm = mask (st a x.1) b := ⟨_, rfl⟩
    rw [← hmm] at q1 ⊢
    obtain ⟨C, hC⟩ : ∃ C, C = cntR bs a b k x := ⟨_, rfl⟩
    rw [← hC] at hcall hle2
    obtain ⟨Sm, hSm⟩ : ∃ Sm, Sm = sumR bs a b k pre := ⟨_, rfl⟩
    rw [← hSm] at hle ho
    have hPc1 : (0 : Int) ≤ (P : Int) := by omega
    have hPc2 : (P : Int) < (n : Int) := by omega
    have hS : V.drew.cell? ⟨M + 1, 0, none⟩ = some (.int .i64 (Sm : Int)) ∧ V.drew.cell? ⟨M, 0, none⟩ = some (.slice (some ⟨bb, off, none⟩) n c) ∧ V.drew.cell? ⟨bb, off + P, none⟩ = some (.int .u8 (u.toNat : Int)) :=
      ⟨cell_of_row V.drew _ 0 _ _ _ ho, cell_of_row V.drew _ 0 _ _ _ hmB, hcell⟩
    have HG := Lib.hid hg; clear hg
    have HO := Lib.hid ho; clear ho
    have HCALL := Lib.hid hcall; clear hcall
    have HSN := Lib.hid hsn; clear hsn
    have HSM := Lib.hid hSm; clear hSm
    have HC := Lib.hid hC; clear hC
    clear hcb hX hmm hu hVB hP hby hs
    gi_wp2
    refine wpIn_region_E (fun V : World => V.cell? ⟨M + 1, 0, none⟩ = some (.int .i64 (Sm : Int)) ∧ V.cell? ⟨M, 0, none⟩ = some (.slice (some ⟨bb, off, none⟩) n c) ∧ V.cell? ⟨bb, off + P, none⟩ = some (.int .u8 (u.toNat : Int))) 9 (by kernel_rfl) (by kernel_rfl) noOut1 ?_
    refine wpE_take 0 ⟨some 16, _, _, _, _, _⟩ (v := ?_) [8, 9] rfl (by kernel_rfl) (by kernel_rfl) (by kernel_rfl) (by kernel_rfl) (fun _ _ _ h => h) hS (Or.inl ⟨by rfl, ?_⟩) ?_
    rotate_left
    · (intro V hSw; obtain ⟨s0, s1, s2⟩ := hSw; go_simp; try with_reducible rfl)
    simp only [Act.put]
    refine wpE_take 1 ⟨some 17, _, _, _, _, _⟩ (v := ?_) [3, 4, 6, 7, 8, 9] rfl (by kernel_rfl) (by kernel_rfl) (by kernel_rfl) (by kernel_rfl) (fun _ _ _ h => h) hS (Or.inl ⟨by rfl, ?_⟩) ?_
    rotate_left
    · (intro V hSw; obtain ⟨s0, s1, s2⟩ := hSw; go_simp; try with_reducible rfl)
    simp only [Act.put]
    refine wpE_take 2 ⟨some 18, _, _, _, _, _⟩ (v := ?_) [3, 4, 6, 7, 8, 9] rfl (by kernel_rfl) (by kernel_rfl) (by kernel_rfl) (by kernel_rfl) (fun _ _ _ h => h) hS (Or.inl ⟨by rfl, ?_⟩) ?_
    rotate_left
    · (intro V hSw; obtain ⟨s0, s1, s2⟩ := hSw; go_simp; try with_reducible rfl)
    simp only [Act.put]
    refine wpE_take 3 ⟨some 19, _, _, _, _, _⟩ (v := ?_) [4, 6, 7, 8, 9] rfl (by kernel_rfl) (by kernel_rfl) (by kernel_rfl) (by kernel_rfl) (fun _ _ _ h => h) hS (Or.inl ⟨by rfl, ?_⟩) ?_
    rotate_left
    · (intro V hSw; obtain ⟨s0, s1, s2⟩ := hSw; go_simp; try with_reducible rfl)
    simp only [Act.put]
    refine wpE_take 4 ⟨some 20, _, _, _, _, _⟩ (v := ?_) [6, 7, 8, 9] rfl (by kernel_rfl) (by kernel_rfl) (by kernel_rfl) (by kernel_rfl) (fun _ _ _ h => h) hS (Or.inl ⟨by rfl, ?_⟩) ?_
    rotate_left
    · (intro V hSw; obtain ⟨s0, s1, s2⟩ := hSw; go_simp; try with_reducible rfl)
    simp only [Act.put]
    refine wpE_take 5 ⟨some 21, _, _, _, _, _⟩ (v := ?_) [6, 7, 8, 9] rfl (by kernel_rfl) (by kernel_rfl) (by kernel_rfl) (by kernel_rfl) (fun _ _ _ h => h) hS (Or.inl ⟨by rfl, ?_⟩) ?_
    rotate_left
    · (intro V hSw; obtain ⟨s0, s1, s2⟩ := hSw; go_simp; try with_reducible rfl)
    simp only [Act.put]
    refine wpE_take 6 ⟨some 22, _, _, _, _, _⟩ (v := ?_) [7, 8, 9] rfl (by kernel_rfl) (by kernel_rfl) (by kernel_rfl) (by kernel_rfl) (fun _ _ _ h => h) hS (Or.inl ⟨by rfl, ?_⟩) ?_
    rotate_left
    · (intro V hSw; obtain ⟨s0, s1, s2⟩ := hSw; go_simp; try with_reducible rfl)
    simp only [Act.put]
    refine wpE_one 7 (o := ⟨some 23, _, _, _, _, _⟩) (by kernel_rfl) rfl (fun K hK => ?_)
    rw [if_pos (by kernel_rfl)]
    refine call_wp 41 _ _ _ _ rfl Try.func41 (by kernel_rfl) rfl _ ?hv _ (HCALL.out _) ?_
    case hv => simp only [List.map_toArray, List.map_cons, List.map_nil]; go_simp
    rintro e V4 ⟨rfl, rfl⟩
    refine ⟨_, rfl, hK.out _ _ hS (fun hS => ?_)⟩
    clear hK K HCALL
    simp only [Act.put]
    refine wpE_take 8 ⟨some 24, _, _, _, _, _⟩ (v := ?_) [9] rfl (by kernel_rfl) (by kernel_rfl) (by kernel_rfl) (by kernel_rfl) (fun _ _ _ h => h) hS (Or.inl ⟨by rfl, ?_⟩) ?_
    rotate_left
    · (intro V hSw; obtain ⟨s0, s1, s2⟩ := hSw; go_simp; try with_reducible rfl)
    simp only [Act.put]
    have f5 : V.drew.frozen? ⟨M + 1, 0, none⟩ = false := frozen_of_row V.drew _ 0 _ _ HO.out
    have s5 : V.drew.cell? ⟨M + 1, 0, none⟩ = some (.int .i64 (Sm : Int)) := hS.1
    refine wpE_last (by kernel_rfl) rfl (fun K hK => ?_)
    go_simp
    refine hK.out _ _ ?_
    clear hK K
    refine wpE_done (by kernel_rfl) ?_ _
    have hwr : IntKind.i64.wrap ((Sm : Int) + (C : Int)) = ((Sm + C : Nat) : Int) := by rw [IntWalk.i64_in _ (by omega)]; push_cast; rfl
    rw [hwr]
    have hgn : V.grownBy (V.setCell ⟨M + 1, 0, none⟩ (.int .i64 ((Sm + C : Nat) : Int))).drew (some (M + 1)) := grown_drew (grown_set (World.grownBy.refl V _) _ rfl _)
    have hVs := HG.out.size
    obtain ⟨k1, k2⟩ := lp_kept (W := W0) (Bs := M + 2) (Bn := M + 2 + 1) hgn (by omega) (by omega) (by omega) (by omega) (by omega)
    refine ⟨k1, k2, HG.out.trans hgn, _, heap_setCell_same V (M + 1) 0 _ _ _ HO.out, ?_⟩
    dsimp only
    rw [HSN.out, ← HSM.out, ← HC.out]
    rfl
  case done =>
    rintro D ys V hD' rfl ⟨hg, o, ho, rfl⟩ hK
    have hs : V.cell? ⟨M + 1, 0, none⟩ = some (.int .i64 (sumR bs a b k (List.finRange k) : Int)) := cell_of_row V _ 0 _ _ _ ho
    rw [sumR_all bs a b k HK.out] at hs
    obtain ⟨R, hR⟩ : ∃ R : Nat, R = cnt (bt bs) a (b - a) := ⟨_, rfl⟩
    rw [← hR] at hs
    have HR := Lib.hid hR; clear hR
    gi_wp2
    refine ⟨by simp, .inl ⟨_, _, rfl, run_takeDeferred hK, ?_⟩⟩
    refine ⟨_, results_tmp rfl _ _ _, ?_⟩
    rw [HR.out]
    refine ⟨rfl, ?_⟩
    have hg' : W0.grownBy (V.putObj D (.deferred none)) (some (M + 1)) := hg.andThen (grownBy_putObj' V D _) (fun j hj => by cases hj; exact .inl hD')
    exact below_grown HB0.out (by omega) hg'
  case stop =>
    rintro D cc pre V _ _ h _
    exact h.elim
end Go.Proofs.Ytnkiblifnknbkaa.Bits
