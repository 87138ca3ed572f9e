/- BuddyBest: for every list of bytes and all numbers n, want and goal, what the program gives is as long as was wanted, unless no free chunk is so long, and begins where a chunk does. -/
import Derived.Test.YtnkiblifnknbkaaBdFill
import Derived.Test.YtnkiblifnknbkaaBdRef
namespace Go.Proofs.Ytnkiblifnknbkaa.BuddyBest
set_option maxRecDepth 20000
open Go Go.ChangeShapes Go.WideShapes Go.ChangeAt Go.RowKit
open Go.Proofs.Ytnkiblifnknbkaa.Mem Go.Proofs.Ytnkiblifnknbkaa.Bt Go.Proofs.Ytnkiblifnknbkaa.Rec Go.Proofs.Ytnkiblifnknbkaa.Bits Go.Proofs.Ytnkiblifnknbkaa.Bd Go.Proofs.Ytnkiblifnknbkaa.Buddy Go.Proofs.Ytnkiblifnknbkaa.Lift Go.Proofs.Ytnkiblifnknbkaa.Reg
attribute [local go_sem ↓] ldS_eq stS_eq eqS_eq shlN_eq remN_eq

/-- The greatest order below j of which a chunk is free. -/
def Bst (l : List (Nat × Nat)) (j : Nat) (b : Int) : Prop := (b = -1 ∧ ∀ t, t < j → many l t = 0) ∨ ∃ k : Nat, b = (k : Int) ∧ k < j ∧ 0 < many l k ∧ ∀ t, k < t → t < j → many l t = 0
theorem many_pos {l : List (Nat × Nat)} {x : Nat × Nat} (h : x ∈ l) : 0 < many l x.2 := List.countP_pos_iff.2 ⟨x, h, by simp⟩
theorem best_order {f : Nat → Bool} {n k goal a o : Nat} {b : Int} (hk : k ≤ 6) (h : IsTake f n k goal (some (a, o))) (hb : Bst (chunksL f n) 7 b) : ∃ t : Nat, b = (t : Int) ∧ t ≤ 6 ∧ o = min k t := by
  have hch := isFind_ch h.2.1
  have ho := h.1
  obtain ⟨x, hx, h1, h2, h3⟩ := chunks_has (show o ≤ 6 by omega) hch
  have hx6 := (chunks_mem hx).1
  have hxp := many_pos hx
  rcases hb with ⟨rfl, h0⟩ | ⟨t, rfl, ht, htp, htm⟩
  · have := h0 x.2 (by omega); omega
  · refine ⟨t, rfl, by omega, ?_⟩
    have hxt : x.2 ≤ t := by
      rcases Nat.lt_or_ge t x.2 with hl | hl
      · have := htm x.2 hl (by omega); omega
      · exact hl
    rcases Nat.lt_or_ge o (min k t) with hl | hl
    · obtain ⟨y, hy, hyt⟩ : ∃ y ∈ chunksL f n, y.2 = t := by
        obtain ⟨y, hy, e⟩ := List.countP_pos_iff.1 htp
        exact ⟨y, hy, by simpa using e⟩
      obtain ⟨_, hd, hf⟩ := chunks_mem hy
      exact absurd (chunk_ch hd hf (show o + 1 ≤ y.2 by omega)) (h.2.2 (o + 1) (by omega) (by omega) _)
    · omega

set_option maxRecDepth 100000 in
set_option maxHeartbeats 4000000 in
theorem walk (A : Option Addr) (n c : Nat) (bs : List UInt8) (x y z : Int) (w : World) (h : Holds w w.heap.size A n bs) (hc : n ≤ c) (hm : c ≤ 140737488351232) (f3 : z ≤ 9223372036854775807) :
    Calls Try.prog 8 #[.slice A n c, .agg (wishV x y z)] w fun e w' => e = .returned (.bool true) ∧ Below w.heap.size w w' := by
  obtain rfl : bs.length = n := h.1
  have HM := fun (V : World) (hb : Below w.heap.size w V) => h.below hb
  have H := Lib.hid HM; clear HM h
  obtain ⟨W0, hW0⟩ : ∃ W0, W0 = w.alloc (.cells (wishV x y z) 24) := ⟨_, rfl⟩
  have hb0 : Below w.heap.size w W0 := by rw [hW0]; exact (Below.refl _ w).alloc (Nat.le_refl _) _
  have hx0 : W0.heap[w.heap.size]? = some (.cells (wishV x y z) 24 (0, 0)) := by rw [hW0]; exact heap_alloc_new w _
  have hz0 : W0.heap.size = w.heap.size + 1 := by rw [hW0]; simp
  have hld : ∀ (V : World), Below W0.heap.size W0 V → V.cell? ⟨w.heap.size, 0, none⟩ = some (.int .i64 x) ∧ V.cell? ⟨w.heap.size, 1, none⟩ = some (.int .i64 y) ∧ V.cell? ⟨w.heap.size, 2, none⟩ = some (.int .i64 z) := fun V hV => by
    have hh := (hV.block w.heap.size (by omega)).trans hx0
    exact ⟨cell_of_row V _ 0 _ _ _ hh, cell_of_row V _ 1 _ _ _ hh, cell_of_row V _ 2 _ _ _ hh⟩
  have HLD := Lib.hid hld; clear hld
  have HM := Lib.hid (fun (V : World) (hV : Below W0.heap.size W0 V) => hb0.trans (hV.mono hb0.size)); clear hb0 hx0
  have HW := Lib.hid hW0; clear hW0
  cases hp : takeB bs.length x y z with
  | false =>
    cases hpb : poolB bs.length x with
    | false =>
      have hta := fun (V : World) => take_bad A bs.length c V x y z (by omega) hp
      have HTA := Lib.hid hta; clear hta hp
      have hfr := fun (V : World) => orders_bad A bs.length c V x (by omega) hpb
      have HFR := Lib.hid hfr; clear hfr hpb
      go_enter Try.func8, Try.ntmps8
      go_wp2_with fail
      rw [← HW.out]
      with_reducible refine (alive_any W0).mono ?_
      rintro e w2 ⟨rfl, hb1⟩
      have HC2 := Lib.hid hb1; clear hb1
      obtain ⟨l20, l21, l22⟩ := HLD.out w2 HC2.out
      go_wp2_with fail
      with_reducible refine (HTA.out w2).mono ?_
      rintro e w3 ⟨rfl, hb3⟩
      have hb3' : Below w2.heap.size w2 (w3.alloc (.cells (spanV 0 0) 27)) := hb3.alloc hb3.size _
      have q3 := run_stS_new w3 0 0
      obtain ⟨w4, hw4⟩ : ∃ w4, w4 = w3.alloc (.cells (spanV 0 0) 27) := ⟨_, rfl⟩
      have hrow4 : w4.heap[w3.heap.size]? = some (.cells (spanV 0 0) 27 (0, 0)) := by rw [hw4]; exact heap_alloc_new w3 _
      have hz4 : w4.heap.size = w3.heap.size + 1 := by rw [hw4]; simp
      rw [← hw4] at hb3' q3
      have HC4 := Lib.hid (thenB HC2.out hb3')
      have hb34 : Below w3.heap.size w3 w4 := hw4 ▸ (Below.refl _ w3).alloc (Nat.le_refl _) _
      have HB34 := Lib.hid hb34; clear hb3 hb3' hb34
      have HR4 := Lib.hid hrow4; clear hrow4 hw4
      clear l20 l21 l22
      obtain ⟨l40, l41, l42⟩ := HLD.out w4 HC4.out
      go_wp2_with fail
      with_reducible refine (HFR.out w4).mono ?_
      rintro e w5 ⟨rfl, hb5⟩
      have HF := Lib.hid (HM.out _ (thenB HC4.out hb5)); clear hb5
      go_wp2
      go_ret
      exact ⟨rfl, HF.out⟩
    | true =>
      have hta := fun (V : World) => take_bad A bs.length c V x y z (by omega) hp
      have HTA := Lib.hid hta; clear hta hp
      obtain ⟨h0, h1⟩ := of_decide_eq_true hpb
      obtain ⟨nn, rfl⟩ : ∃ nn : Nat, x = (nn : Int) := ⟨x.toNat, by omega⟩
      have hfr := fun (V : World) (hV : Below w.heap.size w V) => orders_ok A bs.length c w.heap.size bs nn V (H.out V hV) hV.size (by omega) (by omega)
      have HFR := Lib.hid hfr; clear hfr hpb
      go_enter Try.func8, Try.ntmps8
      go_wp2_with fail
      rw [← HW.out]
      with_reducible refine (alive_any W0).mono ?_
      rintro e w2 ⟨rfl, hb1⟩
      have HC2 := Lib.hid hb1; clear hb1
      obtain ⟨l20, l21, l22⟩ := HLD.out w2 HC2.out
      go_wp2_with fail
      with_reducible refine (HTA.out w2).mono ?_
      rintro e w3 ⟨rfl, hb3⟩
      have hb3' : Below w2.heap.size w2 (w3.alloc (.cells (spanV 0 0) 27)) := hb3.alloc hb3.size _
      have q3 := run_stS_new w3 0 0
      obtain ⟨w4, hw4⟩ : ∃ w4, w4 = w3.alloc (.cells (spanV 0 0) 27) := ⟨_, rfl⟩
      have hrow4 : w4.heap[w3.heap.size]? = some (.cells (spanV 0 0) 27 (0, 0)) := by rw [hw4]; exact heap_alloc_new w3 _
      have hz4 : w4.heap.size = w3.heap.size + 1 := by rw [hw4]; simp
      rw [← hw4] at hb3' q3
      have HC4 := Lib.hid (thenB HC2.out hb3')
      have hb34 : Below w3.heap.size w3 w4 := hw4 ▸ (Below.refl _ w3).alloc (Nat.le_refl _) _
      have HB34 := Lib.hid hb34; clear hb3 hb3' hb34
      have HR4 := Lib.hid hrow4; clear hrow4 hw4
      clear l20 l21 l22
      obtain ⟨l40, l41, l42⟩ := HLD.out w4 HC4.out
      go_wp2_with fail
      with_reducible refine (HFR.out w4 (HM.out _ HC4.out)).mono ?_
      rintro e w5 ⟨M, -, rfl, -, hb5⟩
      have HF := Lib.hid (HM.out _ (thenB HC4.out hb5)); clear hb5
      go_wp2
      go_ret
      exact ⟨rfl, HF.out⟩
  | true =>
    unfold takeB at hp
    rw [Bool.and_eq_true] at hp
    obtain ⟨h0, h1⟩ := of_decide_eq_true hp.1
    obtain ⟨h2, h3, h4⟩ := of_decide_eq_true hp.2
    clear hp
    obtain ⟨nn, rfl⟩ : ∃ nn : Nat, x = (nn : Int) := ⟨x.toNat, by omega⟩
    obtain ⟨want, rfl⟩ : ∃ want : Nat, y = (want : Int) := ⟨y.toNat, by omega⟩
    obtain ⟨goal, rfl⟩ : ∃ goal : Nat, z = (goal : Int) := ⟨z.toNat, by omega⟩
    have hta := fun (V : World) (hV : Below w.heap.size w V) => take_run A bs.length c w.heap.size bs V nn want goal (H.out V hV) hV.size (by omega) (by omega) (by omega) (by omega) (by omega)
    have hfr := fun (V : World) (hV : Below w.heap.size w V) => orders_ok A bs.length c w.heap.size bs nn V (H.out V hV) hV.size (by omega) (by omega)
    have HTA := Lib.hid hta; clear hta
    have HFR := Lib.hid hfr; clear hfr
    go_enter Try.func8, Try.ntmps8
    go_wp2_with fail
    rw [← HW.out]
    with_reducible refine (alive_any W0).mono ?_
    rintro e w2 ⟨rfl, hb1⟩
    have HC2 := Lib.hid hb1; clear hb1
    obtain ⟨l20, l21, l22⟩ := HLD.out w2 HC2.out
    go_wp2_with fail
    with_reducible refine (HTA.out w2 (HM.out _ HC2.out)).mono ?_
    rintro e w3 ⟨r, hr, hout⟩
    rcases r with _ | ⟨s, o⟩
    · obtain ⟨rfl, hb3⟩ := hout
      clear hr
      have hb3' : Below w2.heap.size w2 (w3.alloc (.cells (spanV 0 0) 27)) := hb3.alloc hb3.size _
      have q3 := run_stS_new w3 0 0
      obtain ⟨w4, hw4⟩ : ∃ w4, w4 = w3.alloc (.cells (spanV 0 0) 27) := ⟨_, rfl⟩
      have hrow4 : w4.heap[w3.heap.size]? = some (.cells (spanV 0 0) 27 (0, 0)) := by rw [hw4]; exact heap_alloc_new w3 _
      have hz4 : w4.heap.size = w3.heap.size + 1 := by rw [hw4]; simp
      rw [← hw4] at hb3' q3
      have HC4 := Lib.hid (thenB HC2.out hb3')
      have hb34 : Below w3.heap.size w3 w4 := hw4 ▸ (Below.refl _ w3).alloc (Nat.le_refl _) _
      have HB34 := Lib.hid hb34; clear hb3 hb3' hb34
      have HR4 := Lib.hid hrow4; clear hrow4 hw4
      clear l20 l21 l22
      obtain ⟨l40, l41, l42⟩ := HLD.out w4 HC4.out
      go_wp2_with fail
      with_reducible refine (HFR.out w4 (HM.out _ HC4.out)).mono ?_
      rintro e w5 ⟨M, -, rfl, -, hb5⟩
      have HF := Lib.hid (HM.out _ (thenB HC4.out hb5)); clear hb5
      go_wp2
      go_ret
      exact ⟨rfl, HF.out⟩
    · obtain ⟨hsn, Aa, ca, rfl, hb3, -, -⟩ := hout
      obtain ⟨L, hL⟩ : ∃ L, L = min want (2 ^ o) := ⟨_, rfl⟩
      rw [← hL] at hsn ⊢
      have hds := (isFind_ch hr.2.1).1
      have hlw := leastO_le want
      have hlf := leastO_fits want (by omega)
      have hll := leastO_least want
      have hbo := fun b => best_order (b := b) hlw hr
      have ho := hr.1
      clear hr
      obtain ⟨K, hK⟩ : ∃ K, K = leastO want := ⟨_, rfl⟩
      rw [← hK] at hlw hlf hll hbo ho
      clear hK
      have hml := many_le (chunksL (bt bs) nn)
      obtain ⟨CL, hCL⟩ : ∃ CL, CL = chunksL (bt bs) nn := ⟨_, rfl⟩
      rw [← hCL] at HFR hbo
      have HLL := Lib.hid hll; clear hll
      have HLF := Lib.hid hlf; clear hlf
      have HBO := Lib.hid hbo; clear hbo hml hCL
      have HL := Lib.hid hL; clear hL
      have HDS := Lib.hid hds; clear hds
      have hb3' : Below w2.heap.size w2 (w3.alloc (.cells (spanV (s : Int) (L : Int)) 27)) := hb3.alloc hb3.size _
      have q3 := run_stS_new w3 (s : Int) (L : Int)
      obtain ⟨w4, hw4⟩ : ∃ w4, w4 = w3.alloc (.cells (spanV (s : Int) (L : Int)) 27) := ⟨_, rfl⟩
      have hrow4 : w4.heap[w3.heap.size]? = some (.cells (spanV (s : Int) (L : Int)) 27 (0, 0)) := by rw [hw4]; exact heap_alloc_new w3 _
      have hz4 : w4.heap.size = w3.heap.size + 1 := by rw [hw4]; simp
      rw [← hw4] at hb3' q3
      have HC4 := Lib.hid (thenB HC2.out hb3')
      have hb34 : Below w3.heap.size w3 w4 := hw4 ▸ (Below.refl _ w3).alloc (Nat.le_refl _) _
      have HB34 := Lib.hid hb34; clear hb3 hb3' hb34
      have HR4 := Lib.hid hrow4; clear hrow4 hw4
      clear l20 l21 l22
      obtain ⟨l40, l41, l42⟩ := HLD.out w4 HC4.out
      go_wp2_with fail
      with_reducible refine (HFR.out w4 (HM.out _ HC4.out)).mono ?_
      rintro e w5 ⟨M, -, rfl, hrow, hb5⟩
      have hC5 := thenB HC4.out hb5
      have hrow5 := (hb5.block w3.heap.size (by omega)).trans HR4.out
      obtain ⟨l50, l51, l52⟩ := HLD.out w5 hC5
      have HROW := Lib.hid hrow; clear hrow
      have HR5 := Lib.hid hrow5; clear hrow5
      have HF5 := Lib.hid (HM.out _ hC5); clear hC5 hb5 l40 l41 l42 l50 l52
      go_wp2_with fail
      go_loopw [10] (fun i V => ∃ k m : Nat, k ≤ K ∧ i = .int .i64 (k : Int) ∧ V = w5.drewN m) (fun i _ => K - (intOf i).toNat)
      case atStart => exact ⟨0, 0, Nat.zero_le _, by first | trivial | rfl, by first | trivial | rfl⟩
      case round =>
        obtain ⟨k, m, hk, rfl, rfl⟩ := hrel
        have q := run_shl1 k (by omega)
        by_cases hlt : k < K
        · have hgo := HLL.out k hlt
          obtain ⟨z, hz⟩ : ∃ z, z = 2 ^ k := ⟨_, rfl⟩
          rw [← hz] at q hgo
          clear hz
          have hgo' : (z : Int) < (want : Int) := by omega
          go_wp2_with fail
          have hS : (w5.drewN m).drew.cell? ⟨w.heap.size, 1, none⟩ = some (.int .i64 (want : Int)) := l51
          refine wp_region_E (fun V : World => V.cell? ⟨w.heap.size, 1, none⟩ = some (.int .i64 (want : Int))) 4 (by kernel_rfl) ?_
          refine wpE_take 0 ⟨some 41, _, _, _, _, _⟩ (v := ?_) [1, 4] rfl (by kernel_rfl) (by kernel_rfl) (by kernel_rfl) (by kernel_rfl) (fun _ _ _ h => h) hS (Or.inl ⟨by rfl, ?_⟩) ?_
          rotate_left
          · (intro V hSw; go_simp; try with_reducible rfl)
          try simp only [Act.put]
          refine wpE_take 1 ⟨some 42, _, _, _, _, _⟩ (v := ?_) [4] rfl (by kernel_rfl) (by kernel_rfl) (by kernel_rfl) (by kernel_rfl) (fun _ _ _ h => h) hS (Or.inl ⟨by rfl, ?_⟩) ?_
          rotate_left
          · (intro V hSw; go_simp; try with_reducible rfl)
          try simp only [Act.put]
          refine wpE_take 2 ⟨some 43, _, _, _, _, _⟩ (v := ?_) [3, 4] rfl (by kernel_rfl) (by kernel_rfl) (by kernel_rfl) (by kernel_rfl) (fun _ _ _ h => h) hS (Or.inl ⟨by rfl, ?_⟩) ?_
          rotate_left
          · (intro V hSw; go_simp; try with_reducible rfl)
          try simp only [Act.put]
          refine wpE_take 3 ⟨some 44, _, _, _, _, _⟩ (v := ?_) [4] rfl (by kernel_rfl) (by kernel_rfl) (by kernel_rfl) (by kernel_rfl) (fun _ _ _ h => h) hS (Or.inl ⟨by rfl, ?_⟩) ?_
          rotate_left
          · (intro V hSw; go_simp; try with_reducible rfl)
          try simp only [Act.put]
          refine wpE_last (by kernel_rfl) rfl (fun K' hK' => ?_)
          go_simp
          refine hK'.out _ _ ?_
          clear hK' K'
          refine wpE_done (by kernel_rfl) ?_ _
          go_wp2
          go_roundw
          case rel => exact ⟨k + 1, m + 1, by omega, by go_num, by first | rfl | trivial⟩
          case measure => simp [intOf]; omega
        · obtain rfl : K = k := by omega
          have hgo := HLF.out
          obtain ⟨z, hz⟩ : ∃ z, z = 2 ^ K := ⟨_, rfl⟩
          rw [← hz] at q hgo
          clear hz
          have hgo' : ¬ (z : Int) < (want : Int) := by omega
          have hd1 : decide ((z : Int) < (want : Int)) = false := decide_eq_false hgo'
          have hd2 : decide (z < want) = false := decide_eq_false (by omega)
          go_wp2_with fail
          have hS : (w5.drewN m).drew.cell? ⟨w.heap.size, 1, none⟩ = some (.int .i64 (want : Int)) := l51
          refine wp_region_E (fun V : World => V.cell? ⟨w.heap.size, 1, none⟩ = some (.int .i64 (want : Int))) 4 (by kernel_rfl) ?_
          refine wpE_take 0 ⟨some 41, _, _, _, _, _⟩ (v := ?_) [1, 4] rfl (by kernel_rfl) (by kernel_rfl) (by kernel_rfl) (by kernel_rfl) (fun _ _ _ h => h) hS (Or.inl ⟨by rfl, ?_⟩) ?_
          rotate_left
          · (intro V hSw; go_simp; try with_reducible rfl)
          try simp only [Act.put]
          refine wpE_take 1 ⟨some 42, _, _, _, _, _⟩ (v := ?_) [4] rfl (by kernel_rfl) (by kernel_rfl) (by kernel_rfl) (by kernel_rfl) (fun _ _ _ h => h) hS (Or.inl ⟨by rfl, ?_⟩) ?_
          rotate_left
          · (intro V hSw; go_simp; try with_reducible rfl)
          try simp only [Act.put]
          refine wpE_take 2 ⟨some 43, _, _, _, _, _⟩ (v := ?_) [3, 4] rfl (by kernel_rfl) (by kernel_rfl) (by kernel_rfl) (by kernel_rfl) (fun _ _ _ h => h) hS (Or.inl ⟨by rfl, ?_⟩) ?_
          rotate_left
          · (intro V hSw; go_simp; try with_reducible rfl)
          try simp only [Act.put]
          refine wpE_take 3 ⟨some 44, _, _, _, _, _⟩ (v := ?_) [4] rfl (by kernel_rfl) (by kernel_rfl) (by kernel_rfl) (by kernel_rfl) (fun _ _ _ h => h) hS (Or.inl ⟨by rfl, ?_⟩) ?_
          rotate_left
          · (intro V hSw; go_simp; try with_reducible rfl)
          try simp only [Act.put]
          refine wpE_last (by kernel_rfl) rfl (fun K' hK' => ?_)
          go_simp
          refine hK'.out _ _ ?_
          clear hK' K'
          refine wpE_done (by kernel_rfl) ?_ _
          have hB6 : Below w5.heap.size w5 (w5.drewN (m + 1)) := ⟨rfl, rfl, rfl, Nat.le_refl _, fun _ _ => rfl⟩
          have hrow6 : (w5.drewN (m + 1)).heap[M]? = _ := HROW.out
          have hsp6 : (w5.drewN (m + 1)).heap[w3.heap.size]? = _ := HR5.out
          have g1 : (w5.drewN (m + 1)).cell? ⟨w.heap.size, 1, none⟩ = some (.int .i64 (want : Int)) := l51
          obtain ⟨w6, hw6⟩ : ∃ w6, w6 = (w5.drewN (m + 1)) := ⟨_, rfl⟩
          rw [← hw6] at hB6 hrow6 hsp6 g1 ⊢
          have HR6 := Lib.hid hrow6; clear hrow6
          have HS6 := Lib.hid hsp6; clear hsp6
          have HF6 := Lib.hid (HF5.out.trans (hB6.mono HF5.out.size)); clear hB6
          clear hw6 hS l51 q
          go_wp2_with fail
          go_loopw [11, 12] (fun b i V => ∃ (j : Nat) (best : Int), j ≤ 7 ∧ i = .int .i64 (j : Int) ∧ b = .int .i64 best ∧ Bst CL j best ∧ V = w6) (fun b i _ => 7 - (intOf i).toNat)
          case atStart => exact ⟨0, -1, by omega, by first | trivial | rfl, by first | trivial | rfl, .inl ⟨rfl, fun t ht => by omega⟩, by first | trivial | rfl⟩
          case round =>
            obtain ⟨j, best, hj, rfl, rfl, hbst, hV⟩ := hrel
            have hV' : w6 = _ := hV.symm
            subst hV'
            clear hV
            by_cases hltj : j < 7
            · have hltj' : (j : Int) < 7 := by omega
              have hj0 : (0 : Int) ≤ (j : Int) := by omega
              have c0 : w6.cell? ⟨M, j, none⟩ = some (.int .i64 (many CL j : Int)) := (cell_of_row w6 M j _ _ _ HR6.out).trans (cnts_get _ _ (by omega))
              have hnext1 : 0 < many CL j → Bst CL (j + 1) (j : Int) := fun hp => .inr ⟨j, rfl, by omega, hp, fun t h1 h2 => by omega⟩
              have hnext0 : many CL j = 0 → Bst CL (j + 1) best := fun hp => by
                rcases hbst with ⟨e, h⟩ | ⟨k', e, h1, h2, h3⟩
                · exact .inl ⟨e, fun t ht => by rcases (show t < j ∨ t = j by omega) with h' | h'; exact h t h'; rw [h']; exact hp⟩
                · exact .inr ⟨k', e, by omega, h2, fun t g1 g2 => by rcases (show t < j ∨ t = j by omega) with h' | h'; exact h3 t g1 h'; rw [h']; exact hp⟩
              have HN1 := Lib.hid hnext1; clear hnext1
              have HN0 := Lib.hid hnext0; clear hnext0 hbst
              generalize many CL j = y at *
              by_cases hy : 0 < y
              · have hy' : (y : Int) > 0 := by omega
                have hn := HN1.out hy
                have HN := Lib.hid hn; clear hn HN1 HN0
                go_wp2
                go_roundw
                case rel => exact ⟨j + 1, (j : Int), by omega, by go_num, rfl, HN.out, by trivial⟩
                case measure => simp [intOf]; omega
              · have hy' : ¬ (y : Int) > 0 := by omega
                have hn := HN0.out (by omega)
                have HN := Lib.hid hn; clear hn HN1 HN0
                go_wp2
                go_roundw
                case rel => exact ⟨j + 1, best, by omega, by go_num, rfl, HN.out, by trivial⟩
                case measure => simp [intOf]; omega
            · have hltj' : ¬ (j : Int) < 7 := by omega
              obtain rfl : j = 7 := by omega
              obtain ⟨t, rfl, ht6, hot⟩ := HBO.out _ hbst
              clear hbst
              have q1 : ∀ (ts : Array TypeId) (ty : TypeId) (W : World), (Builtin.min_ ts ty #[.int .i64 (K : Int), .int .i64 (t : Int)]).run Try.prog W = .ok (.int .i64 (o : Int)) W := fun ts ty W => by
                rw [run_min_int2]
                congr 2
                split <;> omega
              have ho6 : o ≤ 6 := by omega
              have q2 := run_shl1 o (by omega)
              have hLe := HL.out
              have hds := HDS.out
              have hzo := Nat.two_pow_pos o
              obtain ⟨zo, hzo'⟩ : ∃ zo, zo = 2 ^ o := ⟨_, rfl⟩
              rw [← hzo'] at q2 hLe hds hzo
              have q3 : ∀ (ts : Array TypeId) (ty : TypeId) (W : World), (Builtin.min_ ts ty #[.int .i64 (want : Int), .int .i64 (zo : Int)]).run Try.prog W = .ok (.int .i64 (L : Int)) W := fun ts ty W => by
                rw [run_min_int2]
                congr 2
                split <;> omega
              have q4 := run_remZ s zo hzo
              rw [Nat.mod_eq_zero_of_dvd hds] at q4
              have q4' : ∀ W : World, (remN (.int .i64 (s : Int)) (.int .i64 (zo : Int))).run Try.prog W = .ok (.int .i64 0) W := q4
              have d0 : w6.cell? ⟨w3.heap.size, 0, none⟩ = some (.int .i64 (s : Int)) := cell_of_row w6 _ 0 _ _ _ HS6.out
              have d1 : w6.cell? ⟨w3.heap.size, 1, none⟩ = some (.int .i64 (L : Int)) := cell_of_row w6 _ 1 _ _ _ HS6.out
              clear q4 hzo' hds hLe hot
              go_wp2
              go_ret
              exact ⟨rfl, HF6.out⟩

theorem walks : Walks 8 Try.f8 All := by
  intro H enc W base args ds p hval hA hsz _
  rw [Try.params8] at hA hval hsz
  obtain ⟨v0, vs0, d0, ds0, p0, q0, hargs, rfl, rfl, h0, r0⟩ := trodAll_cons hA
  obtain ⟨v1, vs1, d1, ds1, p1, q1, rfl, rfl, rfl, h1, r1⟩ := trodAll_cons r0
  obtain ⟨rfl, rfl, rfl⟩ := trodAll_nil r1
  obtain rfl : args = #[v0, v1] := by cases args; simp_all
  obtain ⟨A, n, c, bs, rfl, hb, hn, hc⟩ := open_bytesC (hval 0 _ v0 rfl rfl) h0 _ (reach_bytes hsz (j := 0) rfl rfl)
  obtain ⟨x, y, z, rfl, hx, hy, hz⟩ := open_wish (hval 1 _ v1 rfl rfl) h1
  exact walk A n c bs x y z W hb hn hc hz.2

set_option maxRecDepth 100000 in
theorem proved : Rows.BuddyBestSaid :=
  OpenClaim.holds_of_wide 8 Try.f8 rfl rfl rfl rfl rfl rfl rfl ⟨rfl, rfl, rfl, rfl, rfl⟩ rfl rfl rfl rfl rfl (by kernel_rfl) Try.func8 (by kernel_rfl)
    (of_decide_eq_true (by kernel_rfl)) (by unfold Func.isWrapper; first | (rw [if_pos (by decide +kernel)]; kernel_rfl) | (rw [if_neg (by decide +kernel)]; exact ⟨rfl, rfl⟩))
    (fun os started H enc _ => lifted (s := Rows.buddyBestSpec) walks (by kernel_rfl) rfl rfl (fun H ds hl => by match ds, hl with | [d1, d2], _ => rfl) (by kernel_rfl) Try.func8 os started H enc
      (ChangeSpec.witness6 (enc := enc) (C := Try.checked) false ⟨#[], #[.slice none 0 0, .agg #[.int .i64 0, .int .i64 0, .int .i64 0]], []⟩ 8 (by kernel_rfl) (by kernel_rfl) (by kernel_rfl) (by kernel_rfl)))
#print axioms proved
end Go.Proofs.Ytnkiblifnknbkaa.BuddyBest
