/- Roots and nodes read: the program's calls. -/
import Derived.Test.YtkhenchhafmlmaaExBack
namespace Go.Proofs.Ytkhenchhafmlmaa.Ex
set_option maxRecDepth 20000
open Go Go.RowKit
open Go.Proofs.Ytkhenchhafmlmaa.Mem Go.Proofs.Ytkhenchhafmlmaa.Crc Go.Proofs.Ytkhenchhafmlmaa.Rec Go.Proofs.Ytkhenchhafmlmaa.Reg
attribute [local go_sem ↓] ldX_eq stX_eq

theorem numberAt_any (A : Option Addr) (n c B : Nat) (bs : List UInt8) (w : World) (h : Holds w B A n bs) (hn : n ≤ 4) :
    Calls Try.prog 73 #[.slice A n c] w fun e w' => e = .returned (.int .i64 (numAt bs n : Int)) ∧ w = w' := by
  have hlt := numAt_lt bs n
  have hp : 2 ^ (8 * n) ≤ 2 ^ 32 := Nat.pow_le_pow_right (by omega) (by omega)
  obtain ⟨N, hN⟩ : ∃ N, numAt bs n = N := ⟨_, rfl⟩
  rw [hN] at hlt ⊢
  have hw : IntKind.i64.wrap (N : Int) = (N : Int) := by rw [IntKind.wrap_i64]; omega
  have HN := Lib.hid hN; clear hN hlt hp
  have H := Lib.hid h; clear h
  go_enter Try.func73, Try.ntmps73
  go_wp2_with fail
  with_reducible refine (number_any A n c B bs w H.out (by omega)).mono ?_
  rintro e w1 ⟨rfl, rfl⟩
  rw [HN.out]
  go_wp2
  go_ret
  exact ⟨rfl, rfl⟩
theorem run_slice_part (W : World) (a off N c l m : Nat) (i j : Int) (hi : i = (l : Int)) (hj : j = ((l + m : Nat) : Int)) (hl : l + m ≤ N) (h0 : 0 < m) (hc : N ≤ c) :
    (Instr.slice 46 (.slice (some ⟨a, off, none⟩) N c) (some (.int .i64 i)) (some (.int .i64 j)) none).run Try.prog W = .ok (.slice (some ⟨a, off + l, none⟩) m (c - l)) W := by
  subst hi hj
  have h := run_slice_lh (P := Try.prog) W 46 (some ⟨a, off, none⟩) N c (by rw [Try.underlying46]; rfl) .i64 .i64 (l : Int) ((l + m : Nat) : Int) (by omega) (by omega) (by omega)
  rw [h]
  have hs : (sizeOf (Try.prog.elem 46)).run Try.prog W = .ok 1 W := by rfl
  rw [hs]
  simp only [Result.andThen, sliced, Int.toNat_natCast]
  rw [if_neg (by omega)]
  simp [Addr.add_mid]
theorem run_sliceAt_part (W : World) (a off N c l m : Nat) (i j : Int) (hi : i = (l : Int)) (hj : j = ((l + m : Nat) : Int)) (hl : l + m ≤ N) (h0 : 0 < m) (hc : N ≤ c) :
    (Instr.sliceAt 46 (.slice (some ⟨a, off, none⟩) N c) (some (.int .i64 i)) (some (.int .i64 j)) none).run Try.prog W = .ok (.slice (some ⟨a, off + l, none⟩) m (c - l)) W := by
  rw [run_sliceAt_slice (P := Try.prog) W 46 _ _ _ _ (by rw [Try.underlying46]; rfl)]
  exact run_slice_part W a off N c l m i j hi hj hl h0 hc

set_option maxRecDepth 100000 in
set_option maxHeartbeats 4000000 in
theorem told_any (b0 off c B : Nat) (e : List UInt8) (w : World) (h : Holds w B (some ⟨b0, off, none⟩) 12 e) (hB : B ≤ w.heap.size) (hc : 12 ≤ c) :
    Calls Try.prog 74 #[.slice (some ⟨b0, off, none⟩) 12 c] w fun E w' => E = .returned (.agg (toldX e).c) ∧ Below w.heap.size w w' := by
  obtain ⟨W, hW⟩ : ∃ W, W = w.alloc (.cells #[.int .i64 0, .int .i64 0, .int .i64 0, .bool false] 24) := ⟨_, rfl⟩
  have hbw : Below w.heap.size w W := by rw [hW]; exact (Below.refl _ _).alloc (Nat.le_refl _) _
  have hvx : VarX W w.heap.size x0 := by rw [hW]; exact VarX.new w x0
  have hsl : ∀ l m : Nat, ∀ i j : Int, i = (l : Int) → j = ((l + m : Nat) : Int) → l + m ≤ 12 → 0 < m → ∀ V, (Instr.slice 46 (.slice (some ⟨b0, off, none⟩) 12 c) (some (.int .i64 i)) (some (.int .i64 j)) none).run Try.prog V = .ok (.slice (some ⟨b0, off + l, none⟩) m (c - l)) V ∧ (Instr.sliceAt 46 (.slice (some ⟨b0, off, none⟩) 12 c) (some (.int .i64 i)) (some (.int .i64 j)) none).run Try.prog V = .ok (.slice (some ⟨b0, off + l, none⟩) m (c - l)) V :=
    fun l m i j h1 h2 h3 h4 V => ⟨run_slice_part V b0 off 12 c l m i j h1 h2 h3 h4 hc, run_sliceAt_part V b0 off 12 c l m i j h1 h2 h3 h4 hc⟩
  have SL0 := Lib.hid (hsl 0 4 0 4 (by omega) (by omega) (by omega) (by omega))
  have SL4 := Lib.hid (hsl 4 4 4 8 (by omega) (by omega) (by omega) (by omega))
  have SL8 := Lib.hid (hsl 8 2 8 10 (by omega) (by omega) (by omega) (by omega))
  have SL10 := Lib.hid (hsl 10 2 10 12 (by omega) (by omega) (by omega) (by omega))
  have hcall : ∀ l m : Nat, l + m ≤ 12 → m ≤ 4 → ∀ V, Below w.heap.size w V → Calls Try.prog 73 #[.slice (some ⟨b0, off + l, none⟩) m (c - l)] V fun E w' => E = .returned (.int .i64 (nm e l m : Int)) ∧ V = w' :=
    fun l m h1 h2 V hV => numberAt_any _ m _ B _ V ((Holds.drop (k := l) (m := m) h h1).below (hV.mono hB)) h2
  obtain ⟨N1, hN1⟩ : ∃ N, N = nm e 0 4 := ⟨_, rfl⟩
  obtain ⟨N2, hN2⟩ : ∃ N, N = nm e 4 4 := ⟨_, rfl⟩
  obtain ⟨N3, hN3⟩ : ∃ N, N = nm e 8 2 := ⟨_, rfl⟩
  obtain ⟨N4, hN4⟩ : ∃ N, N = nm e 10 2 := ⟨_, rfl⟩
  have HC0 : Hid (∀ V, Below w.heap.size w V → Calls Try.prog 73 #[.slice (some ⟨b0, off + 0, none⟩) 4 (c - 0)] V fun E w' => E = .returned (.int .i64 (N1 : Int)) ∧ V = w') := Lib.hid (by rw [hN1]; exact hcall 0 4 (by omega) (by omega))
  have HC4 : Hid (∀ V, Below w.heap.size w V → Calls Try.prog 73 #[.slice (some ⟨b0, off + 4, none⟩) 4 (c - 4)] V fun E w' => E = .returned (.int .i64 (N2 : Int)) ∧ V = w') := Lib.hid (by rw [hN2]; exact hcall 4 4 (by omega) (by omega))
  have HC8 : Hid (∀ V, Below w.heap.size w V → Calls Try.prog 73 #[.slice (some ⟨b0, off + 8, none⟩) 2 (c - 8)] V fun E w' => E = .returned (.int .i64 (N3 : Int)) ∧ V = w') := Lib.hid (by rw [hN3]; exact hcall 8 2 (by omega) (by omega))
  have HC10 : Hid (∀ V, Below w.heap.size w V → Calls Try.prog 73 #[.slice (some ⟨b0, off + 10, none⟩) 2 (c - 10)] V fun E w' => E = .returned (.int .i64 (N4 : Int)) ∧ V = w') := Lib.hid (by rw [hN4]; exact hcall 10 2 (by omega) (by omega))
  obtain ⟨Y, hY⟩ : ∃ Y : X, Y = toldX e := ⟨_, rfl⟩
  have hyc : Y.c = #[.int .i64 (N1 : Int), .int .i64 (N2 : Int), .int .i64 (N3 : Int), .bool ((N4 : Int) != 0)] := by
    rw [hY]
    unfold toldX X.c
    rw [hN1, hN2, hN3, hN4]
    have hb : decide (nm e 10 2 ≠ 0) = ((nm e 10 2 : Int) != 0) := by
      by_cases h0 : nm e 10 2 = 0
      · rw [h0]; rfl
      · rw [decide_eq_true h0]
        exact (bne_iff_ne.2 (by omega)).symm
    rw [← hb]
  have HY := Lib.hid hY
  have HBW := Lib.hid hbw; clear hbw
  have HVX := Lib.hid hvx; clear hvx
  have HYC := Lib.hid hyc
  rw [← hY]
  have HWE := Lib.hid hW; clear hW hyc hY hN1 hN2 hN3 hN4 hsl hcall h
  go_enter Try.func74, Try.ntmps74
  go_wp2_with fail
  rw [← HWE.out]
  refine wp_region_E (fun V => Below w.heap.size w V) 99 rfl ?_
  have hS := (show Below w.heap.size w W.drew from HBW.out.drew)
  refine wpE_takeF 0 ⟨some 3, _, _, _, _, _⟩ (v := ?_) (by decide) rfl (by kernel_rfl) (by kernel_rfl) (by kernel_rfl) (fun _ _ _ h => h) hS (Or.inl ⟨by kernel_rfl, ?_⟩) ?_
  rotate_left
  · (intro V hSw; go_simp; try with_reducible rfl)
  try simp only [Act.put]
  refine wpE_takeF 1 ⟨some 4, _, _, _, _, _⟩ (v := ?_) (by decide) rfl (by kernel_rfl) (by kernel_rfl) (by kernel_rfl) (fun _ _ _ h => h) hS (Or.inl ⟨by kernel_rfl, ?_⟩) ?_
  rotate_left
  · (intro V hSw; have hq := SL0.out V; go_simp; try with_reducible rfl)
  try simp only [Act.put]
  refine wpE_takeCF 2 ⟨some 5, _, _, _, _, _⟩ (v := .int .i64 (N1 : Int)) (by decide) rfl (by kernel_rfl) (by kernel_rfl) (by kernel_rfl) (fun _ _ _ h => h) hS (yieldsC_of (by kernel_rfl) 73 _ _ _ _ rfl Try.func73 (by kernel_rfl) rfl #[.slice (some ⟨b0, off + 0, none⟩) 4 (c - 0)] ?hv HC0.out) ?_
  case hv => simp only [List.map_toArray, List.map_cons, List.map_nil]; go_simp
  try simp only [Act.put]
  refine wpE_takeF 3 ⟨some 6, _, _, _, _, _⟩ (v := ?_) (by decide) rfl (by kernel_rfl) (by kernel_rfl) (by kernel_rfl) (fun _ _ _ h => h) hS (Or.inl ⟨by kernel_rfl, ?_⟩) ?_
  rotate_left
  · (intro V hSw; go_simp; try with_reducible rfl)
  try simp only [Act.put]
  refine wpE_takeF 4 ⟨some 7, _, _, _, _, _⟩ (v := ?_) (by decide) rfl (by kernel_rfl) (by kernel_rfl) (by kernel_rfl) (fun _ _ _ h => h) hS (Or.inl ⟨by kernel_rfl, ?_⟩) ?_
  rotate_left
  · (intro V hSw; have hq := SL4.out V; go_simp; try with_reducible rfl)
  try simp only [Act.put]
  refine wpE_takeCF 5 ⟨some 8, _, _, _, _, _⟩ (v := .int .i64 (N2 : Int)) (by decide) rfl (by kernel_rfl) (by kernel_rfl) (by kernel_rfl) (fun _ _ _ h => h) hS (yieldsC_of (by kernel_rfl) 73 _ _ _ _ rfl Try.func73 (by kernel_rfl) rfl #[.slice (some ⟨b0, off + 4, none⟩) 4 (c - 4)] ?hv HC4.out) ?_
  case hv => simp only [List.map_toArray, List.map_cons, List.map_nil]; go_simp
  try simp only [Act.put]
  refine wpE_takeF 6 ⟨some 9, _, _, _, _, _⟩ (v := ?_) (by decide) rfl (by kernel_rfl) (by kernel_rfl) (by kernel_rfl) (fun _ _ _ h => h) hS (Or.inl ⟨by kernel_rfl, ?_⟩) ?_
  rotate_left
  · (intro V hSw; go_simp; try with_reducible rfl)
  try simp only [Act.put]
  refine wpE_takeF 7 ⟨some 10, _, _, _, _, _⟩ (v := ?_) (by decide) rfl (by kernel_rfl) (by kernel_rfl) (by kernel_rfl) (fun _ _ _ h => h) hS (Or.inl ⟨by kernel_rfl, ?_⟩) ?_
  rotate_left
  · (intro V hSw; have hq := SL8.out V; go_simp; try with_reducible rfl)
  try simp only [Act.put]
  refine wpE_takeCF 8 ⟨some 11, _, _, _, _, _⟩ (v := .int .i64 (N3 : Int)) (by decide) rfl (by kernel_rfl) (by kernel_rfl) (by kernel_rfl) (fun _ _ _ h => h) hS (yieldsC_of (by kernel_rfl) 73 _ _ _ _ rfl Try.func73 (by kernel_rfl) rfl #[.slice (some ⟨b0, off + 8, none⟩) 2 (c - 8)] ?hv HC8.out) ?_
  case hv => simp only [List.map_toArray, List.map_cons, List.map_nil]; go_simp
  try simp only [Act.put]
  refine wpE_takeF 9 ⟨some 12, _, _, _, _, _⟩ (v := ?_) (by decide) rfl (by kernel_rfl) (by kernel_rfl) (by kernel_rfl) (fun _ _ _ h => h) hS (Or.inl ⟨by kernel_rfl, ?_⟩) ?_
  rotate_left
  · (intro V hSw; go_simp; try with_reducible rfl)
  try simp only [Act.put]
  refine wpE_takeF 10 ⟨some 13, _, _, _, _, _⟩ (v := ?_) (by decide) rfl (by kernel_rfl) (by kernel_rfl) (by kernel_rfl) (fun _ _ _ h => h) hS (Or.inl ⟨by kernel_rfl, ?_⟩) ?_
  rotate_left
  · (intro V hSw; have hq := SL10.out V; go_simp; try with_reducible rfl)
  try simp only [Act.put]
  refine wpE_takeCF 11 ⟨some 14, _, _, _, _, _⟩ (v := .int .i64 (N4 : Int)) (by decide) rfl (by kernel_rfl) (by kernel_rfl) (by kernel_rfl) (fun _ _ _ h => h) hS (yieldsC_of (by kernel_rfl) 73 _ _ _ _ rfl Try.func73 (by kernel_rfl) rfl #[.slice (some ⟨b0, off + 10, none⟩) 2 (c - 10)] ?hv HC10.out) ?_
  case hv => simp only [List.map_toArray, List.map_cons, List.map_nil]; go_simp
  try simp only [Act.put]
  refine wpE_takeF 12 ⟨some 15, _, _, _, _, _⟩ (v := ?_) (by decide) rfl (by kernel_rfl) (by kernel_rfl) (by kernel_rfl) (fun _ _ _ h => h) hS (Or.inl ⟨by kernel_rfl, ?_⟩) ?_
  rotate_left
  · (intro V hSw; go_simp; try with_reducible rfl)
  try simp only [Act.put]
  refine wpE_takeF 13 ⟨some 16, _, _, _, _, _⟩ (v := ?_) (by decide) rfl (by kernel_rfl) (by kernel_rfl) (by kernel_rfl) (fun _ _ _ h => h) hS (Or.inl ⟨by kernel_rfl, ?_⟩) ?_
  rotate_left
  · (intro V hSw; go_simp; try with_reducible rfl)
  try simp only [Act.put]
  obtain ⟨V3, hst, hv3, hb3⟩ := run_stX_at W.drew w.heap.size Y x0 (show VarX W.drew w.heap.size x0 from HVX.out)
  rw [HYC.out] at hst
  have hS3 : Below w.heap.size w V3 := HBW.out.drew.trans (hb3 _ (Nat.le_refl _))
  have HB3 := Lib.hid hS3
  have HV3 := Lib.hid hv3; clear hv3 hb3
  refine wpE_one 14 (by kernel_rfl) rfl (fun K' hK' => ?_)
  go_simp
  refine hK'.out _ _ hS3 (fun _ => ?_)
  clear hK' K'
  try simp only [Act.put]
  refine wpE_done (by kernel_rfl) ?_ _
  try simp only [List.setIfInBounds_toArray, List.set_cons_succ, List.set_cons_zero]
  go_wp2
  exact bodyPost_ret (results_x rfl _ _ w.heap.size Y rfl HV3.out) rfl ⟨rfl, HB3.out⟩

theorem toldX_sm (e : List UInt8) : (toldX e).rep := by
  have h : ∀ k m, m ≤ 4 → (nm e k m : Int) ≤ 4294967295 := fun k m hm => by
    have h1 := numAt_lt ((e.drop k).take m) m
    have h2 : 2 ^ (8 * m) ≤ 2 ^ 32 := Nat.pow_le_pow_right (by omega) (by omega)
    unfold nm
    omega
  unfold toldX
  refine ⟨?_, ?_, ?_⟩
  · have := h 0 4 (by omega); exact ⟨by dsimp only; omega, by dsimp only; omega⟩
  · have := h 4 4 (by omega); exact ⟨by dsimp only; omega, by dsimp only; omega⟩
  · have := h 8 2 (by omega); exact ⟨by dsimp only; omega, by dsimp only; omega⟩
theorem held_rep (b : List UInt8) (m : Nat) : ∀ x ∈ heldL b m, x.rep := fun x hx => by
  unfold heldL at hx
  split at hx
  · cases hx
  · obtain ⟨j, -, rfl⟩ := List.mem_map.1 hx
    exact toldX_sm _
theorem run_slice_from (W : World) (a off N c l : Nat) (i : Int) (hi : i = (l : Int)) (hl : l < N) (hc : N ≤ c) :
    (Instr.slice 46 (.slice (some ⟨a, off, none⟩) N c) (some (.int .i64 i)) none none).run Try.prog W = .ok (.slice (some ⟨a, off + l, none⟩) (N - l) (c - l)) W := by
  subst hi
  have h := run_slice_l (P := Try.prog) W 46 (some ⟨a, off, none⟩) N c (by rw [Try.underlying46]; rfl) .i64 (l : Int) (by omega) (by omega)
  rw [h]
  have hs : (sizeOf (Try.prog.elem 46)).run Try.prog W = .ok 1 W := by rfl
  rw [hs]
  simp only [Result.andThen, sliced, Int.toNat_natCast]
  rw [if_neg (by omega)]
  simp [Addr.add_mid]
theorem run_slice_upto (W : World) (a off N c m : Nat) (j : Int) (hj : j = (m : Int)) (hl : m ≤ c) (h0 : 0 < c) :
    (Instr.slice 46 (.slice (some ⟨a, off, none⟩) N c) none (some (.int .i64 j)) none).run Try.prog W = .ok (.slice (some ⟨a, off, none⟩) m c) W := by
  subst hj
  have h := run_slice_h (P := Try.prog) W 46 (some ⟨a, off, none⟩) N c (by rw [Try.underlying46]; rfl) .i64 (m : Int) (by omega) (by omega)
  rw [h]
  have hs : (sizeOf (Try.prog.elem 46)).run Try.prog W = .ok 1 W := by rfl
  rw [hs]
  simp only [Result.andThen, sliced, Int.toNat_natCast]
  rw [if_neg (by omega)]
  simp [Addr.add_mid]

set_option maxRecDepth 100000 in
set_option maxHeartbeats 4000000 in
theorem held_any (b0 off N c B m : Nat) (b : List UInt8) (w : World) (h : Holds w B (some ⟨b0, off, none⟩) N b) (hB : B ≤ w.heap.size) (hc : N ≤ c) (hm : 4 + m * 12 ≤ N) (hm2 : m ≤ 20) :
    Calls Try.prog 54 #[.slice (some ⟨b0, off, none⟩) N c, .int .i64 (m : Int)] w fun E w' => ∃ A' c', E = .returned (.slice A' (heldL b m).length c') ∧ OwnX w' w.heap.size (.slice A' (heldL b m).length c') (heldL b m) ∧ Below w.heap.size w w' := by
  have hs := run_slice_part w b0 off N c 0 2 0 2 (by omega) (by omega) (by omega) (by omega) hc
  have hn := numberAt_any (some ⟨b0, off + 0, none⟩) 2 (c - 0) B _ w (Holds.drop (k := 0) (m := 2) h (by omega)) (by omega)
  obtain ⟨K, hK⟩ : ∃ K, K = nm b 0 2 := ⟨_, rfl⟩
  have hn' : Calls Try.prog 73 #[.slice (some ⟨b0, off, none⟩) 2 c] w fun E w' => E = .returned (.int .i64 (K : Int)) ∧ w = w' := by rw [hK]; exact hn
  unfold heldL
  rw [← hK]
  have HN := Lib.hid hn'; clear hn' hn hK
  rcases Nat.lt_or_ge m K with hlt | hge
  · rw [if_pos hlt]
    have hlt' : (m : Int) < (K : Int) := by omega
    clear h
    go_enter Try.func54, Try.ntmps54
    go_wp2_with fail
    with_reducible refine HN.out.mono ?_
    rintro E V ⟨rfl, rfl⟩
    go_wp2
    go_ret
    exact ⟨none, 0, rfl, OwnX.nil _ _, Below.refl _ _⟩
  · rw [if_neg (by omega)]
    have hge' : ¬ (m : Int) < (K : Int) := by omega
    have hdc : decide ((m : Int) < (K : Int)) = false := decide_eq_false hge'
    have hdn : decide (m < K) = false := decide_eq_false (by omega)
    obtain ⟨L, hL⟩ : ∃ L : List X, L = (List.range K).map fun j => toldX ((b.drop (4 + j * 12)).take 12) := ⟨_, rfl⟩
    have hLl : L.length = K := by rw [hL]; simp
    rw [← hL]
    have hLt : ∀ j, j < K → L.take (j + 1) = L.take j ++ [toldX ((b.drop (4 + j * 12)).take 12)] := fun j hj => by
      rw [List.take_succ_eq_append_getElem (by omega)]
      congr 2
      subst hL
      simp
    have H := Lib.hid h; clear h
    have HLT := Lib.hid hLt; clear hLt hL
    have HLL := Lib.hid hLl; clear hLl
    go_enter Try.func54, Try.ntmps54
    go_wp2_with fail
    with_reducible refine HN.out.mono ?_
    rintro E V ⟨rfl, rfl⟩
    clear hs
    go_wp2
    go_loopw [6, 15] (fun v i wr => ∃ (k : Nat) (A1 : Option Addr) (c1 : Nat), k ≤ K ∧ i = .int .i64 (k : Int) ∧ v = .slice A1 k c1 ∧ OwnX wr w.heap.size (.slice A1 k c1) (L.take k) ∧ Below w.heap.size w wr) (fun _ i _ => K - (intOf i).toNat)
    case atStart => exact ⟨0, none, 0, Nat.zero_le _, rfl, rfl, by rw [List.take_zero]; exact OwnX.nil _ _, Below.refl _ _⟩
    case round =>
      obtain ⟨k, A1, c1, hk, rfl, rfl, hown, hbr⟩ := hrel
      have HO := Lib.hid hown; clear hown
      have HBR := Lib.hid hbr; clear hbr
      rcases Nat.lt_or_ge k K with hlt | hge2
      · have hk0 : (0 : Int) ≤ (k : Int) := by omega
        have hkn : (k : Int) < (K : Int) := by omega
        obtain ⟨p, hp⟩ : ∃ p, p = 4 + k * 12 := ⟨_, rfl⟩
        have hwm : IntKind.i64.wrap ((k : Int) * 12) = (k : Int) * 12 := by rw [IntKind.wrap_i64]; omega
        have hwa : IntKind.i64.wrap (4 + (k : Int) * 12) = (p : Int) := by rw [IntKind.wrap_i64]; omega
        have hs1 := fun W => run_slice_from W b0 off N c p (p : Int) rfl (by omega) hc
        have hs2 := fun W => run_slice_upto W b0 (off + p) (N - p) (c - p) 12 12 rfl (by omega) (by omega)
        have hHd : Holds wr B (some ⟨b0, off + p, none⟩) 12 ((b.drop p).take 12) := Holds.drop (k := p) (m := 12) (H.out.below (HBR.out.mono hB)) (by omega)
        have htold := told_any b0 (off + p) (c - p) B _ wr hHd (by have := HBR.out.size; omega) (by omega)
        have hln := HLT.out k hlt
        rw [← hp] at hln
        obtain ⟨x, hx⟩ : ∃ x, x = toldX ((b.drop p).take 12) := ⟨_, rfl⟩
        rw [← hx] at htold hln
        have HTOLD := Lib.hid htold; clear htold
        have HLN := Lib.hid hln; clear hln
        have hKm : K ≤ 20 := by omega
        clear hHd hp hx
        obtain ⟨xa, xs, xn, xu⟩ := x
        replace HTOLD : Hid (Calls Try.prog 74 #[.slice (some ⟨b0, off + p, none⟩) 12 (c - p)] wr fun E w' => E = .returned (.agg #[.int .i64 xa, .int .i64 xs, .int .i64 xn, .bool xu]) ∧ Below wr.heap.size wr w') := HTOLD
        go_wp2_with fail
        with_reducible refine HTOLD.out.mono ?_
        rintro E V ⟨rfl, hb⟩
        have ho2 := HO.out.below (hb.mono (Nat.le_refl _))
        have HB2 : Hid (Below w.heap.size w V) := Lib.hid (HBR.out.trans (hb.mono HBR.out.size))
        obtain ⟨v', V', hrun, ho', hg⟩ := run_appX V w.heap.size _ _ ho2 ⟨xa, xs, xn, xu⟩ 22 (by rw [List.length_take]; omega) HB2.out.size
        rw [← HLN.out] at ho'
        have HB3 : Hid (Below w.heap.size w V') := Lib.hid (HB2.out.trans (hg.below HB2.out.size (fun g e => (ho2.lt g e).1)))
        obtain ⟨A2, c2, rfl⟩ := ho'.shape
        have hl2 : (L.take (k + 1)).length = k + 1 := by rw [List.length_take, HLL.out]; omega
        rw [hl2] at ho' hrun
        have HO' := Lib.hid ho'; clear ho'
        have hrun' : (Builtin.append_ #[22, 22] 22 #[.slice A1 k c1, .slice (some ⟨V.heap.size, 0, none⟩) 1 1]).run Try.prog (V.alloc (.cells #[.int .i64 xa, .int .i64 xs, .int .i64 xn, .bool xu] 24)) = .ok (.slice A2 (k + 1) c2) V' := hrun
        clear hrun hb ho2 hg hl2
        go_wp2_with (at_builtin; refine wpList_apprun rfl (.tmp 18) (.tmp 26) 22 22 rfl _ _ rfl rfl _ V' hrun' ?_)
        clear hrun'
        go_wp2
        go_roundw
        case rel => exact ⟨k + 1, A2, c2, by omega, by go_num, rfl, HO'.out, HB3.out⟩
        case measure => simp [intOf]; omega
      · have hkn : k = K := by omega
        subst hkn
        have hown := HO.out
        rw [List.take_of_length_le (by have := HLL.out; omega)] at hown
        have HO2 := Lib.hid hown; clear hown
        have hge3 : ¬ (k : Int) < (k : Int) := by omega
        go_wp2
        go_ret
        exact ⟨A1, c1, by rw [HLL.out]; rfl, by rw [HLL.out]; exact HO2.out, HBR.out⟩

theorem blks_len (b : List UInt8) (n : Nat) : (blksN b n).length = n := by unfold blksN; simp
theorem blks_range (b : List UInt8) (n : Nat) : ∀ x ∈ blksN b n, 0 ≤ x ∧ x ≤ 4294967295 := fun x hx => by
  unfold blksN at hx
  obtain ⟨j, -, rfl⟩ := List.mem_map.1 hx
  have h1 := numAt_lt ((b.drop (4 + j * 4)).take 4) 4
  unfold nm
  omega
theorem blks_take (b : List UInt8) (n j : Nat) (hj : j < n) : (blksN b n).take (j + 1) = (blksN b n).take j ++ [(nm b (4 + j * 4) 4 : Int)] := by
  rw [List.take_succ_eq_append_getElem (by rw [blks_len]; exact hj)]
  unfold blksN
  simp

set_option maxRecDepth 100000 in
set_option maxHeartbeats 4000000 in
theorem blocksOf_any (b0 off N c B : Nat) (b : List UInt8) (w : World) (h : Holds w B (some ⟨b0, off, none⟩) N b) (hB : B ≤ w.heap.size) (hc : N ≤ c) (hm : 16 ≤ N) :
    Calls Try.prog 56 #[.slice (some ⟨b0, off, none⟩) N c] w fun E w' => ∃ A' c', E = .returned (.slice A' (blksL b).length c') ∧ OwnI w' w.heap.size (.slice A' (blksL b).length c') (blksL b) ∧ Below w.heap.size w w' := by
  have hs := run_slice_part w b0 off N c 0 2 0 2 (by omega) (by omega) (by omega) (by omega) hc
  have hn := numberAt_any (some ⟨b0, off + 0, none⟩) 2 (c - 0) B _ w (Holds.drop (k := 0) (m := 2) h (by omega)) (by omega)
  obtain ⟨K, hK⟩ : ∃ K, K = nm b 0 2 := ⟨_, rfl⟩
  have hn' : Calls Try.prog 73 #[.slice (some ⟨b0, off, none⟩) 2 c] w fun E w' => E = .returned (.int .i64 (K : Int)) ∧ w = w' := by rw [hK]; exact hn
  unfold blksL
  rw [← hK]
  have HN := Lib.hid hn'; clear hn' hn hK
  rcases Nat.lt_or_ge 3 K with hlt | hge
  · rw [if_pos hlt]
    have hlt' : (3 : Int) < (K : Int) := by omega
    clear h
    go_enter Try.func56, Try.ntmps56
    go_wp2_with fail
    with_reducible refine HN.out.mono ?_
    rintro E V ⟨rfl, rfl⟩
    go_wp2
    go_ret
    exact ⟨none, 0, rfl, OwnI.nil _ _, Below.refl _ _⟩
  · rw [if_neg (by omega)]
    have hge' : ¬ (3 : Int) < (K : Int) := by omega
    have hLl := blks_len b K
    have hLt := fun j hj => blks_take b K j hj
    obtain ⟨L, hL⟩ : ∃ L, L = blksN b K := ⟨_, rfl⟩
    rw [← hL] at hLl hLt ⊢
    have H := Lib.hid h; clear h
    have HLT := Lib.hid hLt; clear hLt hL
    have HLL := Lib.hid hLl; clear hLl
    go_enter Try.func56, Try.ntmps56
    go_wp2_with fail
    with_reducible refine HN.out.mono ?_
    rintro E V ⟨rfl, rfl⟩
    clear hs
    go_wp2
    go_loopw [4, 12] (fun v i wr => ∃ (k : Nat) (A1 : Option Addr) (c1 : Nat), k ≤ K ∧ i = .int .i64 (k : Int) ∧ v = .slice A1 k c1 ∧ OwnI wr w.heap.size (.slice A1 k c1) (L.take k) ∧ Below w.heap.size w wr) (fun _ i _ => K - (intOf i).toNat)
    case atStart => exact ⟨0, none, 0, Nat.zero_le _, rfl, rfl, by rw [List.take_zero]; exact OwnI.nil _ _, Below.refl _ _⟩
    case round =>
      obtain ⟨k, A1, c1, hk, rfl, rfl, hown, hbr⟩ := hrel
      have HO := Lib.hid hown; clear hown
      have HBR := Lib.hid hbr; clear hbr
      rcases Nat.lt_or_ge k K with hlt | hge2
      · have hk0 : (0 : Int) ≤ (k : Int) := by omega
        have hkn : (k : Int) < (K : Int) := by omega
        obtain ⟨p, hp⟩ : ∃ p, p = 4 + k * 4 := ⟨_, rfl⟩
        have hwm : IntKind.i64.wrap ((k : Int) * 4) = (k : Int) * 4 := by rw [IntKind.wrap_i64]; omega
        have hwa : IntKind.i64.wrap (4 + (k : Int) * 4) = (p : Int) := by rw [IntKind.wrap_i64]; omega
        have hs1 := fun W => run_slice_from W b0 off N c p (p : Int) rfl (by omega) hc
        have hs2 := fun W => run_slice_upto W b0 (off + p) (N - p) (c - p) 4 4 rfl (by omega) (by omega)
        have hHd : Holds wr B (some ⟨b0, off + p, none⟩) 4 ((b.drop p).take 4) := Holds.drop (k := p) (m := 4) (H.out.below (HBR.out.mono hB)) (by omega)
        have htold := numberAt_any (some ⟨b0, off + p, none⟩) 4 (c - p) B _ wr hHd (by omega)
        have hln := HLT.out k hlt
        rw [← hp] at hln
        obtain ⟨x, hx⟩ : ∃ x, x = nm b p 4 := ⟨_, rfl⟩
        have htold' : Calls Try.prog 73 #[.slice (some ⟨b0, off + p, none⟩) 4 (c - p)] wr fun E w' => E = .returned (.int .i64 (x : Int)) ∧ wr = w' := by rw [hx]; exact htold
        rw [← hx] at hln
        have HTOLD := Lib.hid htold'; clear htold htold'
        have HLN := Lib.hid hln; clear hln
        clear hHd hp hx
        have ho2 := HO.out
        have ho3 : OwnI (wr.alloc (.cells #[.int .i64 (x : Int)] 3)) w.heap.size (.slice A1 k c1) (L.take k) := World.ownsRow.alloc ho2 _
        obtain ⟨v', V', hrun, ho', hg1, hg2⟩ := run_addI (wr.alloc (.cells #[.int .i64 (x : Int)] 3)) 45 w.heap.size _ _ ho3 (wr.heap.size + 1) (some ⟨wr.heap.size, 0, none⟩) 1 1 [(x : Int)] ⟨rfl, fun _ => ⟨wr.heap.size, 0, rfl, by omega, fun j hj => by
          have : j = 0 := by simpa using hj
          subst this
          rw [cell_of_row _ _ _ _ _ _ (heap_alloc_new wr _)]; rfl⟩⟩ (by rw [List.length_take]; omega) (by have := HBR.out.size; simp; omega)
        rw [← HLN.out] at ho'
        have HB3 : Hid (Below w.heap.size w V') := Lib.hid ((HBR.out.alloc HBR.out.size _).trans ((Below.refl _ _).grown hg1 (by have := HBR.out.size; simp; omega) (fun g e => (ho2.lt g e).1)))
        obtain ⟨A2, c2, rfl⟩ := ho'.shape
        have hl2 : (L.take (k + 1)).length = k + 1 := by rw [List.length_take, HLL.out]; omega
        rw [hl2] at ho' hrun
        have HO' := Lib.hid ho'; clear ho'
        clear ho2 ho3 hg1 hg2 hl2
        go_wp2_with fail
        with_reducible refine HTOLD.out.mono ?_
        rintro E V ⟨rfl, rfl⟩
        go_wp2_with (at_builtin; refine wpList_apprun rfl (.tmp 15) (.tmp 23) 45 45 rfl _ _ rfl rfl _ V' hrun ?_)
        clear hrun
        go_wp2
        go_roundw
        case rel => exact ⟨k + 1, A2, c2, by omega, by go_num, rfl, HO'.out, HB3.out⟩
        case measure => simp [intOf]; omega
      · have hkn : k = K := by omega
        subst hkn
        have hown := HO.out
        rw [List.take_of_length_le (by have := HLL.out; omega)] at hown
        have HO2 := Lib.hid hown; clear hown
        have hge3 : ¬ (k : Int) < (k : Int) := by omega
        go_wp2
        go_ret
        exact ⟨A1, c1, by rw [HLL.out]; rfl, by rw [HLL.out]; exact HO2.out, HBR.out⟩

def eqB (a b : List UInt8) : Bool := decide (a = b)
theorem equal_any (A A' : Option Addr) (n n' c c' B B' : Nat) (bs bs' : List UInt8) (w : World) (h : Holds w B A n bs) (h' : Holds w B' A' n' bs') :
    Calls Try.prog 55 #[.slice A n c, .slice A' n' c'] w fun e w' => e = .returned (.bool (eqB bs bs')) ∧ w = w' := by
  have t1 := run_text w B A n c bs h
  have t2 := run_text w B' A' n' c' bs' h'
  clear h h'
  unfold eqB
  by_cases heq : bs = bs'
  · subst heq
    go_enter Try.func55, Try.ntmps55
    go_wp2
    go_ret
    exact ⟨by simp, rfl⟩
  · have hne : (⟨bs.toArray⟩ : ByteArray) ≠ ⟨bs'.toArray⟩ := by
      intro e
      injection e with e
      exact heq (by simpa using congrArg Array.toList e)
    have hd : decide (bs = bs') = false := by simpa using heq
    go_enter Try.func55, Try.ntmps55
    go_wp2
    go_ret
    exact ⟨by simp [heq], rfl⟩
end Go.Proofs.Ytkhenchhafmlmaa.Ex
