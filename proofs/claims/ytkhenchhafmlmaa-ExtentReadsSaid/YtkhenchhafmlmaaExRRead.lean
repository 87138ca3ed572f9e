/- Roots and nodes read: the document's calls. -/
import Derived.Test.YtkhenchhafmlmaaExRead
import Derived.Test.YtkhenchhafmlmaaExRStore
import Derived.Test.YtkhenchhafmlmaaExInts
import Derived.Test.YtkhenchhafmlmaaRegC
namespace Go.Proofs.Ytkhenchhafmlmaa.Ex
set_option maxRecDepth 20000
open Go Go.RowKit
open Go.Proofs.Ytkhenchhafmlmaa.Mem Go.Proofs.Ytkhenchhafmlmaa.Crc Go.Proofs.Ytkhenchhafmlmaa.Rec Go.Proofs.Ytkhenchhafmlmaa.Reg
attribute [local go_sem ↓] ldX_eq stX_eq

set_option maxRecDepth 100000 in
theorem rat_any (b0 off N c B l m : Nat) (i j : Int) (bs : List UInt8) (w : World) (h : Holds w B (some ⟨b0, off, none⟩) N bs) (hc : N ≤ c) (hN : N ≤ 1048576) (hi : i = (l : Int)) (hj : j = (m : Int)) (h0 : 0 < m) (hm : m ≤ 4) (hl : l + m ≤ N) :
    Calls Try.prog 59 #[.slice (some ⟨b0, off, none⟩) N c, .int .i64 i, .int .i64 j] w fun e w' => e = .returned (.int .i64 (nm bs l m : Int)) ∧ w = w' := by
  subst hi hj
  have hd := Holds.drop (k := l) (m := m) h hl
  have hlt := numAt_lt ((bs.drop l).take m) m
  have hp : 2 ^ (8 * m) ≤ 2 ^ 32 := Nat.pow_le_pow_right (by omega) (by omega)
  unfold nm
  obtain ⟨M, hM⟩ : ∃ M, numAt ((bs.drop l).take m) m = M := ⟨_, rfl⟩
  rw [hM] at hlt ⊢
  have hw : IntKind.i64.wrap (M : Int) = (M : Int) := by rw [IntKind.wrap_i64]; omega
  have hs : IntKind.i64.wrap ((l : Int) + (m : Int)) = ((l + m : Nat) : Int) := by rw [IntKind.wrap_i64]; omega
  have q1 := fun W => run_slice_part W b0 off N c l m (l : Int) ((l + m : Nat) : Int) rfl rfl hl h0 hc
  have q2 := fun W => run_sliceAt_part W b0 off N c l m (l : Int) ((l + m : Nat) : Int) rfl rfl hl h0 hc
  obtain ⟨E, hE⟩ : ∃ E : Int, E = ((l + m : Nat) : Int) := ⟨_, rfl⟩
  rw [← hE] at hs
  simp only [← hE] at q1 q2
  have HM := Lib.hid hM; clear hM hlt hp
  have HD := Lib.hid hd; clear hd
  clear h hE hl h0 hc
  go_enter Try.func59, Try.ntmps59
  go_wp2_with fail
  with_reducible refine (refnumber_any _ m (c - l) B _ w HD.out (by omega)).mono ?_
  rintro e w1 ⟨rfl, rfl⟩
  rw [HM.out]
  go_wp2
  go_ret
  exact ⟨rfl, rfl⟩

set_option maxRecDepth 100000 in
set_option maxHeartbeats 8000000 in
theorem exts_any (b0 off N c B n : Nat) (b : List UInt8) (w : World) (h : Holds w B (some ⟨b0, off, none⟩) N b) (hB : B ≤ w.heap.size) (hc : N ≤ c) (hN : N ≤ 1048576) (hm : 4 + n * 12 ≤ N) :
    Calls Try.prog 58 #[.slice (some ⟨b0, off, none⟩) N c, .int .i64 4, .int .i64 (n : Int)] w fun E w' => ∃ A' c', E = .returned (.slice A' n c') ∧ OwnX w' w.heap.size (.slice A' n c') (extsR b 4 n) ∧ Below w.heap.size w w' := by
  have hLl : (extsR b 4 n).length = n := by unfold extsR; simp
  have hLt : ∀ j, j < n → (extsR b 4 n).take (j + 1) = (extsR b 4 n).take j ++ [toldR b (4 + 12 * j)] := fun j hj => by
    rw [List.take_succ_eq_append_getElem (by omega)]
    congr 2
    unfold extsR
    simp
  obtain ⟨L, hL⟩ : ∃ L, L = extsR b 4 n := ⟨_, rfl⟩
  rw [← hL] at hLl hLt ⊢
  have H := Lib.hid h; clear h
  have HLT := Lib.hid hLt; clear hLt hL
  have HLL := Lib.hid hLl; clear hLl
  go_enter Try.func58, Try.ntmps58
  go_wp2
  go_loopw [7, 8, 9] (fun v i _ wr => ∃ (k : Nat) (A1 : Option Addr) (c1 : Nat), k ≤ n ∧ i = .int .i64 (k : Int) ∧ v = .slice A1 k c1 ∧ OwnX wr w.heap.size (.slice A1 k c1) (L.take k) ∧ Below w.heap.size w wr) (fun _ i _ _ => n - (intOf i).toNat)
  case atStart => exact ⟨0, none, 0, Nat.zero_le _, rfl, rfl, by rw [List.take_zero]; exact OwnX.nil _ _, Below.refl _ _⟩
  case round =>
    obtain ⟨k, A1, c1, hk, rfl, rfl, hown, hbr⟩ := hrel
    have HO := Lib.hid hown; clear hown
    have HBR := Lib.hid hbr; clear hbr
    rcases Nat.lt_or_ge k n with hlt | hge2
    · have hk0 : (0 : Int) ≤ (k : Int) := by omega
      have hkn : (k : Int) < (n : Int) := by omega
      obtain ⟨q, hq⟩ : ∃ q, q = 4 + 12 * k := ⟨_, rfl⟩
      have hHw : ∀ V, Below w.heap.size w V → Holds V B (some ⟨b0, off, none⟩) N b := fun V hV => H.out.below (hV.mono hB)
      have hln := HLT.out k hlt
      rw [← hq] at hln
      have hat : ∀ l m : Nat, 0 < m → m ≤ 4 → l + m ≤ N → ∀ V, Below w.heap.size w V → Calls Try.prog 59 #[.slice (some ⟨b0, off, none⟩) N c, .int .i64 (l : Int), .int .i64 (m : Int)] V fun E w' => E = .returned (.int .i64 (nm b l m : Int)) ∧ V = w' :=
        fun l m h1 h2 h3 V hV => rat_any b0 off N c B l m _ _ b V (hHw V hV) hc hN rfl rfl h1 h2 h3
      obtain ⟨N1, hN1⟩ : ∃ N1, N1 = nm b q 4 := ⟨_, rfl⟩
      obtain ⟨N2, hN2⟩ : ∃ N2, N2 = nm b (q + 4) 4 := ⟨_, rfl⟩
      obtain ⟨N3, hN3⟩ : ∃ N3, N3 = nm b (q + 8) 2 := ⟨_, rfl⟩
      obtain ⟨q4, hq4⟩ : ∃ q4, q4 = q + 4 := ⟨_, rfl⟩
      obtain ⟨q8, hq8⟩ : ∃ q8, q8 = q + 8 := ⟨_, rfl⟩
      obtain ⟨q10, hq10⟩ : ∃ q10, q10 = q + 10 := ⟨_, rfl⟩
      have HC1 : Hid (∀ V, Below w.heap.size w V → Calls Try.prog 59 #[.slice (some ⟨b0, off, none⟩) N c, .int .i64 (q : Int), .int .i64 4] V fun E w' => E = .returned (.int .i64 (N1 : Int)) ∧ V = w') := Lib.hid (by rw [hN1]; exact hat q 4 (by omega) (by omega) (by omega))
      have HC2 : Hid (∀ V, Below w.heap.size w V → Calls Try.prog 59 #[.slice (some ⟨b0, off, none⟩) N c, .int .i64 (q4 : Int), .int .i64 4] V fun E w' => E = .returned (.int .i64 (N2 : Int)) ∧ V = w') := Lib.hid (by rw [hN2, hq4]; exact hat (q + 4) 4 (by omega) (by omega) (by omega))
      have HC3 : Hid (∀ V, Below w.heap.size w V → Calls Try.prog 59 #[.slice (some ⟨b0, off, none⟩) N c, .int .i64 (q8 : Int), .int .i64 2] V fun E w' => E = .returned (.int .i64 (N3 : Int)) ∧ V = w') := Lib.hid (by rw [hN3, hq8]; exact hat (q + 8) 2 (by omega) (by omega) (by omega))
      obtain ⟨b', off', e', hlt', hcell⟩ := H.out.2 (by omega)
      injection e' with e'
      injection e' with e1 e2
      subst e1 e2
      have hbl : b.length = N := H.out.1
      obtain ⟨u, hu⟩ : ∃ u, u = b.getD (q + 10) 0 := ⟨_, rfl⟩
      have hld : ∀ V, Below w.heap.size w V → V.cell? ⟨b0, off + q10, none⟩ = some (.int .u8 (u.toNat : Int)) := fun V hV => by
        have h1 := hcell (q + 10) (by omega)
        have h2 := (hV.mono hB).cell (p := ⟨b0, off + (q + 10), none⟩) hlt'
        rw [hq10, hu]
        refine h2.trans (h1.trans ?_)
        simp [List.getD, show q + 10 < b.length by omega]
      have hw1 : IntKind.i64.wrap (12 * (k : Int)) = 12 * (k : Int) := by rw [IntKind.wrap_i64]; omega
      have hw2 : IntKind.i64.wrap (4 + 12 * (k : Int)) = (q : Int) := by rw [IntKind.wrap_i64]; omega
      have hw3 : IntKind.i64.wrap ((q : Int) + 4) = (q4 : Int) := by rw [IntKind.wrap_i64]; omega
      have hw4 : IntKind.i64.wrap ((q : Int) + 8) = (q8 : Int) := by rw [IntKind.wrap_i64]; omega
      have hw5 : IntKind.i64.wrap ((q : Int) + 10) = (q10 : Int) := by rw [IntKind.wrap_i64]; omega
      have hq10b : (q10 : Int) < (N : Int) := by omega
      have hq10a : (0 : Int) ≤ (q10 : Int) := by omega
      have hub : ((u.toNat : Int) == 1) = decide (u = 1) := by
        by_cases hu1 : u = 1
        · subst hu1; rfl
        · rw [decide_eq_false hu1]
          refine beq_eq_false_iff_ne.2 fun e => hu1 (UInt8.toNat_inj.1 ?_)
          have : u.toNat = 1 := by omega
          simpa using this
      have htold : toldR b q = ⟨N1, N2, N3, (u.toNat : Int) == 1⟩ := by unfold toldR; rw [hN1, hN2, hN3, hub, hu]
      rw [htold] at hln
      have HLN := Lib.hid hln; clear hln
      have HLD := Lib.hid hld; clear hld
      have hx0 : Below wr.heap.size wr (wr.drew) := (Below.refl _ wr).drew
      have ho2 : OwnX wr.drew w.heap.size (.slice A1 k c1) (L.take k) := HO.out.below hx0
      obtain ⟨v', V', hrun, ho', hg⟩ := run_appX wr.drew w.heap.size _ _ ho2 ⟨N1, N2, N3, (u.toNat : Int) == 1⟩ 22 (by rw [List.length_take]; omega) HBR.out.drew.size
      rw [← HLN.out] at ho'
      have HB3 : Hid (Below w.heap.size w V') := Lib.hid (HBR.out.drew.trans (hg.below HBR.out.drew.size (fun g e => (ho2.lt g e).1)))
      obtain ⟨A2, c2, rfl⟩ := ho'.shape
      have hl2 : (L.take (k + 1)).length = k + 1 := by rw [List.length_take, HLL.out]; omega
      rw [hl2] at ho' hrun
      have HO' := Lib.hid ho'; clear ho'
      clear ho2 hg hl2 hx0 htold hub hu hN1 hN2 hN3 hat hHw hcell hbl
      have HQ := Lib.hid hq; clear hq hq4 hq8 hq10
      go_wp2_with fail
      refine wp_region_E (fun V => Below w.heap.size w V) 99 rfl ?_
      have hS := (show Below w.heap.size w wr.drew from HBR.out.drew)
      refine wpE_takeF 0 ⟨some 19, _, _, _, _, _⟩ (v := ?_) (by decide) rfl (by kernel_rfl) (by kernel_rfl) (by kernel_rfl) (fun _ _ _ h => h) hS (Or.inl ⟨by kernel_rfl, ?_⟩) ?_
      rotate_left
      · (intro V hSw; go_simp; try with_reducible rfl)
      try simp only [Act.put]
      refine wpE_takeF 1 ⟨some 20, _, _, _, _, _⟩ (v := ?_) (by decide) rfl (by kernel_rfl) (by kernel_rfl) (by kernel_rfl) (fun _ _ _ h => h) hS (Or.inl ⟨by kernel_rfl, ?_⟩) ?_
      rotate_left
      · (intro V hSw; go_simp; try with_reducible rfl)
      try simp only [Act.put]
      refine wpE_takeF 2 ⟨some 21, _, _, _, _, _⟩ (v := ?_) (by decide) rfl (by kernel_rfl) (by kernel_rfl) (by kernel_rfl) (fun _ _ _ h => h) hS (Or.inl ⟨by kernel_rfl, ?_⟩) ?_
      rotate_left
      · (intro V hSw; go_simp; try with_reducible rfl)
      try simp only [Act.put]
      refine wpE_takeCF 3 ⟨some 22, _, _, _, _, _⟩ (v := .int .i64 (N1 : Int)) (by decide) rfl (by kernel_rfl) (by kernel_rfl) (by kernel_rfl) (fun _ _ _ h => h) hS (yieldsC_of (by kernel_rfl) 59 _ _ _ _ rfl Try.func59 (by kernel_rfl) rfl #[.slice (some ⟨b0, off, none⟩) N c, .int .i64 (q : Int), .int .i64 4] ?hv HC1.out) ?_
      case hv => simp only [List.map_toArray, List.map_cons, List.map_nil]; go_simp
      try simp only [Act.put]
      refine wpE_takeF 4 ⟨some 23, _, _, _, _, _⟩ (v := ?_) (by decide) rfl (by kernel_rfl) (by kernel_rfl) (by kernel_rfl) (fun _ _ _ h => h) hS (Or.inl ⟨by kernel_rfl, ?_⟩) ?_
      rotate_left
      · (intro V hSw; go_simp; try with_reducible rfl)
      try simp only [Act.put]
      refine wpE_takeF 5 ⟨some 24, _, _, _, _, _⟩ (v := ?_) (by decide) rfl (by kernel_rfl) (by kernel_rfl) (by kernel_rfl) (fun _ _ _ h => h) hS (Or.inl ⟨by kernel_rfl, ?_⟩) ?_
      rotate_left
      · (intro V hSw; go_simp; try with_reducible rfl)
      try simp only [Act.put]
      refine wpE_takeF 6 ⟨some 25, _, _, _, _, _⟩ (v := ?_) (by decide) rfl (by kernel_rfl) (by kernel_rfl) (by kernel_rfl) (fun _ _ _ h => h) hS (Or.inl ⟨by kernel_rfl, ?_⟩) ?_
      rotate_left
      · (intro V hSw; go_simp; try with_reducible rfl)
      try simp only [Act.put]
      refine wpE_takeCF 7 ⟨some 26, _, _, _, _, _⟩ (v := .int .i64 (N2 : Int)) (by decide) rfl (by kernel_rfl) (by kernel_rfl) (by kernel_rfl) (fun _ _ _ h => h) hS (yieldsC_of (by kernel_rfl) 59 _ _ _ _ rfl Try.func59 (by kernel_rfl) rfl #[.slice (some ⟨b0, off, none⟩) N c, .int .i64 (q4 : Int), .int .i64 4] ?hv HC2.out) ?_
      case hv => simp only [List.map_toArray, List.map_cons, List.map_nil]; go_simp
      try simp only [Act.put]
      refine wpE_takeF 8 ⟨some 27, _, _, _, _, _⟩ (v := ?_) (by decide) rfl (by kernel_rfl) (by kernel_rfl) (by kernel_rfl) (fun _ _ _ h => h) hS (Or.inl ⟨by kernel_rfl, ?_⟩) ?_
      rotate_left
      · (intro V hSw; go_simp; try with_reducible rfl)
      try simp only [Act.put]
      refine wpE_takeF 9 ⟨some 28, _, _, _, _, _⟩ (v := ?_) (by decide) rfl (by kernel_rfl) (by kernel_rfl) (by kernel_rfl) (fun _ _ _ h => h) hS (Or.inl ⟨by kernel_rfl, ?_⟩) ?_
      rotate_left
      · (intro V hSw; go_simp; try with_reducible rfl)
      try simp only [Act.put]
      refine wpE_takeF 10 ⟨some 29, _, _, _, _, _⟩ (v := ?_) (by decide) rfl (by kernel_rfl) (by kernel_rfl) (by kernel_rfl) (fun _ _ _ h => h) hS (Or.inl ⟨by kernel_rfl, ?_⟩) ?_
      rotate_left
      · (intro V hSw; go_simp; try with_reducible rfl)
      try simp only [Act.put]
      refine wpE_takeCF 11 ⟨some 30, _, _, _, _, _⟩ (v := .int .i64 (N3 : Int)) (by decide) rfl (by kernel_rfl) (by kernel_rfl) (by kernel_rfl) (fun _ _ _ h => h) hS (yieldsC_of (by kernel_rfl) 59 _ _ _ _ rfl Try.func59 (by kernel_rfl) rfl #[.slice (some ⟨b0, off, none⟩) N c, .int .i64 (q8 : Int), .int .i64 2] ?hv HC3.out) ?_
      case hv => simp only [List.map_toArray, List.map_cons, List.map_nil]; go_simp
      try simp only [Act.put]
      refine wpE_takeF 12 ⟨some 31, _, _, _, _, _⟩ (v := ?_) (by decide) rfl (by kernel_rfl) (by kernel_rfl) (by kernel_rfl) (fun _ _ _ h => h) hS (Or.inl ⟨by kernel_rfl, ?_⟩) ?_
      rotate_left
      · (intro V hSw; go_simp; try with_reducible rfl)
      try simp only [Act.put]
      refine wpE_takeF 13 ⟨some 32, _, _, _, _, _⟩ (v := ?_) (by decide) rfl (by kernel_rfl) (by kernel_rfl) (by kernel_rfl) (fun _ _ _ h => h) hS (Or.inl ⟨by kernel_rfl, ?_⟩) ?_
      rotate_left
      · (intro V hSw; go_simp; try with_reducible rfl)
      try simp only [Act.put]
      refine wpE_takeF 14 ⟨some 33, _, _, _, _, _⟩ (v := ?_) (by decide) rfl (by kernel_rfl) (by kernel_rfl) (by kernel_rfl) (fun _ _ _ h => h) hS (Or.inl ⟨by kernel_rfl, ?_⟩) ?_
      rotate_left
      · (intro V hSw; go_simp; try with_reducible rfl)
      try simp only [Act.put]
      refine wpE_takeF 15 ⟨some 34, _, _, _, _, _⟩ (v := ?_) (by decide) rfl (by kernel_rfl) (by kernel_rfl) (by kernel_rfl) (fun _ _ _ h => h) hS (Or.inl ⟨by kernel_rfl, ?_⟩) ?_
      rotate_left
      · (intro V hSw; go_simp; try with_reducible rfl)
      try simp only [Act.put]
      refine wpE_takeF 16 ⟨some 35, _, _, _, _, _⟩ (v := ?_) (by decide) rfl (by kernel_rfl) (by kernel_rfl) (by kernel_rfl) (fun _ _ _ h => h) hS (Or.inl ⟨by kernel_rfl, ?_⟩) ?_
      rotate_left
      · (intro V hSw; have hq := HLD.out V hSw; go_simp; try with_reducible rfl)
      try simp only [Act.put]
      refine wpE_takeF 17 ⟨some 36, _, _, _, _, _⟩ (v := ?_) (by decide) rfl (by kernel_rfl) (by kernel_rfl) (by kernel_rfl) (fun _ _ _ h => h) hS (Or.inl ⟨by kernel_rfl, ?_⟩) ?_
      rotate_left
      · (intro V hSw; have hq := HLD.out V hSw; go_simp; try with_reducible rfl)
      try simp only [Act.put]
      refine wpE_takeF 18 ⟨some 37, _, _, _, _, _⟩ (v := ?_) (by decide) rfl (by kernel_rfl) (by kernel_rfl) (by kernel_rfl) (fun _ _ _ h => h) hS (Or.inl ⟨by kernel_rfl, ?_⟩) ?_
      rotate_left
      · (intro V hSw; go_simp; try with_reducible rfl)
      try simp only [Act.put]
      refine wpE_one 19 (by kernel_rfl) rfl (fun K' hK' => ?_)
      go_simp
      refine hK'.out _ _ (hS.alloc hS.size _) (fun hS => ?_)
      clear hK' K'
      try simp only [Act.put]
      refine wpE_one 20 (o := ⟨some 39, _, _, _, _, _⟩) (by kernel_rfl) rfl (fun K' hK' => ?_)
      refine step_builtin (by kernel_rfl) (.tmp 19) (.tmp 38) #[22, 22] rfl (.slice A1 k c1) (.slice (some ⟨wr.heap.size, 0, none⟩) 1 1) (.slice A2 (k + 1) c2) V' ?hva ?hvb hrun ?_
      case hva => go_simp; try with_reducible rfl
      case hvb => go_simp; try with_reducible rfl
      refine hK'.out _ _ HB3.out (fun hS => ?_)
      clear hK' K'
      try simp only [Act.put]
      refine wpE_takeF 21 ⟨some 7, _, _, _, _, _⟩ (v := ?_) (by decide) rfl (by kernel_rfl) (by kernel_rfl) (by kernel_rfl) (fun _ _ _ h => h) hS (Or.inl ⟨by kernel_rfl, ?_⟩) ?_
      rotate_left
      · (intro V hSw; go_simp; try with_reducible rfl)
      try simp only [Act.put]
      refine wpE_done (by kernel_rfl) ?_ _
      try simp only [List.setIfInBounds_toArray, List.set_cons_succ, List.set_cons_zero]
      go_wp2
      go_roundw
      case rel => exact ⟨k + 1, A2, c2, by omega, by go_num, rfl, HO'.out, HB3.out⟩
      case measure => simp [intOf]; omega
    · have hkn : k = n := by omega
      subst hkn
      have hown := HO.out
      rw [List.take_of_length_le (by have := HLL.out; omega)] at hown
      have HO2 := Lib.hid hown; clear hown
      have hge3 : ¬ (k : Int) < (k : Int) := by omega
      go_wp2
      go_ret
      exact ⟨A1, c1, rfl, HO2.out, HBR.out⟩

theorem toldR_sm (b : List UInt8) (k : Nat) : (toldR b k).rep := by
  have h : ∀ k m, m ≤ 4 → (nm b k m : Int) ≤ 4294967295 := fun k m hm => by
    have h1 := numAt_lt ((b.drop k).take m) m
    have h2 : 2 ^ (8 * m) ≤ 2 ^ 32 := Nat.pow_le_pow_right (by omega) (by omega)
    unfold nm
    omega
  unfold toldR
  refine ⟨?_, ?_, ?_⟩
  · have := h k 4 (by omega); exact ⟨by dsimp only; omega, by dsimp only; omega⟩
  · have := h (k + 4) 4 (by omega); exact ⟨by dsimp only; omega, by dsimp only; omega⟩
  · have := h (k + 8) 2 (by omega); exact ⟨by dsimp only; omega, by dsimp only; omega⟩
theorem exts_rep (b : List UInt8) (k n : Nat) : ∀ x ∈ extsR b k n, x.rep := fun x hx => by
  unfold extsR at hx
  obtain ⟨j, -, rfl⟩ := List.mem_map.1 hx
  exact toldR_sm _ _
theorem exts_len (b : List UInt8) (k n : Nat) : (extsR b k n).length = n := by unfold extsR; simp
theorem ownI_cells {w : World} {base : Nat} {v : Value} {l : List Int} (h : OwnI w base v l) {k : Nat} (hk : v.ownBlock = some k) : ∃ cs z, w.heap[k]? = some (.cells cs 3 z) := by
  rcases h.2 with ⟨rfl, _⟩ | ⟨g, cap, cur, rfl, _, hh, _⟩
  · cases hk
  · injection hk with hk
    dsimp only at hk
    subst hk
    exact ⟨cur, _, hh⟩
theorem ints_bytes {w : World} {b1 b2 : Nat} {v u : Value} {l : List Int} {bs : List UInt8} (h : OwnI w b1 v l) (h' : Owned w b2 u bs) {k : Nat} (hk : v.ownBlock = some k) (hk' : u.ownBlock = some k) : False := by
  obtain ⟨cs, z, e1⟩ := ownI_cells h hk
  obtain ⟨cs', z', e2⟩ := owned_cells h' hk'
  rw [e1] at e2
  injection e2 with e2
  injection e2 with _ e2
  exact absurd e2 (by decide)
theorem storeL_two (l : List X) (bs : List Int) : (storeL l bs).2.2 = 0 ∨ (storeL l bs).2.2 = 1 := by
  unfold storeL
  split
  · split <;> exact .inl rfl
  · exact .inr rfl

set_option maxRecDepth 100000 in
set_option maxHeartbeats 16000000 in
theorem rroot_any (A : Option Addr) (n c B : Nat) (b : List UInt8) (w : World) (h : Holds w B A n b) (hB : B ≤ w.heap.size) (hc : n ≤ c) :
    Calls Try.prog 32 #[.slice A n c] w (RootOut w.heap.size (rootR b).1 (rootR b).2.1 (rootR b).2.2 w) := by
  have hln := h.1
  unfold RootOut
  by_cases h60 : n = 60
  · subst h60
    obtain ⟨b0, off, rfl⟩ := Holds.addr h (by omega)
    obtain ⟨b', off', e', hlt', hcell⟩ := h.2 (by omega)
    injection e' with e'
    injection e' with e1 e2
    subst e1 e2
    obtain ⟨K0, hK0⟩ : ∃ K0, K0 = (b.getD 0 0).toNat := ⟨_, rfl⟩
    obtain ⟨K2, hK2⟩ : ∃ K2, K2 = (b.getD 2 0).toNat := ⟨_, rfl⟩
    have hK0b : K0 < 256 := by rw [hK0]; exact (b.getD 0 0).toNat_lt
    have hc0 : w.cell? ⟨b0, off, none⟩ = some (.int .u8 (K0 : Int)) := by
      have := hcell 0 (by omega)
      rw [hK0]
      simpa [List.getD, show 0 < b.length by omega] using this
    have hc2 : w.cell? ⟨b0, off + 2, none⟩ = some (.int .u8 (K2 : Int)) := by
      have := hcell 2 (by omega)
      rw [hK2]
      simpa [List.getD, show 2 < b.length by omega] using this
    have hK2z : (b.getD 2 0 = 0) ↔ K2 = 0 := by
      rw [hK2]
      constructor
      · intro e; rw [e]; rfl
      · intro e; exact UInt8.toNat_inj.1 (by simpa using e)
    have hwK : IntKind.i64.wrap (K0 : Int) = (K0 : Int) := by rw [IntKind.wrap_i64]; omega
    have hroot : rootR b = (if K2 = 0 ∧ K0 ≤ 4 then (if (storeL (extsR b 4 K0) []).2.2 = 0 ∧ (storeL (extsR b 4 K0) []).1 = b then (extsR b 4 K0, [], 0) else ([], [], 13))
        else if K0 < 1 ∨ 3 < K0 then ([], [], 13)
        else if numB (blksN b K0) = true ∧ nameB (blksN b K0) = b then ([], blksN b K0, 0) else ([], [], 13)) := by
      unfold rootR
      rw [if_pos hln]
      simp only [← hK0, hK2z]
    obtain ⟨R, hR⟩ : ∃ R, R = rootR b := ⟨_, rfl⟩
    rw [← hR] at hroot ⊢
    clear hR hcell
    by_cases g1 : K2 = 0 ∧ K0 ≤ 4
    · rw [if_pos g1] at hroot
      obtain ⟨g1, g2⟩ := g1
      subst g1
      have hexts := exts_any b0 off 60 c B K0 b w h hB hc (by omega) (by omega)
      have hrep := exts_rep b 4 K0
      have hel := exts_len b 4 K0
      obtain ⟨L, hL⟩ : ∃ L, L = extsR b 4 K0 := ⟨_, rfl⟩
      rw [← hL] at hexts hrep hel hroot
      have htwo := storeL_two L []
      have hsto := fun (A1 : Option Addr) (c1 : Nat) V (hX : HoldsX V V.heap.size A1 K0 L) (hc1 : K0 ≤ c1) => rstore_any A1 none K0 c1 0 0 V.heap.size 0 L [] V hX (Nat.le_refl _) hrep hc1 (by omega) (HoldsI.nil _ _ _) (Nat.zero_le _) (by omega)
      obtain ⟨SR, hSR⟩ : ∃ x, x = (storeL L []).1 := ⟨_, rfl⟩
      obtain ⟨SN, hSN⟩ : ∃ x, x = (storeL L []).2.1 := ⟨_, rfl⟩
      obtain ⟨er, her⟩ : ∃ x, x = (storeL L []).2.2 := ⟨_, rfl⟩
      unfold StoreOut at hsto
      rw [← hSR, ← hSN, ← her] at hsto
      rw [← hSR, ← her] at hroot
      rw [← her] at htwo
      have htx := fun V (hV : Below w.heap.size w V) => run_text V B (some ⟨b0, off, none⟩) 60 c b (h.below (hV.mono hB))
      have HTX := Lib.hid htx; clear htx
      have HEXTS := Lib.hid hexts; clear hexts
      have HSTO := Lib.hid hsto; clear hsto
      have HEL := Lib.hid hel; clear hel
      have h4 : (K0 : Int) ≤ 4 := by omega
      clear h hln hrep hL hSR hSN her hK0 hK2 hK2z hlt'
      go_enter Try.func32, Try.ntmps32
      go_wp2_with fail
      with_reducible refine HEXTS.out.mono ?_
      rintro E V1 ⟨A1, c1, rfl, ho1, hb1⟩
      have HB1 := Lib.hid hb1; clear hb1
      have HO1 := Lib.hid ho1; clear ho1
      go_wp2_with fail
      with_reducible refine (HSTO.out A1 c1 V1 HO1.out.reads HO1.out.fits.2.1).mono ?_
      rintro E V2 ⟨A2, c2, A3, c3, rfl, ho2, hn2, hb2⟩
      have HB2 : Hid (Below w.heap.size w V2) := Lib.hid (HB1.out.trans (hb2.mono HB1.out.size))
      have HO2 : Hid (OwnX V2 w.heap.size (.slice A1 K0 c1) L) := Lib.hid (HO1.out.below hb2)
      have t1 := run_text V2 _ A2 SR.length c2 SR (Owned.reads ho2)
      have t2 := HTX.out V2 HB2.out
      clear ho2 hn2 hb2 HTX
      generalize SR.length = sl at t1 ⊢
      generalize SN.length = sn
      rcases htwo with rfl | rfl
      · by_cases hsb : SR = b
        · rw [if_pos ⟨rfl, hsb⟩] at hroot
          subst hsb
          have HR := Lib.hid hroot; clear hroot
          go_wp2
          go_ret3
          rw [HR.out]
          exact ⟨A1, c1, none, 0, by dsimp only; rw [HEL.out]; rfl, by dsimp only; rw [HEL.out]; exact HO2.out, OwnI.nil _ _, HB2.out⟩
        · rw [if_neg (fun e => hsb e.2)] at hroot
          have hne : (⟨SR.toArray⟩ : ByteArray) ≠ ⟨b.toArray⟩ := by
            intro e
            injection e with e
            exact hsb (by simpa using congrArg Array.toList e)
          have hq : (SR == b) = false := beq_eq_false_iff_ne.2 hsb
          have HR := Lib.hid hroot; clear hroot hsb
          go_wp2
          go_ret3
          rw [HR.out]
          exact ⟨none, 0, none, 0, rfl, OwnX.nil _ _, OwnI.nil _ _, HB2.out⟩
      · rw [if_neg (fun e => absurd e.1 (by decide))] at hroot
        have HR := Lib.hid hroot; clear hroot t1 t2
        go_wp2
        go_ret3
        rw [HR.out]
        exact ⟨none, 0, none, 0, rfl, OwnX.nil _ _, OwnI.nil _ _, HB2.out⟩
    · rw [if_neg g1] at hroot
      by_cases g2 : K0 < 1 ∨ 3 < K0
      · rw [if_pos g2] at hroot
        have HR := Lib.hid hroot
        clear hroot h hln hK0 hK2 hK2z hlt'
        have hK2b : (K2 : Int) = 0 ∨ ¬ (K2 : Int) = 0 := by omega
        rcases hK2b with hz | hz
        · have hz0 : K2 = 0 := by omega
          subst hz0
          have g3 : ¬ (K0 : Int) ≤ 4 := by omega
          have g4 : ¬ (K0 : Int) < 1 := by omega
          have g5 : (3 : Int) < (K0 : Int) := by omega
          clear hz g1 g2
          go_enter Try.func32, Try.ntmps32
          go_wp2
          go_ret3
          rw [HR.out]
          exact ⟨none, 0, none, 0, rfl, OwnX.nil _ _, OwnI.nil _ _, Below.refl _ _⟩
        · rcases g2 with g2 | g2
          · have g4 : (K0 : Int) < 1 := by omega
            clear g1
            go_enter Try.func32, Try.ntmps32
            go_wp2
            go_ret3
            rw [HR.out]
            exact ⟨none, 0, none, 0, rfl, OwnX.nil _ _, OwnI.nil _ _, Below.refl _ _⟩
          · have g4 : ¬ (K0 : Int) < 1 := by omega
            have g5 : (3 : Int) < (K0 : Int) := by omega
            clear g1
            go_enter Try.func32, Try.ntmps32
            go_wp2
            go_ret3
            rw [HR.out]
            exact ⟨none, 0, none, 0, rfl, OwnX.nil _ _, OwnI.nil _ _, Below.refl _ _⟩
      · rw [if_neg g2] at hroot
        have hK1 : 1 ≤ K0 ∧ K0 ≤ 3 := by omega
        have hz : ¬ (K2 : Int) = 0 := by omega
        have hpb : padB (headB K0 1 ++ blkB (blksN b K0)) 60 = nameB (blksN b K0) := by unfold nameB; rw [blks_len]
        have hnlen := nameB_len (blksN b K0) (by rw [blks_len]; omega)
        have hbl := blks_len b K0
        have hbt := fun j hj => blks_take b K0 j hj
        have hbr := blks_range b K0
        have hatc : ∀ V, Below w.heap.size w V → ∀ l : Nat, l + 4 ≤ 60 → Calls Try.prog 59 #[.slice (some ⟨b0, off, none⟩) 60 c, .int .i64 (l : Int), .int .i64 4] V fun E w' => E = .returned (.int .i64 (nm b l 4 : Int)) ∧ V = w' := fun V hV l hl => rat_any b0 off 60 c B l 4 _ _ b V (h.below (hV.mono hB)) hc (by omega) rfl rfl (by omega) (by omega) hl
        obtain ⟨bs, hbs⟩ : ∃ bs, bs = blksN b K0 := ⟨_, rfl⟩
        obtain ⟨NB, hNB⟩ : ∃ NB, NB = nameB bs := ⟨_, rfl⟩
        rw [← hbs] at hroot hpb hnlen hbl hbt hbr
        rw [← hNB] at hroot hpb hnlen
        have htx := fun V (hV : Below w.heap.size w V) => run_text V B (some ⟨b0, off, none⟩) 60 c b (h.below (hV.mono hB))
        have HTX := Lib.hid htx; clear htx
        have HPB := Lib.hid hpb; clear hpb
        have HNL := Lib.hid hnlen; clear hnlen
        have HBL := Lib.hid hbl; clear hbl
        have HBT := Lib.hid hbt; clear hbt
        have HBR2 := Lib.hid hbr; clear hbr
        have HATC := Lib.hid hatc; clear hatc
        have HROOT := Lib.hid hroot; clear hroot
        have hw8 : IntKind.u8.wrap (K0 : Int) = (K0 : Int) := by rw [IntKind.wrap_u8]; omega
        have g4 : ¬ (K0 : Int) < 1 := by omega
        have g5 : ¬ (3 : Int) < (K0 : Int) := by omega
        have g4d : decide ((K0 : Int) < 1) = false := decide_eq_false g4
        have g5d : decide ((3 : Int) < (K0 : Int)) = false := decide_eq_false g5
        have hzb : ((K2 : Int) == 0) = false := beq_eq_false_iff_ne.2 hz
        have hlit : w.alloc (.cells #[.int .u8 (K0 : Int), .int .u8 0, .int .u8 1, .int .u8 0] 5) = w.alloc (.cells ((headB K0 1).map byteV).toArray 5) := by
          congr 2
          unfold headB byteV
          simp
          omega
        obtain ⟨W, hW⟩ : ∃ W, W = w.alloc (.cells #[.int .u8 (K0 : Int), .int .u8 0, .int .u8 1, .int .u8 0] 5) := ⟨_, rfl⟩
        have hoW : Owned W w.heap.size (.slice (some ⟨w.heap.size, 0, none⟩) 4 4) (headB K0 1) := by
          rw [hW, hlit]
          exact owned_made w (headB K0 1) w.heap.size (Nat.le_refl _) (by unfold maxLen headB; simp)
        have hbW : Below w.heap.size w W := by rw [hW]; exact (Below.refl _ _).alloc (Nat.le_refl _) _
        have HWE := Lib.hid hW; clear hW hlit
        have HOW := Lib.hid hoW; clear hoW
        have HBW := Lib.hid hbW; clear hbW
        clear h hln hlt' hK0 hK2 hK2z hbs hNB g1 g2
        go_enter Try.func32, Try.ntmps32
        go_wp2
        rw [← HWE.out]
        clear hc0 hc2
        go_loopw [10, 11, 12] (fun v r i wr => ∃ (k m : Nat) (A1 A2 : Option Addr) (c1 c2 : Nat), k ≤ K0 ∧ m = 4 + k * 4 ∧ i = .int .i64 (k : Int) ∧ v = .slice A1 k c1 ∧ r = .slice A2 m c2 ∧ OwnI wr w.heap.size (.slice A1 k c1) (bs.take k) ∧ Owned wr w.heap.size (.slice A2 m c2) (headB K0 1 ++ blkB (bs.take k)) ∧ Below w.heap.size w wr) (fun _ _ i _ => K0 - (intOf i).toNat)
        case atStart => exact ⟨0, 4, none, _, 0, _, Nat.zero_le _, rfl, rfl, rfl, rfl, by rw [List.take_zero]; exact OwnI.nil _ _, by rw [List.take_zero]; unfold blkB; rw [List.flatMap_nil, List.append_nil]; exact HOW.out, HBW.out⟩
        case round =>
          obtain ⟨k, m, A1, A2, c1, c2, hk, hm, rfl, rfl, rfl, hoi, hob, hbr⟩ := hrel
          have HOI := Lib.hid hoi; clear hoi
          have HOB := Lib.hid hob; clear hob
          have HBR := Lib.hid hbr; clear hbr
          have HM := Lib.hid hm; clear hm
          rcases Nat.lt_or_ge k K0 with hlt | hge
          · have hk0 : (0 : Int) ≤ (k : Int) := by omega
            have hkn : (k : Int) < (K0 : Int) := by omega
            obtain ⟨p, hp⟩ : ∃ p, p = 4 + k * 4 := ⟨_, rfl⟩
            have hwm : IntKind.i64.wrap (4 * (k : Int)) = 4 * (k : Int) := by rw [IntKind.wrap_i64]; omega
            have hwa : IntKind.i64.wrap (4 + 4 * (k : Int)) = (p : Int) := by rw [IntKind.wrap_i64]; omega
            have hat := HATC.out wr HBR.out p (by omega)
            have hbt := HBT.out k hlt
            rw [← hp] at hbt
            obtain ⟨x, hx⟩ : ∃ x, x = nm b p 4 := ⟨_, rfl⟩
            rw [← hx] at hat hbt
            have hxb : x ≤ 4294967295 := by
              have := (HBR2.out (x : Int) (by
                have h2 : (x : Int) ∈ bs.take (k + 1) := by rw [hbt]; simp
                exact List.mem_of_mem_take h2)).2
              omega
            have hu : IntKind.u64.wrap (x : Int) = (x : Int) := by rw [IntKind.wrap_u64]; omega
            have ho3 : OwnI (wr.alloc (.cells #[.int .i64 (x : Int)] 3)) w.heap.size (.slice A1 k c1) (bs.take k) := World.ownsRow.alloc HOI.out _
            have hbk : (bs.take k).length = k := by rw [List.length_take, HBL.out]; omega
            obtain ⟨v', V', hrun, ho', hg1, hg2⟩ := run_addI (wr.alloc (.cells #[.int .i64 (x : Int)] 3)) 45 w.heap.size _ _ ho3 (wr.heap.size + 1) (some ⟨wr.heap.size, 0, none⟩) 1 1 [(x : Int)] ⟨rfl, fun _ => ⟨wr.heap.size, 0, rfl, by omega, fun j hj => by
              have : j = 0 := by simpa using hj
              subst this
              rw [cell_of_row _ _ _ _ _ _ (heap_alloc_new wr _)]; rfl⟩⟩ (by omega) (by have := HBR.out.size; simp; omega)
            rw [← hbt] at ho'
            have hg : Grows wr V' (.slice A1 k c1) v' := ⟨grown_trans (grown_of_below ((Below.refl _ wr).alloc (Nat.le_refl _) _) _) hg1, fun g e => by
              rcases hg2 g e with e | e
              · exact .inl e
              · exact .inr (by simp at e; omega)⟩
            have HB3 : Hid (Below w.heap.size w V') := Lib.hid (HBR.out.trans (hg.below HBR.out.size (fun g e => (HOI.out.lt g e).1)))
            have hob3 : Owned V' w.heap.size (.slice A2 m c2) (headB K0 1 ++ blkB (bs.take k)) := owned_keep HOB.out fun g e => hg.1.block g (owned_lt HOB.out g e).2 (fun e' => ints_bytes HOI.out HOB.out e'.symm e)
            obtain ⟨A3, c3, rfl⟩ := ho'.shape
            have hl2 : (bs.take (k + 1)).length = k + 1 := by rw [List.length_take, HBL.out]; omega
            rw [hl2] at ho' hrun
            obtain ⟨b3, off3, hA3, hb3, hcl3⟩ := ho'.reads.2 (by omega)
            subst hA3
            have hx3 : V'.cell? ⟨b3, off3 + k, none⟩ = some (.int .i64 (x : Int)) := by
              rw [hcl3 k (by omega)]
              congr 2
              have : (bs.take (k + 1))[k]? = some (x : Int) := by
                rw [hbt, List.getElem?_append_right (by omega)]
                simp [hbk]
              rw [List.getElem?_eq_getElem (by omega)] at this
              exact Option.some.inj this
            have hblk : blkB (bs.take (k + 1)) = blkB (bs.take k) ++ bytesL x 4 := by rw [hbt, blkB_snoc]; rfl
            have HAT := Lib.hid hat; clear hat
            have HBLK := Lib.hid hblk; clear hblk
            have HOI3 := Lib.hid ho'; clear ho'
            have HOB3 := Lib.hid hob3; clear hob3
            have hlr : (headB K0 1 ++ blkB (bs.take k)).length = m := (Owned.len HOB3.out).symm
            have HLR := Lib.hid hlr; clear hlr
            have hk1 : (k : Int) < ((k + 1 : Nat) : Int) := by omega
            clear hbt hg hg1 hg2 ho3 hcl3 hb3 hp hx hbk hl2
            go_wp2_with fail
            with_reducible refine HAT.out.mono ?_
            rintro E V ⟨rfl, rfl⟩
            go_wp2_with (at_builtin; refine wpList_apprun rfl (.tmp 61) (.tmp 67) 45 45 rfl _ _ rfl rfl _ V' hrun ?_)
            clear hrun
            go_wp2_with fail
            with_reducible refine (rb4 x V').mono ?_
            rintro E V4 ⟨A4, c4, rfl, ho4, hb4⟩
            have HOI4 := Lib.hid (HOI3.out.below hb4)
            have HOB4 := Owned.keep HOB3.out hb4 (Nat.le_refl _)
            have HB4 : Hid (Below w.heap.size w V4) := Lib.hid (HB3.out.trans (hb4.mono HB3.out.size))
            obtain ⟨v5, V5, hrun5, ho5, hg5⟩ := run_addB V4 46 w.heap.size _ _ HOB4 V4.heap.size A4 4 c4 (bytesL x 4) (Owned.reads ho4) (by rw [HLR.out]; have := HM.out; omega) HB4.out.size
            rw [List.append_assoc, ← HBLK.out] at ho5
            have HB5 : Hid (Below w.heap.size w V5) := Lib.hid (HB4.out.trans (hg5.below HB4.out.size (fun g e => (owned_lt HOB4 g e).1)))
            have hoi5 : OwnI V5 w.heap.size (.slice (some ⟨b3, off3, none⟩) (k + 1) c3) (bs.take (k + 1)) := HOI4.out.kept fun g e => hg5.1.block g (HOI4.out.lt g e).2 (fun e' => ints_bytes HOI4.out HOB4 e e'.symm)
            obtain ⟨A5, c5, rfl⟩ := Owned.shape ho5
            have hl5 : (headB K0 1 ++ blkB (bs.take (k + 1))).length = m + 4 := by rw [HBLK.out, ← List.append_assoc, List.length_append, HLR.out, bytesL_len]
            rw [hl5] at ho5 hrun5
            have HO5 := Lib.hid ho5; clear ho5
            have HOI5 := Lib.hid hoi5; clear hoi5
            clear HOB4 hg5 ho4 hb4 hl5 hx3
            go_wp2_with (at_builtin; refine wpList_apprun rfl (.tmp 69) (.tmp 75) 46 46 rfl _ _ rfl rfl _ V5 hrun5 ?_)
            clear hrun5
            go_wp2
            go_roundw
            case rel => exact ⟨k + 1, m + 4, some ⟨b3, off3, none⟩, A5, c3, c5, by omega, by have := HM.out; omega, by go_num, rfl, rfl, HOI5.out, HO5.out, HB5.out⟩
            case measure => simp [intOf]; omega
          · have hkn : k = K0 := by omega
            subst hkn
            have htk : bs.take k = bs := List.take_of_length_le (by have := HBL.out; omega)
            have hoi := HOI.out
            have hob := HOB.out
            rw [htk] at hoi hob
            have hge3 : ¬ (k : Int) < (k : Int) := by omega
            have HOI2 := Lib.hid hoi; clear hoi
            have HOB2 := Lib.hid hob; clear hob
            have hnum := fun V (hV : Below wr.heap.size wr V) => numbers_any A1 k c1 wr.heap.size bs V (HOI2.out.reads.below hV) hV.size (by omega)
            have hfill := fun V (hV : Below wr.heap.size wr V) => fill60 A2 m c2 w.heap.size _ V (Owned.keep HOB2.out hV (Nat.le_refl _)) (by have := HBR.out.size; have := hV.size; omega) (by have := HM.out; omega)
            rw [HPB.out] at hfill
            have hfill' : ∀ V, Below wr.heap.size wr V → Calls Try.prog 50 #[.slice A2 m c2, .int .i64 60] V fun E w' => ∃ A' c', E = .returned (.slice A' 60 c') ∧ Holds w' w'.heap.size A' 60 NB ∧ OwnI w' w.heap.size (.slice A1 k c1) bs ∧ Below w.heap.size w w' := fun V hV => (hfill V hV).mono fun E w' ⟨A', c', e, ho, hg⟩ => by
              have hbV := HBR.out.trans (hV.mono HBR.out.size)
              have hoV := Owned.keep HOB2.out hV (Nat.le_refl _)
              have hiV := HOI2.out.below hV
              exact ⟨A', c', e, Owned.reads ho, hiV.kept fun g e => hg.1.block g (hiV.lt g e).2 (fun e' => ints_bytes hiV hoV e e'.symm), hbV.trans (hg.below hbV.size (fun g e => (owned_lt hoV g e).1))⟩
            have HNUM := Lib.hid hnum; clear hnum
            have HFILL := Lib.hid hfill'; clear hfill hfill'
            have HND : Hid (Below wr.heap.size wr wr.drew) := Lib.hid (Below.refl _ wr).drew
            cases hnb : numB bs with
            | false =>
              have hr := HROOT.out
              rw [if_neg (fun e => by rw [hnb] at e; exact absurd e.1 (by decide))] at hr
              have HR := Lib.hid hr; clear hr
              rw [hnb] at HNUM
              clear hnb htk
              go_wp2_with fail
              refine wp_region_E (fun V => Below w.heap.size w V) 99 rfl ?_
              have hS := (show Below w.heap.size w wr.drew from HBR.out.drew)
              refine wpE_takeF 0 ⟨some 77, _, _, _, _, _⟩ (v := ?_) (by decide) rfl (by kernel_rfl) (by kernel_rfl) (by kernel_rfl) (fun _ _ _ h => h) hS (Or.inl ⟨by kernel_rfl, ?_⟩) ?_
              rotate_left
              · (intro V hSw; go_simp; try with_reducible rfl)
              try simp only [Act.put]
              refine wpE_one 1 (o := ⟨some 78, _, _, _, _, _⟩) (by kernel_rfl) rfl (fun K' hK' => ?_)
              rw [if_pos (by kernel_rfl)]
              refine call_wp 49 _ _ _ _ rfl Try.func49 (by kernel_rfl) rfl _ ?hv1 _ (HNUM.out wr.drew HND.out) ?_
              case hv1 => simp only [List.map_toArray, List.map_cons, List.map_nil]; go_simp
              rintro E V2 ⟨rfl, hb2⟩
              have HB2 : Hid (Below w.heap.size w V2) := Lib.hid (HBR.out.drew.trans (hb2.mono HBR.out.size))
              have HBN2 : Hid (Below wr.heap.size wr V2) := Lib.hid (HND.out.trans hb2)
              refine ⟨_, rfl, hK'.out _ _ HB2.out (fun hS => ?_)⟩
              clear hK' K'
              try simp only [Act.put]
              refine wpE_takeF 2 ⟨some 79, _, _, _, _, _⟩ (v := ?_) (by decide) rfl (by kernel_rfl) (by kernel_rfl) (by kernel_rfl) (fun _ _ _ h => h) hS (Or.inl ⟨by kernel_rfl, ?_⟩) ?_
              rotate_left
              · (intro V hSw; go_simp; try with_reducible rfl)
              try simp only [Act.put]
              refine wpE_takeF 3 ⟨some 80, _, _, _, _, _⟩ (v := ?_) (by decide) rfl (by kernel_rfl) (by kernel_rfl) (by kernel_rfl) (fun _ _ _ h => h) hS (Or.inl ⟨by kernel_rfl, ?_⟩) ?_
              rotate_left
              · (intro V hSw; go_simp; try with_reducible rfl)
              try simp only [Act.put]
              refine wpE_takeF 4 ⟨some 81, _, _, _, _, _⟩ (v := undef) (by decide) rfl (by kernel_rfl) (by kernel_rfl) (by kernel_rfl) (fun _ _ _ h => h) hS (Or.inr ⟨by kernel_rfl, rfl⟩) ?_
              try simp only [Act.put]
              refine wpE_takeF 5 ⟨some 82, _, _, _, _, _⟩ (v := undef) (by decide) rfl (by kernel_rfl) (by kernel_rfl) (by kernel_rfl) (fun _ _ _ h => h) hS (Or.inr ⟨by kernel_rfl, rfl⟩) ?_
              try simp only [Act.put]
              refine wpE_takeF 6 ⟨some 83, _, _, _, _, _⟩ (v := undef) (by decide) rfl (by kernel_rfl) (by kernel_rfl) (by kernel_rfl) (fun _ _ _ h => h) hS (Or.inr ⟨by kernel_rfl, rfl⟩) ?_
              try simp only [Act.put]
              refine wpE_takeF 7 ⟨some 84, _, _, _, _, _⟩ (v := undef) (by decide) rfl (by kernel_rfl) (by kernel_rfl) (by kernel_rfl) (fun _ _ _ h => h) hS (Or.inr ⟨by kernel_rfl, rfl⟩) ?_
              try simp only [Act.put]
              refine wpE_takeF 8 ⟨some 85, _, _, _, _, _⟩ (v := undef) (by decide) rfl (by kernel_rfl) (by kernel_rfl) (by kernel_rfl) (fun _ _ _ h => h) hS (Or.inr ⟨by kernel_rfl, rfl⟩) ?_
              try simp only [Act.put]
              refine wpE_takeF 9 ⟨some 86, _, _, _, _, _⟩ (v := undef) (by decide) rfl (by kernel_rfl) (by kernel_rfl) (by kernel_rfl) (fun _ _ _ h => h) hS (Or.inr ⟨by kernel_rfl, rfl⟩) ?_
              try simp only [Act.put]
              refine wpE_takeF 10 ⟨some 87, _, _, _, _, _⟩ (v := ?_) (by decide) rfl (by kernel_rfl) (by kernel_rfl) (by kernel_rfl) (fun _ _ _ h => h) hS (Or.inl ⟨by kernel_rfl, ?_⟩) ?_
              rotate_left
              · (intro V hSw; go_simp; try with_reducible rfl)
              try simp only [Act.put]
              refine wpE_done (by kernel_rfl) ?_ _
              try simp only [List.setIfInBounds_toArray, List.set_cons_succ, List.set_cons_zero]
              go_wp2
              go_ret3
              rw [HR.out]
              exact ⟨none, 0, none, 0, rfl, OwnX.nil _ _, OwnI.nil _ _, HB2.out⟩
            | true =>
              have hr := HROOT.out
              rw [hnb] at HNUM hr
              have HR := Lib.hid hr; clear hr
              clear hnb htk
              go_wp2_with fail
              refine wp_region_E (fun V => Below w.heap.size w V) 99 rfl ?_
              have hS := (show Below w.heap.size w wr.drew from HBR.out.drew)
              refine wpE_takeF 0 ⟨some 77, _, _, _, _, _⟩ (v := ?_) (by decide) rfl (by kernel_rfl) (by kernel_rfl) (by kernel_rfl) (fun _ _ _ h => h) hS (Or.inl ⟨by kernel_rfl, ?_⟩) ?_
              rotate_left
              · (intro V hSw; go_simp; try with_reducible rfl)
              try simp only [Act.put]
              refine wpE_one 1 (o := ⟨some 78, _, _, _, _, _⟩) (by kernel_rfl) rfl (fun K' hK' => ?_)
              rw [if_pos (by kernel_rfl)]
              refine call_wp 49 _ _ _ _ rfl Try.func49 (by kernel_rfl) rfl _ ?hv1 _ (HNUM.out wr.drew HND.out) ?_
              case hv1 => simp only [List.map_toArray, List.map_cons, List.map_nil]; go_simp
              rintro E V2 ⟨rfl, hb2⟩
              have HB2 : Hid (Below w.heap.size w V2) := Lib.hid (HBR.out.drew.trans (hb2.mono HBR.out.size))
              have HBN2 : Hid (Below wr.heap.size wr V2) := Lib.hid (HND.out.trans hb2)
              refine ⟨_, rfl, hK'.out _ _ HB2.out (fun hS => ?_)⟩
              clear hK' K'
              try simp only [Act.put]
              refine wpE_takeF 2 ⟨some 79, _, _, _, _, _⟩ (v := ?_) (by decide) rfl (by kernel_rfl) (by kernel_rfl) (by kernel_rfl) (fun _ _ _ h => h) hS (Or.inl ⟨by kernel_rfl, ?_⟩) ?_
              rotate_left
              · (intro V hSw; go_simp; try with_reducible rfl)
              try simp only [Act.put]
              refine wpE_takeF 3 ⟨some 80, _, _, _, _, _⟩ (v := ?_) (by decide) rfl (by kernel_rfl) (by kernel_rfl) (by kernel_rfl) (fun _ _ _ h => h) hS (Or.inl ⟨by kernel_rfl, ?_⟩) ?_
              rotate_left
              · (intro V hSw; go_simp; try with_reducible rfl)
              try simp only [Act.put]
              refine wpE_takeF 4 ⟨some 81, _, _, _, _, _⟩ (v := ?_) (by decide) rfl (by kernel_rfl) (by kernel_rfl) (by kernel_rfl) (fun _ _ _ h => h) hS (Or.inl ⟨by kernel_rfl, ?_⟩) ?_
              rotate_left
              · (intro V hSw; go_simp; try with_reducible rfl)
              try simp only [Act.put]
              refine wpE_takeF 7 ⟨some 84, _, _, _, _, _⟩ (v := ?_) (by decide) rfl (by kernel_rfl) (by kernel_rfl) (by kernel_rfl) (fun _ _ _ h => h) hS (Or.inl ⟨by kernel_rfl, ?_⟩) ?_
              rotate_left
              · (intro V hSw; go_simp; try with_reducible rfl)
              try simp only [Act.put]
              refine wpE_takeF 8 ⟨some 85, _, _, _, _, _⟩ (v := ?_) (by decide) rfl (by kernel_rfl) (by kernel_rfl) (by kernel_rfl) (fun _ _ _ h => h) hS (Or.inl ⟨by kernel_rfl, ?_⟩) ?_
              rotate_left
              · (intro V hSw; have hq := HTX.out V hSw; go_simp; try with_reducible rfl)
              try simp only [Act.put]
              refine wpE_one 5 (o := ⟨some 82, _, _, _, _, _⟩) (by kernel_rfl) rfl (fun K' hK' => ?_)
              rw [if_pos (by kernel_rfl)]
              refine call_wp 50 _ _ _ _ rfl Try.func50 (by kernel_rfl) rfl _ ?hv2 _ (HFILL.out V2 HBN2.out) ?_
              case hv2 => simp only [List.map_toArray, List.map_cons, List.map_nil]; go_simp
              rintro E V3 ⟨A3, c3, rfl, ho3, hoi3, hb3⟩
              have HB3 : Hid (Below w.heap.size w V3) := Lib.hid hb3
              have HRD3 := Lib.hid ho3
              have HOI3 := Lib.hid hoi3
              refine ⟨_, rfl, hK'.out _ _ HB3.out (fun hS => ?_)⟩
              clear hK' K'
              try simp only [Act.put]
              refine wpE_weaken (S2 := fun V => V = V3) (fun V e => by rw [e]; exact HB3.out) _ _ _ _ ?_
              have hS : V3 = V3 := rfl
              have q3 := run_text V3 _ A3 60 c3 NB HRD3.out
              by_cases hbe : NB = b
              · subst hbe
                refine wpE_takeF 6 ⟨some 83, _, _, _, _, _⟩ (v := ?_) (by decide) rfl (by kernel_rfl) (by kernel_rfl) (by kernel_rfl) (fun _ _ _ h => h) hS (Or.inl ⟨by kernel_rfl, ?_⟩) ?_
                rotate_left
                · (intro V hSw; rw [hSw]; go_simp; try with_reducible rfl)
                try simp only [Act.put]
                refine wpE_takeF 9 ⟨some 86, _, _, _, _, _⟩ (v := ?_) (by decide) rfl (by kernel_rfl) (by kernel_rfl) (by kernel_rfl) (fun _ _ _ h => h) hS (Or.inl ⟨by kernel_rfl, ?_⟩) ?_
                rotate_left
                · (intro V hSw; go_simp; try with_reducible rfl)
                try simp only [Act.put]
                refine wpE_takeF 10 ⟨some 87, _, _, _, _, _⟩ (v := ?_) (by decide) rfl (by kernel_rfl) (by kernel_rfl) (by kernel_rfl) (fun _ _ _ h => h) hS (Or.inl ⟨by kernel_rfl, ?_⟩) ?_
                rotate_left
                · (intro V hSw; go_simp; try with_reducible rfl)
                try simp only [Act.put]
                refine wpE_done (by kernel_rfl) ?_ _
                try simp only [List.setIfInBounds_toArray, List.set_cons_succ, List.set_cons_zero]
                have hr := HR.out
                rw [if_pos (by simp)] at hr
                have HR2 := Lib.hid hr; clear hr
                go_wp2
                go_ret3
                rw [HR2.out]
                exact ⟨none, 0, A1, c1, by dsimp only; rw [HBL.out]; rfl, OwnX.nil _ _, by dsimp only; rw [HBL.out]; exact HOI3.out, HB3.out⟩
              · have hne : (⟨NB.toArray⟩ : ByteArray) ≠ ⟨b.toArray⟩ := by
                  intro e
                  injection e with e
                  exact hbe (by simpa using congrArg Array.toList e)
                have hr := HR.out
                rw [if_neg (fun e => hbe e.2)] at hr
                have hqb : (NB == b) = false := beq_eq_false_iff_ne.2 hbe
                have HR2 := Lib.hid hr; clear hr hbe
                refine wpE_takeF 6 ⟨some 83, _, _, _, _, _⟩ (v := ?_) (by decide) rfl (by kernel_rfl) (by kernel_rfl) (by kernel_rfl) (fun _ _ _ h => h) hS (Or.inl ⟨by kernel_rfl, ?_⟩) ?_
                rotate_left
                · (intro V hSw; rw [hSw]; go_simp; try with_reducible rfl)
                try simp only [Act.put]
                refine wpE_takeF 9 ⟨some 86, _, _, _, _, _⟩ (v := ?_) (by decide) rfl (by kernel_rfl) (by kernel_rfl) (by kernel_rfl) (fun _ _ _ h => h) hS (Or.inl ⟨by kernel_rfl, ?_⟩) ?_
                rotate_left
                · (intro V hSw; go_simp; try with_reducible rfl)
                try simp only [Act.put]
                refine wpE_takeF 10 ⟨some 87, _, _, _, _, _⟩ (v := ?_) (by decide) rfl (by kernel_rfl) (by kernel_rfl) (by kernel_rfl) (fun _ _ _ h => h) hS (Or.inl ⟨by kernel_rfl, ?_⟩) ?_
                rotate_left
                · (intro V hSw; go_simp; try with_reducible rfl)
                try simp only [Act.put]
                refine wpE_done (by kernel_rfl) ?_ _
                try simp only [List.setIfInBounds_toArray, List.set_cons_succ, List.set_cons_zero]
                go_wp2
                go_ret3
                rw [HR2.out]
                exact ⟨none, 0, none, 0, rfl, OwnX.nil _ _, OwnI.nil _ _, HB3.out⟩
  · have h60' : ¬ (n : Int) = 60 := by omega
    have hR : rootR b = ([], [], 13) := by unfold rootR; rw [if_neg (by omega)]
    rw [hR]
    clear h hln
    go_enter Try.func32, Try.ntmps32
    go_wp2
    go_ret3
    exact ⟨none, 0, none, 0, rfl, OwnX.nil _ _, OwnI.nil _ _, Below.refl _ _⟩
end Go.Proofs.Ytkhenchhafmlmaa.Ex
