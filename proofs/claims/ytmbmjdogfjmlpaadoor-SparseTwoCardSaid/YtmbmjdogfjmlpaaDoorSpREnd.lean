/- The document's calls: End. -/
import Derived.Test.YtmbmjdogfjmlpaaDoorSpRCalls
namespace Go.Proofs.YtmbmjdogfjmlpaaDoor.Sp
set_option maxRecDepth 20000
open Go.RowKit
open Go.Proofs.YtmbmjdogfjmlpaaDoor.Mem Go.Proofs.YtmbmjdogfjmlpaaDoor.Rec Go.Proofs.YtmbmjdogfjmlpaaDoor.Reg
attribute [local go_sem ↓] ldX_eq stX_eq

set_option maxRecDepth 100000 in
set_option maxHeartbeats 4000000 in
theorem rEnd_any (A : Option Addr) (n c B : Nat) (l : List Rn) (w : World) (h : HoldsX w B A n l) (hn : n ≤ 8796093022208) (hrep : ∀ x ∈ l, x.rep) :
    Calls Tryd.prog 19 #[.slice A n c] w fun e w' => e = .returned (.int .i64 (endA l)) ∧ Below w.heap.size w w' := by
  obtain ⟨r, hr⟩ : ∃ r, r = endA l := ⟨_, rfl⟩
  rw [← hr]
  have hln := h.1
  have hck := rcheck_any A n c B l w h hn hrep
  cases hrt : right l with
  | false =>
    have hr0 : r = 0 := by rw [hr]; unfold endA; rw [hrt]; rfl
    rw [hrt, if_neg (by decide)] at hck
    have HR := Lib.hid hr0; clear hr hr0 h hrt hln
    have HCK := Lib.hid hck; clear hck
    go_enter Tryd.func19, Tryd.ntmps19
    go_wp2_with fail
    with_reducible refine HCK.out.mono ?_
    rintro E w1 ⟨rfl, rfl⟩
    go_wp2
    go_ret
    exact ⟨by rw [HR.out]; rfl, Below.refl _ _⟩
  | true =>
    rw [hrt, if_pos rfl] at hck
    rcases List.eq_nil_or_concat l with hl | ⟨l0, y, hl⟩
    · subst hl
      have hn0 : n = 0 := hln.symm
      have hr0 : r = 0 := by rw [hr]; rfl
      subst hn0
      have HR := Lib.hid hr0; clear hr hr0 h hrt hln
      have HCK := Lib.hid hck; clear hck
      go_enter Tryd.func19, Tryd.ntmps19
      go_wp2_with fail
      with_reducible refine HCK.out.mono ?_
      rintro E w1 ⟨rfl, rfl⟩
      go_wp2
      go_ret
      exact ⟨by rw [HR.out]; rfl, Below.refl _ _⟩
    · have hl' : l = l0 ++ [y] := by rw [hl]; simp
      subst hl'
      clear hl
      have hnl : n = l0.length + 1 := by rw [← hln]; simp
      obtain ⟨m, hm⟩ : ∃ m, m = l0.length := ⟨_, rfl⟩
      rw [← hm] at hnl
      have hz : ((n : Int) == 0) = false := beq_false_of_ne (by omega)
      have hyo := okE_right (Int.le_refl 0) hrt y (by simp)
      have hye : y.e = y.a + (y.t.length : Int) := rfl
      have hr0 : r = y.e := by rw [hr]; unfold endA; rw [hrt, if_pos rfl, endL_snoc]
      obtain ⟨b, off, rfl, hbB⟩ := h.addr (by omega)
      have hwr : IntKind.i64.wrap (m : Int) = (m : Int) := by rw [IntKind.wrap_i64]; omega
      have hcell := h.cell m (by rw [hm]; simp)
      rw [show (l0 ++ [y])[m]'(by rw [hm]; simp) = y by simp [hm]] at hcell
      have hts : (⟨y.t.toArray⟩ : ByteArray).size = y.t.length := text_size y.t
      have hlast : (n : Int) - 1 = (m : Int) := by omega
      have hm0 : (0 : Int) ≤ (m : Int) := by omega
      have hmn : (m : Int) < (n : Int) := by omega
      have hq : ∀ V : World, V = w.drew → V.cell? ⟨b, off + m * 2, none⟩ = some (.int .i64 y.a) ∧ V.cell? ⟨b, off + m * 2 + 1, none⟩ = some (.string ⟨y.t.toArray⟩) := fun V hV => by rw [hV]; exact hcell
      have hy2 := hyo.2
      obtain ⟨S, hS⟩ : ∃ S : ByteArray, S = ⟨y.t.toArray⟩ := ⟨_, rfl⟩
      rw [← hS] at hts
      simp only [← hS] at hq
      obtain ⟨a, ha⟩ : ∃ a, a = y.a := ⟨_, rfl⟩
      simp only [← ha] at hq
      rw [← ha, ← hts] at hye
      rw [← ha] at hy2
      rw [hye] at hr0 hy2
      have hs1 : -9223372036854775808 ≤ a + (S.size : Int) := by omega
      have hs2 : a + (S.size : Int) ≤ 9223372036854775807 := by omega
      have hwr2 : IntKind.i64.wrap (a + (S.size : Int)) = a + (S.size : Int) := by rw [IntKind.wrap_i64]; omega
      have HQ := Lib.hid hq; clear hq
      have HR := Lib.hid hr0
      clear hcell hS ha hye hr0 hr hrt hm h hyo hts
      have HCK := Lib.hid hck; clear hck
      have HNL := Lib.hid hnl; clear hnl hln
      go_enter Tryd.func19, Tryd.ntmps19
      go_wp2_with fail
      with_reducible refine HCK.out.mono ?_
      rintro E w1 ⟨rfl, rfl⟩
      go_wp2_with fail
      refine wp_region_E (fun V => V = w1.drew) 99 rfl ?_
      have hS : w1.drew = w1.drew := rfl
      refine wpE_takeF 0 ⟨some 11, _, _, _, _, _⟩ (v := ?_) (by decide) rfl (by kernel_rfl) (by kernel_rfl) (by kernel_rfl) (fun _ _ _ h => h) hS (Or.inl ⟨by kernel_rfl, ?_⟩) ?_
      rotate_left
      · (intro V hSw; obtain ⟨hq1, hq2⟩ := HQ.out V hSw; clear hSw; go_simp; try with_reducible rfl)
      try simp only [Act.put]
      refine wpE_takeF 1 ⟨some 12, _, _, _, _, _⟩ (v := ?_) (by decide) rfl (by kernel_rfl) (by kernel_rfl) (by kernel_rfl) (fun _ _ _ h => h) hS (Or.inl ⟨by kernel_rfl, ?_⟩) ?_
      rotate_left
      · (intro V hSw; obtain ⟨hq1, hq2⟩ := HQ.out V hSw; clear hSw; go_simp; try with_reducible rfl)
      try simp only [Act.put]
      refine wpE_takeF 2 ⟨some 13, _, _, _, _, _⟩ (v := ?_) (by decide) rfl (by kernel_rfl) (by kernel_rfl) (by kernel_rfl) (fun _ _ _ h => h) hS (Or.inl ⟨by kernel_rfl, ?_⟩) ?_
      rotate_left
      · (intro V hSw; obtain ⟨hq1, hq2⟩ := HQ.out V hSw; clear hSw; go_simp; try with_reducible rfl)
      try simp only [Act.put]
      refine wpE_takeF 3 ⟨some 14, _, _, _, _, _⟩ (v := ?_) (by decide) rfl (by kernel_rfl) (by kernel_rfl) (by kernel_rfl) (fun _ _ _ h => h) hS (Or.inl ⟨by kernel_rfl, ?_⟩) ?_
      rotate_left
      · (intro V hSw; obtain ⟨hq1, hq2⟩ := HQ.out V hSw; clear hSw; go_simp; try with_reducible rfl)
      try simp only [Act.put]
      refine wpE_takeF 4 ⟨some 15, _, _, _, _, _⟩ (v := ?_) (by decide) rfl (by kernel_rfl) (by kernel_rfl) (by kernel_rfl) (fun _ _ _ h => h) hS (Or.inl ⟨by kernel_rfl, ?_⟩) ?_
      rotate_left
      · (intro V hSw; obtain ⟨hq1, hq2⟩ := HQ.out V hSw; clear hSw; go_simp; try with_reducible rfl)
      try simp only [Act.put]
      refine wpE_takeF 5 ⟨some 16, _, _, _, _, _⟩ (v := ?_) (by decide) rfl (by kernel_rfl) (by kernel_rfl) (by kernel_rfl) (fun _ _ _ h => h) hS (Or.inl ⟨by kernel_rfl, ?_⟩) ?_
      rotate_left
      · (intro V hSw; obtain ⟨hq1, hq2⟩ := HQ.out V hSw; clear hSw; go_simp; try with_reducible rfl)
      try simp only [Act.put]
      refine wpE_takeF 6 ⟨some 17, _, _, _, _, _⟩ (v := ?_) (by decide) rfl (by kernel_rfl) (by kernel_rfl) (by kernel_rfl) (fun _ _ _ h => h) hS (Or.inl ⟨by kernel_rfl, ?_⟩) ?_
      rotate_left
      · (intro V hSw; obtain ⟨hq1, hq2⟩ := HQ.out V hSw; clear hSw; go_simp; try with_reducible rfl)
      try simp only [Act.put]
      refine wpE_takeF 7 ⟨some 18, _, _, _, _, _⟩ (v := ?_) (by decide) rfl (by kernel_rfl) (by kernel_rfl) (by kernel_rfl) (fun _ _ _ h => h) hS (Or.inl ⟨by kernel_rfl, ?_⟩) ?_
      rotate_left
      · (intro V hSw; obtain ⟨hq1, hq2⟩ := HQ.out V hSw; clear hSw; go_simp; try with_reducible rfl)
      try simp only [Act.put]
      refine wpE_takeF 8 ⟨some 19, _, _, _, _, _⟩ (v := ?_) (by decide) rfl (by kernel_rfl) (by kernel_rfl) (by kernel_rfl) (fun _ _ _ h => h) hS (Or.inl ⟨by kernel_rfl, ?_⟩) ?_
      rotate_left
      · (intro V hSw; obtain ⟨hq1, hq2⟩ := HQ.out V hSw; clear hSw; go_simp; try with_reducible rfl)
      try simp only [Act.put]
      refine wpE_takeF 9 ⟨some 20, _, _, _, _, _⟩ (v := ?_) (by decide) rfl (by kernel_rfl) (by kernel_rfl) (by kernel_rfl) (fun _ _ _ h => h) hS (Or.inl ⟨by kernel_rfl, ?_⟩) ?_
      rotate_left
      · (intro V hSw; obtain ⟨hq1, hq2⟩ := HQ.out V hSw; clear hSw; go_simp; try with_reducible rfl)
      try simp only [Act.put]
      refine wpE_takeF 10 ⟨some 21, _, _, _, _, _⟩ (v := ?_) (by decide) rfl (by kernel_rfl) (by kernel_rfl) (by kernel_rfl) (fun _ _ _ h => h) hS (Or.inl ⟨by kernel_rfl, ?_⟩) ?_
      rotate_left
      · (intro V hSw; obtain ⟨hq1, hq2⟩ := HQ.out V hSw; clear hSw; go_simp; try with_reducible rfl)
      try simp only [Act.put]
      refine wpE_takeF 11 ⟨some 22, _, _, _, _, _⟩ (v := ?_) (by decide) rfl (by kernel_rfl) (by kernel_rfl) (by kernel_rfl) (fun _ _ _ h => h) hS (Or.inl ⟨by kernel_rfl, ?_⟩) ?_
      rotate_left
      · (intro V hSw; obtain ⟨hq1, hq2⟩ := HQ.out V hSw; clear hSw; go_simp; try with_reducible rfl)
      try simp only [Act.put]
      refine wpE_takeF 12 ⟨some 23, _, _, _, _, _⟩ (v := ?_) (by decide) rfl (by kernel_rfl) (by kernel_rfl) (by kernel_rfl) (fun _ _ _ h => h) hS (Or.inl ⟨by kernel_rfl, ?_⟩) ?_
      rotate_left
      · (intro V hSw; obtain ⟨hq1, hq2⟩ := HQ.out V hSw; clear hSw; go_simp; try with_reducible rfl)
      try simp only [Act.put]
      refine wpE_takeF 13 ⟨some 24, _, _, _, _, _⟩ (v := ?_) (by decide) rfl (by kernel_rfl) (by kernel_rfl) (by kernel_rfl) (fun _ _ _ h => h) hS (Or.inl ⟨by kernel_rfl, ?_⟩) ?_
      rotate_left
      · (intro V hSw; obtain ⟨hq1, hq2⟩ := HQ.out V hSw; clear hSw; go_simp; try with_reducible rfl)
      try simp only [Act.put]
      refine wpE_takeF 14 ⟨some 25, _, _, _, _, _⟩ (v := ?_) (by decide) rfl (by kernel_rfl) (by kernel_rfl) (by kernel_rfl) (fun _ _ _ h => h) hS (Or.inl ⟨by kernel_rfl, ?_⟩) ?_
      rotate_left
      · (intro V hSw; obtain ⟨hq1, hq2⟩ := HQ.out V hSw; clear hSw; go_simp; try with_reducible rfl)
      try simp only [Act.put]
      refine wpE_takeF 15 ⟨some 26, _, _, _, _, _⟩ (v := ?_) (by decide) rfl (by kernel_rfl) (by kernel_rfl) (by kernel_rfl) (fun _ _ _ h => h) hS (Or.inl ⟨by kernel_rfl, ?_⟩) ?_
      rotate_left
      · (intro V hSw; obtain ⟨hq1, hq2⟩ := HQ.out V hSw; clear hSw; go_simp; try with_reducible rfl)
      try simp only [Act.put]
      refine wpE_takeF 16 ⟨some 2, _, _, _, _, _⟩ (v := ?_) (by decide) rfl (by kernel_rfl) (by kernel_rfl) (by kernel_rfl) (fun _ _ _ h => h) hS (Or.inl ⟨by kernel_rfl, ?_⟩) ?_
      rotate_left
      · (intro V hSw; obtain ⟨hq1, hq2⟩ := HQ.out V hSw; clear hSw; go_simp; try with_reducible rfl)
      try simp only [Act.put]
      refine wpE_done (by kernel_rfl) ?_ _
      try simp only [List.setIfInBounds_toArray, List.set_cons_succ, List.set_cons_zero]
      go_wp2
      go_ret
      exact ⟨by rw [HR.out]; rfl, (Below.refl _ _).drew⟩
end Go.Proofs.YtmbmjdogfjmlpaaDoor.Sp
