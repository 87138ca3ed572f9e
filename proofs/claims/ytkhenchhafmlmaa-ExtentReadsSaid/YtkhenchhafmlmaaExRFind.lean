/- Where a block lies, and how many nodes a list needs: the document's calls. -/
import Derived.Test.YtkhenchhafmlmaaExRCheck
import Derived.Test.YtkhenchhafmlmaaExSpread
namespace Go.Proofs.Ytkhenchhafmlmaa.Ex
set_option maxRecDepth 20000
open Go.RowKit
open Go.Proofs.Ytkhenchhafmlmaa.Mem Go.Proofs.Ytkhenchhafmlmaa.Crc Go.Proofs.Ytkhenchhafmlmaa.Rec Go.Proofs.Ytkhenchhafmlmaa.Reg
attribute [local go_sem ↓] ldX_eq stX_eq

theorem same_none {T : Nat → Int} {B : Nat → Bool} {l : List X} {i : Nat} (h : Same T B l) (hi : i < 256) (h0 : T i = 0) : at_ l (i : Int) = none := by
  have h1 := h i hi
  cases hv : at_ l (i : Int) with
  | none => rfl
  | some v =>
    rw [hv] at h1
    exact absurd h0 h1.2.1
theorem same_some {T : Nat → Int} {B : Nat → Bool} {l : List X} {i : Nat} (h : Same T B l) (hi : i < 256) (h0 : T i ≠ 0) : at_ l (i : Int) = some (T i, B i) := by
  have h1 := h i hi
  cases hv : at_ l (i : Int) with
  | none =>
    rw [hv] at h1
    exact absurd h1 h0
  | some v =>
    rw [hv] at h1
    rw [h1.1, h1.2.2]
theorem same_of {T : Nat → Int} {B : Nat → Bool} {l : List X} {b : Int} {v : Int × Bool} (hl : Lin l) (h : Same T B l) (hb : at_ l b = some v) : ∃ i : Nat, b = (i : Int) ∧ i < 256 ∧ T i = v.1 ∧ T i ≠ 0 ∧ B i = v.2 := by
  have hr := at_range hl hb
  obtain ⟨i, rfl⟩ : ∃ i : Nat, b = (i : Int) := ⟨b.toNat, by omega⟩
  have h1 := h i (by omega)
  rw [hb] at h1
  exact ⟨i, rfl, by omega, h1⟩
theorem rfind_none {l : List X} {b : Int} (h : at_ l b = none) : findL l b = (0, false, false) := by
  unfold findL
  split
  · rw [h]
  · rfl
theorem rfind_some {l : List X} (hl : right l = true) {b d : Int} {u : Bool} (h : at_ l b = some (d, u)) : findL l b = (d, !u, true) := by
  unfold findL
  rw [if_pos hl, h]

set_option maxRecDepth 100000 in
set_option maxHeartbeats 4000000 in
theorem rfind_any (A : Option Addr) (n c B : Nat) (l : List X) (b : Int) (w : World) (h : HoldsX w B A n l) (hB : B ≤ w.heap.size) (hr : ∀ x ∈ l, x.rep) (hn : n ≤ 4398046511104) :
    Calls Try.prog 25 #[.slice A n c, .int .i64 b] w fun e w' => e = .returned (findV (findL l b)) ∧ Below w.heap.size w w' := by
  have hchk := rcheck_any A n c B l w h hB hr hn
  cases hrl : right l with
  | false =>
    have hch : chkX l = 1 := by unfold chkX; rw [hrl]; rfl
    have hf : findL l b = (0, false, false) := by unfold findL; rw [hrl]; rfl
    rw [hch] at hchk
    rw [hf]
    unfold findV
    dsimp only
    have HC := Lib.hid hchk; clear hchk h hr hrl hch hf
    go_enter Try.func25, Try.ntmps25
    go_wp2_with fail
    with_reducible refine HC.out.mono ?_
    rintro E V1 ⟨rfl, hb⟩
    have HB1 := Lib.hid hb; clear hb
    go_wp2
    go_ret3
    exact ⟨rfl, HB1.out⟩
  | true =>
    have hch : chkX l = 0 := by unfold chkX; rw [hrl]; rfl
    rw [hch] at hchk
    by_cases hin : 0 ≤ b ∧ b < 256
    rotate_left
    · have hf : findL l b = (0, false, false) := rfind_none (by
        cases hv : at_ l b with
        | none => rfl
        | some v => exact absurd (at_range (right_lin hrl).1 hv) hin)
      rw [hf]
      unfold findV
      dsimp only
      have HC := Lib.hid hchk; clear hchk h hr hrl hch hf
      rcases Int.lt_or_le b 0 with h0 | h0
      · clear hin
        go_enter Try.func25, Try.ntmps25
        go_wp2_with fail
        with_reducible refine HC.out.mono ?_
        rintro E V1 ⟨rfl, hb⟩
        have HB1 := Lib.hid hb; clear hb
        go_wp2
        go_ret3
        exact ⟨rfl, HB1.out⟩
      · have h1 : ¬ b < 0 := by omega
        have h2 : 256 ≤ b := by omega
        clear hin h0
        go_enter Try.func25, Try.ntmps25
        go_wp2_with fail
        with_reducible refine HC.out.mono ?_
        rintro E V1 ⟨rfl, hb⟩
        have HB1 := Lib.hid hb; clear hb
        go_wp2
        go_ret3
        exact ⟨rfl, HB1.out⟩
    · obtain ⟨i, rfl⟩ : ∃ i : Nat, b = (i : Int) := ⟨b.toNat, by omega⟩
      have HIN := Lib.hid (show i < 256 by omega)
      have h1 : ¬ (i : Int) < 0 := by omega
      have h2 : ¬ 256 ≤ (i : Int) := by omega
      have h3 : (0 : Int) ≤ (i : Int) := by omega
      have h4 : (i : Int) < 256 := by omega
      have hsp : ∀ V, Below w.heap.size w V → Calls Try.prog 40 #[.slice A n c] V fun E w' => ∃ T Bk, E = .returned (.pointer (some ⟨V.heap.size, 0, none⟩)) ∧ MapAt w' V.heap.size T Bk ∧ Same T Bk l ∧ Below V.heap.size V w' := fun V hV => spread_any A n c B l V (h.below (hV.mono hB)) (by have := hV.size; omega) hrl
      have hf0 : at_ l (i : Int) = none → findL l (i : Int) = (0, false, false) := rfind_none
      have hf1 : ∀ d u, at_ l (i : Int) = some (d, u) → findL l (i : Int) = (d, !u, true) := fun d u => rfind_some hrl
      have HF0 := Lib.hid hf0; clear hf0
      have HF1 := Lib.hid hf1; clear hf1
      have HSP := Lib.hid hsp; clear hsp
      have HC := Lib.hid hchk; clear hchk h hr hrl hch hin
      go_enter Try.func25, Try.ntmps25
      go_wp2_with fail
      with_reducible refine HC.out.mono ?_
      rintro E V1 ⟨rfl, hb⟩
      have HB1 := Lib.hid hb; clear hb
      go_wp2_with fail
      with_reducible refine (HSP.out V1 HB1.out).mono ?_
      rintro E V2 ⟨T, Bk, rfl, hmap, hsame, hb⟩
      have HB2 : Hid (Below w.heap.size w V2) := Lib.hid (HB1.out.trans (hb.mono HB1.out.size))
      clear hb
      obtain ⟨g, hg⟩ : ∃ g, g = V1.heap.size := ⟨_, rfl⟩
      rw [← hg] at hmap ⊢
      clear hg
      have hcell : ∀ V, Below V2.heap.size V2 V → V.cell? ⟨g, i, none⟩ = some (.int .i64 (T i)) ∧ V.cell? ⟨g, 256 + i, none⟩ = some (.bool (Bk i)) := fun V hV => by
        have hm := hmap.kept (hV.block g hmap.lt)
        exact ⟨(hm.to i HIN.out).1, (hm.blank i HIN.out).1⟩
      obtain ⟨ti, hti⟩ : ∃ ti, ti = T i := ⟨_, rfl⟩
      obtain ⟨bi, hbi⟩ : ∃ bi, bi = Bk i := ⟨_, rfl⟩
      rw [← hti, ← hbi] at hcell
      obtain ⟨c1, -⟩ := hcell V2 (Below.refl _ _)
      have HCELL := Lib.hid hcell; clear hcell hmap
      by_cases h0 : ti = 0
      · have hv := HF0.out (same_none hsame HIN.out (hti ▸ h0))
        have HV := Lib.hid hv
        clear hv hsame hti hbi
        subst h0
        go_wp2
        go_ret3
        exact ⟨by rw [HV.out]; rfl, HB2.out⟩
      · have hv := HF1.out ti bi (by rw [hti, hbi]; exact same_some hsame HIN.out (hti ▸ h0))
        have HV := Lib.hid hv
        clear hv hsame hti hbi
        have hzb : (ti == 0) = false := beq_false_of_ne h0
        clear h0
        go_wp2_with fail
        refine wp_region_E (fun V => Below V2.heap.size V2 V) 99 rfl ?_
        have hS := (show Below V2.heap.size V2 V2.drew from (Below.refl _ V2).drew)
        refine wpE_takeF 0 ⟨some 28, _, _, _, _, _⟩ (v := ?_) (by decide) rfl (by kernel_rfl) (by kernel_rfl) (by kernel_rfl) (fun _ _ _ h => h) hS (Or.inl ⟨by kernel_rfl, ?_⟩) ?_
        rotate_left
        · (intro V hSw; obtain ⟨hq1, hq2⟩ := HCELL.out V hSw; go_simp; try with_reducible rfl)
        try simp only [Act.put]
        refine wpE_takeF 1 ⟨some 29, _, _, _, _, _⟩ (v := ?_) (by decide) rfl (by kernel_rfl) (by kernel_rfl) (by kernel_rfl) (fun _ _ _ h => h) hS (Or.inl ⟨by kernel_rfl, ?_⟩) ?_
        rotate_left
        · (intro V hSw; obtain ⟨hq1, hq2⟩ := HCELL.out V hSw; go_simp; try with_reducible rfl)
        try simp only [Act.put]
        refine wpE_takeF 2 ⟨some 30, _, _, _, _, _⟩ (v := ?_) (by decide) rfl (by kernel_rfl) (by kernel_rfl) (by kernel_rfl) (fun _ _ _ h => h) hS (Or.inl ⟨by kernel_rfl, ?_⟩) ?_
        rotate_left
        · (intro V hSw; obtain ⟨hq1, hq2⟩ := HCELL.out V hSw; go_simp; try with_reducible rfl)
        try simp only [Act.put]
        refine wpE_takeF 3 ⟨some 31, _, _, _, _, _⟩ (v := ?_) (by decide) rfl (by kernel_rfl) (by kernel_rfl) (by kernel_rfl) (fun _ _ _ h => h) hS (Or.inl ⟨by kernel_rfl, ?_⟩) ?_
        rotate_left
        · (intro V hSw; obtain ⟨hq1, hq2⟩ := HCELL.out V hSw; go_simp; try with_reducible rfl)
        try simp only [Act.put]
        refine wpE_takeF 4 ⟨some 32, _, _, _, _, _⟩ (v := ?_) (by decide) rfl (by kernel_rfl) (by kernel_rfl) (by kernel_rfl) (fun _ _ _ h => h) hS (Or.inl ⟨by kernel_rfl, ?_⟩) ?_
        rotate_left
        · (intro V hSw; obtain ⟨hq1, hq2⟩ := HCELL.out V hSw; go_simp; try with_reducible rfl)
        try simp only [Act.put]
        refine wpE_takeF 5 ⟨some 33, _, _, _, _, _⟩ (v := ?_) (by decide) rfl (by kernel_rfl) (by kernel_rfl) (by kernel_rfl) (fun _ _ _ h => h) hS (Or.inl ⟨by kernel_rfl, ?_⟩) ?_
        rotate_left
        · (intro V hSw; obtain ⟨hq1, hq2⟩ := HCELL.out V hSw; go_simp; try with_reducible rfl)
        try simp only [Act.put]
        refine wpE_takeF 6 ⟨some 34, _, _, _, _, _⟩ (v := ?_) (by decide) rfl (by kernel_rfl) (by kernel_rfl) (by kernel_rfl) (fun _ _ _ h => h) hS (Or.inl ⟨by kernel_rfl, ?_⟩) ?_
        rotate_left
        · (intro V hSw; obtain ⟨hq1, hq2⟩ := HCELL.out V hSw; go_simp; try with_reducible rfl)
        try simp only [Act.put]
        refine wpE_takeF 7 ⟨some 35, _, _, _, _, _⟩ (v := ?_) (by decide) rfl (by kernel_rfl) (by kernel_rfl) (by kernel_rfl) (fun _ _ _ h => h) hS (Or.inl ⟨by kernel_rfl, ?_⟩) ?_
        rotate_left
        · (intro V hSw; obtain ⟨hq1, hq2⟩ := HCELL.out V hSw; go_simp; try with_reducible rfl)
        try simp only [Act.put]
        refine wpE_takeF 8 ⟨some 36, _, _, _, _, _⟩ (v := ?_) (by decide) rfl (by kernel_rfl) (by kernel_rfl) (by kernel_rfl) (fun _ _ _ h => h) hS (Or.inl ⟨by kernel_rfl, ?_⟩) ?_
        rotate_left
        · (intro V hSw; obtain ⟨hq1, hq2⟩ := HCELL.out V hSw; go_simp; try with_reducible rfl)
        try simp only [Act.put]
        refine wpE_takeF 9 ⟨some 37, _, _, _, _, _⟩ (v := ?_) (by decide) rfl (by kernel_rfl) (by kernel_rfl) (by kernel_rfl) (fun _ _ _ h => h) hS (Or.inl ⟨by kernel_rfl, ?_⟩) ?_
        rotate_left
        · (intro V hSw; obtain ⟨hq1, hq2⟩ := HCELL.out V hSw; go_simp; try with_reducible rfl)
        try simp only [Act.put]
        refine wpE_takeF 10 ⟨some 38, _, _, _, _, _⟩ (v := ?_) (by decide) rfl (by kernel_rfl) (by kernel_rfl) (by kernel_rfl) (fun _ _ _ h => h) hS (Or.inl ⟨by kernel_rfl, ?_⟩) ?_
        rotate_left
        · (intro V hSw; obtain ⟨hq1, hq2⟩ := HCELL.out V hSw; go_simp; try with_reducible rfl)
        try simp only [Act.put]
        refine wpE_takeF 11 ⟨some 39, _, _, _, _, _⟩ (v := ?_) (by decide) rfl (by kernel_rfl) (by kernel_rfl) (by kernel_rfl) (fun _ _ _ h => h) hS (Or.inl ⟨by kernel_rfl, ?_⟩) ?_
        rotate_left
        · (intro V hSw; obtain ⟨hq1, hq2⟩ := HCELL.out V hSw; go_simp; try with_reducible rfl)
        try simp only [Act.put]
        refine wpE_takeF 12 ⟨some 40, _, _, _, _, _⟩ (v := ?_) (by decide) rfl (by kernel_rfl) (by kernel_rfl) (by kernel_rfl) (fun _ _ _ h => h) hS (Or.inl ⟨by kernel_rfl, ?_⟩) ?_
        rotate_left
        · (intro V hSw; obtain ⟨hq1, hq2⟩ := HCELL.out V hSw; go_simp; try with_reducible rfl)
        try simp only [Act.put]
        refine wpE_takeF 13 ⟨some 4, _, _, _, _, _⟩ (v := ?_) (by decide) rfl (by kernel_rfl) (by kernel_rfl) (by kernel_rfl) (fun _ _ _ h => h) hS (Or.inl ⟨by kernel_rfl, ?_⟩) ?_
        rotate_left
        · (intro V hSw; obtain ⟨hq1, hq2⟩ := HCELL.out V hSw; go_simp; try with_reducible rfl)
        try simp only [Act.put]
        refine wpE_takeF 14 ⟨some 5, _, _, _, _, _⟩ (v := ?_) (by decide) rfl (by kernel_rfl) (by kernel_rfl) (by kernel_rfl) (fun _ _ _ h => h) hS (Or.inl ⟨by kernel_rfl, ?_⟩) ?_
        rotate_left
        · (intro V hSw; obtain ⟨hq1, hq2⟩ := HCELL.out V hSw; go_simp; try with_reducible rfl)
        try simp only [Act.put]
        refine wpE_takeF 15 ⟨some 6, _, _, _, _, _⟩ (v := ?_) (by decide) rfl (by kernel_rfl) (by kernel_rfl) (by kernel_rfl) (fun _ _ _ h => h) hS (Or.inl ⟨by kernel_rfl, ?_⟩) ?_
        rotate_left
        · (intro V hSw; obtain ⟨hq1, hq2⟩ := HCELL.out V hSw; go_simp; try with_reducible rfl)
        try simp only [Act.put]
        refine wpE_done (by kernel_rfl) ?_ _
        try simp only [List.setIfInBounds_toArray, List.set_cons_succ, List.set_cons_zero]
        go_wp2
        go_ret3
        exact ⟨by rw [HV.out]; rfl, HB2.out.drew⟩

set_option maxRecDepth 100000 in
theorem rneed_any (A : Option Addr) (n c B : Nat) (l : List X) (w : World) (h : HoldsX w B A n l) (hB : B ≤ w.heap.size) (hr : ∀ x ∈ l, x.rep) (hn : n ≤ 4398046511104) :
    Calls Try.prog 19 #[.slice A n c] w fun e w' => e = .returned (.int .i64 (needL l)) ∧ Below w.heap.size w w' := by
  have hchk := rcheck_any A n c B l w h hB hr hn
  have hln := h.1
  unfold needL
  cases hrl : right l with
  | false =>
    have hch : chkX l = 1 := by unfold chkX; rw [hrl]; rfl
    rw [hch] at hchk
    have HC := Lib.hid hchk; clear hchk h hr hrl hch
    go_enter Try.func19, Try.ntmps19
    go_wp2_with fail
    with_reducible refine HC.out.mono ?_
    rintro E V1 ⟨rfl, hb⟩
    have HB1 := Lib.hid hb; clear hb
    go_wp2
    go_ret
    exact ⟨rfl, HB1.out⟩
  | true =>
    have hch : chkX l = 0 := by unfold chkX; rw [hrl]; rfl
    rw [hch] at hchk
    have h60 : n ≤ 60 := by have := (right_lin hrl).2.2.2.2; omega
    rw [hln, if_pos rfl]
    have HC := Lib.hid hchk; clear hchk h hr hrl hch hln
    unfold needN
    by_cases h4 : n ≤ 4
    · have h4' : (n : Int) ≤ 4 := by omega
      rw [if_pos h4]
      go_enter Try.func19, Try.ntmps19
      go_wp2_with fail
      with_reducible refine HC.out.mono ?_
      rintro E V1 ⟨rfl, hb⟩
      have HB1 := Lib.hid hb; clear hb
      go_wp2
      go_ret
      exact ⟨rfl, HB1.out⟩
    · have h4' : ¬ (n : Int) ≤ 4 := by omega
      rw [if_neg h4]
      have hd : ((n : Int) + 19).tdiv 20 = (((n + 19) / 20 : Nat) : Int) := by
        rw [show ((n : Int) + 19) = ((n + 19 : Nat) : Int) by omega]
        exact (Int.ofNat_tdiv (n + 19) 20).symm
      have hs : ((n : Int) + 20) - 1 = (n : Int) + 19 := by omega
      have hdq : (n + 19) / 20 ≤ 4 := by omega
      have hww : IntKind.i64.wrap (((n + 19) / 20 : Nat) : Int) = (((n + 19) / 20 : Nat) : Int) := by rw [IntKind.wrap_i64]; omega
      generalize (n + 19) / 20 = q at hd hdq hww ⊢
      go_enter Try.func19, Try.ntmps19
      go_wp2_with fail
      with_reducible refine HC.out.mono ?_
      rintro E V1 ⟨rfl, hb⟩
      have HB1 := Lib.hid hb; clear hb
      go_wp2
      go_ret
      exact ⟨rfl, HB1.out⟩
end Go.Proofs.Ytkhenchhafmlmaa.Ex
