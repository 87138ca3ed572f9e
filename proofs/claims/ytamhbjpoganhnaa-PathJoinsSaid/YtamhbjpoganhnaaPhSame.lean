/- Two lists of texts are the same: the document's. -/
import Derived.Test.YtamhbjpoganhnaaPhPlainC
import Derived.Test.YtamhbjpoganhnaaRegF
namespace Go.Proofs.Ytamhbjpoganhnaa.Ph
set_option maxRecDepth 20000
set_option linter.unusedSimpArgs false
open Go Go.RowKit
open Go.Proofs.Ytamhbjpoganhnaa.Lf Go.Proofs.Ytamhbjpoganhnaa.Mem Go.Proofs.Ytamhbjpoganhnaa.Reg

theorem same_upto {l m : List (List UInt8)} {k : Nat} (h : l.take k = m.take k) (hl : k < l.length) (hm : k < m.length) : l.take (k + 1) = m.take (k + 1) ↔ l[k] = m[k] := by
  rw [List.take_succ_eq_append_getElem hl, List.take_succ_eq_append_getElem hm, h]
  constructor
  · intro e
    have := List.append_cancel_left e
    simpa using this
  · intro e; rw [e]
set_option maxHeartbeats 4000000 in
theorem same_any (A A' : Option Addr) (n n' c c' B B' : Nat) (l m : List (List UInt8)) (w : World) (h : HoldsC SK w B A n l) (h' : HoldsC SK w B' A' n' m) (hB : B ≤ w.heap.size) (hB' : B' ≤ w.heap.size) (hn : n ≤ 4611686018427387904) :
    Calls Try.prog 11 #[.slice A n c, .slice A' n' c'] w fun E w' => E = .returned (.bool (decide (l = m))) ∧ Below w.heap.size w w' := by
  obtain ⟨r, hr⟩ : ∃ r, r = decide (l = m) := ⟨_, rfl⟩
  rw [← hr]
  have HR := Lib.hid hr; clear hr
  have e1 := h.1
  have e2 := h'.1
  by_cases hl : n = n'
  · subst hl
    have H := Lib.hid h; clear h
    have H' := Lib.hid h'; clear h'
    have E1 := Lib.hid e1; clear e1
    have E2 := Lib.hid e2; clear e2
    go_enter Try.func11, Try.ntmps11
    go_wp2
    go_loopw [5] (fun i wr => ∃ k : Nat, k ≤ n ∧ i = .int .i64 (k : Int) ∧ Hid (l.take k = m.take k) ∧ Hid (Below w.heap.size w wr)) (fun i _ => n - (intOf i).toNat)
    case atStart => exact ⟨0, Nat.zero_le _, rfl, Lib.hid (by simp), Lib.hid (Below.refl _ _)⟩
    case round =>
      obtain ⟨k, hk, rfl, HTK, HBR⟩ := hrel
      rcases Nat.lt_or_ge k n with hlt | hge
      rotate_left
      · have hrr : r = true := by
          rw [HR.out]
          refine decide_eq_true ?_
          have htk := HTK.out
          rwa [List.take_of_length_le (by have := E1.out; omega), List.take_of_length_le (by have := E2.out; omega)] at htk
        have HRR := Lib.hid hrr; clear hrr
        have hge' : ¬ (k : Int) < (n : Int) := by omega
        go_wp2
        go_ret
        exact ⟨by rw [HRR.out]; rfl, HBR.out⟩
      · have hkl : k < l.length := by have := E1.out; omega
        have hkm : k < m.length := by have := E2.out; omega
        have hh := H.out.below (HBR.out.mono hB)
        have hh' := H'.out.below (HBR.out.mono hB')
        obtain ⟨b, off, rfl, hbB⟩ := hh.addr (by omega)
        obtain ⟨b', off', rfl, hbB'⟩ := hh'.addr (by omega)
        have hs : ∀ V, Below wr.heap.size wr V → V.cell? ⟨b, off + k, none⟩ = some (.string ⟨(l[k]).toArray⟩) ∧ V.cell? ⟨b', off' + k, none⟩ = some (.string ⟨(m[k]).toArray⟩) := fun V hV =>
          ⟨sk_cell (hh.below (hV.mono (Nat.le_trans hB HBR.out.size))) k hkl, sk_cell (hh'.below (hV.mono (Nat.le_trans hB' HBR.out.size))) k hkm⟩
        have hsu := same_upto HTK.out hkl hkm
        have t1 := text_tl2 l[k]
        have t2 := text_tl2 m[k]
        have hne : ¬ l[k] = m[k] → r = false := fun e => by rw [HR.out]; exact decide_eq_false (fun q => e (by subst q; rfl))
        have hk0 : (0 : Int) ≤ (k : Int) := by omega
        have hkn : (k : Int) < (n : Int) := by omega
        have HNE := Lib.hid hne; clear hne
        have HSU := Lib.hid hsu; clear hsu
        clear hh hh'
        generalize l[k] = x at *
        generalize m[k] = y at *
        generalize (⟨x.toArray⟩ : ByteArray) = X at *
        generalize (⟨y.toArray⟩ : ByteArray) = Y at *
        have HS := Lib.hid hs; clear hs
        have hq : (X.toList == Y.toList) = decide (x = y) := by
          rw [t1, t2]
          by_cases e : x = y
          · rw [decide_eq_true e, beq_iff_eq.2 e]
          · rw [decide_eq_false e, beq_false_of_ne e]
        clear t1 t2
        have hq2 := fun e : x = y => decide_eq_true e
        have hq3 := fun e : ¬ x = y => decide_eq_false e
        obtain ⟨q, hqq⟩ : ∃ q, q = decide (x = y) := ⟨_, rfl⟩
        rw [← hqq] at hq
        have HQ := Lib.hid hqq; clear hqq hq2 hq3
        go_wp2_with fail
        refine wp_region_E (fun V => Below wr.heap.size wr V) 99 rfl ?_
        have hS := (show Below wr.heap.size wr wr.drew from (Below.refl _ wr).drew)
        refine wpE_takeF 0 ⟨some 17, _, _, _, _, _⟩ (v := ?_) (by decide) rfl (by kernel_rfl) (by kernel_rfl) (by kernel_rfl) (fun _ _ _ h => h) hS (Or.inl ⟨by kernel_rfl, ?_⟩) ?_
        rotate_left
        · (intro V hSw; obtain ⟨hq1, hq2⟩ := HS.out V hSw; go_simp; try with_reducible rfl)
        try simp only [Act.put]
        refine wpE_takeF 1 ⟨some 18, _, _, _, _, _⟩ (v := ?_) (by decide) rfl (by kernel_rfl) (by kernel_rfl) (by kernel_rfl) (fun _ _ _ h => h) hS (Or.inl ⟨by kernel_rfl, ?_⟩) ?_
        rotate_left
        · (intro V hSw; obtain ⟨hq1, hq2⟩ := HS.out V hSw; go_simp; try with_reducible rfl)
        try simp only [Act.put]
        refine wpE_takeF 2 ⟨some 19, _, _, _, _, _⟩ (v := ?_) (by decide) rfl (by kernel_rfl) (by kernel_rfl) (by kernel_rfl) (fun _ _ _ h => h) hS (Or.inl ⟨by kernel_rfl, ?_⟩) ?_
        rotate_left
        · (intro V hSw; obtain ⟨hq1, hq2⟩ := HS.out V hSw; go_simp; try with_reducible rfl)
        try simp only [Act.put]
        refine wpE_takeF 3 ⟨some 20, _, _, _, _, _⟩ (v := ?_) (by decide) rfl (by kernel_rfl) (by kernel_rfl) (by kernel_rfl) (fun _ _ _ h => h) hS (Or.inl ⟨by kernel_rfl, ?_⟩) ?_
        rotate_left
        · (intro V hSw; obtain ⟨hq1, hq2⟩ := HS.out V hSw; go_simp; try with_reducible rfl)
        try simp only [Act.put]
        refine wpE_takeF 4 ⟨some 21, _, _, _, _, _⟩ (v := ?_) (by decide) rfl (by kernel_rfl) (by kernel_rfl) (by kernel_rfl) (fun _ _ _ h => h) hS (Or.inl ⟨by kernel_rfl, ?_⟩) ?_
        rotate_left
        · (intro V hSw; obtain ⟨hq1, hq2⟩ := HS.out V hSw; go_simp; try with_reducible rfl)
        try simp only [Act.put]
        refine wpE_takeF 5 ⟨some 22, _, _, _, _, _⟩ (v := ?_) (by decide) rfl (by kernel_rfl) (by kernel_rfl) (by kernel_rfl) (fun _ _ _ h => h) hS (Or.inl ⟨by kernel_rfl, ?_⟩) ?_
        rotate_left
        · (intro V hSw; obtain ⟨hq1, hq2⟩ := HS.out V hSw; go_simp; try with_reducible rfl)
        try simp only [Act.put]
        refine wpE_takeF 6 ⟨some 23, _, _, _, _, _⟩ (v := ?_) (by decide) rfl (by kernel_rfl) (by kernel_rfl) (by kernel_rfl) (fun _ _ _ h => h) hS (Or.inl ⟨by kernel_rfl, ?_⟩) ?_
        rotate_left
        · (intro V hSw; obtain ⟨hq1, hq2⟩ := HS.out V hSw; go_simp; try with_reducible rfl)
        try simp only [Act.put]
        refine wpE_takeF 7 ⟨some 24, _, _, _, _, _⟩ (v := ?_) (by decide) rfl (by kernel_rfl) (by kernel_rfl) (by kernel_rfl) (fun _ _ _ h => h) hS (Or.inl ⟨by kernel_rfl, ?_⟩) ?_
        rotate_left
        · (intro V hSw; obtain ⟨hq1, hq2⟩ := HS.out V hSw; go_simp; try with_reducible rfl)
        try simp only [Act.put]
        refine wpE_takeF 8 ⟨some 25, _, _, _, _, _⟩ (v := ?_) (by decide) rfl (by kernel_rfl) (by kernel_rfl) (by kernel_rfl) (fun _ _ _ h => h) hS (Or.inl ⟨by kernel_rfl, ?_⟩) ?_
        rotate_left
        · (intro V hSw; go_simp; try with_reducible rfl)
        try simp only [Act.put]
        refine wpE_done (by kernel_rfl) ?_ _
        try simp only [List.setIfInBounds_toArray, List.set_cons_succ, List.set_cons_zero]
        cases q with
        | true =>
          have hxy : x = y := of_decide_eq_true HQ.out.symm
          have HXY := Lib.hid hxy; clear hxy
          go_wp2
          exact ⟨⟨k + 1, by omega, by go_num, Lib.hid (HSU.out.2 HXY.out), Lib.hid HBR.out.drew⟩, by simp [intOf]; omega⟩
        | false =>
          have hxy : ¬ x = y := of_decide_eq_false HQ.out.symm
          have HXY := Lib.hid (HNE.out hxy); clear hxy
          go_wp2
          go_ret
          exact ⟨by rw [HXY.out]; rfl, HBR.out.drew⟩
  · have hr : r = false := by
      rw [HR.out]
      refine decide_eq_false (fun q => hl ?_)
      rw [← e1, ← e2, q]
    have HRR := Lib.hid hr; clear hr h h' e1 e2
    have hl2 : ¬ (n : Int) = (n' : Int) := by omega
    go_enter Try.func11, Try.ntmps11
    go_wp2
    go_ret
    exact ⟨by rw [HRR.out]; rfl, Below.refl _ _⟩
end Go.Proofs.Ytamhbjpoganhnaa.Ph
