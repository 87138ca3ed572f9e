/- Whether two lists of runs are the same: the document's. -/
import Derived.Test.YtmbmjdogfjmlpaaDoorSpCalls
import Derived.Laws.StructEq
namespace Go.Proofs.YtmbmjdogfjmlpaaDoor.Sp
set_option maxRecDepth 20000
open Go.RowKit
open Go.Proofs.YtmbmjdogfjmlpaaDoor.Mem Go.Proofs.YtmbmjdogfjmlpaaDoor.Rec Go.Proofs.YtmbmjdogfjmlpaaDoor.Reg
attribute [local go_sem ↓] ldX_eq stX_eq

/-! ### The same -/
def eqX (x y : Value) : Sem Value := binOp .eql 33 x y
theorem eqX_eq (x y : Value) : binOp .eql 33 x y = eqX x y := rfl
def neqX (x y : Value) : Sem Value := binOp .neq 33 x y
theorem neqX_eq (x y : Value) : binOp .neq 33 x y = neqX x y := rfl
theorem run_eqX (w : World) (g h : Rn) : (eqX (.agg g.c) (.agg h.c)).run Tryd.prog w = .ok (.bool (decide (g = h))) w := by
  have u4 := Tryd.underlying9
  have hS : Tryd.prog.underlying 33 = some (.struct (Tryd.prog.fieldsOf 33)) := by kernel_rfl
  have hp : Tryd.prog.stoodInHeld 33 = false := by kernel_rfl
  obtain ⟨a1, a2⟩ := g
  obtain ⟨b1, b2⟩ := h
  unfold eqX Rn.c
  rw [run_eql_struct, show (10000 : Nat) = 9999 + 1 from rfl, run_equalIn_agg w 9999 33 _ _ hS hp]
  simp only [Program.fieldsOf, Tryd.underlying33]
  by_cases h1 : a1 = b1
  · subst h1
    by_cases h2 : a2 = b2
    · subst h2
      go_simp
    · have h3 : ((⟨a2.toArray⟩ : ByteArray).toList == (⟨b2.toArray⟩ : ByteArray).toList) = false := by rw [text_list, text_list]; exact beq_false_of_ne h2
      have h4 : (a2 == b2) = false := beq_false_of_ne h2
      go_simp
  · have h4 : (a1 == b1) = false := beq_false_of_ne h1
    go_simp
theorem run_neqX (w : World) (g h : Rn) : (neqX (.agg g.c) (.agg h.c)).run Tryd.prog w = .ok (.bool (!decide (g = h))) w := by
  have h1 := run_eqX w g h
  unfold eqX at h1
  unfold neqX
  rw [run_eql_struct] at h1
  rw [run_neq_struct]
  generalize (Op.equalIn 10000 33 (.agg g.c) (.agg h.c)).run Tryd.prog w = r at h1 ⊢
  cases r with
  | ok b w' =>
    simp only [Result.andThen_ok, Result.ok.injEq, Value.bool.injEq] at h1 ⊢
    obtain ⟨rfl, rfl⟩ := h1
    exact ⟨rfl, rfl⟩
  | halt x w' => simp [Result.andThen] at h1
attribute [local go_sem ↓] eqX_eq neqX_eq
set_option maxRecDepth 100000 in
set_option maxHeartbeats 1000000 in
theorem same_any (A A' : Option Addr) (n n' c c' B B' : Nat) (l m : List Rn) (w : World) (h : HoldsX w B A n l) (h' : HoldsX w B' A' n' m) (hB : B ≤ w.heap.size) (hB' : B' ≤ w.heap.size) (hn : n ≤ 8796093022208) :
    Calls Tryd.prog 15 #[.slice A n c, .slice A' n' c'] w fun E w' => E = .returned (.bool (decide (l = m))) ∧ Below w.heap.size w w' := by
  obtain ⟨r, hr⟩ : ∃ r, r = decide (l = m) := ⟨_, rfl⟩
  rw [← hr]
  have HR := Lib.hid hr; clear hr
  have e1 := h.1
  have e2 := h'.1
  by_cases hl : n = n'
  · subst hl
    have H := Lib.hid h; clear h
    have H' := Lib.hid h'; clear h'
    have E1 := Lib.hid e1; clear e1
    have E2 := Lib.hid e2; clear e2
    go_enter Tryd.func15, Tryd.ntmps15
    go_wp2
    go_loopw [5] (fun i wr => ∃ k : Nat, k ≤ n ∧ i = .int .i64 (k : Int) ∧ l.take k = m.take k ∧ Below w.heap.size w wr) (fun i _ => n - (intOf i).toNat)
    case atStart => exact ⟨0, Nat.zero_le _, rfl, by simp, Below.refl _ _⟩
    case round =>
      obtain ⟨k, hk, rfl, htk, hbr⟩ := hrel
      rcases Nat.lt_or_ge k n with hlt | hge
      rotate_left
      · have hkn : k = n := by omega
        have hrr : r = true := by
          rw [HR.out]
          refine decide_eq_true ?_
          rwa [List.take_of_length_le (by have := E1.out; omega), List.take_of_length_le (by have := E2.out; omega)] at htk
        have HRR := Lib.hid hrr; clear hrr
        have HBR := Lib.hid hbr; clear hbr htk
        have HKN := Lib.hid hkn; clear hkn
        have hge' : ¬ (k : Int) < (n : Int) := by omega
        go_wp2
        go_ret
        exact ⟨by rw [HRR.out]; rfl, HBR.out⟩
      · have hkl : k < l.length := by have := E1.out; omega
        have hkm : k < m.length := by have := E2.out; omega
        have hh := H.out.below (hbr.mono hB)
        have hh' := H'.out.below (hbr.mono hB')
        obtain ⟨b, off, rfl, hbB⟩ := hh.addr (by omega)
        obtain ⟨b', off', rfl, hbB'⟩ := hh'.addr (by omega)
        obtain ⟨x, hx⟩ : ∃ x, x = l[k] := ⟨_, rfl⟩
        obtain ⟨y, hy⟩ : ∃ y, y = m[k] := ⟨_, rfl⟩
        have hs : ∀ V, Below wr.heap.size wr V → (ldX (.pointer (some ⟨b, off + k * 2, none⟩))).run Tryd.prog V = .ok (.agg x.c) V ∧ (ldX (.pointer (some ⟨b', off' + k * 2, none⟩))).run Tryd.prog V = .ok (.agg y.c) V := fun V hV => by
          have g1 := run_ldX_at (hh.below (hV.mono (Nat.le_trans hB hbr.size))) k hkl (off + k * 2) rfl
          have g2 := run_ldX_at (hh'.below (hV.mono (Nat.le_trans hB' hbr.size))) k hkm (off' + k * 2) rfl
          rw [← hx] at g1
          rw [← hy] at g2
          exact ⟨g1, g2⟩
        have hcmp : ∀ V, (neqX (.agg x.c) (.agg y.c)).run Tryd.prog V = .ok (.bool (!decide (x = y))) V := fun V => run_neqX V x y
        have hk0 : (0 : Int) ≤ (k : Int) := by omega
        have hkn : (k : Int) < (n : Int) := by omega
        have HS := Lib.hid hs; clear hs
        have HX := Lib.hid hx; clear hx
        have HY := Lib.hid hy; clear hy
        have HTK := Lib.hid htk; clear htk
        have HBR := Lib.hid hbr; clear hbr hh hh'
        have hq : decide (x = y) = true ↔ l[k] = m[k] := by rw [decide_eq_true_iff, HX.out, HY.out]
        have HQ := Lib.hid hq; clear hq
        generalize decide (x = y) = q at hcmp HQ
        generalize x.c = C at hcmp HS
        generalize y.c = D at hcmp HS
        go_wp2_with fail
        refine wp_region_E (fun V => Below wr.heap.size wr V) 99 rfl ?_
        have hS := (show Below wr.heap.size wr wr.drew from (Below.refl _ wr).drew)
        refine wpE_takeF 0 ⟨some 17, _, _, _, _, _⟩ (v := ?_) (by decide) rfl (by kernel_rfl) (by kernel_rfl) (by kernel_rfl) (fun _ _ _ h => h) hS (Or.inl ⟨by kernel_rfl, ?_⟩) ?_
        rotate_left
        · (intro V hSw; obtain ⟨hq1, hq2⟩ := HS.out V hSw; go_simp; try with_reducible rfl)
        try simp only [Act.put]
        refine wpE_takeF 1 ⟨some 18, _, _, _, _, _⟩ (v := ?_) (by decide) rfl (by kernel_rfl) (by kernel_rfl) (by kernel_rfl) (fun _ _ _ h => h) hS (Or.inl ⟨by kernel_rfl, ?_⟩) ?_
        rotate_left
        · (intro V hSw; obtain ⟨hq1, hq2⟩ := HS.out V hSw; go_simp; try with_reducible rfl)
        try simp only [Act.put]
        refine wpE_takeF 2 ⟨some 19, _, _, _, _, _⟩ (v := ?_) (by decide) rfl (by kernel_rfl) (by kernel_rfl) (by kernel_rfl) (fun _ _ _ h => h) hS (Or.inl ⟨by kernel_rfl, ?_⟩) ?_
        rotate_left
        · (intro V hSw; obtain ⟨hq1, hq2⟩ := HS.out V hSw; go_simp; try with_reducible rfl)
        try simp only [Act.put]
        refine wpE_takeF 3 ⟨some 20, _, _, _, _, _⟩ (v := ?_) (by decide) rfl (by kernel_rfl) (by kernel_rfl) (by kernel_rfl) (fun _ _ _ h => h) hS (Or.inl ⟨by kernel_rfl, ?_⟩) ?_
        rotate_left
        · (intro V hSw; obtain ⟨hq1, hq2⟩ := HS.out V hSw; go_simp; try with_reducible rfl)
        try simp only [Act.put]
        refine wpE_takeF 4 ⟨some 21, _, _, _, _, _⟩ (v := ?_) (by decide) rfl (by kernel_rfl) (by kernel_rfl) (by kernel_rfl) (fun _ _ _ h => h) hS (Or.inl ⟨by kernel_rfl, ?_⟩) ?_
        rotate_left
        · (intro V hSw; obtain ⟨hq1, hq2⟩ := HS.out V hSw; go_simp; try with_reducible rfl)
        try simp only [Act.put]
        refine wpE_takeF 5 ⟨some 22, _, _, _, _, _⟩ (v := ?_) (by decide) rfl (by kernel_rfl) (by kernel_rfl) (by kernel_rfl) (fun _ _ _ h => h) hS (Or.inl ⟨by kernel_rfl, ?_⟩) ?_
        rotate_left
        · (intro V hSw; obtain ⟨hq1, hq2⟩ := HS.out V hSw; go_simp; try with_reducible rfl)
        try simp only [Act.put]
        refine wpE_takeF 6 ⟨some 23, _, _, _, _, _⟩ (v := ?_) (by decide) rfl (by kernel_rfl) (by kernel_rfl) (by kernel_rfl) (fun _ _ _ h => h) hS (Or.inl ⟨by kernel_rfl, ?_⟩) ?_
        rotate_left
        · (intro V hSw; obtain ⟨hq1, hq2⟩ := HS.out V hSw; go_simp; try with_reducible rfl)
        try simp only [Act.put]
        refine wpE_takeF 7 ⟨some 24, _, _, _, _, _⟩ (v := ?_) (by decide) rfl (by kernel_rfl) (by kernel_rfl) (by kernel_rfl) (fun _ _ _ h => h) hS (Or.inl ⟨by kernel_rfl, ?_⟩) ?_
        rotate_left
        · (intro V hSw; obtain ⟨hq1, hq2⟩ := HS.out V hSw; go_simp; try with_reducible rfl)
        try simp only [Act.put]
        refine wpE_takeF 8 ⟨some 25, _, _, _, _, _⟩ (v := ?_) (by decide) rfl (by kernel_rfl) (by kernel_rfl) (by kernel_rfl) (fun _ _ _ h => h) hS (Or.inl ⟨by kernel_rfl, ?_⟩) ?_
        rotate_left
        · (intro V hSw; obtain ⟨hq1, hq2⟩ := HS.out V hSw; go_simp; try with_reducible rfl)
        try simp only [Act.put]
        refine wpE_done (by kernel_rfl) ?_ _
        try simp only [List.setIfInBounds_toArray, List.set_cons_succ, List.set_cons_zero]
        cases q with
        | true =>
          have HNX : Hid (l.take (k + 1) = m.take (k + 1)) := Lib.hid (by rw [List.take_succ_eq_append_getElem hkl, List.take_succ_eq_append_getElem hkm, HTK.out, HQ.out.1 rfl])
          go_wp2
          go_roundw
          case rel => exact ⟨k + 1, by omega, by go_num, HNX.out, HBR.out.drew⟩
          case measure => simp [intOf]; omega
        | false =>
          have hrr : r = false := by
            rw [HR.out]
            refine decide_eq_false (fun e => ?_)
            have : false = true := HQ.out.2 (by subst e; rfl)
            cases this
          have HRR := Lib.hid hrr; clear hrr
          go_wp2
          go_ret
          exact ⟨by rw [HRR.out]; rfl, HBR.out.drew⟩
  · have hne : ((n : Int) == (n' : Int)) = false := beq_false_of_ne (by omega)
    have hne2 : ((n : Int) != (n' : Int)) = true := bne_iff_ne.2 (by omega)
    have hrr : r = false := by
      rw [HR.out]
      exact decide_eq_false (fun e => hl (by rw [← e1, ← e2, e]))
    have HRR := Lib.hid hrr; clear hrr h h' e1 e2
    go_enter Tryd.func15, Tryd.ntmps15
    go_wp2
    go_ret
    exact ⟨by rw [HRR.out]; rfl, Below.refl _ _⟩
end Go.Proofs.YtmbmjdogfjmlpaaDoor.Sp
