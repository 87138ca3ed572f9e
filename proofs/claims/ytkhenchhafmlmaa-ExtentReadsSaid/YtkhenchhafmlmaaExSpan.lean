/- Lists of spans, read; whether two are the same. -/
import Derived.Test.YtkhenchhafmlmaaExArg
namespace Go.Proofs.Ytkhenchhafmlmaa.Ex
set_option maxRecDepth 20000
open Go.RowKit
open Go.Proofs.Ytkhenchhafmlmaa.Mem Go.Proofs.Ytkhenchhafmlmaa.Crc Go.Proofs.Ytkhenchhafmlmaa.Rec Go.Proofs.Ytkhenchhafmlmaa.Reg

def spanV (x : Int × Int) : Array Value := #[.int .i64 x.1, .int .i64 x.2]
/-- A slice reads as a list of spans, all below block B. -/
def HoldsS (w : World) (B : Nat) (A : Option Addr) (n : Nat) (l : List (Int × Int)) : Prop :=
  l.length = n ∧ (0 < n → ∃ b off, A = some ⟨b, off, none⟩ ∧ b < B ∧ ∀ j, (h : j < l.length) → w.cell? ⟨b, off + j * 2, none⟩ = some (.int .i64 (l[j]).1) ∧ w.cell? ⟨b, off + j * 2 + 1, none⟩ = some (.int .i64 (l[j]).2))
theorem HoldsS.below {w w' : World} {B : Nat} {A : Option Addr} {n : Nat} {l : List (Int × Int)} (h : HoldsS w B A n l) (hb : Below B w w') : HoldsS w' B A n l :=
  ⟨h.1, fun hn => by
    obtain ⟨b, off, e, hl, hc⟩ := h.2 hn
    exact ⟨b, off, e, hl, fun j hj => ⟨(hb.cell (p := ⟨b, off + j * 2, none⟩) hl).trans (hc j hj).1, (hb.cell (p := ⟨b, off + j * 2 + 1, none⟩) hl).trans (hc j hj).2⟩⟩⟩
theorem HoldsS.addr {w : World} {B n : Nat} {A : Option Addr} {l : List (Int × Int)} (h : HoldsS w B A n l) (h0 : 0 < n) : ∃ b off, A = some ⟨b, off, none⟩ ∧ b < B := by
  obtain ⟨b, off, e, hl, _⟩ := h.2 h0
  exact ⟨b, off, e, hl⟩
theorem OwnS.fits {w : World} {base n c : Nat} {A : Option Addr} {l : List (Int × Int)} (h : OwnS w base (.slice A n c) l) : n = l.length ∧ n ≤ c := by
  rcases h.2 with ⟨e, h0⟩ | ⟨g, cap, cur, e, h1, h2, h3, h4, _⟩
  · injection e with e1 e2 e3
    subst e2 e3
    exact ⟨h0.symm, Nat.le_refl _⟩
  · injection e with e1 e2 e3
    subst e2 e3
    exact ⟨rfl, h3⟩
theorem OwnS.reads {w : World} {base n c : Nat} {A : Option Addr} {l : List (Int × Int)} (h : OwnS w base (.slice A n c) l) : HoldsS w w.heap.size A n l := by
  have h0 := h
  refine ⟨h.fits.1.symm, fun hn => ?_⟩
  rcases h.2 with ⟨e, h0⟩ | ⟨g, cap, cur, e, h1, h2, h3, h4, _⟩
  · injection e with e1 e2 e3
    omega
  · injection e with e1 e2 e3
    subst e1
    subst e2
    subst e3
    have h5 : w.ownsRow base 44 2 (.slice (some ⟨g, 0, none⟩) l.length c) l.length (spC l) := h0
    refine ⟨g, 0, rfl, (Array.getElem?_eq_some_iff.1 h2).1, fun j hj => ?_⟩
    obtain ⟨g1, g2⟩ := spC_get l j hj
    refine ⟨?_, ?_⟩
    · rw [Nat.zero_add, World.ownsRow.cellAt h5 (j * 2) (by omega), g1]
    · rw [Nat.zero_add, World.ownsRow.cellAt h5 (j * 2 + 1) (by omega), g2]
def ldS (x : Value) : Sem Value := Instr.loadAt 44 x
theorem ldS_eq (x : Value) : Instr.loadAt 44 x = ldS x := rfl
theorem run_ldS_at {w : World} {B b off n : Nat} {l : List (Int × Int)} (h : HoldsS w B (some ⟨b, off, none⟩) n l) (j : Nat) (hj : j < l.length) (o : Nat) (ho : o = off + j * 2) :
    (ldS (.pointer (some ⟨b, o, none⟩))).run Try.prog w = .ok (.agg (spanV l[j])) w := by
  obtain ⟨b', off', e, _, hc⟩ := h.2 (by rw [← h.1]; omega)
  injection e with e
  injection e with e1 e2
  subst e1 e2
  subst ho
  have hr : w.rangeAt b (off + j * 2) [.int .i64 (l[j]).1, .int .i64 (l[j]).2] := fun k v hk => by
    match k, hk with
    | 0, hk => simp at hk; subst hk; exact (hc j hj).1
    | 1, hk => simp at hk; subst hk; exact (hc j hj).2
  exact run_loadAt_mid w b (off + j * 2) 44 [.int .i64 (l[j]).1, .int .i64 (l[j]).2] _ hr Try.underlying44 rfl (by kernel_rfl)
def eqS (x y : Value) : Sem Value := binOp .eql 44 x y
theorem eqS_eq (x y : Value) : binOp .eql 44 x y = eqS x y := rfl
def neqS (x y : Value) : Sem Value := binOp .neq 44 x y
theorem neqS_eq (x y : Value) : binOp .neq 44 x y = neqS x y := rfl
theorem run_eqS (w : World) (g h : Int × Int) : (eqS (.agg (spanV g)) (.agg (spanV h))).run Try.prog w = .ok (.bool (decide (g = h))) w := by
  have u3 := Try.underlying3
  have hS : Try.prog.underlying 44 = some (.struct (Try.prog.fieldsOf 44)) := by kernel_rfl
  have hp : Try.prog.stoodInHeld 44 = false := by kernel_rfl
  obtain ⟨a1, a2⟩ := g
  obtain ⟨b1, b2⟩ := h
  unfold eqS spanV
  rw [run_eql_struct, show (10000 : Nat) = 9999 + 1 from rfl, run_equalIn_agg w 9999 44 _ _ hS hp]
  simp only [Program.fieldsOf, Try.underlying44]
  by_cases h1 : a1 = b1
  · by_cases h2 : a2 = b2
    · go_simp
    · go_simp
  · go_simp
theorem run_neqS (w : World) (g h : Int × Int) : (neqS (.agg (spanV g)) (.agg (spanV h))).run Try.prog w = .ok (.bool (!decide (g = h))) w := by
  have h1 := run_eqS w g h
  unfold eqS at h1
  unfold neqS
  rw [run_eql_struct] at h1
  rw [run_neq_struct]
  generalize (Op.equalIn 10000 44 (.agg (spanV g)) (.agg (spanV h))).run Try.prog w = r at h1 ⊢
  cases r with
  | ok b w' =>
    simp only [Result.andThen_ok, Result.ok.injEq, Value.bool.injEq] at h1 ⊢
    obtain ⟨rfl, rfl⟩ := h1
    exact ⟨rfl, rfl⟩
  | halt x w' => simp [Result.andThen] at h1
attribute [local go_sem ↓] ldS_eq eqS_eq neqS_eq
set_option maxRecDepth 100000 in
set_option maxHeartbeats 1000000 in
theorem sameS_any (A A' : Option Addr) (n n' c c' B B' : Nat) (l m : List (Int × Int)) (w : World) (h : HoldsS w B A n l) (h' : HoldsS w B' A' n' m) (hB : B ≤ w.heap.size) (hB' : B' ≤ w.heap.size) (hn : n ≤ 4398046511104) :
    Calls Try.prog 26 #[.slice A n c, .slice A' n' c'] w fun E w' => E = .returned (.bool (decide (l = m))) ∧ Below w.heap.size w w' := by
  obtain ⟨r, hr⟩ : ∃ r, r = decide (l = m) := ⟨_, rfl⟩
  rw [← hr]
  have HR := Lib.hid hr; clear hr
  have e1 := h.1
  have e2 := h'.1
  by_cases hl : n = n'
  · subst hl
    have H := Lib.hid h; clear h
    have H' := Lib.hid h'; clear h'
    have E1 := Lib.hid e1; clear e1
    have E2 := Lib.hid e2; clear e2
    go_enter Try.func26, Try.ntmps26
    go_wp2
    go_loopw [5] (fun i wr => ∃ k : Nat, k ≤ n ∧ i = .int .i64 (k : Int) ∧ l.take k = m.take k ∧ Below w.heap.size w wr) (fun i _ => n - (intOf i).toNat)
    case atStart => exact ⟨0, Nat.zero_le _, rfl, by simp, Below.refl _ _⟩
    case round =>
      obtain ⟨k, hk, rfl, htk, hbr⟩ := hrel
      rcases Nat.lt_or_ge k n with hlt | hge
      rotate_left
      · have hkn : k = n := by omega
        have hrr : r = true := by
          rw [HR.out]
          refine decide_eq_true ?_
          rwa [List.take_of_length_le (by have := E1.out; omega), List.take_of_length_le (by have := E2.out; omega)] at htk
        have HRR := Lib.hid hrr; clear hrr
        have HBR := Lib.hid hbr; clear hbr htk
        have HKN := Lib.hid hkn; clear hkn
        have hge' : ¬ (k : Int) < (n : Int) := by omega
        go_wp2
        go_ret
        exact ⟨by rw [HRR.out]; rfl, HBR.out⟩
      · have hkl : k < l.length := by have := E1.out; omega
        have hkm : k < m.length := by have := E2.out; omega
        have hh := H.out.below (hbr.mono hB)
        have hh' := H'.out.below (hbr.mono hB')
        obtain ⟨b, off, rfl, hbB⟩ := hh.addr (by omega)
        obtain ⟨b', off', rfl, hbB'⟩ := hh'.addr (by omega)
        obtain ⟨x, hx⟩ : ∃ x, x = l[k] := ⟨_, rfl⟩
        obtain ⟨y, hy⟩ : ∃ y, y = m[k] := ⟨_, rfl⟩
        have hs : ∀ V, Below wr.heap.size wr V → (ldS (.pointer (some ⟨b, off + k * 2, none⟩))).run Try.prog V = .ok (.agg (spanV x)) V ∧ (ldS (.pointer (some ⟨b', off' + k * 2, none⟩))).run Try.prog V = .ok (.agg (spanV y)) V := fun V hV => by
          have g1 := run_ldS_at (hh.below (hV.mono (Nat.le_trans hB hbr.size))) k hkl (off + k * 2) rfl
          have g2 := run_ldS_at (hh'.below (hV.mono (Nat.le_trans hB' hbr.size))) k hkm (off' + k * 2) rfl
          rw [← hx] at g1
          rw [← hy] at g2
          exact ⟨g1, g2⟩
        have hcmp : ∀ V, (neqS (.agg (spanV x)) (.agg (spanV y))).run Try.prog V = .ok (.bool (!decide (x = y))) V := fun V => run_neqS V x y
        have hk0 : (0 : Int) ≤ (k : Int) := by omega
        have hkn : (k : Int) < (n : Int) := by omega
        have HS := Lib.hid hs; clear hs
        have HX := Lib.hid hx; clear hx
        have HY := Lib.hid hy; clear hy
        have HTK := Lib.hid htk; clear htk
        have HBR := Lib.hid hbr; clear hbr hh hh'
        have hq : decide (x = y) = true ↔ l[k] = m[k] := by rw [decide_eq_true_iff, HX.out, HY.out]
        have HQ := Lib.hid hq; clear hq
        generalize decide (x = y) = q at hcmp HQ
        generalize spanV x = C at hcmp HS
        generalize spanV y = D at hcmp HS
        go_wp2_with fail
        refine wp_region_E (fun V => Below wr.heap.size wr V) 99 rfl ?_
        have hS := (show Below wr.heap.size wr wr.drew from (Below.refl _ wr).drew)
        refine wpE_takeF 0 ⟨some 17, _, _, _, _, _⟩ (v := ?_) (by decide) rfl (by kernel_rfl) (by kernel_rfl) (by kernel_rfl) (fun _ _ _ h => h) hS (Or.inl ⟨by kernel_rfl, ?_⟩) ?_
        rotate_left
        · (intro V hSw; obtain ⟨hq1, hq2⟩ := HS.out V hSw; go_simp; try with_reducible rfl)
        try simp only [Act.put]
        refine wpE_takeF 1 ⟨some 18, _, _, _, _, _⟩ (v := ?_) (by decide) rfl (by kernel_rfl) (by kernel_rfl) (by kernel_rfl) (fun _ _ _ h => h) hS (Or.inl ⟨by kernel_rfl, ?_⟩) ?_
        rotate_left
        · (intro V hSw; obtain ⟨hq1, hq2⟩ := HS.out V hSw; go_simp; try with_reducible rfl)
        try simp only [Act.put]
        refine wpE_takeF 2 ⟨some 19, _, _, _, _, _⟩ (v := ?_) (by decide) rfl (by kernel_rfl) (by kernel_rfl) (by kernel_rfl) (fun _ _ _ h => h) hS (Or.inl ⟨by kernel_rfl, ?_⟩) ?_
        rotate_left
        · (intro V hSw; obtain ⟨hq1, hq2⟩ := HS.out V hSw; go_simp; try with_reducible rfl)
        try simp only [Act.put]
        refine wpE_takeF 3 ⟨some 20, _, _, _, _, _⟩ (v := ?_) (by decide) rfl (by kernel_rfl) (by kernel_rfl) (by kernel_rfl) (fun _ _ _ h => h) hS (Or.inl ⟨by kernel_rfl, ?_⟩) ?_
        rotate_left
        · (intro V hSw; obtain ⟨hq1, hq2⟩ := HS.out V hSw; go_simp; try with_reducible rfl)
        try simp only [Act.put]
        refine wpE_takeF 4 ⟨some 21, _, _, _, _, _⟩ (v := ?_) (by decide) rfl (by kernel_rfl) (by kernel_rfl) (by kernel_rfl) (fun _ _ _ h => h) hS (Or.inl ⟨by kernel_rfl, ?_⟩) ?_
        rotate_left
        · (intro V hSw; obtain ⟨hq1, hq2⟩ := HS.out V hSw; go_simp; try with_reducible rfl)
        try simp only [Act.put]
        refine wpE_takeF 5 ⟨some 22, _, _, _, _, _⟩ (v := ?_) (by decide) rfl (by kernel_rfl) (by kernel_rfl) (by kernel_rfl) (fun _ _ _ h => h) hS (Or.inl ⟨by kernel_rfl, ?_⟩) ?_
        rotate_left
        · (intro V hSw; obtain ⟨hq1, hq2⟩ := HS.out V hSw; go_simp; try with_reducible rfl)
        try simp only [Act.put]
        refine wpE_takeF 6 ⟨some 23, _, _, _, _, _⟩ (v := ?_) (by decide) rfl (by kernel_rfl) (by kernel_rfl) (by kernel_rfl) (fun _ _ _ h => h) hS (Or.inl ⟨by kernel_rfl, ?_⟩) ?_
        rotate_left
        · (intro V hSw; obtain ⟨hq1, hq2⟩ := HS.out V hSw; go_simp; try with_reducible rfl)
        try simp only [Act.put]
        refine wpE_takeF 7 ⟨some 24, _, _, _, _, _⟩ (v := ?_) (by decide) rfl (by kernel_rfl) (by kernel_rfl) (by kernel_rfl) (fun _ _ _ h => h) hS (Or.inl ⟨by kernel_rfl, ?_⟩) ?_
        rotate_left
        · (intro V hSw; obtain ⟨hq1, hq2⟩ := HS.out V hSw; go_simp; try with_reducible rfl)
        try simp only [Act.put]
        refine wpE_takeF 8 ⟨some 25, _, _, _, _, _⟩ (v := ?_) (by decide) rfl (by kernel_rfl) (by kernel_rfl) (by kernel_rfl) (fun _ _ _ h => h) hS (Or.inl ⟨by kernel_rfl, ?_⟩) ?_
        rotate_left
        · (intro V hSw; obtain ⟨hq1, hq2⟩ := HS.out V hSw; go_simp; try with_reducible rfl)
        try simp only [Act.put]
        refine wpE_done (by kernel_rfl) ?_ _
        try simp only [List.setIfInBounds_toArray, List.set_cons_succ, List.set_cons_zero]
        cases q with
        | true =>
          have HNX : Hid (l.take (k + 1) = m.take (k + 1)) := Lib.hid (by rw [List.take_succ_eq_append_getElem hkl, List.take_succ_eq_append_getElem hkm, HTK.out, HQ.out.1 rfl])
          go_wp2
          go_roundw
          case rel => exact ⟨k + 1, by omega, by go_num, HNX.out, HBR.out.drew⟩
          case measure => simp [intOf]; omega
        | false =>
          have hrr : r = false := by
            rw [HR.out]
            refine decide_eq_false (fun e => ?_)
            have : false = true := HQ.out.2 (by subst e; rfl)
            cases this
          have HRR := Lib.hid hrr; clear hrr
          go_wp2
          go_ret
          exact ⟨by rw [HRR.out]; rfl, HBR.out.drew⟩
  · have hne : ((n : Int) == (n' : Int)) = false := beq_false_of_ne (by omega)
    have hne2 : ((n : Int) != (n' : Int)) = true := bne_iff_ne.2 (by omega)
    have hrr : r = false := by
      rw [HR.out]
      exact decide_eq_false (fun e => hl (by rw [← e1, ← e2, e]))
    have HRR := Lib.hid hrr; clear hrr h h' e1 e2
    go_enter Try.func26, Try.ntmps26
    go_wp2
    go_ret
    exact ⟨by rw [HRR.out]; rfl, Below.refl _ _⟩
end Go.Proofs.Ytkhenchhafmlmaa.Ex
