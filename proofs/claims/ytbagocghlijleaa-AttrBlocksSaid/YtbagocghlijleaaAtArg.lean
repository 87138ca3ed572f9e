/- Lists of attributes among the arguments, a copy of one, and whether two are the same. -/
import Derived.Test.YtbagocghlijleaaAtMem
import Derived.Test.YtbagocghlijleaaLift
import Derived.Test.YtbagocghlijleaaRegF
import Derived.Deep.Fields
import Derived.Deep.Slices
import Derived.Deep.RegionHeldLaw
import Derived.Laws.StructEq
namespace Go.Proofs.Ytbagocghlijleaa.At
set_option maxRecDepth 20000
open Go.ChangeShapes Go.WideShapes Go.ChangeAt Go.RowKit Go.Deep
open Go.Proofs.Ytbagocghlijleaa.Mem Go.Proofs.Ytbagocghlijleaa.Crc Go.Proofs.Ytbagocghlijleaa.Rec Go.Proofs.Ytbagocghlijleaa.Lift Go.Proofs.Ytbagocghlijleaa.Reg
attribute [local go_sem ↓] ldX_eq stX_eq

theorem ext_of_trod {H : Type} {enc : TypeId × Value → H} {W : World} {fuel : Nat} {cs : List Value} {d : DataW H × List MemPlace} (h : DataW.trod enc Try.prog W 0 (fun _ => true) true fuel 24 cs = some d) :
    ∃ x : Pr, cs = x.cl ∧ x.rep := by
  obtain ⟨ys, n, hx1, hx2, hl, hyl, hf⟩ := DataW.trod_struct Try.underlying24 h
  rw [show Try.prog.cellsOf 24 = 2 by kernel_rfl] at hl
  match cs, hl, ys, hyl with
  | [v0, v1], _, [y0, y1], _ =>
    have c1 : Try.prog.cellsOf 9 = 1 := by kernel_rfl
    have h0 : DataW.trod enc Try.prog W 0 (fun _ => true) true n 9 [v0] = some y0 := by
      have h := hf 0 _ rfl
      simpa [c1] using h
    have h1 : DataW.trod enc Try.prog W 0 (fun _ => true) true n 9 [v1] = some y1 := by
      have h := hf 1 _ rfl
      simpa [c1] using h
    obtain ⟨s0, e0, _, w0⟩ := DataW.trod_string Try.underlying9 h0
    obtain ⟨s1, e1, _, w1⟩ := DataW.trod_string Try.underlying9 h1
    simp at e0 e1
    subst e0 e1
    refine ⟨⟨s0.data.toList, s1.data.toList⟩, ?_, ⟨?_, ?_⟩⟩
    · simp [Pr.cl]
    · show s0.data.toList.length ≤ maxLen
      rw [show s0.data.toList.length = s0.size from Array.length_toList]
      exact w0
    · show s1.data.toList.length ≤ maxLen
      rw [show s1.data.toList.length = s1.size from Array.length_toList]
      exact w1
theorem ext_by_value {H : Type} {enc : TypeId × Value → H} {W : World} {b0 : Nat} {v : Value} {d : DataW H} {p : List MemPlace} (hv : Value.okWide Try.prog W .any b0 24 v)
    (h : DataW.Trod enc Try.prog W 0 (fun _ => true) true 24 v d p) : ∃ x : Pr, v = .agg x.c ∧ x.rep := by
  obtain ⟨cs, rfl, _⟩ := okWide_struct Try.underlying24 hv
  obtain ⟨fuel, hf⟩ := h
  obtain ⟨x, hx, hr⟩ := ext_of_trod hf
  refine ⟨x, ?_, hr⟩
  obtain ⟨l⟩ := cs
  simp only [Value.cells] at hx
  rw [hx]; rfl
theorem exists_list {α : Type} {p : Nat → α → Prop} : ∀ n, (∀ i, i < n → ∃ x, p i x) → ∃ l : List α, l.length = n ∧ ∀ i, (h : i < l.length) → p i l[i]
  | 0, _ => ⟨[], rfl, fun i h => absurd h (by simp)⟩
  | n + 1, h => by
    obtain ⟨l, hl, hp⟩ := exists_list n (fun i hi => h i (by omega))
    obtain ⟨x, hx⟩ := h n (by omega)
    refine ⟨l ++ [x], by simp [hl], fun i hi => ?_⟩
    by_cases e : i < l.length
    · rw [List.getElem_append_left e]; exact hp i e
    · have : i = n := by simp at hi; omega
      subst this
      rw [List.getElem_append_right (by omega)]
      simp [hl]; exact hx
theorem reach_exts {H : Type} {ts : List TypeId} {ds : List (DataW H)} (h : (DataW.weightsEach Try.prog ts ds).all (· ≤ reachBytes) = true) {j : Nat} {d : DataW H} (ht : ts[j]? = some 22) (hd : ds[j]? = some d) :
    ∀ elems spare, d = .slice elems spare → elems.length + spare.length ≤ 4398046510976 := by
  rintro elems spare rfl
  have := sized_slice h ht hd Try.underlying22
  rw [show Try.prog.bytesOf 24 = 32 by kernel_rfl, show reachBytes = 140737488351232 from rfl] at this
  omega
theorem exts_open {H : Type} {enc : TypeId × Value → H} {W : World} {base : Nat} {v : Value} {d : DataW H} {p : List MemPlace} (hv : Value.okWide Try.prog W .any base 22 v)
    (h : DataW.Trod enc Try.prog W 0 (fun _ => true) true 22 v d p) (R : Nat) (hR : ∀ elems spare, d = .slice elems spare → elems.length + spare.length ≤ R) :
    ∃ A n c l, v = .slice A n c ∧ HoldsX W W.heap.size A n l ∧ (∀ x ∈ l, x.rep) ∧ n ≤ c ∧ c ≤ R := by
  obtain ⟨A, n, c, rfl⟩ := okWide_slice Try.underlying22 hv
  obtain ⟨fuel, hf⟩ := h
  rcases open_slice Try.underlying22 hf with ⟨hcs, _⟩ | ⟨a, len, cap, m, k, D, Pl, hcs, _, hl, hm, hmm, hx, hel⟩
  · simp [Value.cells] at hcs
    obtain ⟨rfl, rfl, rfl⟩ := hcs
    exact ⟨none, 0, 0, [], rfl, ⟨rfl, fun h => absurd h (by omega)⟩, (fun x hx => by cases hx), Nat.le_refl _, Nat.zero_le _⟩
  · simp [Value.cells] at hcs
    obtain ⟨rfl, rfl, rfl⟩ := hcs
    have hC : Try.prog.cellsOf 24 = 2 := by kernel_rfl
    rw [hC] at hel
    rw [if_pos rfl] at hmm
    obtain rfl : c = m := hmm.symm
    simp only [Prod.mk.injEq] at hx
    have hle := hR _ _ hx.1
    simp only [List.length_map, List.length_range] at hle
    obtain ⟨l, hll, hls⟩ := exists_list (p := fun i (x : Pr) => x.rep ∧ ∀ q, q < 2 → W.cell? ((a.add (i * 2)).add q) = x.c[q]?) n (fun i hi => by
      obtain ⟨cs', hc, ht⟩ := hel i (by omega)
      obtain ⟨_, hcl, hat⟩ := World.cells?_some hc
      obtain ⟨x, hx, hr⟩ := ext_of_trod ht
      refine ⟨x, hr, fun q hq => ?_⟩
      rw [hat q hq, hx]
      simp [Pr.c, Pr.cl])
    obtain ⟨b, off, spot⟩ := a
    by_cases h0 : 0 < n
    · have h00 := (hls 0 (by omega)).2 0 (by omega)
      have hspot : spot = none := by
        have := World.cell?_spot (h00.trans (show (l[0]'(by omega)).c[0]? = some _ from rfl))
        simpa [Addr.add] using this
      subst hspot
      have hbl := block_lt_of_cell (h00.trans (show (l[0]'(by omega)).c[0]? = some _ from rfl))
      rw [Addr.add_mid, Addr.add_mid] at hbl
      refine ⟨_, n, c, l, rfl, ⟨hll, fun _ => ⟨b, off, rfl, hbl, fun j hj q hq => ?_⟩⟩, fun x hx => ?_, hl, by omega⟩
      · have := (hls j hj).2 q hq
        rwa [Addr.add_mid, Addr.add_mid] at this
      · obtain ⟨j, hj, rfl⟩ := List.getElem_of_mem hx
        exact (hls j hj).1
    · have hn : n = 0 := by omega
      subst hn
      have : l = [] := List.eq_nil_of_length_eq_zero hll
      subst this
      exact ⟨_, 0, c, [], rfl, ⟨rfl, fun h => absurd h (by omega)⟩, (fun x hx => by cases hx), Nat.zero_le _, by omega⟩

/-! ### The same -/
def eqX (x y : Value) : Sem Value := binOp .eql 24 x y
theorem eqX_eq (x y : Value) : binOp .eql 24 x y = eqX x y := rfl
def neqX (x y : Value) : Sem Value := binOp .neq 24 x y
theorem neqX_eq (x y : Value) : binOp .neq 24 x y = neqX x y := rfl
theorem run_eqX (w : World) (g h : Pr) : (eqX (.agg g.c) (.agg h.c)).run Try.prog w = .ok (.bool (decide (g = h))) w := by
  have u4 := Try.underlying9
  have hS : Try.prog.underlying 24 = some (.struct (Try.prog.fieldsOf 24)) := by kernel_rfl
  have hp : Try.prog.stoodInHeld 24 = false := by kernel_rfl
  obtain ⟨a1, a2⟩ := g
  obtain ⟨b1, b2⟩ := h
  unfold eqX Pr.c
  rw [run_eql_struct, show (10000 : Nat) = 9999 + 1 from rfl, run_equalIn_agg w 9999 24 _ _ hS hp]
  simp only [Program.fieldsOf, Try.underlying24]
  by_cases h1 : a1 = b1
  · subst h1
    by_cases h2 : a2 = b2
    · subst h2
      go_simp
    · have h3 : ((⟨a2.toArray⟩ : ByteArray).toList == (⟨b2.toArray⟩ : ByteArray).toList) = false := by rw [text_list, text_list]; exact beq_false_of_ne h2
      have h4 : (a2 == b2) = false := beq_false_of_ne h2
      go_simp
  · have h3 : ((⟨a1.toArray⟩ : ByteArray).toList == (⟨b1.toArray⟩ : ByteArray).toList) = false := by rw [text_list, text_list]; exact beq_false_of_ne h1
    have h4 : (a1 == b1) = false := beq_false_of_ne h1
    go_simp
theorem run_neqX (w : World) (g h : Pr) : (neqX (.agg g.c) (.agg h.c)).run Try.prog w = .ok (.bool (!decide (g = h))) w := by
  have h1 := run_eqX w g h
  unfold eqX at h1
  unfold neqX
  rw [run_eql_struct] at h1
  rw [run_neq_struct]
  generalize (Op.equalIn 10000 24 (.agg g.c) (.agg h.c)).run Try.prog w = r at h1 ⊢
  cases r with
  | ok b w' =>
    simp only [Result.andThen_ok, Result.ok.injEq, Value.bool.injEq] at h1 ⊢
    obtain ⟨rfl, rfl⟩ := h1
    exact ⟨rfl, rfl⟩
  | halt x w' => simp [Result.andThen] at h1
attribute [local go_sem ↓] eqX_eq neqX_eq
set_option maxRecDepth 100000 in
set_option maxHeartbeats 1000000 in
theorem same_any (A A' : Option Addr) (n n' c c' B B' : Nat) (l m : List Pr) (w : World) (h : HoldsX w B A n l) (h' : HoldsX w B' A' n' m) (hB : B ≤ w.heap.size) (hB' : B' ≤ w.heap.size) (hn : n ≤ 4398046511104) :
    Calls Try.prog 15 #[.slice A n c, .slice A' n' c'] w fun E w' => E = .returned (.bool (decide (l = m))) ∧ Below w.heap.size w w' := by
  obtain ⟨r, hr⟩ : ∃ r, r = decide (l = m) := ⟨_, rfl⟩
  rw [← hr]
  have HR := Lib.hid hr; clear hr
  have e1 := h.1
  have e2 := h'.1
  by_cases hl : n = n'
  · subst hl
    have H := Lib.hid h; clear h
    have H' := Lib.hid h'; clear h'
    have E1 := Lib.hid e1; clear e1
    have E2 := Lib.hid e2; clear e2
    go_enter Try.func15, Try.ntmps15
    go_wp2
    go_loopw [5] (fun i wr => ∃ k : Nat, k ≤ n ∧ i = .int .i64 (k : Int) ∧ l.take k = m.take k ∧ Below w.heap.size w wr) (fun i _ => n - (intOf i).toNat)
    case atStart => exact ⟨0, Nat.zero_le _, rfl, by simp, Below.refl _ _⟩
    case round =>
      obtain ⟨k, hk, rfl, htk, hbr⟩ := hrel
      rcases Nat.lt_or_ge k n with hlt | hge
      rotate_left
      · have hkn : k = n := by omega
        have hrr : r = true := by
          rw [HR.out]
          refine decide_eq_true ?_
          rwa [List.take_of_length_le (by have := E1.out; omega), List.take_of_length_le (by have := E2.out; omega)] at htk
        have HRR := Lib.hid hrr; clear hrr
        have HBR := Lib.hid hbr; clear hbr htk
        have HKN := Lib.hid hkn; clear hkn
        have hge' : ¬ (k : Int) < (n : Int) := by omega
        go_wp2
        go_ret
        exact ⟨by rw [HRR.out]; rfl, HBR.out⟩
      · have hkl : k < l.length := by have := E1.out; omega
        have hkm : k < m.length := by have := E2.out; omega
        have hh := H.out.below (hbr.mono hB)
        have hh' := H'.out.below (hbr.mono hB')
        obtain ⟨b, off, rfl, hbB⟩ := hh.addr (by omega)
        obtain ⟨b', off', rfl, hbB'⟩ := hh'.addr (by omega)
        obtain ⟨x, hx⟩ : ∃ x, x = l[k] := ⟨_, rfl⟩
        obtain ⟨y, hy⟩ : ∃ y, y = m[k] := ⟨_, rfl⟩
        have hs : ∀ V, Below wr.heap.size wr V → (ldX (.pointer (some ⟨b, off + k * 2, none⟩))).run Try.prog V = .ok (.agg x.c) V ∧ (ldX (.pointer (some ⟨b', off' + k * 2, none⟩))).run Try.prog V = .ok (.agg y.c) V := fun V hV => by
          have g1 := run_ldX_at (hh.below (hV.mono (Nat.le_trans hB hbr.size))) k hkl (off + k * 2) rfl
          have g2 := run_ldX_at (hh'.below (hV.mono (Nat.le_trans hB' hbr.size))) k hkm (off' + k * 2) rfl
          rw [← hx] at g1
          rw [← hy] at g2
          exact ⟨g1, g2⟩
        have hcmp : ∀ V, (neqX (.agg x.c) (.agg y.c)).run Try.prog V = .ok (.bool (!decide (x = y))) V := fun V => run_neqX V x y
        have hk0 : (0 : Int) ≤ (k : Int) := by omega
        have hkn : (k : Int) < (n : Int) := by omega
        have HS := Lib.hid hs; clear hs
        have HX := Lib.hid hx; clear hx
        have HY := Lib.hid hy; clear hy
        have HTK := Lib.hid htk; clear htk
        have HBR := Lib.hid hbr; clear hbr hh hh'
        have hq : decide (x = y) = true ↔ l[k] = m[k] := by rw [decide_eq_true_iff, HX.out, HY.out]
        have HQ := Lib.hid hq; clear hq
        generalize decide (x = y) = q at hcmp HQ
        generalize x.c = C at hcmp HS
        generalize y.c = D at hcmp HS
        go_wp2_with fail
        refine wp_region_E (fun V => Below wr.heap.size wr V) 99 rfl ?_
        have hS := (show Below wr.heap.size wr wr.drew from (Below.refl _ wr).drew)
        refine wpE_takeF 0 ⟨some 17, _, _, _, _, _⟩ (v := ?_) (by decide) rfl (by kernel_rfl) (by kernel_rfl) (by kernel_rfl) (fun _ _ _ h => h) hS (Or.inl ⟨by kernel_rfl, ?_⟩) ?_
        rotate_left
        · (intro V hSw; obtain ⟨hq1, hq2⟩ := HS.out V hSw; go_simp; try with_reducible rfl)
        try simp only [Act.put]
        refine wpE_takeF 1 ⟨some 18, _, _, _, _, _⟩ (v := ?_) (by decide) rfl (by kernel_rfl) (by kernel_rfl) (by kernel_rfl) (fun _ _ _ h => h) hS (Or.inl ⟨by kernel_rfl, ?_⟩) ?_
        rotate_left
        · (intro V hSw; obtain ⟨hq1, hq2⟩ := HS.out V hSw; go_simp; try with_reducible rfl)
        try simp only [Act.put]
        refine wpE_takeF 2 ⟨some 19, _, _, _, _, _⟩ (v := ?_) (by decide) rfl (by kernel_rfl) (by kernel_rfl) (by kernel_rfl) (fun _ _ _ h => h) hS (Or.inl ⟨by kernel_rfl, ?_⟩) ?_
        rotate_left
        · (intro V hSw; obtain ⟨hq1, hq2⟩ := HS.out V hSw; go_simp; try with_reducible rfl)
        try simp only [Act.put]
        refine wpE_takeF 3 ⟨some 20, _, _, _, _, _⟩ (v := ?_) (by decide) rfl (by kernel_rfl) (by kernel_rfl) (by kernel_rfl) (fun _ _ _ h => h) hS (Or.inl ⟨by kernel_rfl, ?_⟩) ?_
        rotate_left
        · (intro V hSw; obtain ⟨hq1, hq2⟩ := HS.out V hSw; go_simp; try with_reducible rfl)
        try simp only [Act.put]
        refine wpE_takeF 4 ⟨some 21, _, _, _, _, _⟩ (v := ?_) (by decide) rfl (by kernel_rfl) (by kernel_rfl) (by kernel_rfl) (fun _ _ _ h => h) hS (Or.inl ⟨by kernel_rfl, ?_⟩) ?_
        rotate_left
        · (intro V hSw; obtain ⟨hq1, hq2⟩ := HS.out V hSw; go_simp; try with_reducible rfl)
        try simp only [Act.put]
        refine wpE_takeF 5 ⟨some 22, _, _, _, _, _⟩ (v := ?_) (by decide) rfl (by kernel_rfl) (by kernel_rfl) (by kernel_rfl) (fun _ _ _ h => h) hS (Or.inl ⟨by kernel_rfl, ?_⟩) ?_
        rotate_left
        · (intro V hSw; obtain ⟨hq1, hq2⟩ := HS.out V hSw; go_simp; try with_reducible rfl)
        try simp only [Act.put]
        refine wpE_takeF 6 ⟨some 23, _, _, _, _, _⟩ (v := ?_) (by decide) rfl (by kernel_rfl) (by kernel_rfl) (by kernel_rfl) (fun _ _ _ h => h) hS (Or.inl ⟨by kernel_rfl, ?_⟩) ?_
        rotate_left
        · (intro V hSw; obtain ⟨hq1, hq2⟩ := HS.out V hSw; go_simp; try with_reducible rfl)
        try simp only [Act.put]
        refine wpE_takeF 7 ⟨some 24, _, _, _, _, _⟩ (v := ?_) (by decide) rfl (by kernel_rfl) (by kernel_rfl) (by kernel_rfl) (fun _ _ _ h => h) hS (Or.inl ⟨by kernel_rfl, ?_⟩) ?_
        rotate_left
        · (intro V hSw; obtain ⟨hq1, hq2⟩ := HS.out V hSw; go_simp; try with_reducible rfl)
        try simp only [Act.put]
        refine wpE_takeF 8 ⟨some 25, _, _, _, _, _⟩ (v := ?_) (by decide) rfl (by kernel_rfl) (by kernel_rfl) (by kernel_rfl) (fun _ _ _ h => h) hS (Or.inl ⟨by kernel_rfl, ?_⟩) ?_
        rotate_left
        · (intro V hSw; obtain ⟨hq1, hq2⟩ := HS.out V hSw; go_simp; try with_reducible rfl)
        try simp only [Act.put]
        refine wpE_done (by kernel_rfl) ?_ _
        try simp only [List.setIfInBounds_toArray, List.set_cons_succ, List.set_cons_zero]
        cases q with
        | true =>
          have HNX : Hid (l.take (k + 1) = m.take (k + 1)) := Lib.hid (by rw [List.take_succ_eq_append_getElem hkl, List.take_succ_eq_append_getElem hkm, HTK.out, HQ.out.1 rfl])
          go_wp2
          go_roundw
          case rel => exact ⟨k + 1, by omega, by go_num, HNX.out, HBR.out.drew⟩
          case measure => simp [intOf]; omega
        | false =>
          have hrr : r = false := by
            rw [HR.out]
            refine decide_eq_false (fun e => ?_)
            have : false = true := HQ.out.2 (by subst e; rfl)
            cases this
          have HRR := Lib.hid hrr; clear hrr
          go_wp2
          go_ret
          exact ⟨by rw [HRR.out]; rfl, HBR.out.drew⟩
  · have hne : ((n : Int) == (n' : Int)) = false := beq_false_of_ne (by omega)
    have hne2 : ((n : Int) != (n' : Int)) = true := bne_iff_ne.2 (by omega)
    have hrr : r = false := by
      rw [HR.out]
      exact decide_eq_false (fun e => hl (by rw [← e1, ← e2, e]))
    have HRR := Lib.hid hrr; clear hrr h h' e1 e2
    go_enter Try.func15, Try.ntmps15
    go_wp2
    go_ret
    exact ⟨by rw [HRR.out]; rfl, Below.refl _ _⟩
end Go.Proofs.Ytbagocghlijleaa.At
