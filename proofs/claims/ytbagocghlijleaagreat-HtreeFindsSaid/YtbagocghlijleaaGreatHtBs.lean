/- Where a name stands among entries that are in order: the library's binary search. -/
import Derived.Test.YtbagocghlijleaaGreatHtOp
import Derived.Test.YtbagocghlijleaaGreatLfDec
namespace Go.Proofs.YtbagocghlijleaaGreat.Ht
set_option maxRecDepth 20000
open Go.RowKit
open Go.Proofs.YtbagocghlijleaaGreat.Mem Go.Proofs.YtbagocghlijleaaGreat.Crc Go.Proofs.YtbagocghlijleaaGreat.Rec Go.Proofs.YtbagocghlijleaaGreat.Reg Go.Proofs.YtbagocghlijleaaGreat.Lf

def posB (es : List Nm) (x : Nm) : Nat := (es.takeWhile fun y => ordB y x).length
theorem posB_is : ∀ (es : List Nm) (x : Nm) (i : Nat), i ≤ es.length → (∀ a, (h : a < es.length) → a < i → ordB es[a] x = true) → (∀ h : i < es.length, ordB es[i] x = false) → posB es x = i
  | [], x, i, hi, _, _ => by
    have : i = 0 := by simpa using hi
    rw [this]; rfl
  | y :: es, x, 0, _, _, h => by
    have := h (by simp)
    unfold posB
    rw [List.takeWhile_cons_of_neg (by simpa using this)]
    rfl
  | y :: es, x, i + 1, hi, h1, h2 => by
    have h0 := h1 0 (by simp) (by omega)
    have ih := posB_is es x i (by simpa using hi) (fun a ha hai => h1 (a + 1) (by simpa using ha) (by omega)) (fun h => h2 (by simpa using h))
    unfold posB at ih ⊢
    rw [List.takeWhile_cons_of_pos (by simpa using h0), List.length_cons, ih]
theorem order_b (x y : Nm) (w : World) : Calls Tryz.prog 39 #[.agg (eC x), .agg (eC y)] w fun e w' => e = .returned (.int .i64 (cmpE x y)) ∧ Below w.heap.size w w' :=
  (order_any x y w).mono fun e w' ⟨he, q, os, hw⟩ => ⟨he, by
    rw [hw]
    refine ⟨rfl, rfl, rfl, ?_, fun i hi => ?_⟩
    · show w.heap.size ≤ (w.heap ++ os).size
      simp
    · show (w.heap ++ os)[i]? = _
      rw [Array.getElem?_append_left hi]⟩
def shrU (x y : Value) : Sem Value := binOp .shr 51 x y
theorem shrU_eq (x y : Value) : binOp .shr 51 x y = shrU x y := rfl
theorem run_shrU (u : Nat) (W : World) : (shrU (.int .u64 (u : Int)) (.int .u64 1)).run Tryz.prog W = .ok (.int .u64 ((u / 2 : Nat) : Int)) W := by
  have h : (shrU (.int .u64 (u : Int)) (.int .u64 1)).run Tryz.prog W = (Op.shift .shr .u64 (u : Int) .u64 1).run Tryz.prog W := rfl
  rw [h]
  have e : (u : Int).fdiv (2 ^ (min 1 64)) = ((u / 2 : Nat) : Int) := by
    rw [show (2 : Int) ^ (min 1 64) = 2 by decide, Int.fdiv_eq_ediv_of_nonneg _ (by omega)]
    omega
  unfold Op.shift
  rw [if_neg (by decide)]
  show (pure (.int .u64 ((u : Int).fdiv (2 ^ (min 1 64)))) : Sem Value).run Tryz.prog W = _
  rw [e]
  rfl
attribute [local go_sem ↓] ldE_eq stE_eq ldX_eq stX_eq ldR_eq stR_eq shrU_eq

set_option maxRecDepth 100000 in
set_option maxHeartbeats 8000000 in
theorem search_any (A : Option Addr) (n c B : Nat) (es : List Nm) (x : Nm) (w : World) (h : HoldsC EN w B A n es) (hB : B ≤ w.heap.size) (hn : n ≤ 1048576) (hp : es.Pairwise (fun a b => ordB a b = true)) :
    Calls Tryz.prog 69 #[.slice A n c, .agg (eC x), .func (.func 39) #[] #[]] w fun e w' =>
      e = .returned (.tuple #[.int .i64 (posB es x : Int), .bool (decide (posB es x < es.length ∧ (es.getD (posB es x) n0).t = x.t))]) ∧ Below w.heap.size w w' := by
  have hln := h.1
  have H := Lib.hid h; clear h
  have HPW := Lib.hid hp; clear hp
  have HLN := Lib.hid hln; clear hln
  obtain ⟨W0, hW0⟩ : ∃ W0, W0 = w.alloc (.cells (eC x) 68) := ⟨_, rfl⟩
  have hv0 : VarE W0 w.heap.size x := by rw [hW0]; exact VarE.new w x
  have hb0 : Below w.heap.size w W0 := by rw [hW0]; exact (Below.refl _ w).alloc (Nat.le_refl _) _
  have hz0 : W0.heap.size = w.heap.size + 1 := by rw [hW0]; simp
  obtain ⟨X, hX⟩ : ∃ X, X = eC x := ⟨_, rfl⟩
  rw [← hX] at hW0 ⊢
  have HX := Lib.hid hX; clear hX
  have HV0 := Lib.hid hv0; clear hv0
  have HB0 := Lib.hid hb0; clear hb0
  have HZ0 := Lib.hid hz0; clear hz0
  have HW0 := Lib.hid hW0; clear hW0
  obtain ⟨post, hpost⟩ : ∃ post : Ending → World → Prop, post = fun e w' => e = .returned (.tuple #[.int .i64 (posB es x : Int), .bool (decide (posB es x < es.length ∧ (es.getD (posB es x) n0).t = x.t))]) ∧ Below w.heap.size w w' := ⟨_, rfl⟩
  rw [← hpost]
  have HP := Lib.hid hpost; clear hpost
  obtain ⟨gx, hgx⟩ : ∃ gx, gx = w.heap.size := ⟨_, rfl⟩
  have hkeep : ∀ V, Below W0.heap.size W0 V → (ldE (.pointer (some ⟨w.heap.size, 0, none⟩))).run Tryz.prog V = .ok (.agg X) V := fun V hV => by
    have hv : VarE V w.heap.size x := (hV.block _ (by rw [HZ0.out]; omega)).trans HV0.out
    rw [HX.out]
    exact hv.load
  have HK := Lib.hid hkeep; clear hkeep hgx
  go_enter Tryz.func69, Tryz.ntmps69
  go_wp2
  rw [← HW0.out]
  go_loopw [9, 10] (fun i j wr => ∃ a b : Nat, a ≤ b ∧ b ≤ n ∧ i = .int .i64 (a : Int) ∧ j = .int .i64 (b : Int) ∧ (∀ q, (hq : q < es.length) → q < a → ordB es[q] x = true) ∧ (∀ q, (hq : q < es.length) → b ≤ q → ordB es[q] x = false) ∧ Below W0.heap.size W0 wr) (fun i j _ => (intOf j).toNat - (intOf i).toNat)
  case atStart => exact ⟨0, n, Nat.zero_le _, Nat.le_refl _, rfl, rfl, fun q _ h => absurd h (Nat.not_lt_zero _), fun q hq h => absurd hq (by have := HLN.out; omega), Below.refl _ _⟩
  case round =>
    obtain ⟨a, b, hab, hbn, rfl, rfl, hlo, hhi, hb⟩ := hrel
    have HB := Lib.hid hb; clear hb
    have HLO := Lib.hid hlo; clear hlo
    have HHI := Lib.hid hhi; clear hhi
    have HBW : Hid (Below w.heap.size w wr) := Lib.hid (HB0.out.trans (HB.out.mono HB0.out.size))
    rcases Nat.lt_or_ge a b with hlt | hge
    · obtain ⟨be, off, rfl, hbB⟩ := H.out.addr (by omega)
      have hab2 : (a : Int) < (b : Int) := by omega
      have hw1 : IntKind.i64.wrap ((a : Int) + (b : Int)) = ((a + b : Nat) : Int) := by rw [IntKind.wrap_i64]; omega
      have hw2 : IntKind.u64.wrap ((a + b : Nat) : Int) = ((a + b : Nat) : Int) := by rw [IntKind.wrap_u64]; omega
      have hsh : ∀ W, (shrU (.int .u64 ((a : Int) + (b : Int))) (.int .u64 1)).run Tryz.prog W = .ok (.int .u64 (((a + b) / 2 : Nat) : Int)) W := fun W => by rw [← run_shrU (a + b) W, Int.natCast_add]
      obtain ⟨hh, hhd⟩ : ∃ hh, hh = (a + b) / 2 := ⟨_, rfl⟩
      rw [← hhd] at hsh
      have hw3 : IntKind.i64.wrap (hh : Int) = (hh : Int) := by rw [IntKind.wrap_i64]; omega
      have hha : a ≤ hh := by omega
      have hhb : hh < b := by omega
      clear hhd
      have hhl : hh < es.length := by have := HLN.out; omega
      have hh2 : (hh : Int) < (n : Int) := by omega
      obtain ⟨y, hy⟩ : ∃ y, y = es[hh] := ⟨_, rfl⟩
      have hld : ∀ V, Below wr.heap.size wr V → (ldE (.pointer (some ⟨be, off + hh * 3, none⟩))).run Tryz.prog V = .ok (.agg (eC y)) V ∧ (ldE (.pointer (some ⟨w.heap.size, 0, none⟩))).run Tryz.prog V = .ok (.agg X) V := fun V hV => by
        have hbv : Below w.heap.size w V := HBW.out.trans (hV.mono HBW.out.size)
        refine ⟨?_, HK.out V (HB.out.trans (hV.mono HB.out.size))⟩
        rw [hy]
        exact run_ldE_at (H.out.below (hbv.mono hB)) hh hhl _ rfl
      have hord := order_b y x wr.drew
      rw [← HX.out] at hord
      obtain ⟨Y, hY⟩ : ∃ Y, Y = eC y := ⟨_, rfl⟩
      rw [← hY] at hord hld
      have HLD := Lib.hid hld; clear hld
      have HORD := Lib.hid hord; clear hord
      have HYE := Lib.hid hY; clear hY
      obtain ⟨cm, hcm⟩ : ∃ cm, cm = cmpE y x := ⟨_, rfl⟩
      rw [← hcm] at HORD
      have hcmb : cm < 0 ↔ ordB y x = true := by rw [hcm]; exact cmpE_neg y x
      have HCM := Lib.hid hcmb; clear hcmb hcm
      have HY := Lib.hid hy; clear hy
      go_wp2
      refine wp_region_E (fun V => Below wr.heap.size wr V) 99 rfl ?_
      have hS := (show Below wr.heap.size wr wr.drew from below_drew (Below.refl _ _))
      refine wpE_takeF 0 ⟨some 24, _, _, _, _, _⟩ (v := ?_) (by decide) rfl (by kernel_rfl) (by kernel_rfl) (by kernel_rfl) (fun _ _ _ h => h) hS (Or.inl ⟨by kernel_rfl, ?_⟩) ?_
      rotate_left
      · (intro V hSw; obtain ⟨q0, q1⟩ := HLD.out V hSw; go_simp; try with_reducible rfl)
      try simp only [Act.put]
      refine wpE_takeF 1 ⟨some 25, _, _, _, _, _⟩ (v := ?_) (by decide) rfl (by kernel_rfl) (by kernel_rfl) (by kernel_rfl) (fun _ _ _ h => h) hS (Or.inl ⟨by kernel_rfl, ?_⟩) ?_
      rotate_left
      · (intro V hSw; obtain ⟨q0, q1⟩ := HLD.out V hSw; go_simp; try with_reducible rfl)
      try simp only [Act.put]
      refine wpE_takeF 2 ⟨some 26, _, _, _, _, _⟩ (v := ?_) (by decide) rfl (by kernel_rfl) (by kernel_rfl) (by kernel_rfl) (fun _ _ _ h => h) hS (Or.inl ⟨by kernel_rfl, ?_⟩) ?_
      rotate_left
      · (intro V hSw; obtain ⟨q0, q1⟩ := HLD.out V hSw; go_simp; try with_reducible rfl)
      try simp only [Act.put]
      refine wpE_takeF 3 ⟨some 27, _, _, _, _, _⟩ (v := ?_) (by decide) rfl (by kernel_rfl) (by kernel_rfl) (by kernel_rfl) (fun _ _ _ h => h) hS (Or.inl ⟨by kernel_rfl, ?_⟩) ?_
      rotate_left
      · (intro V hSw; obtain ⟨q0, q1⟩ := HLD.out V hSw; go_simp; try with_reducible rfl)
      try simp only [Act.put]
      refine wpE_takeF 4 ⟨some 28, _, _, _, _, _⟩ (v := ?_) (by decide) rfl (by kernel_rfl) (by kernel_rfl) (by kernel_rfl) (fun _ _ _ h => h) hS (Or.inl ⟨by kernel_rfl, ?_⟩) ?_
      rotate_left
      · (intro V hSw; obtain ⟨q0, q1⟩ := HLD.out V hSw; go_simp; try with_reducible rfl)
      try simp only [Act.put]
      refine wpE_takeF 5 ⟨some 29, _, _, _, _, _⟩ (v := ?_) (by decide) rfl (by kernel_rfl) (by kernel_rfl) (by kernel_rfl) (fun _ _ _ h => h) hS (Or.inl ⟨by kernel_rfl, ?_⟩) ?_
      rotate_left
      · (intro V hSw; obtain ⟨q0, q1⟩ := HLD.out V hSw; go_simp; try with_reducible rfl)
      try simp only [Act.put]
      simp only [List.setIfInBounds_toArray, List.set_cons_succ, List.set_cons_zero]
      refine wpE_one 6 (o := ⟨some 30, _, _, _, _, _⟩) (by kernel_rfl) rfl (fun K' hK' => ?_)
      rw [if_pos (by kernel_rfl)]
      refine call_val 39 _ _ (.tmp 24) #[.tmp 28, .tmp 29] #[68, 68] #[] (by with_reducible rfl) ?hx Tryz.func39 (by kernel_rfl) rfl #[.agg Y, .agg X] ?hv _ HORD.out ?_
      case hx => go_simp; try with_reducible rfl
      case hv => simp only [List.map_toArray, List.map_cons, List.map_nil]; go_simp
      rintro E V2 ⟨rfl, hb2⟩
      have hb2' : Below wr.heap.size wr V2 := ⟨hb2.os, hb2.tape, hb2.output, hb2.size, hb2.block⟩
      refine ⟨_, rfl, hK'.out _ _ hb2' (fun hS => ?_)⟩
      clear hK' K'
      try simp only [Act.put]
      refine wpE_takeF 7 ⟨some 31, _, _, _, _, _⟩ (v := ?_) (by decide) rfl (by kernel_rfl) (by kernel_rfl) (by kernel_rfl) (fun _ _ _ h => h) hS (Or.inl ⟨by kernel_rfl, ?_⟩) ?_
      rotate_left
      · (intro V hSw; obtain ⟨q0, q1⟩ := HLD.out V hSw; go_simp; try with_reducible rfl)
      try simp only [Act.put]
      refine wpE_done (by kernel_rfl) ?_ _
      try simp only [List.setIfInBounds_toArray, List.set_cons_succ, List.set_cons_zero]
      have HB2 : Hid (Below W0.heap.size W0 V2) := Lib.hid (HB.out.trans (hb2'.mono HB.out.size))
      clear hS hb2 hb2' hsh hw1 hw2 hw3
      by_cases hneg : cm < 0
      · have hyx := HCM.out.1 hneg
        go_wp2
        go_roundw
        case rel =>
          refine ⟨hh + 1, b, by omega, hbn, by go_num, rfl, fun q hq hqh => ?_, HHI.out, HB2.out⟩
          rcases Nat.eq_or_lt_of_le (show q ≤ hh by omega) with rfl | hlt2
          · rw [← HY.out]; exact hyx
          · refine ordB_trans _ _ _ ?_ (HY.out ▸ hyx)
            exact List.pairwise_iff_getElem.1 HPW.out q hh hq hhl hlt2
        case measure => simp [intOf]; omega
      · have hyx : ordB y x = false := by
          cases ho : ordB y x with
          | false => rfl
          | true => exact absurd (HCM.out.2 ho) hneg
        go_wp2
        go_roundw
        case rel =>
          refine ⟨a, hh, by omega, by omega, rfl, rfl, HLO.out, fun q hq hqh => ?_, HB2.out⟩
          rcases Nat.eq_or_lt_of_le hqh with rfl | hlt2
          · rw [← HY.out]; exact hyx
          · cases ho : ordB es[q] x with
            | false => rfl
            | true =>
              exfalso
              have h1 := List.pairwise_iff_getElem.1 HPW.out hh q hhl hq hlt2
              have h2 := ordB_trans _ _ _ h1 ho
              rw [← HY.out, hyx] at h2
              cases h2
        case measure => simp [intOf]; omega
    · obtain rfl : a = b := by omega
      have hpos : posB es x = a := posB_is es x a (by have := HLN.out; omega) (fun q hq hqa => HLO.out q hq hqa) (fun hq => HHI.out a hq (Nat.le_refl _))
      have hnb : ¬ (a : Int) < (a : Int) := by omega
      have HPOS := Lib.hid hpos; clear hpos
      rcases Nat.lt_or_ge a n with hlt | hge2
      · obtain ⟨be, off, rfl, hbB⟩ := H.out.addr (by omega)
        have hal : a < es.length := by have := HLN.out; omega
        have han : (a : Int) < (n : Int) := by omega
        obtain ⟨y, hy⟩ : ∃ y, y = es[a] := ⟨_, rfl⟩
        have hld : ∀ V, Below wr.heap.size wr V → (ldE (.pointer (some ⟨be, off + a * 3, none⟩))).run Tryz.prog V = .ok (.agg (eC y)) V ∧ (ldE (.pointer (some ⟨w.heap.size, 0, none⟩))).run Tryz.prog V = .ok (.agg X) V := fun V hV => by
          have hbv : Below w.heap.size w V := HBW.out.trans (hV.mono HBW.out.size)
          refine ⟨?_, HK.out V (HB.out.trans (hV.mono HB.out.size))⟩
          rw [hy]
          exact run_ldE_at (H.out.below (hbv.mono hB)) a hal _ rfl
        have hord := order_b y x wr.drew
        rw [← HX.out] at hord
        obtain ⟨Y, hY⟩ : ∃ Y, Y = eC y := ⟨_, rfl⟩
        rw [← hY] at hord hld
        have HLD := Lib.hid hld; clear hld
        have HORD := Lib.hid hord; clear hord
        obtain ⟨cm, hcm⟩ : ∃ cm, cm = cmpE y x := ⟨_, rfl⟩
        rw [← hcm] at HORD
        have hfin : decide (posB es x < es.length ∧ (es.getD (posB es x) n0).t = x.t) = decide (cm = 0) := by
          rw [HPOS.out]
          refine decide_eq_decide.2 ?_
          rw [List.getD_eq_getElem?_getD, List.getElem?_eq_getElem hal, Option.getD_some, ← hy, hcm, cmpE_zero]
          exact ⟨fun h => h.2, fun h => ⟨hal, h⟩⟩
        have HF := Lib.hid hfin; clear hfin hcm hy hY
        go_wp2
        refine wp_region_E (fun V => Below wr.heap.size wr V) 99 rfl ?_
        have hS := (show Below wr.heap.size wr wr.drew from below_drew (Below.refl _ _))
        refine wpE_takeF 0 ⟨some 35, _, _, _, _, _⟩ (v := ?_) (by decide) rfl (by kernel_rfl) (by kernel_rfl) (by kernel_rfl) (fun _ _ _ h => h) hS (Or.inl ⟨by kernel_rfl, ?_⟩) ?_
        rotate_left
        · (intro V hSw; obtain ⟨q0, q1⟩ := HLD.out V hSw; go_simp; try with_reducible rfl)
        try simp only [Act.put]
        refine wpE_takeF 1 ⟨some 36, _, _, _, _, _⟩ (v := ?_) (by decide) rfl (by kernel_rfl) (by kernel_rfl) (by kernel_rfl) (fun _ _ _ h => h) hS (Or.inl ⟨by kernel_rfl, ?_⟩) ?_
        rotate_left
        · (intro V hSw; obtain ⟨q0, q1⟩ := HLD.out V hSw; go_simp; try with_reducible rfl)
        try simp only [Act.put]
        refine wpE_takeF 2 ⟨some 37, _, _, _, _, _⟩ (v := ?_) (by decide) rfl (by kernel_rfl) (by kernel_rfl) (by kernel_rfl) (fun _ _ _ h => h) hS (Or.inl ⟨by kernel_rfl, ?_⟩) ?_
        rotate_left
        · (intro V hSw; obtain ⟨q0, q1⟩ := HLD.out V hSw; go_simp; try with_reducible rfl)
        try simp only [Act.put]
        refine wpE_takeF 3 ⟨some 38, _, _, _, _, _⟩ (v := ?_) (by decide) rfl (by kernel_rfl) (by kernel_rfl) (by kernel_rfl) (fun _ _ _ h => h) hS (Or.inl ⟨by kernel_rfl, ?_⟩) ?_
        rotate_left
        · (intro V hSw; obtain ⟨q0, q1⟩ := HLD.out V hSw; go_simp; try with_reducible rfl)
        try simp only [Act.put]
        refine wpE_takeF 4 ⟨some 39, _, _, _, _, _⟩ (v := ?_) (by decide) rfl (by kernel_rfl) (by kernel_rfl) (by kernel_rfl) (fun _ _ _ h => h) hS (Or.inl ⟨by kernel_rfl, ?_⟩) ?_
        rotate_left
        · (intro V hSw; obtain ⟨q0, q1⟩ := HLD.out V hSw; go_simp; try with_reducible rfl)
        try simp only [Act.put]
        refine wpE_takeF 5 ⟨some 40, _, _, _, _, _⟩ (v := ?_) (by decide) rfl (by kernel_rfl) (by kernel_rfl) (by kernel_rfl) (fun _ _ _ h => h) hS (Or.inl ⟨by kernel_rfl, ?_⟩) ?_
        rotate_left
        · (intro V hSw; obtain ⟨q0, q1⟩ := HLD.out V hSw; go_simp; try with_reducible rfl)
        try simp only [Act.put]
        refine wpE_takeF 6 ⟨some 41, _, _, _, _, _⟩ (v := ?_) (by decide) rfl (by kernel_rfl) (by kernel_rfl) (by kernel_rfl) (fun _ _ _ h => h) hS (Or.inl ⟨by kernel_rfl, ?_⟩) ?_
        rotate_left
        · (intro V hSw; obtain ⟨q0, q1⟩ := HLD.out V hSw; go_simp; try with_reducible rfl)
        try simp only [Act.put]
        refine wpE_takeF 7 ⟨some 42, _, _, _, _, _⟩ (v := ?_) (by decide) rfl (by kernel_rfl) (by kernel_rfl) (by kernel_rfl) (fun _ _ _ h => h) hS (Or.inl ⟨by kernel_rfl, ?_⟩) ?_
        rotate_left
        · (intro V hSw; obtain ⟨q0, q1⟩ := HLD.out V hSw; go_simp; try with_reducible rfl)
        try simp only [Act.put]
        refine wpE_takeF 8 ⟨some 43, _, _, _, _, _⟩ (v := ?_) (by decide) rfl (by kernel_rfl) (by kernel_rfl) (by kernel_rfl) (fun _ _ _ h => h) hS (Or.inl ⟨by kernel_rfl, ?_⟩) ?_
        rotate_left
        · (intro V hSw; obtain ⟨q0, q1⟩ := HLD.out V hSw; go_simp; try with_reducible rfl)
        try simp only [Act.put]
        refine wpE_takeF 9 ⟨some 44, _, _, _, _, _⟩ (v := ?_) (by decide) rfl (by kernel_rfl) (by kernel_rfl) (by kernel_rfl) (fun _ _ _ h => h) hS (Or.inl ⟨by kernel_rfl, ?_⟩) ?_
        rotate_left
        · (intro V hSw; obtain ⟨q0, q1⟩ := HLD.out V hSw; go_simp; try with_reducible rfl)
        try simp only [Act.put]
        refine wpE_takeF 10 ⟨some 45, _, _, _, _, _⟩ (v := ?_) (by decide) rfl (by kernel_rfl) (by kernel_rfl) (by kernel_rfl) (fun _ _ _ h => h) hS (Or.inl ⟨by kernel_rfl, ?_⟩) ?_
        rotate_left
        · (intro V hSw; obtain ⟨q0, q1⟩ := HLD.out V hSw; go_simp; try with_reducible rfl)
        try simp only [Act.put]
        simp only [List.setIfInBounds_toArray, List.set_cons_succ, List.set_cons_zero]
        refine wpE_one 11 (o := ⟨some 46, _, _, _, _, _⟩) (by kernel_rfl) rfl (fun K' hK' => ?_)
        rw [if_pos (by kernel_rfl)]
        refine call_val 39 _ _ (.tmp 40) #[.tmp 44, .tmp 45] #[68, 68] #[] (by with_reducible rfl) ?hx Tryz.func39 (by kernel_rfl) rfl #[.agg Y, .agg X] ?hv _ HORD.out ?_
        case hx => go_simp; try with_reducible rfl
        case hv => simp only [List.map_toArray, List.map_cons, List.map_nil]; go_simp
        rintro E V2 ⟨rfl, hb2⟩
        have hb2' : Below wr.heap.size wr V2 := ⟨hb2.os, hb2.tape, hb2.output, hb2.size, hb2.block⟩
        refine ⟨_, rfl, hK'.out _ _ hb2' (fun hS => ?_)⟩
        clear hK' K'
        try simp only [Act.put]
        refine wpE_takeF 12 ⟨some 47, _, _, _, _, _⟩ (v := ?_) (by decide) rfl (by kernel_rfl) (by kernel_rfl) (by kernel_rfl) (fun _ _ _ h => h) hS (Or.inl ⟨by kernel_rfl, ?_⟩) ?_
        rotate_left
        · (intro V hSw; obtain ⟨q0, q1⟩ := HLD.out V hSw; go_simp; try with_reducible rfl)
        try simp only [Act.put]
        refine wpE_takeF 13 ⟨some 48, _, _, _, _, _⟩ (v := ?_) (by decide) rfl (by kernel_rfl) (by kernel_rfl) (by kernel_rfl) (fun _ _ _ h => h) hS (Or.inl ⟨by kernel_rfl, ?_⟩) ?_
        rotate_left
        · (intro V hSw; obtain ⟨q0, q1⟩ := HLD.out V hSw; go_simp; try with_reducible rfl)
        try simp only [Act.put]
        refine wpE_takeF 14 ⟨some 6, _, _, _, _, _⟩ (v := ?_) (by decide) rfl (by kernel_rfl) (by kernel_rfl) (by kernel_rfl) (fun _ _ _ h => h) hS (Or.inl ⟨by kernel_rfl, ?_⟩) ?_
        rotate_left
        · (intro V hSw; obtain ⟨q0, q1⟩ := HLD.out V hSw; go_simp; try with_reducible rfl)
        try simp only [Act.put]
        refine wpE_takeF 15 ⟨some 7, _, _, _, _, _⟩ (v := ?_) (by decide) rfl (by kernel_rfl) (by kernel_rfl) (by kernel_rfl) (fun _ _ _ h => h) hS (Or.inl ⟨by kernel_rfl, ?_⟩) ?_
        rotate_left
        · (intro V hSw; obtain ⟨q0, q1⟩ := HLD.out V hSw; go_simp; try with_reducible rfl)
        try simp only [Act.put]
        refine wpE_done (by kernel_rfl) ?_ _
        try simp only [List.setIfInBounds_toArray, List.set_cons_succ, List.set_cons_zero]
        have HB2 : Hid (Below w.heap.size w V2) := Lib.hid (HBW.out.trans (hb2'.mono HBW.out.size))
        go_wp2
        rw [HP.out]
        refine ⟨?_, HB2.out⟩
        rw [HF.out, HPOS.out]
        rfl
      · have hal : ¬ a < es.length := by have := HLN.out; omega
        have hfin : decide (posB es x < es.length ∧ (es.getD (posB es x) n0).t = x.t) = false := by
          rw [HPOS.out]
          exact decide_eq_false (fun h => hal h.1)
        have HF := Lib.hid hfin; clear hfin
        have han : ¬ (a : Int) < (n : Int) := by omega
        have hann : ¬ a < n := by omega
        go_wp2
        refine wp_region_E (fun V => Below wr.heap.size wr V) 99 rfl ?_
        have hS := (show Below wr.heap.size wr wr.drew from below_drew (Below.refl _ _))
        refine wpE_takeF 0 ⟨some 35, _, _, _, _, _⟩ (v := ?_) (by decide) rfl (by kernel_rfl) (by kernel_rfl) (by kernel_rfl) (fun _ _ _ h => h) hS (Or.inl ⟨by kernel_rfl, ?_⟩) ?_
        rotate_left
        · (intro V hSw; go_simp; try with_reducible rfl)
        try simp only [Act.put]
        refine wpE_takeF 1 ⟨some 36, _, _, _, _, _⟩ (v := ?_) (by decide) rfl (by kernel_rfl) (by kernel_rfl) (by kernel_rfl) (fun _ _ _ h => h) hS (Or.inl ⟨by kernel_rfl, ?_⟩) ?_
        rotate_left
        · (intro V hSw; go_simp; try with_reducible rfl)
        try simp only [Act.put]
        refine wpE_takeF 2 ⟨some 37, _, _, _, _, _⟩ (v := ?_) (by decide) rfl (by kernel_rfl) (by kernel_rfl) (by kernel_rfl) (fun _ _ _ h => h) hS (Or.inl ⟨by kernel_rfl, ?_⟩) ?_
        rotate_left
        · (intro V hSw; go_simp; try with_reducible rfl)
        try simp only [Act.put]
        refine wpE_takeF 3 ⟨some 38, _, _, _, _, _⟩ (v := ?_) (by decide) rfl (by kernel_rfl) (by kernel_rfl) (by kernel_rfl) (fun _ _ _ h => h) hS (Or.inl ⟨by kernel_rfl, ?_⟩) ?_
        rotate_left
        · (intro V hSw; go_simp; try with_reducible rfl)
        try simp only [Act.put]
        refine wpE_takeF 4 ⟨some 39, _, _, _, _, _⟩ (v := ?_) (by decide) rfl (by kernel_rfl) (by kernel_rfl) (by kernel_rfl) (fun _ _ _ h => h) hS (Or.inl ⟨by kernel_rfl, ?_⟩) ?_
        rotate_left
        · (intro V hSw; go_simp; try with_reducible rfl)
        try simp only [Act.put]
        refine wpE_takeF 5 ⟨some 40, _, _, _, _, _⟩ (v := undef) (by decide) rfl (by kernel_rfl) (by kernel_rfl) (by kernel_rfl) (fun _ _ _ h => h) hS (Or.inr ⟨by kernel_rfl, rfl⟩) ?_
        try simp only [Act.put]
        refine wpE_takeF 6 ⟨some 41, _, _, _, _, _⟩ (v := undef) (by decide) rfl (by kernel_rfl) (by kernel_rfl) (by kernel_rfl) (fun _ _ _ h => h) hS (Or.inr ⟨by kernel_rfl, rfl⟩) ?_
        try simp only [Act.put]
        refine wpE_takeF 7 ⟨some 42, _, _, _, _, _⟩ (v := undef) (by decide) rfl (by kernel_rfl) (by kernel_rfl) (by kernel_rfl) (fun _ _ _ h => h) hS (Or.inr ⟨by kernel_rfl, rfl⟩) ?_
        try simp only [Act.put]
        refine wpE_takeF 8 ⟨some 43, _, _, _, _, _⟩ (v := undef) (by decide) rfl (by kernel_rfl) (by kernel_rfl) (by kernel_rfl) (fun _ _ _ h => h) hS (Or.inr ⟨by kernel_rfl, rfl⟩) ?_
        try simp only [Act.put]
        refine wpE_takeF 9 ⟨some 44, _, _, _, _, _⟩ (v := undef) (by decide) rfl (by kernel_rfl) (by kernel_rfl) (by kernel_rfl) (fun _ _ _ h => h) hS (Or.inr ⟨by kernel_rfl, rfl⟩) ?_
        try simp only [Act.put]
        refine wpE_takeF 10 ⟨some 45, _, _, _, _, _⟩ (v := undef) (by decide) rfl (by kernel_rfl) (by kernel_rfl) (by kernel_rfl) (fun _ _ _ h => h) hS (Or.inr ⟨by kernel_rfl, rfl⟩) ?_
        try simp only [Act.put]
        refine wpE_takeF 11 ⟨some 46, _, _, _, _, _⟩ (v := undef) (by decide) rfl (by kernel_rfl) (by kernel_rfl) (by kernel_rfl) (fun _ _ _ h => h) hS (Or.inr ⟨by kernel_rfl, rfl⟩) ?_
        try simp only [Act.put]
        refine wpE_takeF 12 ⟨some 47, _, _, _, _, _⟩ (v := undef) (by decide) rfl (by kernel_rfl) (by kernel_rfl) (by kernel_rfl) (fun _ _ _ h => h) hS (Or.inr ⟨by kernel_rfl, rfl⟩) ?_
        try simp only [Act.put]
        refine wpE_takeF 13 ⟨some 48, _, _, _, _, _⟩ (v := ?_) (by decide) rfl (by kernel_rfl) (by kernel_rfl) (by kernel_rfl) (fun _ _ _ h => h) hS (Or.inl ⟨by kernel_rfl, ?_⟩) ?_
        rotate_left
        · (intro V hSw; go_simp; try with_reducible rfl)
        try simp only [Act.put]
        refine wpE_takeF 14 ⟨some 6, _, _, _, _, _⟩ (v := ?_) (by decide) rfl (by kernel_rfl) (by kernel_rfl) (by kernel_rfl) (fun _ _ _ h => h) hS (Or.inl ⟨by kernel_rfl, ?_⟩) ?_
        rotate_left
        · (intro V hSw; go_simp; try with_reducible rfl)
        try simp only [Act.put]
        refine wpE_takeF 15 ⟨some 7, _, _, _, _, _⟩ (v := ?_) (by decide) rfl (by kernel_rfl) (by kernel_rfl) (by kernel_rfl) (fun _ _ _ h => h) hS (Or.inl ⟨by kernel_rfl, ?_⟩) ?_
        rotate_left
        · (intro V hSw; go_simp; try with_reducible rfl)
        try simp only [Act.put]
        refine wpE_done (by kernel_rfl) ?_ _
        try simp only [List.setIfInBounds_toArray, List.set_cons_succ, List.set_cons_zero]
        have HB2 : Hid (Below w.heap.size w wr.drew) := Lib.hid (below_drew HBW.out)
        go_wp2
        rw [HP.out]
        refine ⟨?_, HB2.out⟩
        rw [HF.out, HPOS.out]
        rfl
end Go.Proofs.YtbagocghlijleaaGreat.Ht
