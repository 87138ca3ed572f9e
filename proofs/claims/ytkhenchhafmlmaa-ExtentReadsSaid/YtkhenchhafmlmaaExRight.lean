/- Whether a list is right: the program's calls. -/
import Derived.Test.YtkhenchhafmlmaaExMem
import Derived.Test.YtkhenchhafmlmaaRegC
import Derived.Deep.RegionHeldLaw
import Derived.LoopTactic
namespace Go.Proofs.Ytkhenchhafmlmaa.Ex
set_option maxRecDepth 20000
open Go.RowKit
open Go.Proofs.Ytkhenchhafmlmaa.Mem Go.Proofs.Ytkhenchhafmlmaa.Crc Go.Proofs.Ytkhenchhafmlmaa.Rec Go.Proofs.Ytkhenchhafmlmaa.Reg
attribute [local go_sem ↓] ldX_eq stX_eq

set_option maxRecDepth 100000 in
theorem fol_any (x e : X) (hx : x.sm) (w : World) :
    Calls Try.prog 60 #[.agg x.c, .agg e.c] w fun E w' => E = .returned (.bool (fol x e)) ∧ Below w.heap.size w w' := by
  obtain ⟨C, hC⟩ : ∃ C, C = x.c := ⟨_, rfl⟩
  obtain ⟨D, hD⟩ : ∃ D, D = e.c := ⟨_, rfl⟩
  obtain ⟨W, hW⟩ : ∃ W, W = (w.alloc (.cells C 24)).alloc (.cells D 24) := ⟨_, rfl⟩
  have z1 : (w.alloc (.cells C 24)).heap.size = w.heap.size + 1 := by simp
  have hbw : Below w.heap.size w W := by rw [hW]; exact ((Below.refl _ _).alloc (Nat.le_refl _) _).alloc (by omega) _
  have hv : VarX W w.heap.size x := by rw [hW, hC]; exact (VarX.new w x).alloc _
  have hu : VarX W (w.heap.size + 1) e := by rw [hW, hD, ← z1]; exact VarX.new _ e
  have l1 := hv.load
  have l2 := hu.load
  obtain ⟨q0, -, q2, -⟩ := hv.cells
  obtain ⟨p0, -, -, -⟩ := hu.cells
  have hcall : ∀ V, Calls Try.prog 62 #[.agg C, .agg D] V fun E w' => E = .returned (.bool (goes x e)) ∧ Below V.heap.size V w' := fun V => by rw [hC, hD]; exact goes_any x e hx V
  rw [← hC] at l1
  rw [← hD] at l2
  rw [← hC, ← hD]
  have HW := Lib.hid hW
  have HB := Lib.hid hbw; clear hbw hv hu hC hD z1
  have HCALL := Lib.hid hcall; clear hcall
  have HF : Hid (fol x e = (decide (x.a + x.n ≤ e.a) && !goes x e)) := Lib.hid rfl
  obtain ⟨⟨xa1, xa2⟩, -, ⟨xn1, xn2⟩⟩ := hx
  generalize x.a = xa at q0 xa1 xa2 HF
  generalize x.n = xn at q2 xn1 xn2 HF
  generalize e.a = ea at p0 HF
  rw [hW] at q0 q2 p0 l1 l2
  clear hW
  rcases Decidable.em (xa + xn ≤ ea) with h0 | h0
  · have hd : decide (xa + xn ≤ ea) = true := decide_eq_true h0
    rw [HF.out, hd, Bool.true_and]
    clear hd HF
    generalize goes x e = r at HCALL ⊢
    go_enter Try.func60, Try.ntmps60
    go_wp2_with fail
    with_reducible refine (HCALL.out _).mono ?_
    rintro E w1 ⟨rfl, hb⟩
    have HB1 : Hid (Below w.heap.size w w1) := Lib.hid (by
      have h1 := HB.out
      rw [HW.out] at h1
      exact h1.trans (hb.mono h1.size))
    clear hb q0 q2 p0 l1 l2 h0
    cases r with
    | true =>
      go_wp2
      go_ret
      exact ⟨rfl, HB1.out⟩
    | false =>
      go_wp2
      go_ret
      exact ⟨rfl, HB1.out⟩
  · have hd : decide (xa + xn ≤ ea) = false := decide_eq_false h0
    rw [HF.out, hd, Bool.false_and]
    clear hd HF
    go_enter Try.func60, Try.ntmps60
    go_wp2
    go_ret
    exact ⟨rfl, HW.out ▸ HB.out⟩

theorem okB_may {p : List X} {e : X} (h : e.may = false) : okB p e = false := by unfold okB; rw [h]; rfl
theorem okB_fol {p : List X} {e : X} (h : folB p e = false) : okB p e = false := by unfold okB; rw [h]; simp
theorem okB_apart {p : List X} {e : X} {j : Nat} (hj : j < p.length) (h : meet (p[j]).s (p[j]).n e.s e.n = true) : okB p e = false := by
  have : apartB p e = false := by
    unfold apartB
    rw [List.all_eq_false]
    exact ⟨p[j], List.getElem_mem hj, by rw [h]; simp⟩
  unfold okB; rw [this]; simp
theorem okB_yes {p : List X} {e : X} (h1 : e.may = true) (h2 : folB p e = true) (h3 : ∀ j, (hj : j < p.length) → meet (p[j]).s (p[j]).n e.s e.n = false) : okB p e = true := by
  have : apartB p e = true := by
    unfold apartB
    rw [List.all_eq_true]
    intro x hx
    obtain ⟨j, hj, rfl⟩ := List.getElem_of_mem hx
    rw [h3 j hj]; rfl
  unfold okB; rw [h1, h2, this]; rfl
theorem folB_take {l : List X} {k : Nat} (hk : k < l.length) (e : X) : folB (l.take (k + 1)) e = fol l[k] e := by
  rw [List.take_succ_eq_append_getElem hk, folB_snoc]

set_option maxRecDepth 100000 in
set_option maxHeartbeats 4000000 in
theorem right_any (A : Option Addr) (n c B : Nat) (l : List X) (w : World) (h : HoldsX w B A n l) (hB : B ≤ w.heap.size) (hr : ∀ x ∈ l, x.rep) (hc : n ≤ c) :
    Calls Try.prog 34 #[.slice A n c] w fun e w' => e = .returned (.bool (right l)) ∧ Below w.heap.size w w' := by
  have hln := h.1
  by_cases h60 : n ≤ 60
  rotate_left
  · have hd : decide (60 < (n : Int)) = true := decide_eq_true (by omega)
    have hf : right l = false := by unfold right; rw [decide_eq_false (by omega)]; rfl
    rw [hf]
    clear h hln hf
    go_enter Try.func34, Try.ntmps34
    go_wp2
    go_ret
    exact ⟨rfl, Below.refl _ _⟩
  · have hd : ¬ (60 < (n : Int)) := by omega
    have H := Lib.hid h; clear h
    have HLN := Lib.hid hln; clear hln
    have HR := Lib.hid hr; clear hr
    go_enter Try.func34, Try.ntmps34
    go_wp2
    go_loopw [12] (fun i wr => ∃ k : Nat, k ≤ n ∧ i = .int .i64 (k : Int) ∧ (∀ j, (hj : j < l.length) → j < k → okB (l.take j) l[j] = true) ∧ Below w.heap.size w wr) (fun i _ => n - (intOf i).toNat)
    case atStart => exact ⟨0, Nat.zero_le _, rfl, fun j _ h => absurd h (by omega), Below.refl _ _⟩
    case round =>
      obtain ⟨k, hk, rfl, hok, hbr⟩ := hrel
      have HOK := Lib.hid hok; clear hok
      rcases Nat.lt_or_ge k n with hlt | hge
      rotate_left
      · obtain rfl : k = n := by omega
        have hf : right l = true := (right_at l).2 ⟨by have := HLN.out; omega, fun j hj => HOK.out j hj (by have := HLN.out; omega)⟩
        have HBR := Lib.hid hbr; clear hbr
        have HF := Lib.hid hf; clear hf
        go_wp2
        go_ret
        exact ⟨by rw [HF.out]; rfl, HBR.out⟩
      · obtain ⟨b, off, rfl, hbB⟩ := H.out.addr (by omega)
        have hkl : k < l.length := by have := HLN.out; omega
        obtain ⟨e, he⟩ : ∃ e, e = l[k] := ⟨_, rfl⟩
        have hrep : e.rep := HR.out e (he ▸ List.getElem_mem hkl)
        have hh := H.out.below (hbr.mono hB)
        have hld := run_ldX_at hh k hkl (off + k * 4) rfl
        rw [← he] at hld
        have hst := run_stX_new wr e
        have hvar : VarX (wr.alloc (.cells e.c 24)) wr.heap.size e := VarX.new wr e
        have hb1 : Below w.heap.size w (wr.alloc (.cells e.c 24)) := hbr.alloc hbr.size _
        have hmay : ∀ V, Calls Try.prog 35 #[.agg e.c] V fun E w' => E = .returned (.bool e.may) ∧ Below V.heap.size V w' := fun V => may_any e hrep V
        have hk0 : (0 : Int) ≤ (k : Int) := by omega
        have hkn : (k : Int) < (n : Int) := by omega
        have hwg : w.heap.size ≤ wr.heap.size := hbr.size
        have hsz1 : (wr.alloc (.cells e.c 24)).heap.size = wr.heap.size + 1 := by simp
        have HBR := Lib.hid hbr; clear hbr hh
        have HREP := Lib.hid hrep; clear hrep
        have HE := Lib.hid he; clear he
        obtain ⟨C, hC⟩ : ∃ C, C = e.c := ⟨_, rfl⟩
        rw [← hC] at hld hst hb1 hmay hsz1
        have HVAR : Hid (VarX (wr.alloc (.cells C 24)) wr.heap.size e) := Lib.hid (by rw [hC]; exact hvar)
        clear hvar
        have HC := Lib.hid hC; clear hC
        have HMAY := Lib.hid hmay; clear hmay
        have HB1 := Lib.hid hb1; clear hb1
        have HSZ := Lib.hid hsz1; clear hsz1
        go_wp2_with fail
        clear hst hld
        generalize wr.alloc (.cells C 24) = W1 at HVAR HB1 HSZ ⊢
        have hS : ∀ V, Below W1.heap.size W1 V → (ldX (.pointer (some ⟨wr.heap.size, 0, none⟩))).run Try.prog V = .ok (.agg C) V := fun V hV => by
          have hv : VarX V wr.heap.size e := HVAR.out.keep hV (by rw [HSZ.out]; omega)
          rw [HC.out]
          exact hv.load
        have hS0 := hS W1.drew (Below.refl _ W1).drew
        have HS := Lib.hid hS; clear hS
        cases hm : e.may with
        | false =>
          have hok : okB (l.take k) l[k] = false := okB_may (HE.out ▸ hm)
          have hf : right l = false := right_no hkl hok
          have HF := Lib.hid hf; clear hf hok
          have hmay : ∀ V, Calls Try.prog 35 #[.agg C] V fun E w' => E = .returned (.bool false) ∧ Below V.heap.size V w' := fun V => by rw [← hm]; exact HMAY.out V
          have HM := Lib.hid hmay; clear hmay
          clear hm
          refine wp_region_E (fun V => Below W1.heap.size W1 V) 16 rfl ?_
          have hS := (show Below W1.heap.size W1 W1.drew from (Below.refl _ W1).drew)
          refine wpE_take 0 ⟨some 17, _, _, _, _, _⟩ (v := ?_) [1, 2, 3, 4, 5, 6, 7, 8, 9, 10, 11, 12, 13, 14, 15, 16] rfl (by kernel_rfl) (by kernel_rfl) (by kernel_rfl) (by kernel_rfl) (fun _ _ _ h => h) hS (Or.inl ⟨by kernel_rfl, ?_⟩) ?_
          rotate_left
          · (intro V hSw; have hq := HS.out V hSw; go_simp; try with_reducible rfl)
          try simp only [Act.put]
          refine wpE_one 1 (o := ⟨some 18, _, _, _, _, _⟩) (by kernel_rfl) rfl (fun K' hK' => ?_)
          rw [if_pos (by kernel_rfl)]
          refine call_wp 35 _ _ _ _ rfl Try.func35 (by kernel_rfl) rfl _ ?hv _ (HM.out _) ?_
          case hv => simp only [List.map_toArray, List.map_cons, List.map_nil]; go_simp
          rintro E V1 ⟨rfl, hb1⟩
          have HW1 := Lib.hid (hS.trans (hb1.mono hS.size))
          clear hb1
          refine ⟨_, rfl, ?_⟩
          refine hK'.out _ _ HW1.out (fun hS => ?_)
          clear hK' K'
          try simp only [Act.put]
          refine wpE_take 2 ⟨some 19, _, _, _, _, _⟩ (v := ?_) [3, 4, 5, 6, 7, 8, 9, 10, 11, 12, 13, 14, 15, 16] rfl (by kernel_rfl) (by kernel_rfl) (by kernel_rfl) (by kernel_rfl) (fun _ _ _ h => h) hS (Or.inl ⟨by kernel_rfl, ?_⟩) ?_
          rotate_left
          · (intro V hSw; have hq := HS.out V hSw; go_simp; try with_reducible rfl)
          try simp only [Act.put]
          refine wpE_take 3 ⟨some 20, _, _, _, _, _⟩ (v := ?_) [4, 5, 6, 7, 8, 9, 10, 11, 12, 13, 14, 15, 16] rfl (by kernel_rfl) (by kernel_rfl) (by kernel_rfl) (by kernel_rfl) (fun _ _ _ h => h) hS (Or.inl ⟨by kernel_rfl, ?_⟩) ?_
          rotate_left
          · (intro V hSw; have hq := HS.out V hSw; go_simp; try with_reducible rfl)
          try simp only [Act.put]
          refine wpE_take 4 ⟨some 21, _, _, _, _, _⟩ (v := undef) [5, 6, 7, 8, 9, 10, 11, 12, 13, 14, 15, 16] rfl (by kernel_rfl) (by kernel_rfl) (by kernel_rfl) (by kernel_rfl) (fun _ _ _ h => h) hS (Or.inr ⟨by kernel_rfl, rfl⟩) ?_
          try simp only [Act.put]
          refine wpE_take 5 ⟨some 22, _, _, _, _, _⟩ (v := undef) [6, 7, 8, 9, 10, 11, 12, 13, 14, 15, 16] rfl (by kernel_rfl) (by kernel_rfl) (by kernel_rfl) (by kernel_rfl) (fun _ _ _ h => h) hS (Or.inr ⟨by kernel_rfl, rfl⟩) ?_
          try simp only [Act.put]
          refine wpE_take 6 ⟨some 23, _, _, _, _, _⟩ (v := undef) [7, 8, 9, 10, 11, 12, 13, 14, 15, 16] rfl (by kernel_rfl) (by kernel_rfl) (by kernel_rfl) (by kernel_rfl) (fun _ _ _ h => h) hS (Or.inr ⟨by kernel_rfl, rfl⟩) ?_
          try simp only [Act.put]
          refine wpE_take 7 ⟨some 24, _, _, _, _, _⟩ (v := undef) [10, 11, 13, 14, 15, 16] rfl (by kernel_rfl) (by kernel_rfl) (by kernel_rfl) (by kernel_rfl) (fun _ _ _ h => h) hS (Or.inr ⟨by kernel_rfl, rfl⟩) ?_
          try simp only [Act.put]
          refine wpE_take 8 ⟨some 25, _, _, _, _, _⟩ (v := undef) [9, 10, 11, 13, 14, 15, 16] rfl (by kernel_rfl) (by kernel_rfl) (by kernel_rfl) (by kernel_rfl) (fun _ _ _ h => h) hS (Or.inr ⟨by kernel_rfl, rfl⟩) ?_
          try simp only [Act.put]
          refine wpE_take 9 ⟨some 26, _, _, _, _, _⟩ (v := undef) [10, 11, 13, 14, 15, 16] rfl (by kernel_rfl) (by kernel_rfl) (by kernel_rfl) (by kernel_rfl) (fun _ _ _ h => h) hS (Or.inr ⟨by kernel_rfl, rfl⟩) ?_
          try simp only [Act.put]
          refine wpE_take 10 ⟨some 27, _, _, _, _, _⟩ (v := undef) [11, 13, 14, 15, 16] rfl (by kernel_rfl) (by kernel_rfl) (by kernel_rfl) (by kernel_rfl) (fun _ _ _ h => h) hS (Or.inr ⟨by kernel_rfl, rfl⟩) ?_
          try simp only [Act.put]
          refine wpE_take 11 ⟨some 28, _, _, _, _, _⟩ (v := undef) [13, 14, 15, 16] rfl (by kernel_rfl) (by kernel_rfl) (by kernel_rfl) (by kernel_rfl) (fun _ _ _ h => h) hS (Or.inr ⟨by kernel_rfl, rfl⟩) ?_
          try simp only [Act.put]
          refine wpE_take 12 ⟨some 29, _, _, _, _, _⟩ (v := undef) [13, 14, 15, 16] rfl (by kernel_rfl) (by kernel_rfl) (by kernel_rfl) (by kernel_rfl) (fun _ _ _ h => h) hS (Or.inr ⟨by kernel_rfl, rfl⟩) ?_
          try simp only [Act.put]
          refine wpE_take 13 ⟨some 30, _, _, _, _, _⟩ (v := undef) [14, 15, 16] rfl (by kernel_rfl) (by kernel_rfl) (by kernel_rfl) (by kernel_rfl) (fun _ _ _ h => h) hS (Or.inr ⟨by kernel_rfl, rfl⟩) ?_
          try simp only [Act.put]
          refine wpE_take 14 ⟨some 31, _, _, _, _, _⟩ (v := undef) [15, 16] rfl (by kernel_rfl) (by kernel_rfl) (by kernel_rfl) (by kernel_rfl) (fun _ _ _ h => h) hS (Or.inr ⟨by kernel_rfl, rfl⟩) ?_
          try simp only [Act.put]
          refine wpE_take 15 ⟨some 32, _, _, _, _, _⟩ (v := undef) [16] rfl (by kernel_rfl) (by kernel_rfl) (by kernel_rfl) (by kernel_rfl) (fun _ _ _ h => h) hS (Or.inr ⟨by kernel_rfl, rfl⟩) ?_
          try simp only [Act.put]
          refine wpE_last (by kernel_rfl) rfl (fun K' hK' => ?_)
          go_simp
          refine hK'.out _ _ ?_
          clear hK' K'
          refine wpE_done (by kernel_rfl) ?_ _
          go_wp2
          go_ret
          exact ⟨by rw [HF.out]; rfl, HB1.out.trans (HW1.out.mono HB1.out.size)⟩
        | true =>
          have hmay : ∀ V, Calls Try.prog 35 #[.agg C] V fun E w' => E = .returned (.bool true) ∧ Below V.heap.size V w' := fun V => by rw [← hm]; exact HMAY.out V
          have HM := Lib.hid hmay; clear hmay
          have HEM := Lib.hid hm; clear hm
          have HKL := Lib.hid hkl
          rcases Nat.eq_zero_or_pos k with hkz | hkp
          · have HFB : Hid (folB (l.take k) e = true) := Lib.hid (by rw [hkz]; rfl)
            have hok : okB (l.take k) e = true := okB_yes HEM.out HFB.out (fun q hq => by rw [hkz] at hq; cases hq)
            have HOK2 := Lib.hid hok; clear hok
            refine wp_region_E (fun V => Below W1.heap.size W1 V) 16 rfl ?_
            have hS := (show Below W1.heap.size W1 W1.drew from (Below.refl _ W1).drew)
            refine wpE_take 0 ⟨some 17, _, _, _, _, _⟩ (v := ?_) [1, 2, 3, 4, 5, 6, 7, 8, 9, 10, 11, 12, 13, 14, 15, 16] rfl (by kernel_rfl) (by kernel_rfl) (by kernel_rfl) (by kernel_rfl) (fun _ _ _ h => h) hS (Or.inl ⟨by kernel_rfl, ?_⟩) ?_
            rotate_left
            · (intro V hSw; have hq := HS.out V hSw; go_simp; try with_reducible rfl)
            try simp only [Act.put]
            refine wpE_one 1 (o := ⟨some 18, _, _, _, _, _⟩) (by kernel_rfl) rfl (fun K' hK' => ?_)
            rw [if_pos (by kernel_rfl)]
            refine call_wp 35 _ _ _ _ rfl Try.func35 (by kernel_rfl) rfl _ ?hv _ (HM.out _) ?_
            case hv => simp only [List.map_toArray, List.map_cons, List.map_nil]; go_simp
            rintro E V1 ⟨rfl, hb1⟩
            have HW1 := Lib.hid (hS.trans (hb1.mono hS.size))
            clear hb1
            refine ⟨_, rfl, ?_⟩
            refine hK'.out _ _ HW1.out (fun hS => ?_)
            clear hK' K'
            try simp only [Act.put]
            refine wpE_take 2 ⟨some 19, _, _, _, _, _⟩ (v := ?_) [3, 4, 5, 6, 7, 8, 9, 10, 11, 12, 13, 14, 15, 16] rfl (by kernel_rfl) (by kernel_rfl) (by kernel_rfl) (by kernel_rfl) (fun _ _ _ h => h) hS (Or.inl ⟨by kernel_rfl, ?_⟩) ?_
            rotate_left
            · (intro V hSw; have hq := HS.out V hSw; go_simp; try with_reducible rfl)
            try simp only [Act.put]
            refine wpE_take 3 ⟨some 20, _, _, _, _, _⟩ (v := ?_) [4, 5, 6, 7, 8, 9, 10, 11, 12, 13, 14, 15, 16] rfl (by kernel_rfl) (by kernel_rfl) (by kernel_rfl) (by kernel_rfl) (fun _ _ _ h => h) hS (Or.inl ⟨by kernel_rfl, ?_⟩) ?_
            rotate_left
            · (intro V hSw; have hq := HS.out V hSw; go_simp; try with_reducible rfl)
            try simp only [Act.put]
            refine wpE_take 4 ⟨some 21, _, _, _, _, _⟩ (v := ?_) [5, 6, 7, 8, 9, 10, 11, 12, 13, 14, 15, 16] rfl (by kernel_rfl) (by kernel_rfl) (by kernel_rfl) (by kernel_rfl) (fun _ _ _ h => h) hS (Or.inl ⟨by kernel_rfl, ?_⟩) ?_
            rotate_left
            · (intro V hSw; have hq := HS.out V hSw; go_simp; try with_reducible rfl)
            try simp only [Act.put]
            refine wpE_take 5 ⟨some 22, _, _, _, _, _⟩ (v := ?_) [6, 7, 8, 9, 10, 11, 12, 13, 14, 15, 16] rfl (by kernel_rfl) (by kernel_rfl) (by kernel_rfl) (by kernel_rfl) (fun _ _ _ h => h) hS (Or.inl ⟨by kernel_rfl, ?_⟩) ?_
            rotate_left
            · (intro V hSw; have hq := HS.out V hSw; go_simp; try with_reducible rfl)
            try simp only [Act.put]
            refine wpE_take 6 ⟨some 23, _, _, _, _, _⟩ (v := ?_) [7, 8, 9, 10, 11, 12, 13, 14, 15, 16] rfl (by kernel_rfl) (by kernel_rfl) (by kernel_rfl) (by kernel_rfl) (fun _ _ _ h => h) hS (Or.inl ⟨by kernel_rfl, ?_⟩) ?_
            rotate_left
            · (intro V hSw; have hq := HS.out V hSw; go_simp; try with_reducible rfl)
            try simp only [Act.put]
            refine wpE_take 7 ⟨some 24, _, _, _, _, _⟩ (v := undef) [10, 11, 13, 14, 15, 16] rfl (by kernel_rfl) (by kernel_rfl) (by kernel_rfl) (by kernel_rfl) (fun _ _ _ h => h) hS (Or.inr ⟨by kernel_rfl, rfl⟩) ?_
            try simp only [Act.put]
            refine wpE_take 8 ⟨some 25, _, _, _, _, _⟩ (v := undef) [9, 10, 11, 13, 14, 15, 16] rfl (by kernel_rfl) (by kernel_rfl) (by kernel_rfl) (by kernel_rfl) (fun _ _ _ h => h) hS (Or.inr ⟨by kernel_rfl, rfl⟩) ?_
            try simp only [Act.put]
            refine wpE_take 9 ⟨some 26, _, _, _, _, _⟩ (v := undef) [10, 11, 13, 14, 15, 16] rfl (by kernel_rfl) (by kernel_rfl) (by kernel_rfl) (by kernel_rfl) (fun _ _ _ h => h) hS (Or.inr ⟨by kernel_rfl, rfl⟩) ?_
            try simp only [Act.put]
            refine wpE_take 10 ⟨some 27, _, _, _, _, _⟩ (v := undef) [11, 13, 14, 15, 16] rfl (by kernel_rfl) (by kernel_rfl) (by kernel_rfl) (by kernel_rfl) (fun _ _ _ h => h) hS (Or.inr ⟨by kernel_rfl, rfl⟩) ?_
            try simp only [Act.put]
            refine wpE_take 11 ⟨some 28, _, _, _, _, _⟩ (v := undef) [13, 14, 15, 16] rfl (by kernel_rfl) (by kernel_rfl) (by kernel_rfl) (by kernel_rfl) (fun _ _ _ h => h) hS (Or.inr ⟨by kernel_rfl, rfl⟩) ?_
            try simp only [Act.put]
            refine wpE_take 12 ⟨some 29, _, _, _, _, _⟩ (v := undef) [13, 14, 15, 16] rfl (by kernel_rfl) (by kernel_rfl) (by kernel_rfl) (by kernel_rfl) (fun _ _ _ h => h) hS (Or.inr ⟨by kernel_rfl, rfl⟩) ?_
            try simp only [Act.put]
            refine wpE_take 13 ⟨some 30, _, _, _, _, _⟩ (v := undef) [14, 15, 16] rfl (by kernel_rfl) (by kernel_rfl) (by kernel_rfl) (by kernel_rfl) (fun _ _ _ h => h) hS (Or.inr ⟨by kernel_rfl, rfl⟩) ?_
            try simp only [Act.put]
            refine wpE_take 14 ⟨some 31, _, _, _, _, _⟩ (v := undef) [15, 16] rfl (by kernel_rfl) (by kernel_rfl) (by kernel_rfl) (by kernel_rfl) (fun _ _ _ h => h) hS (Or.inr ⟨by kernel_rfl, rfl⟩) ?_
            try simp only [Act.put]
            refine wpE_take 15 ⟨some 32, _, _, _, _, _⟩ (v := ?_) [16] rfl (by kernel_rfl) (by kernel_rfl) (by kernel_rfl) (by kernel_rfl) (fun _ _ _ h => h) hS (Or.inl ⟨by kernel_rfl, ?_⟩) ?_
            rotate_left
            · (intro V hSw; have hq := HS.out V hSw; go_simp; try with_reducible rfl)
            try simp only [Act.put]
            refine wpE_last (by kernel_rfl) rfl (fun K' hK' => ?_)
            go_simp
            refine hK'.out _ _ ?_
            clear hK' K'
            refine wpE_done (by kernel_rfl) ?_ _
            have HKZ := Lib.hid hkz
            go_wp2
            go_loopw [38] (fun i wr => i = .int .i64 0 ∧ Below W1.heap.size W1 wr) (fun _ _ => 0)
            case atStart => exact ⟨rfl, HW1.out⟩
            case round =>
              obtain ⟨rfl, hb2⟩ := hrel
              have HB2 := Lib.hid hb2; clear hb2
              go_wp2
              go_roundw
              case rel =>
                refine ⟨1, by omega, by go_num, fun q hq hlt => ?_, HB1.out.trans (HB2.out.mono HB1.out.size)⟩
                have hqk : q = k := by omega
                subst hqk
                rw [← HE.out]
                exact HOK2.out
              case measure => simp [intOf]; omega
          · obtain ⟨j0, hj0⟩ : ∃ j0, k = j0 + 1 := ⟨k - 1, by omega⟩
            have hd0 : decide ((0 : Int) < (k : Int)) = true := decide_eq_true (by omega)
            have hjl : j0 < l.length := by have := HKL.out; omega
            have hkj : (k : Int) - 1 = (j0 : Int) := by omega
            have hj1 : (0 : Int) ≤ (j0 : Int) := by omega
            have hwj : IntKind.i64.wrap (j0 : Int) = (j0 : Int) := by rw [IntKind.wrap_i64]; omega
            have hj2 : (j0 : Int) < (n : Int) := by omega
            have hsm : (l[j0]).sm := by
              have := HOK.out j0 hjl (by omega)
              unfold okB at this
              rw [Bool.and_eq_true, Bool.and_eq_true] at this
              exact sm_of_may this.1.1
            obtain ⟨P, hP⟩ : ∃ P, P = (l[j0]).c := ⟨_, rfl⟩
            have hfol : ∀ V, Calls Try.prog 60 #[.agg P, .agg C] V fun E w' => E = .returned (.bool (fol l[j0] e)) ∧ Below V.heap.size V w' := fun V => by rw [hP, HC.out]; exact fol_any _ _ hsm V
            have hs2 : ∀ V, Below W1.heap.size W1 V → (ldX (.pointer (some ⟨wr.heap.size, 0, none⟩))).run Try.prog V = .ok (.agg C) V ∧ (ldX (.pointer (some ⟨b, off + j0 * 4, none⟩))).run Try.prog V = .ok (.agg P) V := fun V hV => by
              refine ⟨HS.out V hV, ?_⟩
              rw [hP]
              exact run_ldX_at (H.out.below ((HB1.out.trans (hV.mono HB1.out.size)).mono hB)) j0 hjl _ rfl
            have hfb : folB (l.take k) e = fol l[j0] e := by rw [hj0]; exact folB_take hjl e
            generalize hrf : fol l[j0] e = rf at hfol hfb
            have HFOL := Lib.hid hfol; clear hfol
            have HS2 := Lib.hid hs2; clear hs2
            have HP := Lib.hid hP; clear hP
            have HJ := Lib.hid hj0; clear hj0
            have HJL := Lib.hid hjl
            have HRF := Lib.hid hrf; clear hrf
            clear hsm
            cases rf with
            | false =>
              have hok : okB (l.take k) e = false := okB_fol hfb
              have hf : right l = false := right_noE hkl HE.out hok
              have HF := Lib.hid hf; clear hf hok hfb
              refine wp_region_E (fun V => Below W1.heap.size W1 V) 16 rfl ?_
              have hS := (show Below W1.heap.size W1 W1.drew from (Below.refl _ W1).drew)
              refine wpE_take 0 ⟨some 17, _, _, _, _, _⟩ (v := ?_) [1, 2, 3, 4, 5, 6, 7, 8, 9, 10, 11, 12, 13, 14, 15, 16] rfl (by kernel_rfl) (by kernel_rfl) (by kernel_rfl) (by kernel_rfl) (fun _ _ _ h => h) hS (Or.inl ⟨by kernel_rfl, ?_⟩) ?_
              rotate_left
              · (intro V hSw; obtain ⟨hq, hq2⟩ := HS2.out V hSw; go_simp; try with_reducible rfl)
              try simp only [Act.put]
              refine wpE_one 1 (o := ⟨some 18, _, _, _, _, _⟩) (by kernel_rfl) rfl (fun K' hK' => ?_)
              rw [if_pos (by kernel_rfl)]
              refine call_wp 35 _ _ _ _ rfl Try.func35 (by kernel_rfl) rfl _ ?hv _ (HM.out _) ?_
              case hv => simp only [List.map_toArray, List.map_cons, List.map_nil]; go_simp
              rintro E V1 ⟨rfl, hb1⟩
              have HW1 := Lib.hid (hS.trans (hb1.mono hS.size))
              clear hb1
              refine ⟨_, rfl, ?_⟩
              refine hK'.out _ _ HW1.out (fun hS => ?_)
              clear hK' K'
              try simp only [Act.put]
              refine wpE_take 2 ⟨some 19, _, _, _, _, _⟩ (v := ?_) [3, 4, 5, 6, 7, 8, 9, 10, 11, 12, 13, 14, 15, 16] rfl (by kernel_rfl) (by kernel_rfl) (by kernel_rfl) (by kernel_rfl) (fun _ _ _ h => h) hS (Or.inl ⟨by kernel_rfl, ?_⟩) ?_
              rotate_left
              · (intro V hSw; obtain ⟨hq, hq2⟩ := HS2.out V hSw; go_simp; try with_reducible rfl)
              try simp only [Act.put]
              refine wpE_take 3 ⟨some 20, _, _, _, _, _⟩ (v := ?_) [4, 5, 6, 7, 8, 9, 10, 11, 12, 13, 14, 15, 16] rfl (by kernel_rfl) (by kernel_rfl) (by kernel_rfl) (by kernel_rfl) (fun _ _ _ h => h) hS (Or.inl ⟨by kernel_rfl, ?_⟩) ?_
              rotate_left
              · (intro V hSw; obtain ⟨hq, hq2⟩ := HS2.out V hSw; go_simp; try with_reducible rfl)
              try simp only [Act.put]
              refine wpE_take 4 ⟨some 21, _, _, _, _, _⟩ (v := ?_) [5, 6, 7, 8, 9, 10, 11, 12, 13, 14, 15, 16] rfl (by kernel_rfl) (by kernel_rfl) (by kernel_rfl) (by kernel_rfl) (fun _ _ _ h => h) hS (Or.inl ⟨by kernel_rfl, ?_⟩) ?_
              rotate_left
              · (intro V hSw; obtain ⟨hq, hq2⟩ := HS2.out V hSw; go_simp; try with_reducible rfl)
              try simp only [Act.put]
              refine wpE_take 5 ⟨some 22, _, _, _, _, _⟩ (v := ?_) [6, 7, 8, 9, 10, 11, 12, 13, 14, 15, 16] rfl (by kernel_rfl) (by kernel_rfl) (by kernel_rfl) (by kernel_rfl) (fun _ _ _ h => h) hS (Or.inl ⟨by kernel_rfl, ?_⟩) ?_
              rotate_left
              · (intro V hSw; obtain ⟨hq, hq2⟩ := HS2.out V hSw; go_simp; try with_reducible rfl)
              try simp only [Act.put]
              refine wpE_take 6 ⟨some 23, _, _, _, _, _⟩ (v := ?_) [7, 8, 9, 10, 11, 12, 13, 14, 15, 16] rfl (by kernel_rfl) (by kernel_rfl) (by kernel_rfl) (by kernel_rfl) (fun _ _ _ h => h) hS (Or.inl ⟨by kernel_rfl, ?_⟩) ?_
              rotate_left
              · (intro V hSw; obtain ⟨hq, hq2⟩ := HS2.out V hSw; go_simp; try with_reducible rfl)
              try simp only [Act.put]
              refine wpE_take 7 ⟨some 24, _, _, _, _, _⟩ (v := ?_) [10, 11, 13, 14, 15, 16] rfl (by kernel_rfl) (by kernel_rfl) (by kernel_rfl) (by kernel_rfl) (fun _ _ _ h => h) hS (Or.inl ⟨by kernel_rfl, ?_⟩) ?_
              rotate_left
              · (intro V hSw; obtain ⟨hq, hq2⟩ := HS2.out V hSw; go_simp; try with_reducible rfl)
              try simp only [Act.put]
              refine wpE_take 8 ⟨some 25, _, _, _, _, _⟩ (v := ?_) [9, 10, 11, 13, 14, 15, 16] rfl (by kernel_rfl) (by kernel_rfl) (by kernel_rfl) (by kernel_rfl) (fun _ _ _ h => h) hS (Or.inl ⟨by kernel_rfl, ?_⟩) ?_
              rotate_left
              · (intro V hSw; obtain ⟨hq, hq2⟩ := HS2.out V hSw; go_simp; try with_reducible rfl)
              try simp only [Act.put]
              refine wpE_take 9 ⟨some 26, _, _, _, _, _⟩ (v := ?_) [10, 11, 13, 14, 15, 16] rfl (by kernel_rfl) (by kernel_rfl) (by kernel_rfl) (by kernel_rfl) (fun _ _ _ h => h) hS (Or.inl ⟨by kernel_rfl, ?_⟩) ?_
              rotate_left
              · (intro V hSw; obtain ⟨hq, hq2⟩ := HS2.out V hSw; go_simp; try with_reducible rfl)
              try simp only [Act.put]
              refine wpE_take 10 ⟨some 27, _, _, _, _, _⟩ (v := ?_) [11, 13, 14, 15, 16] rfl (by kernel_rfl) (by kernel_rfl) (by kernel_rfl) (by kernel_rfl) (fun _ _ _ h => h) hS (Or.inl ⟨by kernel_rfl, ?_⟩) ?_
              rotate_left
              · (intro V hSw; obtain ⟨hq, hq2⟩ := HS2.out V hSw; go_simp; try with_reducible rfl)
              try simp only [Act.put]
              refine wpE_take 11 ⟨some 28, _, _, _, _, _⟩ (v := ?_) [13, 14, 15, 16] rfl (by kernel_rfl) (by kernel_rfl) (by kernel_rfl) (by kernel_rfl) (fun _ _ _ h => h) hS (Or.inl ⟨by kernel_rfl, ?_⟩) ?_
              rotate_left
              · (intro V hSw; obtain ⟨hq, hq2⟩ := HS2.out V hSw; go_simp; try with_reducible rfl)
              try simp only [Act.put]
              refine wpE_take 12 ⟨some 29, _, _, _, _, _⟩ (v := ?_) [13, 14, 15, 16] rfl (by kernel_rfl) (by kernel_rfl) (by kernel_rfl) (by kernel_rfl) (fun _ _ _ h => h) hS (Or.inl ⟨by kernel_rfl, ?_⟩) ?_
              rotate_left
              · (intro V hSw; obtain ⟨hq, hq2⟩ := HS2.out V hSw; go_simp; try with_reducible rfl)
              try simp only [Act.put]
              refine wpE_one 13 (o := ⟨some 30, _, _, _, _, _⟩) (by kernel_rfl) rfl (fun K' hK' => ?_)
              rw [if_pos (by kernel_rfl)]
              refine call_wp 60 _ _ _ _ rfl Try.func60 (by kernel_rfl) rfl _ ?hv _ (HFOL.out _) ?_
              case hv => simp only [List.map_toArray, List.map_cons, List.map_nil]; go_simp
              rintro E V2 ⟨rfl, hb2⟩
              have HW2 := Lib.hid (HW1.out.trans (hb2.mono HW1.out.size))
              clear hb2
              refine ⟨_, rfl, ?_⟩
              refine hK'.out _ _ HW2.out (fun hS => ?_)
              clear hK' K'
              try simp only [Act.put]
              refine wpE_take 14 ⟨some 31, _, _, _, _, _⟩ (v := ?_) [15, 16] rfl (by kernel_rfl) (by kernel_rfl) (by kernel_rfl) (by kernel_rfl) (fun _ _ _ h => h) hS (Or.inl ⟨by kernel_rfl, ?_⟩) ?_
              rotate_left
              · (intro V hSw; obtain ⟨hq, hq2⟩ := HS2.out V hSw; go_simp; try with_reducible rfl)
              try simp only [Act.put]
              refine wpE_take 15 ⟨some 32, _, _, _, _, _⟩ (v := ?_) [16] rfl (by kernel_rfl) (by kernel_rfl) (by kernel_rfl) (by kernel_rfl) (fun _ _ _ h => h) hS (Or.inl ⟨by kernel_rfl, ?_⟩) ?_
              rotate_left
              · (intro V hSw; obtain ⟨hq, hq2⟩ := HS2.out V hSw; go_simp; try with_reducible rfl)
              try simp only [Act.put]
              refine wpE_last (by kernel_rfl) rfl (fun K' hK' => ?_)
              go_simp
              refine hK'.out _ _ ?_
              clear hK' K'
              refine wpE_done (by kernel_rfl) ?_ _
              go_wp2
              go_ret
              exact ⟨by rw [HF.out]; rfl, HB1.out.trans (HW2.out.mono HB1.out.size)⟩
            | true =>
              have HFB := Lib.hid hfb; clear hfb
              refine wp_region_E (fun V => Below W1.heap.size W1 V) 16 rfl ?_
              have hS := (show Below W1.heap.size W1 W1.drew from (Below.refl _ W1).drew)
              refine wpE_take 0 ⟨some 17, _, _, _, _, _⟩ (v := ?_) [1, 2, 3, 4, 5, 6, 7, 8, 9, 10, 11, 12, 13, 14, 15, 16] rfl (by kernel_rfl) (by kernel_rfl) (by kernel_rfl) (by kernel_rfl) (fun _ _ _ h => h) hS (Or.inl ⟨by kernel_rfl, ?_⟩) ?_
              rotate_left
              · (intro V hSw; obtain ⟨hq, hq2⟩ := HS2.out V hSw; go_simp; try with_reducible rfl)
              try simp only [Act.put]
              refine wpE_one 1 (o := ⟨some 18, _, _, _, _, _⟩) (by kernel_rfl) rfl (fun K' hK' => ?_)
              rw [if_pos (by kernel_rfl)]
              refine call_wp 35 _ _ _ _ rfl Try.func35 (by kernel_rfl) rfl _ ?hv _ (HM.out _) ?_
              case hv => simp only [List.map_toArray, List.map_cons, List.map_nil]; go_simp
              rintro E V1 ⟨rfl, hb1⟩
              have HW1 := Lib.hid (hS.trans (hb1.mono hS.size))
              clear hb1
              refine ⟨_, rfl, ?_⟩
              refine hK'.out _ _ HW1.out (fun hS => ?_)
              clear hK' K'
              try simp only [Act.put]
              refine wpE_take 2 ⟨some 19, _, _, _, _, _⟩ (v := ?_) [3, 4, 5, 6, 7, 8, 9, 10, 11, 12, 13, 14, 15, 16] rfl (by kernel_rfl) (by kernel_rfl) (by kernel_rfl) (by kernel_rfl) (fun _ _ _ h => h) hS (Or.inl ⟨by kernel_rfl, ?_⟩) ?_
              rotate_left
              · (intro V hSw; obtain ⟨hq, hq2⟩ := HS2.out V hSw; go_simp; try with_reducible rfl)
              try simp only [Act.put]
              refine wpE_take 3 ⟨some 20, _, _, _, _, _⟩ (v := ?_) [4, 5, 6, 7, 8, 9, 10, 11, 12, 13, 14, 15, 16] rfl (by kernel_rfl) (by kernel_rfl) (by kernel_rfl) (by kernel_rfl) (fun _ _ _ h => h) hS (Or.inl ⟨by kernel_rfl, ?_⟩) ?_
              rotate_left
              · (intro V hSw; obtain ⟨hq, hq2⟩ := HS2.out V hSw; go_simp; try with_reducible rfl)
              try simp only [Act.put]
              refine wpE_take 4 ⟨some 21, _, _, _, _, _⟩ (v := ?_) [5, 6, 7, 8, 9, 10, 11, 12, 13, 14, 15, 16] rfl (by kernel_rfl) (by kernel_rfl) (by kernel_rfl) (by kernel_rfl) (fun _ _ _ h => h) hS (Or.inl ⟨by kernel_rfl, ?_⟩) ?_
              rotate_left
              · (intro V hSw; obtain ⟨hq, hq2⟩ := HS2.out V hSw; go_simp; try with_reducible rfl)
              try simp only [Act.put]
              refine wpE_take 5 ⟨some 22, _, _, _, _, _⟩ (v := ?_) [6, 7, 8, 9, 10, 11, 12, 13, 14, 15, 16] rfl (by kernel_rfl) (by kernel_rfl) (by kernel_rfl) (by kernel_rfl) (fun _ _ _ h => h) hS (Or.inl ⟨by kernel_rfl, ?_⟩) ?_
              rotate_left
              · (intro V hSw; obtain ⟨hq, hq2⟩ := HS2.out V hSw; go_simp; try with_reducible rfl)
              try simp only [Act.put]
              refine wpE_take 6 ⟨some 23, _, _, _, _, _⟩ (v := ?_) [7, 8, 9, 10, 11, 12, 13, 14, 15, 16] rfl (by kernel_rfl) (by kernel_rfl) (by kernel_rfl) (by kernel_rfl) (fun _ _ _ h => h) hS (Or.inl ⟨by kernel_rfl, ?_⟩) ?_
              rotate_left
              · (intro V hSw; obtain ⟨hq, hq2⟩ := HS2.out V hSw; go_simp; try with_reducible rfl)
              try simp only [Act.put]
              refine wpE_take 7 ⟨some 24, _, _, _, _, _⟩ (v := ?_) [10, 11, 13, 14, 15, 16] rfl (by kernel_rfl) (by kernel_rfl) (by kernel_rfl) (by kernel_rfl) (fun _ _ _ h => h) hS (Or.inl ⟨by kernel_rfl, ?_⟩) ?_
              rotate_left
              · (intro V hSw; obtain ⟨hq, hq2⟩ := HS2.out V hSw; go_simp; try with_reducible rfl)
              try simp only [Act.put]
              refine wpE_take 8 ⟨some 25, _, _, _, _, _⟩ (v := ?_) [9, 10, 11, 13, 14, 15, 16] rfl (by kernel_rfl) (by kernel_rfl) (by kernel_rfl) (by kernel_rfl) (fun _ _ _ h => h) hS (Or.inl ⟨by kernel_rfl, ?_⟩) ?_
              rotate_left
              · (intro V hSw; obtain ⟨hq, hq2⟩ := HS2.out V hSw; go_simp; try with_reducible rfl)
              try simp only [Act.put]
              refine wpE_take 9 ⟨some 26, _, _, _, _, _⟩ (v := ?_) [10, 11, 13, 14, 15, 16] rfl (by kernel_rfl) (by kernel_rfl) (by kernel_rfl) (by kernel_rfl) (fun _ _ _ h => h) hS (Or.inl ⟨by kernel_rfl, ?_⟩) ?_
              rotate_left
              · (intro V hSw; obtain ⟨hq, hq2⟩ := HS2.out V hSw; go_simp; try with_reducible rfl)
              try simp only [Act.put]
              refine wpE_take 10 ⟨some 27, _, _, _, _, _⟩ (v := ?_) [11, 13, 14, 15, 16] rfl (by kernel_rfl) (by kernel_rfl) (by kernel_rfl) (by kernel_rfl) (fun _ _ _ h => h) hS (Or.inl ⟨by kernel_rfl, ?_⟩) ?_
              rotate_left
              · (intro V hSw; obtain ⟨hq, hq2⟩ := HS2.out V hSw; go_simp; try with_reducible rfl)
              try simp only [Act.put]
              refine wpE_take 11 ⟨some 28, _, _, _, _, _⟩ (v := ?_) [13, 14, 15, 16] rfl (by kernel_rfl) (by kernel_rfl) (by kernel_rfl) (by kernel_rfl) (fun _ _ _ h => h) hS (Or.inl ⟨by kernel_rfl, ?_⟩) ?_
              rotate_left
              · (intro V hSw; obtain ⟨hq, hq2⟩ := HS2.out V hSw; go_simp; try with_reducible rfl)
              try simp only [Act.put]
              refine wpE_take 12 ⟨some 29, _, _, _, _, _⟩ (v := ?_) [13, 14, 15, 16] rfl (by kernel_rfl) (by kernel_rfl) (by kernel_rfl) (by kernel_rfl) (fun _ _ _ h => h) hS (Or.inl ⟨by kernel_rfl, ?_⟩) ?_
              rotate_left
              · (intro V hSw; obtain ⟨hq, hq2⟩ := HS2.out V hSw; go_simp; try with_reducible rfl)
              try simp only [Act.put]
              refine wpE_one 13 (o := ⟨some 30, _, _, _, _, _⟩) (by kernel_rfl) rfl (fun K' hK' => ?_)
              rw [if_pos (by kernel_rfl)]
              refine call_wp 60 _ _ _ _ rfl Try.func60 (by kernel_rfl) rfl _ ?hv _ (HFOL.out _) ?_
              case hv => simp only [List.map_toArray, List.map_cons, List.map_nil]; go_simp
              rintro E V2 ⟨rfl, hb2⟩
              have HW2 := Lib.hid (HW1.out.trans (hb2.mono HW1.out.size))
              clear hb2
              refine ⟨_, rfl, ?_⟩
              refine hK'.out _ _ HW2.out (fun hS => ?_)
              clear hK' K'
              try simp only [Act.put]
              refine wpE_take 14 ⟨some 31, _, _, _, _, _⟩ (v := ?_) [15, 16] rfl (by kernel_rfl) (by kernel_rfl) (by kernel_rfl) (by kernel_rfl) (fun _ _ _ h => h) hS (Or.inl ⟨by kernel_rfl, ?_⟩) ?_
              rotate_left
              · (intro V hSw; obtain ⟨hq, hq2⟩ := HS2.out V hSw; go_simp; try with_reducible rfl)
              try simp only [Act.put]
              refine wpE_take 15 ⟨some 32, _, _, _, _, _⟩ (v := ?_) [16] rfl (by kernel_rfl) (by kernel_rfl) (by kernel_rfl) (by kernel_rfl) (fun _ _ _ h => h) hS (Or.inl ⟨by kernel_rfl, ?_⟩) ?_
              rotate_left
              · (intro V hSw; obtain ⟨hq, hq2⟩ := HS2.out V hSw; go_simp; try with_reducible rfl)
              try simp only [Act.put]
              refine wpE_last (by kernel_rfl) rfl (fun K' hK' => ?_)
              go_simp
              refine hK'.out _ _ ?_
              clear hK' K'
              refine wpE_done (by kernel_rfl) ?_ _
              clear hd0 hkj hkp hwj
              clear HP HRF HJ HJL HS2 HFOL
              have hVB : Below w.heap.size w V2 := HB1.out.trans (HW2.out.mono HB1.out.size)
              have hs1 : (k : Int) ≤ (c : Int) := by omega
              have hcell : ∀ V, Below W1.heap.size W1 V → V.cell? ⟨wr.heap.size, 1, none⟩ = some (.int .i64 e.s) ∧ V.cell? ⟨wr.heap.size, 2, none⟩ = some (.int .i64 e.n) := fun V hV => by
                have hv : VarX V wr.heap.size e := HVAR.out.keep hV (by rw [HSZ.out]; omega)
                exact ⟨hv.cells.2.1, hv.cells.2.2.1⟩
              have hem := may_iff.1 HEM.out
              have HCELL := Lib.hid hcell; clear hcell
              have HVB := Lib.hid hVB; clear hVB
              obtain ⟨es, hes⟩ : ∃ es, es = e.s := ⟨_, rfl⟩
              obtain ⟨en, hen⟩ : ∃ en, en = e.n := ⟨_, rfl⟩
              have hb1 : 1 ≤ es ∧ 1 ≤ en ∧ es + en ≤ 1024 := by omega
              clear hem
              have HES := Lib.hid hes; clear hes
              have HEN := Lib.hid hen; clear hen
              go_wp2
              go_loopw [38] (fun i wr => ∃ j : Nat, j ≤ k ∧ i = .int .i64 (j : Int) ∧ (∀ q, (hq : q < l.length) → q < j → meet (l[q]).s (l[q]).n e.s e.n = false) ∧ Below W1.heap.size W1 wr) (fun i _ => k - (intOf i).toNat)
              case atStart => exact ⟨0, Nat.zero_le _, rfl, fun q _ h => absurd h (by omega), HW2.out⟩
              case round =>
                obtain ⟨j, hj, rfl, hno, hb2⟩ := hrel
                have HNO := Lib.hid hno; clear hno
                rcases Nat.lt_or_ge j k with hjk | hjk
                rotate_left
                · have hok : okB (l.take k) e = true := by
                    refine okB_yes HEM.out HFB.out (fun q hq => ?_)
                    rw [List.length_take] at hq
                    rw [List.getElem_take]
                    exact HNO.out q (by omega) (by omega)
                  have HOK2 := Lib.hid hok; clear hok
                  have HB2 := Lib.hid hb2; clear hb2
                  have hjk2 : ¬ (j : Int) < (k : Int) := by omega
                  go_wp2
                  go_roundw
                  case rel =>
                    refine ⟨k + 1, by omega, by go_num, fun q hq hlt => ?_, HB1.out.trans (HB2.out.mono HB1.out.size)⟩
                    rcases Nat.lt_or_ge q k with h' | h'
                    · exact HOK.out q hq h'
                    · have hqk : q = k := by omega
                      subst hqk
                      rw [← HE.out]
                      exact HOK2.out
                  case measure => simp [intOf]; omega
                · have hjl : j < l.length := by have := HKL.out; omega
                  obtain ⟨x, hx⟩ : ∃ x, x = l[j] := ⟨_, rfl⟩
                  have hxm : x.may = true := by
                    have := HOK.out j hjl hjk
                    unfold okB at this
                    rw [Bool.and_eq_true, Bool.and_eq_true] at this
                    rw [hx]; exact this.1.1
                  have hxm' := may_iff.1 hxm
                  have hbw2 := HB1.out.trans (hb2.mono HB1.out.size)
                  have hld := run_ldX_at (H.out.below (hbw2.mono hB)) j hjl (off + j * 4) rfl
                  rw [← hx] at hld
                  have hst := run_stX_new wr x
                  obtain ⟨W3, hW3⟩ : ∃ W3, W3 = wr.alloc (.cells x.c 24) := ⟨_, rfl⟩
                  have hv3 : VarX W3 wr.heap.size x := hW3 ▸ VarX.new wr x
                  have hb3 : Below W1.heap.size W1 W3 := hW3 ▸ hb2.alloc hb2.size _
                  rw [← hW3] at hst
                  obtain ⟨-, c1, c2, -⟩ := hv3.cells
                  obtain ⟨c3, c4⟩ := HCELL.out W3 hb3
                  rw [← HES.out] at c3
                  rw [← HEN.out] at c4
                  obtain ⟨xs, hxs⟩ : ∃ xs, xs = x.s := ⟨_, rfl⟩
                  obtain ⟨xn, hxn⟩ : ∃ xn, xn = x.n := ⟨_, rfl⟩
                  rw [← hxs] at c1
                  rw [← hxn] at c2
                  have hmeet := meet_any xs xn es en (by unfold i64; omega) (by unfold i64; omega) W3
                  have hj1 : (0 : Int) ≤ (j : Int) := by omega
                  have hj2 : (j : Int) < (k : Int) := by omega
                  have HX : Hid (meet (l[j]).s (l[j]).n e.s e.n = meet xs xn es en) := Lib.hid (by rw [hxs, hxn, hx, HES.out, HEN.out])
                  obtain ⟨D, hD⟩ : ∃ D, D = x.c := ⟨_, rfl⟩
                  rw [← hD] at hld hst
                  have HB3 := Lib.hid hb3; clear hb3 hb2 hbw2
                  clear hW3 hv3 hxm hxm' hD hx hxs hxn
                  generalize meet xs xn es en = mr at hmeet HX
                  have HMEET := Lib.hid hmeet; clear hmeet
                  go_wp2_with fail
                  with_reducible refine HMEET.out.mono ?_
                  rintro E W4 ⟨rfl, hw4⟩
                  have HB4 : Hid (Below W1.heap.size W1 W4) := Lib.hid (hw4 ▸ HB3.out)
                  clear hw4 c1 c2 c3 c4 hld hst HMEET
                  cases mr with
                  | true =>
                    have hok : okB (l.take k) e = false := okB_apart (j := j) (by rw [List.length_take]; omega) (by rw [List.getElem_take]; exact HX.out)
                    have hf : right l = false := right_noE hkl HE.out hok
                    have HF := Lib.hid hf; clear hf hok
                    go_wp2
                    go_ret
                    exact ⟨by rw [HF.out]; rfl, HB1.out.trans (HB4.out.mono HB1.out.size)⟩
                  | false =>
                    go_wp2
                    go_roundw
                    case rel =>
                      refine ⟨j + 1, by omega, by go_num, fun q hq hlt => ?_, HB4.out⟩
                      rcases Nat.lt_or_ge q j with h' | h'
                      · exact HNO.out q hq h'
                      · have hqj : q = j := by omega
                        subst hqj
                        exact HX.out
                    case measure => simp [intOf]; omega
end Go.Proofs.Ytkhenchhafmlmaa.Ex
