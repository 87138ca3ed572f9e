/- Add: the program's call. -/
import Derived.Test.YtbagocghlijleaaGreatHtSt
namespace Go.Proofs.YtbagocghlijleaaGreat.Ht
set_option maxRecDepth 20000
open Go.RowKit
open Go.Proofs.YtbagocghlijleaaGreat.Mem Go.Proofs.YtbagocghlijleaaGreat.Crc Go.Proofs.YtbagocghlijleaaGreat.Rec Go.Proofs.YtbagocghlijleaaGreat.Reg Go.Proofs.YtbagocghlijleaaGreat.Lf
attribute [local go_sem ↓] ldE_eq stE_eq ldX_eq stX_eq ldR_eq stR_eq ldQ_eq stQ_eq

/-- The closure that asks whether the sum at a place is another one than the one ahead of it. -/
theorem unlike_any (b g off n c : Nat) (l : List Nm) (B : Nat) (W : World) (hbox : W.cell? ⟨b, 0, none⟩ = some (.slice (some ⟨g, off, none⟩) n c)) (h : HoldsC EN W B (some ⟨g, off, none⟩) n l) (k : Nat) (hk1 : 1 ≤ k) (hk : k < n) (hn : n ≤ 1048576) :
    Calls Tryz.prog 95 #[.int .i64 (k : Int), .pointer (some ⟨b, 0, none⟩)] W fun e w' => e = .returned (.bool (parts l k)) ∧ Below W.heap.size W w' := by
  have hln := h.1
  have c1 := h.cell k (by omega) 0 (by decide)
  have c2 := h.cell (k - 1) (by omega) 0 (by decide)
  have hp : parts l k = !(decide (Crc.sum (l[k]).t = Crc.sum (l[k - 1]).t)) := by
    unfold parts
    rw [List.getD_eq_getElem?_getD, List.getD_eq_getElem?_getD, List.getElem?_eq_getElem (by omega), List.getElem?_eq_getElem (by omega)]
    simp
  obtain ⟨s1, hs1⟩ : ∃ s1, s1 = Crc.sum (l[k]).t := ⟨_, rfl⟩
  obtain ⟨s2, hs2⟩ : ∃ s2, s2 = Crc.sum (l[k - 1]).t := ⟨_, rfl⟩
  have d1 : W.cell? ⟨g, off + k * 3, none⟩ = some (.int .u32 (s1 : Int)) := by rw [hs1]; exact c1
  have d2 : W.cell? ⟨g, off + (k - 1) * 3, none⟩ = some (.int .u32 (s2 : Int)) := by rw [hs2]; exact c2
  rw [← hs1, ← hs2] at hp
  have hk' : (k : Int) < (n : Int) := by omega
  have hk2 : ((k : Int) - 1) < (n : Int) := by omega
  have hk0 : (0 : Int) ≤ (k : Int) - 1 := by omega
  have hw1 : IntKind.i64.wrap ((k : Int) - 1) = (k : Int) - 1 := by rw [IntKind.wrap_i64]; omega
  have hk3 : (1 : Int) ≤ (k : Int) := by omega
  have hkn : ((k : Int) - 1).toNat = k - 1 := by omega
  obtain ⟨P, hP⟩ : ∃ P, P = parts l k := ⟨_, rfl⟩
  rw [← hP] at hp ⊢
  have hbq : ((s1 : Int) != (s2 : Int)) = !decide (s1 = s2) := by rw [bne]; congr 1; rw [Bool.eq_iff_iff, beq_iff_eq, decide_eq_true_iff]; omega
  have HBQ := Lib.hid hbq
  have HP := Lib.hid hp
  clear hbq hp hP c1 c2 h hln hs1 hs2
  go_enter Tryz.func95, Tryz.ntmps95
  go_wp2_with fail
  refine wp_region_E (fun V => V.cell? ⟨b, 0, none⟩ = some (.slice (some ⟨g, off, none⟩) n c) ∧ V.cell? ⟨g, off + k * 3, none⟩ = some (.int .u32 (s1 : Int)) ∧ V.cell? ⟨g, off + (k - 1) * 3, none⟩ = some (.int .u32 (s2 : Int))) 99 rfl ?_
  have hS := (show W.drew.cell? ⟨b, 0, none⟩ = some (.slice (some ⟨g, off, none⟩) n c) ∧ W.drew.cell? ⟨g, off + k * 3, none⟩ = some (.int .u32 (s1 : Int)) ∧ W.drew.cell? ⟨g, off + (k - 1) * 3, none⟩ = some (.int .u32 (s2 : Int)) from ⟨hbox, d1, d2⟩)
  refine wpE_takeF 0 ⟨some 4, _, _, _, _, _⟩ (v := ?_) (by decide) rfl (by kernel_rfl) (by kernel_rfl) (by kernel_rfl) (fun _ _ _ h => h) hS (Or.inl ⟨by kernel_rfl, ?_⟩) ?_
  rotate_left
  · (intro V hSw; obtain ⟨a1, a2, a3⟩ := hSw; go_simp; try with_reducible rfl)
  try simp only [Act.put]
  refine wpE_takeF 1 ⟨some 5, _, _, _, _, _⟩ (v := ?_) (by decide) rfl (by kernel_rfl) (by kernel_rfl) (by kernel_rfl) (fun _ _ _ h => h) hS (Or.inl ⟨by kernel_rfl, ?_⟩) ?_
  rotate_left
  · (intro V hSw; obtain ⟨a1, a2, a3⟩ := hSw; go_simp; try with_reducible rfl)
  try simp only [Act.put]
  refine wpE_takeF 2 ⟨some 6, _, _, _, _, _⟩ (v := ?_) (by decide) rfl (by kernel_rfl) (by kernel_rfl) (by kernel_rfl) (fun _ _ _ h => h) hS (Or.inl ⟨by kernel_rfl, ?_⟩) ?_
  rotate_left
  · (intro V hSw; obtain ⟨a1, a2, a3⟩ := hSw; go_simp; try with_reducible rfl)
  try simp only [Act.put]
  refine wpE_takeF 3 ⟨some 7, _, _, _, _, _⟩ (v := ?_) (by decide) rfl (by kernel_rfl) (by kernel_rfl) (by kernel_rfl) (fun _ _ _ h => h) hS (Or.inl ⟨by kernel_rfl, ?_⟩) ?_
  rotate_left
  · (intro V hSw; obtain ⟨a1, a2, a3⟩ := hSw; go_simp; try with_reducible rfl)
  try simp only [Act.put]
  refine wpE_takeF 4 ⟨some 8, _, _, _, _, _⟩ (v := ?_) (by decide) rfl (by kernel_rfl) (by kernel_rfl) (by kernel_rfl) (fun _ _ _ h => h) hS (Or.inl ⟨by kernel_rfl, ?_⟩) ?_
  rotate_left
  · (intro V hSw; obtain ⟨a1, a2, a3⟩ := hSw; go_simp; try with_reducible rfl)
  try simp only [Act.put]
  refine wpE_takeF 5 ⟨some 9, _, _, _, _, _⟩ (v := ?_) (by decide) rfl (by kernel_rfl) (by kernel_rfl) (by kernel_rfl) (fun _ _ _ h => h) hS (Or.inl ⟨by kernel_rfl, ?_⟩) ?_
  rotate_left
  · (intro V hSw; obtain ⟨a1, a2, a3⟩ := hSw; go_simp; try with_reducible rfl)
  try simp only [Act.put]
  refine wpE_takeF 6 ⟨some 10, _, _, _, _, _⟩ (v := ?_) (by decide) rfl (by kernel_rfl) (by kernel_rfl) (by kernel_rfl) (fun _ _ _ h => h) hS (Or.inl ⟨by kernel_rfl, ?_⟩) ?_
  rotate_left
  · (intro V hSw; obtain ⟨a1, a2, a3⟩ := hSw; go_simp; try with_reducible rfl)
  try simp only [Act.put]
  refine wpE_takeF 7 ⟨some 11, _, _, _, _, _⟩ (v := ?_) (by decide) rfl (by kernel_rfl) (by kernel_rfl) (by kernel_rfl) (fun _ _ _ h => h) hS (Or.inl ⟨by kernel_rfl, ?_⟩) ?_
  rotate_left
  · (intro V hSw; obtain ⟨a1, a2, a3⟩ := hSw; go_simp; try with_reducible rfl)
  try simp only [Act.put]
  refine wpE_takeF 8 ⟨some 12, _, _, _, _, _⟩ (v := ?_) (by decide) rfl (by kernel_rfl) (by kernel_rfl) (by kernel_rfl) (fun _ _ _ h => h) hS (Or.inl ⟨by kernel_rfl, ?_⟩) ?_
  rotate_left
  · (intro V hSw; obtain ⟨a1, a2, a3⟩ := hSw; go_simp; try with_reducible rfl)
  try simp only [Act.put]
  refine wpE_takeF 9 ⟨some 13, _, _, _, _, _⟩ (v := ?_) (by decide) rfl (by kernel_rfl) (by kernel_rfl) (by kernel_rfl) (fun _ _ _ h => h) hS (Or.inl ⟨by kernel_rfl, ?_⟩) ?_
  rotate_left
  · (intro V hSw; obtain ⟨a1, a2, a3⟩ := hSw; go_simp; try with_reducible rfl)
  try simp only [Act.put]
  refine wpE_takeF 10 ⟨some 14, _, _, _, _, _⟩ (v := ?_) (by decide) rfl (by kernel_rfl) (by kernel_rfl) (by kernel_rfl) (fun _ _ _ h => h) hS (Or.inl ⟨by kernel_rfl, ?_⟩) ?_
  rotate_left
  · (intro V hSw; obtain ⟨a1, a2, a3⟩ := hSw; go_simp; try with_reducible rfl)
  try simp only [Act.put]
  refine wpE_takeF 11 ⟨some 15, _, _, _, _, _⟩ (v := ?_) (by decide) rfl (by kernel_rfl) (by kernel_rfl) (by kernel_rfl) (fun _ _ _ h => h) hS (Or.inl ⟨by kernel_rfl, ?_⟩) ?_
  rotate_left
  · (intro V hSw; obtain ⟨a1, a2, a3⟩ := hSw; go_simp; try with_reducible rfl)
  try simp only [Act.put]
  refine wpE_takeF 12 ⟨some 3, _, _, _, _, _⟩ (v := ?_) (by decide) rfl (by kernel_rfl) (by kernel_rfl) (by kernel_rfl) (fun _ _ _ h => h) hS (Or.inl ⟨by kernel_rfl, ?_⟩) ?_
  rotate_left
  · (intro V hSw; go_simp; try with_reducible rfl)
  try simp only [Act.put]
  refine wpE_done (by kernel_rfl) ?_ _
  try simp only [List.setIfInBounds_toArray, List.set_cons_succ, List.set_cons_zero]
  go_wp2
  go_ret
  exact ⟨by rw [HP.out, ← HBQ.out]; rfl, below_drew (Below.refl _ _)⟩

def pickO (a b : Option Nat) : Option Nat := match a with | some c => some c | none => b
def cutN (l : List Nm) : Nat := (cutL l).getD 0
set_option maxRecDepth 100000 in
set_option maxHeartbeats 8000000 in
theorem cut_any (A : Option Addr) (n c B : Nat) (l : List Nm) (W : World) (h : HoldsC EN W B A n l) (hB : B ≤ W.heap.size) (hn : n ≤ 1048576) :
    Calls Tryz.prog 73 #[.slice A n c] W fun e w' => e = .returned (.int .i64 (cutN l : Int)) ∧ Below W.heap.size W w' := by
  obtain ⟨post, hpost⟩ : ∃ post : Ending → World → Prop, post = fun e w' => e = .returned (.int .i64 (cutN l : Int)) ∧ Below W.heap.size W w' := ⟨_, rfl⟩
  rw [← hpost]
  have HP := Lib.hid hpost; clear hpost
  have hln : n = l.length := h.1.symm
  obtain ⟨W0, hW0⟩ : ∃ W0, W0 = W.alloc (.cells #[.slice A n c] 62) := ⟨_, rfl⟩
  have hb0 : Below W.heap.size W W0 := by rw [hW0]; exact (Below.refl _ W).alloc (Nat.le_refl _) _
  have hz0 : W0.heap.size = W.heap.size + 1 := by rw [hW0]; simp
  have hc0 : W0.cell? ⟨W.heap.size, 0, none⟩ = some (.slice A n c) := by rw [hW0]; exact cell_of_row _ _ 0 _ _ _ (heap_alloc_new W _)
  have hun : ∀ V, Below W0.heap.size W0 V → ∀ k : Nat, 1 ≤ k → k < n → Calls Tryz.prog 95 #[.int .i64 (k : Int), .pointer (some ⟨W.heap.size, 0, none⟩)] V fun e w' => e = .returned (.bool (parts l k)) ∧ Below V.heap.size V w' := fun V hV k h1 h2 => by
    obtain ⟨g, off, rfl, hgB⟩ := h.addr (by omega)
    exact unlike_any W.heap.size g off n c l B V ((hV.cell (p := ⟨W.heap.size, 0, none⟩) (by show W.heap.size < W0.heap.size; omega)).trans hc0) (h.below ((hb0.mono hB).trans (hV.mono (by omega)))) k h1 h2 hn
  obtain ⟨b, hb⟩ : ∃ b, b = W.heap.size := ⟨_, rfl⟩
  have hcv : ∀ V, Below W0.heap.size W0 V → V.cell? ⟨b, 0, none⟩ = some (.slice A n c) := fun V hV => by rw [hb]; exact (hV.cell (p := ⟨W.heap.size, 0, none⟩) (by show W.heap.size < W0.heap.size; omega)).trans hc0
  obtain ⟨m, hm⟩ : ∃ m, m = (n + 1) / 2 := ⟨_, rfl⟩
  have hm1 : m ≤ n := by omega
  have hdiv : ((n : Int) + 1) / 2 = (m : Int) := by omega
  have hcut : cutN l = (pickO (cutUp l (n - m) m) (cutDown l (m - 1))).getD 0 := by
    unfold cutN cutL pickO
    rw [← hln, ← hm]
    cases cutUp l (n - m) m <;> rfl
  have hbW : ∀ V, Below W0.heap.size W0 V → Below W.heap.size W V := fun V hV => hb0.trans (hV.mono hb0.size)
  have HBW := Lib.hid hbW
  have HCUT := Lib.hid hcut
  have HUN := Lib.hid hun
  have HB0 := Lib.hid hb0
  have HCV := Lib.hid hcv
  have HW0 := Lib.hid hW0
  have HMM := Lib.hid hm
  have HM1 := Lib.hid hm1
  have HN := Lib.hid hn
  have hw1 : IntKind.i64.wrap ((n : Int) + 1) = (n : Int) + 1 := by rw [IntKind.wrap_i64]; omega
  have hw2 : IntKind.i64.wrap ((m : Int) - 1) = (m : Int) - 1 := by rw [IntKind.wrap_i64]; omega
  have hbb : W.heap.size = b := hb.symm
  have hc1 := hcv W0 (Below.refl _ _)
  rw [hbb] at HUN
  rw [hW0] at hc1
  clear h hun hb0 hc0 hcv hW0 hln hm hz0 hb hcut hbW
  go_enter Tryz.func73, Tryz.ntmps73
  go_wp2_with fail
  rw [← HW0.out, hdiv]
  clear hdiv hc1
  go_loopw [5] (fun i wr => ∃ j : Nat, m ≤ j ∧ j ≤ n ∧ i = .int .i64 (j : Int) ∧ cutUp l (n - m) m = cutUp l (n - j) j ∧ Below W0.heap.size W0 wr) (fun i _ => n - (intOf i).toNat)
  case atStart => exact ⟨m, Nat.le_refl _, HM1.out, rfl, rfl, Below.refl _ _⟩
  case round =>
    obtain ⟨j, hj1, hj2, rfl, hcu, hbr⟩ := hrel
    have HBR := Lib.hid hbr
    have HCU := Lib.hid hcu
    clear hbr hcu
    have hcb := HCV.out wr HBR.out
    rcases Nat.lt_or_ge j n with hlt | hge
    · have hlt2 : (j : Int) < (n : Int) := by omega
      have hcall := HUN.out wr HBR.out j (by have := HMM.out; omega) hlt
      have HCALL := Lib.hid hcall; clear hcall
      have hw3 : IntKind.i64.wrap ((j : Int) + 1) = (j : Int) + 1 := by rw [IntKind.wrap_i64]; have := HN.out; omega
      go_wp2_with fail
      with_reducible refine HCALL.out.mono ?_
      rintro E V ⟨rfl, hbV⟩
      have hbV2 : Below W0.heap.size W0 V := HBR.out.trans (hbV.mono HBR.out.size)
      have HBV := Lib.hid hbV2
      clear hbV hbV2 HCALL
      have hunf : cutUp l (n - j) j = if parts l j = true then some j else cutUp l (n - (j + 1)) (j + 1) := by
        obtain ⟨q, hq⟩ : ∃ q, n - j = q + 1 := ⟨n - j - 1, by omega⟩
        rw [hq, show n - (j + 1) = q by omega]
        rfl
      cases hp : parts l j with
      | true =>
        rw [hp, if_pos rfl] at hunf
        have HU := Lib.hid hunf; clear hunf hp
        go_wp2_with fail
        rw [HP.out]
        refine ⟨?_, HBW.out _ HBV.out⟩
        rw [HCUT.out, HCU.out, HU.out]
        rfl
      | false =>
        rw [hp, if_neg (by decide)] at hunf
        have HU := Lib.hid hunf; clear hunf hp
        go_wp2_with fail
        go_roundw
        case rel => exact ⟨j + 1, by omega, by omega, by go_num, by rw [HCU.out, HU.out], HBV.out⟩
        case measure => simp [intOf]; omega
    · obtain rfl : j = n := by omega
      have hge2 : ¬ (j : Int) < (j : Int) := by omega
      have hcu0 : cutUp l (j - m) m = none := by rw [HCU.out, Nat.sub_self]; rfl
      have HCU0 := Lib.hid hcu0; clear hcu0 hge2
      go_wp2_with fail
      go_loopw [6] (fun i wr => ∃ k : Nat, k ≤ m ∧ i = .int .i64 ((k : Int) - 1) ∧ cutDown l (m - 1) = cutDown l (k - 1) ∧ Below W0.heap.size W0 wr) (fun i _ => (intOf i).toNat)
      case atStart => exact ⟨m, Nat.le_refl _, rfl, rfl, HBR.out⟩
      case round =>
        obtain ⟨k, hk1, rfl, hcd, hbr2⟩ := hrel
        have HBR2 := Lib.hid hbr2
        have HCD := Lib.hid hcd
        clear hbr2 hcd
        have HJ : Hid (m ≤ j) := Lib.hid hj1
        rcases Nat.lt_or_ge 1 k with hlt | hge
        · obtain ⟨q, rfl⟩ : ∃ q, k = q + 2 := ⟨k - 2, by omega⟩
          have hcq : (((q + 2 : Nat) : Int) - 1) = ((q + 1 : Nat) : Int) := by omega
          rw [hcq]
          clear hcq
          have hq0 : (0 : Int) < ((q + 1 : Nat) : Int) := by omega
          have hq1 : (0 : Int) < (q : Int) + 1 := by omega
          have hq2 : (0 : Int) ≤ (q : Int) := by omega
          have hcall := HUN.out wr HBR2.out (q + 1) (by omega) (by omega)
          have ecast : ((q + 1 : Nat) : Int) = (q : Int) + 1 := by omega
          rw [ecast] at hcall ⊢
          clear hq0 ecast
          have HCALL := Lib.hid hcall; clear hcall
          have hw4 : IntKind.i64.wrap ((q : Int) + 1 - 1) = (q : Int) := by rw [IntKind.wrap_i64]; have := HN.out; omega
          have hw5 : IntKind.i64.wrap (q : Int) = (q : Int) := by rw [IntKind.wrap_i64]; have := HN.out; omega
          go_wp2_with fail
          with_reducible refine HCALL.out.mono ?_
          rintro E V ⟨rfl, hbV⟩
          have hbV2 : Below W0.heap.size W0 V := HBR2.out.trans (hbV.mono HBR2.out.size)
          have HBV := Lib.hid hbV2
          clear hbV hbV2 HCALL
          have hunf : cutDown l (q + 2 - 1) = if parts l (q + 1) = true then some (q + 1) else cutDown l q := rfl
          cases hp : parts l (q + 1) with
          | true =>
            rw [hp, if_pos rfl] at hunf
            have HU := Lib.hid hunf; clear hunf hp
            go_wp2_with fail
            rw [HP.out]
            refine ⟨?_, HBW.out _ HBV.out⟩
            rw [HCUT.out, HCU0.out, HCD.out, HU.out]
            rfl
          | false =>
            rw [hp, if_neg (by decide)] at hunf
            have HU := Lib.hid hunf; clear hunf hp
            go_wp2_with fail
            go_roundw
            case rel => exact ⟨q + 1, by omega, by go_num, by rw [HCD.out, HU.out]; rfl, HBV.out⟩
            case measure => simp [intOf]
        · have hk0 : ¬ (0 : Int) < (k : Int) - 1 := by omega
          have hk9 : (k : Int) ≤ 1 := by omega
          have hc0 : cutDown l (k - 1) = none := by rw [show k - 1 = 0 by omega]; rfl
          have HC0 := Lib.hid hc0; clear hc0
          go_wp2_with fail
          rw [HP.out]
          refine ⟨?_, HBW.out _ HBR2.out⟩
          rw [HCUT.out, HCU0.out, HCD.out, HC0.out]
          rfl
end Go.Proofs.YtbagocghlijleaaGreat.Ht

namespace Go.Proofs.YtbagocghlijleaaGreat.Ht
set_option maxRecDepth 20000
open Go.RowKit
open Go.Proofs.YtbagocghlijleaaGreat.Mem Go.Proofs.YtbagocghlijleaaGreat.Crc Go.Proofs.YtbagocghlijleaaGreat.Rec Go.Proofs.YtbagocghlijleaaGreat.Reg Go.Proofs.YtbagocghlijleaaGreat.Lf
attribute [local go_sem ↓] ldE_eq stE_eq ldX_eq stX_eq ldR_eq stR_eq ldQ_eq stQ_eq

theorem OwnN.form {W : World} {base n c : Nat} {A : Option Addr} {N : List (List UInt8)} (h : OwnN W base (.slice A n c) N) (hn : 0 < n) : ∃ g, A = some ⟨g, 0, none⟩ ∧ base ≤ g ∧ g < W.heap.size := by
  obtain ⟨vs, h, _⟩ := h
  rcases h.2 with ⟨e, h0⟩ | ⟨g, cap, cur, e, h1, h2, h3, h4, _⟩
  · injection e; omega
  · injection e with e1 e2 e3
    exact ⟨g, e1, h1, (Array.getElem?_eq_some_iff.1 h2).1⟩
theorem OwnC.type {α : Type} {R : Rk α} {w : World} {base : Nat} {v : Value} {l : List α} (h : OwnC R w base v l) {k : Nat} (hk : v.ownBlock = some k) : ∃ cs z, w.heap[k]? = some (.cells cs R.T z) := by
  rcases h.2 with ⟨rfl, _⟩ | ⟨g, cap, cur, rfl, _, hh, _⟩
  · cases hk
  · injection hk with hk
    dsimp only at hk
    subst hk
    exact ⟨cur, _, hh⟩
theorem owned_T {w w' : World} {base : Nat} {v : Value} {bs : List UInt8} {i : Nat} {cs : Array Value} {z : Nat × Nat} (h : Owned w base v bs) (hg : w.grownBy w' (some i)) (hi : w.heap[i]? = some (.cells cs 64 z)) : Owned w' base v bs :=
  owned_keep h fun k hk => hg.block k (owned_lt h k hk).2 (fun e => by
    injection e with e
    subst e
    obtain ⟨cs', z', e2⟩ := owned_cells h hk
    rw [hi] at e2
    injection e2 with e2
    injection e2 with _ e2
    exact absurd e2 (by decide))
theorem ownN_T {w w' : World} {base : Nat} {v : Value} {N : List (List UInt8)} {i : Nat} {cs : Array Value} {z : Nat × Nat} (h : OwnN w base v N) (hg : w.grownBy w' (some i)) (hi : w.heap[i]? = some (.cells cs 64 z)) : OwnN w' base v N := by
  have h0 := h
  obtain ⟨vs, h1, h2, h3⟩ := h
  refine ⟨vs, ⟨h1.1, h1.2.imp id ?_⟩, h2, fun k hl => ?_⟩
  · rintro ⟨g, cap, cur, e, hb, hgg, hr⟩
    refine ⟨g, cap, cur, e, hb, (hg.block g (Array.getElem?_eq_some_iff.1 hgg).1 (fun e2 => ?_)).trans hgg, hr⟩
    injection e2 with e2
    subst e2
    rw [hi] at hgg
    injection hgg with hgg
    injection hgg with _ hgg
    exact absurd hgg (by decide)
  · obtain ⟨A', c', e, ho⟩ := h3 k hl
    exact ⟨A', c', e, owned_T ho hg hi⟩
def rvP (s b : Nat) : Rv := ⟨s, b, none, 0, 0⟩
/-- What split tells, of the directory, its rows and the two leaves. -/
def tailD (dd : List (List UInt8)) (rr : List Rv) (k b s nd : Nat) (f o : List UInt8) : List (List UInt8) :=
  ((dd.set b f).set 0 (indexL ((rr.take (k + 1) ++ rvP s nd :: rr.drop (k + 1)).map Rv.w))) ++ [o]
theorem rC_P (s b : Nat) : (RK.enc (rvP s b)).toArray = #[.int .u32 (s : Int), .int .i64 (b : Int), .slice none 0 0] := rfl

set_option maxRecDepth 100000 in
set_option maxHeartbeats 16000000 in
theorem split_any (A : Option Addr) (n c B : Nat) (d : List (List UInt8)) (T : Leaves) (hto : TreeOk d T) (base g m cc : Nat) (rr : List Rv) (k g3 n3 c3 : Nat) (l : List Nm) (W : World)
    (h : HoldsN W B A n d) (hBb : B ≤ base) (hbase : base ≤ W.heap.size) (hsz : ∀ b ∈ d, b.length ≤ 140737488355328)
    (hr : OwnC RK W base (.slice (some ⟨g, 0, none⟩) m cc) rr) (hw : rr.map Rv.w = T.map Prod.fst) (hk : k < m)
    (he : OwnC EN W base (.slice (some ⟨g3, 0, none⟩) n3 c3) l) (hg3 : g3 ≠ g) (h0 : 0 < n3) (hn3 : n3 ≤ 1048576) (hap : apart l) (hrep : ∀ x ∈ l, x.rep) :
    Calls Tryz.prog 47 #[.slice A n c, .slice (some ⟨g, 0, none⟩) m cc, .int .i64 (k : Int), .slice (some ⟨g3, 0, none⟩) n3 c3] W
      fun e W' => ∃ v, e = .returned (.tuple #[v, .int .i64 (splitD d T k l).2]) ∧ OwnN W' base v (splitD d T k l).1 ∧ Below base W W' := by
  obtain ⟨post, hpost⟩ : ∃ post : Ending → World → Prop, post = fun e W' => ∃ v, e = .returned (.tuple #[v, .int .i64 (splitD d T k l).2]) ∧ OwnN W' base v (splitD d T k l).1 ∧ Below base W W' := ⟨_, rfl⟩
  rw [← hpost]
  have HP := Lib.hid hpost; clear hpost
  have hnl : n3 = l.length := he.fits.1
  have hnc3 : n3 ≤ c3 := he.fits.2.1
  have hcut := cut_any (some ⟨g3, 0, none⟩) n3 c3 W.heap.size l W (he.reads EN_ok) (Nat.le_refl _) hn3
  have hclt : cutN l < n3 := by
    unfold cutN
    cases hc : cutL l with
    | none => exact h0
    | some c => have := (cutL_some hc).2.1; show c < n3; omega
  have hcn : (cutN l = 0 ∧ cutL l = none) ∨ (1 ≤ cutN l ∧ cutL l = some (cutN l)) := by
    unfold cutN
    cases hc : cutL l with
    | none => exact .inl ⟨rfl, rfl⟩
    | some c => exact .inr ⟨(cutL_some hc).1, rfl⟩
  obtain ⟨cu, hcu⟩ : ∃ cu, cu = cutN l := ⟨_, rfl⟩
  rw [← hcu] at hcut hclt hcn
  have hs1 : ∀ V, (Instr.slice 62 (.slice (some ⟨g3, 0, none⟩) n3 c3) none (some (.int .i64 (cu : Int))) none).run Tryz.prog V = .ok (.slice (some ⟨g3, 0, none⟩) cu c3) V := fun V => run_sl_to EN_ok V g3 0 n3 c3 cu (by omega) (by omega)
  have hs2 : ∀ V, (Instr.slice 62 (.slice (some ⟨g3, 0, none⟩) n3 c3) (some (.int .i64 (cu : Int))) none none).run Tryz.prog V = .ok (.slice (some ⟨g3, cu * 3, none⟩) (n3 - cu) (c3 - cu)) V := fun V => by
    have h := run_sl_from EN_ok V g3 0 n3 c3 cu (by omega) (by omega)
    rw [Nat.zero_add] at h; exact h
  have hap1 : apart (l.take cu) := List.Pairwise.sublist (List.take_sublist _ _) hap
  have hap2 : apart (l.drop cu) := List.Pairwise.sublist (List.drop_sublist _ _) hap
  have hm30 : m = T.length ∧ m ≤ 30 := by
    have h1 := congrArg List.length hw
    rw [List.length_map, List.length_map] at h1
    have := hr.fits.1
    have := hto.few
    exact ⟨by omega, by omega⟩
  have HTO := Lib.hid hto
  have HCUT := Lib.hid hcut
  have HH := Lib.hid h
  have HSZ := Lib.hid hsz
  have HR := Lib.hid hr
  have HW := Lib.hid hw
  have HE := Lib.hid he
  have HAP1 := Lib.hid hap1
  have HAP2 := Lib.hid hap2
  have HREP := Lib.hid hrep
  have HCN := Lib.hid hcn
  have HCU := Lib.hid hcu
  have HNL := Lib.hid hnl
  have HM := Lib.hid hm30
  have HBASE : Hid (B ≤ base ∧ base ≤ W.heap.size) := Lib.hid ⟨hBb, hbase⟩
  have HLT : Hid (cu < n3 ∧ n3 ≤ c3 ∧ n3 ≤ 1048576 ∧ k < m ∧ g3 ≠ g) := Lib.hid ⟨hclt, hnc3, hn3, hk, hg3⟩
  clear hcut h hsz hr hw he hap hap1 hap2 hrep hcn hcu hnl hto hBb hbase hclt hnc3 hn3 hk hg3 h0 hm30
  go_enter Tryz.func47, Tryz.ntmps47
  go_wp2_with fail
  with_reducible refine HCUT.out.mono ?_
  rintro E1 W1 ⟨rfl, hb1⟩
  clear HCUT
  have hl1 := leafOf_any (some ⟨g3, 0, none⟩) cu c3 W1.heap.size (l.take cu) W1 (((HE.out.below hb1).reads EN_ok).take (by have := HLT.out; omega)) (Nat.le_refl _) (fun x hx => HREP.out x (List.mem_of_mem_take hx)) (by have := HLT.out; omega) HAP1.out
  have HL1 := Lib.hid hl1
  have HB1 := Lib.hid hb1
  clear hl1 hb1
  go_wp2_with fail
  with_reducible refine HL1.out.mono ?_
  rintro E2 W2 ⟨Af, cf, rfl, hof, hb2⟩
  clear HL1
  have HB2 : Hid (Below W.heap.size W W2) := Lib.hid (HB1.out.trans (hb2.mono HB1.out.size))
  have hl2 := leafOf_any (some ⟨g3, cu * 3, none⟩) (n3 - cu) (c3 - cu) W2.heap.size (l.drop cu) W2 (by
    have h := ((HE.out.below HB2.out).reads EN_ok).sub (i := cu) (m := n3 - cu) (by have := HLT.out; omega)
    rw [Nat.zero_add, List.take_of_length_le (by rw [List.length_drop]; have := HNL.out; omega)] at h
    exact h) (Nat.le_refl _) (fun x hx => HREP.out x (List.mem_of_mem_drop hx)) (by have := HLT.out; omega) HAP2.out
  have HL2 := Lib.hid hl2
  obtain ⟨f, hf⟩ : ∃ f, f = (enc (sortR ordN (l.take cu))).1 := ⟨_, rfl⟩
  obtain ⟨fb, hfb⟩ : ∃ fb, fb = decide ((enc (sortR ordN (l.take cu))).2 = 0) := ⟨_, rfl⟩
  rw [← hf] at hof ⊢
  rw [← hfb]
  have HF := Lib.hid hf
  have HFB := Lib.hid hfb
  have HOF : Hid (Owned W2 base (.slice Af f.length cf) f) := Lib.hid (Owned.mono hof (by have := HB1.out.size; have := HBASE.out; omega))
  obtain ⟨nf, hnf⟩ : ∃ nf, nf = f.length := ⟨_, rfl⟩
  rw [← hnf] at HOF ⊢
  have HNF := Lib.hid hnf
  clear hl2 hb2 hof hf hfb hnf
  go_wp2_with fail
  with_reducible refine HL2.out.mono ?_
  rintro E3 W3 ⟨Ao, co, rfl, hoo, hb3⟩
  clear HL2
  have HB3 : Hid (Below W.heap.size W W3) := Lib.hid (HB2.out.trans (hb3.mono HB2.out.size))
  have HOF3 : Hid (Owned W3 base (.slice Af nf cf) f) := Lib.hid (owned_keep HOF.out fun i hi => hb3.block i (owned_lt HOF.out i hi).2)
  obtain ⟨o, ho⟩ : ∃ o, o = (enc (sortR ordN (l.drop cu))).1 := ⟨_, rfl⟩
  obtain ⟨ob, hob⟩ : ∃ ob, ob = decide ((enc (sortR ordN (l.drop cu))).2 = 0) := ⟨_, rfl⟩
  rw [← ho] at hoo ⊢
  rw [← hob]
  have HO := Lib.hid ho
  have HOB := Lib.hid hob
  have HOO : Hid (Owned W3 base (.slice Ao o.length co) o) := Lib.hid (Owned.mono hoo (by have := HB2.out.size; have := HBASE.out; omega))
  obtain ⟨no, hno⟩ : ∃ no, no = o.length := ⟨_, rfl⟩
  rw [← hno] at HOO ⊢
  have HNO := Lib.hid hno
  clear hb3 hoo ho hob hno HOF HB1
  have hsp : splitD d T k l = match cutL l with
    | none => ([], 9)
    | some c =>
      if 30 ≤ T.length then ([], 9) else
      if (enc (sortR ordN (l.take c))).2 = 0 ∧ (enc (sortR ordN (l.drop c))).2 = 0 then
        (if d.length = 1 then ([indexL [⟨0, 1⟩, ⟨Crc.sum (l.getD c n0).t, 2⟩], (enc (sortR ordN (l.take c))).1, (enc (sortR ordN (l.drop c))).1], 0)
        else (((d ++ [(enc (sortR ordN (l.drop c))).1]).set (T.getD k p0).1.b (enc (sortR ordN (l.take c))).1).set 0 (indexL ((T.map Prod.fst).take (k + 1) ++ (⟨Crc.sum (l.getD c n0).t, d.length⟩ :: (T.map Prod.fst).drop (k + 1)))), 0))
      else ([], 9) := rfl
  have HSP := Lib.hid hsp; clear hsp
  -- where it can't be split
  have hbad : (cu = 0 ∨ fb = false ∨ ob = false ∨ m = 30) → splitD d T k l = ([], 9) := fun hor => by
    rw [HSP.out]
    rcases HCN.out with ⟨_, hc⟩ | ⟨hc1, hc⟩
    · rw [hc]
    · rw [hc]
      dsimp only
      by_cases h30 : 30 ≤ T.length
      · rw [if_pos h30]
      · rw [if_neg h30]
        have := HM.out
        rcases hor with h | h | h | h
        · omega
        · rw [if_neg (fun hh => by rw [HFB.out] at h; exact absurd hh.1 (of_decide_eq_false h))]
        · rw [if_neg (fun hh => by rw [HOB.out] at h; exact absurd hh.2 (of_decide_eq_false h))]
        · omega
  have HBAD := Lib.hid hbad; clear hbad
  have hbasew : Below base W W3 := HB3.out.mono HBASE.out.2
  have HBW3 := Lib.hid hbasew; clear hbasew
  by_cases hc0 : cu = 0
  · have HBD := Lib.hid (HBAD.out (.inl hc0))
    subst hc0
    go_wp2_with fail
    rw [HP.out, HBD.out]
    exact ⟨_, rfl, OwnN.nil _ _, HBW3.out⟩
  have hcz : ¬ ((cu : Int) = 0) := by omega
  cases fb with
  | false =>
    have HBD := Lib.hid (HBAD.out (.inr (.inl rfl)))
    go_wp2_with fail
    rw [HP.out, HBD.out]
    exact ⟨_, rfl, OwnN.nil _ _, HBW3.out⟩
  | true =>
  cases ob with
  | false =>
    have HBD := Lib.hid (HBAD.out (.inr (.inr (.inl rfl))))
    go_wp2_with fail
    rw [HP.out, HBD.out]
    exact ⟨_, rfl, OwnN.nil _ _, HBW3.out⟩
  | true =>
  by_cases hm30 : m = 30
  · have HBD := Lib.hid (HBAD.out (.inr (.inr (.inr hm30))))
    subst hm30
    go_wp2_with fail
    rw [HP.out, HBD.out]
    exact ⟨_, rfl, OwnN.nil _ _, HBW3.out⟩
  have hmz : ¬ ((m : Int) = 30) := by omega
  have hbz : ((cu : Int) == 0) = false := beq_eq_false_iff_ne.2 hcz
  have hbm : ((m : Int) == 30) = false := beq_eq_false_iff_ne.2 hmz
  have hsum : (l.getD cu n0).t = (l[cu]'(by have := HLT.out; have := HNL.out; omega)).t := by rw [List.getD_eq_getElem?_getD, List.getElem?_eq_getElem (by have := HLT.out; have := HNL.out; omega)]; rfl
  obtain ⟨S, hS⟩ : ∃ S, S = Crc.sum (l.getD cu n0).t := ⟨_, rfl⟩
  have hS32 : S < 4294967296 := by rw [hS]; exact sum_lt _
  have hsp2 : splitD d T k l = (if d.length = 1 then ([indexL [⟨0, 1⟩, ⟨S, 2⟩], f, o], 0)
        else (((d ++ [o]).set (T.getD k p0).1.b f).set 0 (indexL ((T.map Prod.fst).take (k + 1) ++ (⟨S, d.length⟩ :: (T.map Prod.fst).drop (k + 1)))), 0)) := by
    rw [HSP.out]
    rcases HCN.out with ⟨h1, _⟩ | ⟨_, hc⟩
    · exact absurd h1 hc0
    · rw [hc]
      dsimp only
      rw [if_neg (by have := HM.out; omega), if_pos ⟨of_decide_eq_true HFB.out.symm, of_decide_eq_true HOB.out.symm⟩, ← HF.out, ← HO.out, ← hS]
  have HSP2 := Lib.hid hsp2
  have hec : (W3.cell? ⟨g3, cu * 3, none⟩) = some (.int .u32 (S : Int)) := by
    have h := ((HE.out.below HB3.out).reads EN_ok).cell cu (by have := HLT.out; have := HNL.out; omega) 0 (by decide)
    rw [Nat.zero_add] at h
    rw [hS, hsum]
    exact h
  have HEC := Lib.hid hec
  clear hsp2 hec hsum hS HSP HBAD HFB HOB
  have HR3 : Hid (OwnC RK W3 base (.slice (some ⟨g, 0, none⟩) m cc) rr) := Lib.hid (HR.out.below HB3.out)
  have HE3 : Hid (OwnC EN W3 base (.slice (some ⟨g3, 0, none⟩) n3 c3) l) := Lib.hid (HE.out.below HB3.out)
  have hdn : d.length = n := HH.out.1
  by_cases hn1 : n = 1
  · have hsp3 := HSP2.out
    rw [if_pos (by omega)] at hsp3
    have HSP3 := Lib.hid hsp3; clear hsp3 HSP2
    have hone : T.map Prod.fst = [⟨0, 0⟩] := by
      rcases HTO.out.rows with ⟨_, h⟩ | ⟨h1, _, _⟩
      · exact h
      · omega
    have hTl : T.length = 1 := by have := congrArg List.length hone; simpa using this
    have hm1 : m = 1 := by have := HM.out; omega
    have hk0 : k = 0 := by have := HLT.out; omega
    have hrl : rr.length = 1 := by have := congrArg List.length HW.out; rw [List.length_map, List.length_map] at this; omega
    obtain ⟨r0, hr0⟩ : ∃ r0, rr = [r0] := by
      match rr, hrl with
      | [r0], _ => exact ⟨r0, rfl⟩
    have hr0w : r0.w = ⟨0, 0⟩ := by
      have h1 := HW.out
      rw [hr0, hone] at h1
      simpa using h1
    obtain ⟨gd, offd, rfl, hgd, hcell⟩ := HH.out.2 (by omega)
    obtain ⟨A0, c0, hq, hh0, hle0, hcm0⟩ := hcell 0 (by omega)
    obtain ⟨d0, hd0⟩ : ∃ d0, d0 = d[0]'(by omega) := ⟨_, rfl⟩
    rw [← hd0] at hq hh0 hle0
    obtain ⟨L0, hL0⟩ : ∃ L0, L0 = d0.length := ⟨_, rfl⟩
    rw [← hL0] at hq hh0 hle0
    have hd0s : d0.length ≤ 140737488355328 := by rw [hd0]; exact HSZ.out _ (List.getElem_mem _)
    have hq3 : W3.cell? ⟨gd, offd, none⟩ = some (.slice A0 L0 c0) := (HB3.out.cell (p := ⟨gd, offd, none⟩) (by show gd < W.heap.size; have := HBASE.out; omega)).trans hq
    obtain ⟨Va, hVa⟩ : ∃ Va, Va = W3.alloc (.cells #[.slice none 0 0, .slice A0 L0 c0] 34) := ⟨_, rfl⟩
    have hba : Below W3.heap.size W3 Va := by rw [hVa]; exact (Below.refl _ W3).alloc (Nat.le_refl _) _
    have hnewa : Va.heap[W3.heap.size]? = some (.cells #[.slice none 0 0, .slice A0 L0 c0] 34 (0, 0)) := by rw [hVa]; exact heap_alloc_new W3 _
    have hra : OwnC RK Va base (.slice (some ⟨g, 0, none⟩) m cc) rr := HR3.out.below hba
    have hgw : g < W3.heap.size := (HR3.out.lt g rfl).2
    have hg3w : g3 < W3.heap.size := (HE3.out.lt g3 rfl).2
    have hgb : base ≤ g := (HR3.out.lt g rfl).1
    have hbW3 : base ≤ W3.heap.size := by have := HBASE.out; have := HB3.out.size; omega
    obtain ⟨hrv, hgv, hsome, hfrz⟩ := put_cell RK_ok hra 0 1 (by omega) (by decide) ⟨r0.s, 1, r0.A, r0.n, r0.c⟩ (.int .i64 1) (by subst hr0; rfl)
    have e01 : 0 * RK.k + 1 = 1 := rfl
    rw [e01] at hrv hgv hsome hfrz
    obtain ⟨x1, hx1⟩ := Option.isSome_iff_exists.1 hsome
    obtain ⟨V0, hV0⟩ : ∃ V0, V0 = Va.setCell ⟨g, 1, none⟩ (.int .i64 1) := ⟨_, rfl⟩
    rw [← hV0] at hrv hgv
    obtain ⟨csg, zg, hgt⟩ := hra.type (k := g) rfl
    have hbV : Below base W V0 := ((HB3.out.mono (show base ≤ W.heap.size from HBASE.out.2)).trans (hba.mono hbW3)).grown hgv (Nat.le_trans hbW3 hba.size) (fun i hi => by have e : g = i := Option.some.inj hi; omega)
    have HOFV : Hid (Owned V0 base (.slice Af nf cf) f) := Lib.hid (owned_T (owned_keep HOF3.out fun i hi => hba.block i (owned_lt HOF3.out i hi).2) hgv hgt)
    have HOOV : Hid (Owned V0 base (.slice Ao no co) o) := Lib.hid (owned_T (owned_keep HOO.out fun i hi => hba.block i (owned_lt HOO.out i hi).2) hgv hgt)
    have hw3a : W3.heap.size < Va.heap.size := (Array.getElem?_eq_some_iff.1 hnewa).1
    have hecv : V0.cell? ⟨g3, cu * 3, none⟩ = some (.int .u32 (S : Int)) := (World.cell?_of_block (w := Va) (w' := V0) (a := ⟨g3, cu * 3, none⟩) (hgv.block g3 (by omega) (fun e => HLT.out.2.2.2.2 (Option.some.inj e)))).trans ((hba.cell (p := ⟨g3, cu * 3, none⟩) hg3w).trans HEC.out)
    have hnew0 : V0.heap[W3.heap.size]? = some (.cells #[.slice none 0 0, .slice A0 L0 c0] 34 (0, 0)) := (hgv.block _ hw3a (fun e => by have := Option.some.inj e; omega)).trans hnewa
    have hV0s : W3.heap.size < V0.heap.size := Nat.lt_of_lt_of_le hw3a hgv.size
    obtain ⟨D2, hD2⟩ : ∃ D2, D2 = [[], d0] := ⟨_, rfl⟩
    have hN : HoldsN V0 V0.heap.size (some ⟨W3.heap.size, 0, none⟩) 2 D2 := ⟨by rw [hD2]; rfl, fun _ => ⟨W3.heap.size, 0, rfl, hV0s, fun j hj => by
      subst hD2
      match j, hj with
      | 0, _ => exact ⟨none, 0, cell_of_row _ _ 0 _ _ _ hnew0, ⟨rfl, fun h => absurd h (Nat.lt_irrefl 0)⟩, Nat.le_refl _, by unfold maxLen; omega⟩
      | 1, _ =>
        refine ⟨A0, c0, ?_, ?_, ?_, hcm0⟩
        · show V0.cell? ⟨W3.heap.size, 0 + 1, none⟩ = some (.slice A0 d0.length c0)
          rw [← hL0]
          exact cell_of_row _ _ 1 _ _ _ hnew0
        · show Holds V0 V0.heap.size A0 d0.length d0
          rw [← hL0]
          exact (hh0.below (hbV.mono HBASE.out.1)).more (by have := HBASE.out; omega)
        · show d0.length ≤ c0
          rw [← hL0]; exact hle0⟩⟩
    obtain ⟨r2, hr2⟩ : ∃ r2, r2 = rr.set 0 ⟨r0.s, 1, r0.A, r0.n, r0.c⟩ := ⟨_, rfl⟩
    rw [← hr2] at hrv
    have hr2' : r2 = [⟨r0.s, 1, r0.A, r0.n, r0.c⟩] := by rw [hr2, hr0]; rfl
    have hr0s : r0.s = 0 := congrArg Rw.s hr0w
    have hcb0 : V0.cell? ⟨g, k * 3 + 1, none⟩ = some (.int .i64 1) := by
      have h := (hrv.reads RK_ok).cell 0 (by rw [hr2']; exact Nat.zero_lt_one) 1 (by decide)
      rw [Nat.zero_add, Nat.zero_mul, Nat.zero_add] at h
      rw [hk0, Nat.zero_mul, Nat.zero_add, h]
      subst hr2'
      rfl
    obtain ⟨bk, hbk⟩ : ∃ bk : Nat, bk = 1 := ⟨_, rfl⟩
    have hcb : V0.cell? ⟨g, k * 3 + 1, none⟩ = some (.int .i64 (bk : Int)) := by rw [hcb0, hbk]; rfl
    have HRS : Hid (∀ x ∈ r2, x.s < 4294967296 ∧ x.b < 4294967296) := Lib.hid (fun x hx => by
      rw [hr2'] at hx
      rw [List.mem_singleton.1 hx]
      exact ⟨by show r0.s < _; omega, by show (1 : Nat) < _; omega⟩)
    have HND : Hid (0 < 2 ∧ 2 ≤ 31) := Lib.hid ⟨by omega, by omega⟩
    have HDL : Hid (D2.length = 2) := Lib.hid (by rw [hD2]; rfl)
    have HBASE2 : Hid (base ≤ V0.heap.size) := Lib.hid (by omega)
    have htd := turned_any (some ⟨W3.heap.size, 0, none⟩) 2 2 V0.heap.size D2 V0 hN (Nat.le_refl _) (by omega) (fun b hb => by
      rw [hD2] at hb
      rcases List.mem_cons.1 hb with rfl | hb
      · show 0 ≤ _; omega
      · rw [List.mem_singleton.1 hb]; exact hd0s) bk (by omega) base HBASE2.out Af nf cf f HNF.out.symm HOFV.out
    have HBV : Hid (Below base W V0) := Lib.hid hbV
    have HRV : Hid (OwnC RK V0 base (.slice (some ⟨g, 0, none⟩) m cc) r2) := Lib.hid hrv
    have HECV := Lib.hid hecv
    have HG3V : Hid (g3 < V0.heap.size) := Lib.hid (by omega)
    have hkm : (k : Int) < (m : Int) := by have := HLT.out; omega
    have hkm2 : k < m := by have := HLT.out; omega
    have hmm : (0 : Int) < (m : Int) := by omega
    have hmm2 : 0 < m := by omega
    have hcu3 : (cu : Int) < (n3 : Int) := by have := HLT.out; omega
    have hcu4 : cu < n3 := by have := HLT.out; omega
    have hn0 : 0 < n := by omega
    have hn0' : (0 : Int) < (n : Int) := by omega
    have hbn : ((n : Int) == 1) = true := by rw [beq_iff_eq]; omega
    have hni : (n : Int) = 1 := by omega
    have hkw : IntKind.i64.wrap ((k : Int) + 1) = (k : Int) + 1 := by rw [IntKind.wrap_i64]; have := HM.out; omega
    have HBK1 := Lib.hid hbk
    have HK0 := Lib.hid hk0
    have HR2' := Lib.hid hr2'
    have HR0S := Lib.hid hr0s
    have HD2 := Lib.hid hD2
    have HV0 : Hid (V0 = (W3.alloc (.cells #[.slice none 0 0, .slice A0 L0 c0] 34)).setCell ⟨g, 1, none⟩ (.int .i64 1)) := Lib.hid (by rw [hV0, hVa])
    rw [HV0.out] at hcb
    rw [hVa] at hx1 hfrz
    clear hcb0 hn1 hk0 hm1 hbk hr2' hr2 hr0 hr0s hr0w hrl hone hTl hcell hh0 hle0 hcm0 hd0 hL0 hd0s hba hnewa hra hgw hg3w hgb hbW3 hrv hgv hsome hV0 hVa hgt hbV hw3a hecv hnew0 hV0s hN hq hgd hD2 hdn e01
    have HTD := Lib.hid htd
    clear htd
    go_wp2_with fail
    rw [← HV0.out]
    with_reducible refine HTD.out.mono ?_
    rintro E4 W4 ⟨v4, rfl, ho4, hb4⟩
    clear HTD hcb
    obtain ⟨A4, c4, rfl⟩ := ho4.shape
    rw [List.length_set, HDL.out] at ho4 ⊢
    obtain ⟨g4, rfl, hg4b, hg4w⟩ := ho4.form (by have := HND.out; omega)
    have HB4 : Hid (Below base W W4) := Lib.hid (HBV.out.trans (hb4.mono HBASE2.out))
    have HR4 : Hid (OwnC RK W4 base (.slice (some ⟨g, 0, none⟩) m cc) r2) := Lib.hid (HRV.out.below hb4)
    have HOO4 : Hid (Owned W4 base (.slice Ao no co) o) := Lib.hid (owned_keep HOOV.out fun i hi => hb4.block i (owned_lt HOOV.out i hi).2)
    have hec4 : W4.cell? ⟨g3, cu * 3, none⟩ = some (.int .u32 (S : Int)) := (hb4.cell (p := ⟨g3, cu * 3, none⟩) HG3V.out).trans HECV.out
    have HO4 := Lib.hid ho4
    have HBW4 : Hid (base ≤ W4.heap.size) := Lib.hid (Nat.le_trans HBASE2.out hb4.size)
    clear ho4 hb4
    obtain ⟨W5, hW5⟩ : ∃ W5, W5 = W4.alloc (.cells #[.int .u32 (S : Int), .int .i64 (2 : Int), .slice none 0 0] 64) := ⟨_, rfl⟩
    have hb5 : Below W4.heap.size W4 W5 := by rw [hW5]; exact (Below.refl _ W4).alloc (Nat.le_refl _) _
    have HO5 : Hid (OwnN W5 base (.slice (some ⟨g4, 0, none⟩) 2 c4) (D2.set bk f)) := Lib.hid (HO4.out.below hb5)
    have HR5 : Hid (OwnC RK W5 base (.slice (some ⟨g, 0, none⟩) m cc) r2) := Lib.hid (HR4.out.below hb5)
    have HOO5 : Hid (Owned W5 base (.slice Ao no co) o) := Lib.hid (owned_keep HOO4.out fun i hi => hb5.block i (owned_lt HOO4.out i hi).2)
    have HB5 : Hid (Below base W W5) := Lib.hid (HB4.out.trans (hb5.mono HBW4.out))
    have HBW5 : Hid (base ≤ W5.heap.size) := Lib.hid (Nat.le_trans HBW4.out hb5.size)
    have hgw4 : g < W4.heap.size := (HR4.out.lt g rfl).2
    have hins := insR_any W5 base HBW5.out (some ⟨g, 0, none⟩) m cc r2 HR5.out (k + 1) (by have := HLT.out; omega) (rvP S 2) W4.heap.size (by rw [hW5]; exact heap_alloc_new W4 _) (fun i hi => by have e : g = i := Option.some.inj hi; omega) (by have := HM.out; omega)
    rw [show ((k + 1 : Nat) : Int) = (k : Int) + 1 by omega] at hins
    obtain ⟨L6, hL6⟩ : ∃ L6, L6 = r2.take (k + 1) ++ rvP S 2 :: r2.drop (k + 1) := ⟨_, rfl⟩
    rw [← hL6] at hins
    have HINS := Lib.hid hins
    have HW5 := Lib.hid hW5
    have HL6 := Lib.hid hL6
    clear hins hW5 hb5 hgw4 hL6
    go_wp2_with fail
    rw [← HW5.out]
    with_reducible refine HINS.out.mono ?_
    rintro E6 W6 ⟨v6, rfl, ho6, hg6⟩
    clear HINS hec4
    obtain ⟨csg, zg, hgt⟩ := HR5.out.type (k := g) rfl
    have HO6 : Hid (OwnN W6 base (.slice (some ⟨g4, 0, none⟩) 2 c4) (D2.set bk f)) := Lib.hid (ownN_T HO5.out hg6.1 hgt)
    have HOO6 : Hid (Owned W6 base (.slice Ao no co) o) := Lib.hid (owned_T HOO5.out hg6.1 hgt)
    have HB6 : Hid (Below base W W6) := Lib.hid (HB5.out.grown hg6.1 HBW5.out (fun i hi => by have e : g = i := Option.some.inj hi; have := (HR5.out.lt g rfl).1; omega))
    have HBW6 : Hid (base ≤ W6.heap.size) := Lib.hid (Nat.le_trans HBW5.out hg6.1.size)
    obtain ⟨A6, c6, rfl⟩ := ho6.shape
    have hL6l : L6.length = m + 1 := by
      have h1 := (HR5.out.fits).1
      rw [HL6.out, List.length_append, List.length_cons, List.length_take, List.length_drop]
      have := HLT.out
      omega
    rw [hL6l] at ho6 ⊢
    have hix := indexOf_any A6 (m + 1) c6 W6.heap.size L6 W6 (ho6.reads RK_ok) (Nat.le_refl _) (by have := HM.out; omega) (fun x hx => by
      rw [HL6.out] at hx
      rcases List.mem_append.1 hx with hx | hx
      · exact HRS.out x (List.mem_of_mem_take hx)
      · rcases List.mem_cons.1 hx with rfl | hx
        · exact ⟨hS32, by show 2 < 4294967296; have := HND.out; omega⟩
        · exact HRS.out x (List.mem_of_mem_drop hx))
    have HIX := Lib.hid hix
    clear hix ho6 hg6 hgt hL6l
    go_wp2_with fail
    with_reducible refine HIX.out.mono ?_
    rintro E7 W7 ⟨A7, c7, rfl, ho7, hb7⟩
    clear HIX
    have HO7 : Hid (OwnN W7 base (.slice (some ⟨g4, 0, none⟩) 2 c4) (D2.set bk f)) := Lib.hid (HO6.out.below hb7)
    have HOO7 : Hid (Owned W7 base (.slice Ao no co) o) := Lib.hid (owned_keep HOO6.out fun i hi => hb7.block i (owned_lt HOO6.out i hi).2)
    have HB7 : Hid (Below base W W7) := Lib.hid (HB6.out.trans (hb7.mono HBW6.out))
    have HBW7 : Hid (base ≤ W7.heap.size) := Lib.hid (Nat.le_trans HBW6.out hb7.size)
    obtain ⟨ix, hix⟩ : ∃ ix, ix = indexL (L6.map Rv.w) := ⟨_, rfl⟩
    rw [← hix] at ho7 ⊢
    obtain ⟨hfin, hgfin, hsome, hfrz⟩ := putN HO7.out 0 (by rw [List.length_set, HDL.out]; have := HND.out; omega) A7 c7 ix.length ix rfl (Owned.mono ho7 HBW6.out)
    obtain ⟨x0, hx0⟩ := Option.isSome_iff_exists.1 hsome
    obtain ⟨nx, hnx⟩ : ∃ nx, nx = ix.length := ⟨_, rfl⟩
    rw [← hnx] at hfin hgfin ⊢
    obtain ⟨W8, hW8⟩ : ∃ W8, W8 = W7.setCell ⟨g4, 0, none⟩ (.slice A7 nx c7) := ⟨_, rfl⟩
    rw [← hW8] at hfin hgfin
    have hoo8 : Owned W8 base (.slice Ao no co) o := owned_keep HOO7.out fun i hi => hgfin.block i (owned_lt HOO7.out i hi).2 (fun e => by
      have e' : g4 = i := (Option.some.inj e).symm
      obtain ⟨cs, z, e1⟩ := ownN_cells HO7.out (k := i) (congrArg some e')
      obtain ⟨cs', z', e2⟩ := owned_cells HOO7.out hi
      rw [e1] at e2
      injection e2 with e2
      injection e2 with _ e2
      exact absurd e2 (by decide))
    have hb8 : Below base W W8 := HB7.out.grown hgfin HBW7.out (fun i hi => by injection hi with hi; omega)
    have hbw8 : base ≤ W8.heap.size := Nat.le_trans HBW7.out hgfin.size
    obtain ⟨DF, hDF⟩ : ∃ DF, DF = (D2.set bk f).set 0 ix := ⟨_, rfl⟩
    rw [← hDF] at hfin
    have hDFl : DF.length = 2 := by rw [hDF, List.length_set, List.length_set, HDL.out]
    obtain ⟨v10, W10, hrun, ho10, hg10⟩ := run_appN W8 base _ DF hfin Ao co o (by rw [← HNO.out]; exact hoo8) 24 (by have := HND.out; omega) hbw8
    rw [← HNO.out] at hrun
    have hsz8 : W8.heap.size = W7.heap.size := by rw [hW8]; simp [World.setCell]
    rw [hsz8] at hrun
    clear hsz8
    have HB10 : Hid (Below base W W10) := Lib.hid (hb8.grown hg10.1 hbw8 (fun i hi => by have e : g4 = i := Option.some.inj hi; omega))
    have HO10 := Lib.hid ho10
    have HDF := Lib.hid hDF
    have HIXX := Lib.hid hix
    rw [hW8] at hrun
    clear hfin hgfin hsome hoo8 hb8 hbw8 hDF hDFl ho10 hg10 hix hnx ho7 hb7 hW8
    go_wp2_with (at_builtin; refine Lib.wpList_append_run _ rfl _ _ _ _ rfl _ _ rfl rfl _ _ hrun ?_)
    rw [HP.out]
    refine ⟨v10, ?_, ?_, HB10.out⟩
    · rw [HSP3.out]; rfl
    · rw [HSP3.out]
      have h := HO10.out
      rw [HDF.out, HIXX.out, HL6.out] at h
      have hb := HBK1.out
      have hk := HK0.out
      have hs := HR0S.out
      rw [HD2.out, HR2'.out, hb, hk, hs] at h
      exact h
  · have hn1' : ¬ ((n : Int) = 1) := by omega
    have hbn : ((n : Int) == 1) = false := beq_eq_false_iff_ne.2 hn1'
    have hsp3 := HSP2.out
    rw [if_neg (by omega)] at hsp3
    have HSP3 := Lib.hid hsp3; clear hsp3 HSP2
    obtain ⟨bk, hbk⟩ : ∃ bk, bk = (rr[k]'(by have := HLT.out; have := HR3.out.fits.1; omega)).b := ⟨_, rfl⟩
    have hkl : k < rr.length := by have := HLT.out; have := HR3.out.fits.1; omega
    have hTk : (T.getD k p0).1.b = bk := by
      have hkT : k < T.length := by have := HM.out; have := HLT.out; omega
      have h1 : (rr.map Rv.w)[k]'(by rw [List.length_map]; exact hkl) = (T.map Prod.fst)[k]'(by rw [List.length_map]; exact hkT) := by simp only [HW.out]
      rw [List.getElem_map, List.getElem_map] at h1
      rw [List.getD_eq_getElem?_getD, List.getElem?_eq_getElem hkT, hbk]
      exact (congrArg Rw.b h1).symm
    have hrok : rowsOk (d.length - 1) (T.map Prod.fst) = true ∧ 2 ≤ d.length := by
      rcases HTO.out.rows with ⟨h, _⟩ | ⟨h1, h2, _⟩
      · omega
      · exact ⟨h2, h1⟩
    have hrows := rowsOk_iff.1 hrok.1
    have hrs : ∀ x ∈ rr, x.s < 4294967296 ∧ x.b < 4294967296 ∧ 1 ≤ x.b ∧ x.b < n := fun x hx => by
      have hx2 : x.w ∈ T.map Prod.fst := by rw [← HW.out]; exact List.mem_map_of_mem hx
      have h1 := hrows.2.1 _ hx2
      have h2 := hrows.1.2.2
      have h3 : x.w.b = x.b := rfl
      have h4 : x.w.s = x.s := rfl
      omega
    have hbkn : 1 ≤ bk ∧ bk < n := by rw [hbk]; exact (hrs _ (List.getElem_mem hkl)).2.2
    have HRS : Hid (∀ x ∈ rr, x.s < 4294967296 ∧ x.b < 4294967296) := Lib.hid (fun x hx => ⟨(hrs x hx).1, (hrs x hx).2.1⟩)
    have HND : Hid (0 < n ∧ n ≤ 31) := Lib.hid (by have := hrows.1; omega)
    have HDL : Hid (d.length = n) := Lib.hid hdn
    have hcb : W3.cell? ⟨g, k * 3 + 1, none⟩ = some (.int .i64 (bk : Int)) := by
      have h := (HR3.out.reads RK_ok).cell k hkl 1 (by decide)
      rw [Nat.zero_add] at h
      rw [hbk]
      exact h
    have hN3 : HoldsN W3 B A n d := HH.out.below (HB3.out.mono (by have := HBASE.out; omega))
    have HBASE2 : Hid (base ≤ W3.heap.size) := Lib.hid (by have := HBASE.out; have := HB3.out.size; omega)
    have htd := turned_any A n c B d W3 hN3 (by have := HBASE.out; have := HB3.out.size; omega) (by have := HND.out; omega) HSZ.out bk hbkn.2 base HBASE2.out Af nf cf f HNF.out.symm HOF3.out
    have HBV : Hid (Below base W W3) := HBW3
    have HRV : Hid (OwnC RK W3 base (.slice (some ⟨g, 0, none⟩) m cc) rr) := HR3
    have HOOV : Hid (Owned W3 base (.slice Ao no co) o) := HOO
    have HECV : Hid (W3.cell? ⟨g3, cu * 3, none⟩ = some (.int .u32 (S : Int))) := HEC
    have HG3V : Hid (g3 < W3.heap.size) := Lib.hid (HE3.out.lt g3 rfl).2
    have hkm : (k : Int) < (m : Int) := by have := HLT.out; omega
    have hkm2 : k < m := by have := HLT.out; omega
    have hcu3 : (cu : Int) < (n3 : Int) := by have := HLT.out; omega
    have hcu4 : cu < n3 := by have := HLT.out; omega
    have hn0 : 0 < n := by have := HND.out; omega
    have hn0' : (0 : Int) < (n : Int) := by omega
    have hkw : IntKind.i64.wrap ((k : Int) + 1) = (k : Int) + 1 := by rw [IntKind.wrap_i64]; have := HM.out; omega
    have HTK := Lib.hid hTk
    have HBKN := Lib.hid hbkn
    have HDN := Lib.hid hdn
    clear hbk hkl hTk hrok hrows hrs hbkn hN3 hdn
    have HTD := Lib.hid htd
    clear htd
    go_wp2_with fail
    with_reducible refine HTD.out.mono ?_
    rintro E4 W4 ⟨v4, rfl, ho4, hb4⟩
    clear HTD hcb
    obtain ⟨A4, c4, rfl⟩ := ho4.shape
    rw [List.length_set, HDL.out] at ho4 ⊢
    obtain ⟨g4, rfl, hg4b, hg4w⟩ := ho4.form (by have := HND.out; omega)
    have HB4 : Hid (Below base W W4) := Lib.hid (HBV.out.trans (hb4.mono HBASE2.out))
    have HR4 : Hid (OwnC RK W4 base (.slice (some ⟨g, 0, none⟩) m cc) rr) := Lib.hid (HRV.out.below hb4)
    have HOO4 : Hid (Owned W4 base (.slice Ao no co) o) := Lib.hid (owned_keep HOOV.out fun i hi => hb4.block i (owned_lt HOOV.out i hi).2)
    have hec4 : W4.cell? ⟨g3, cu * 3, none⟩ = some (.int .u32 (S : Int)) := (hb4.cell (p := ⟨g3, cu * 3, none⟩) HG3V.out).trans HECV.out
    have HO4 := Lib.hid ho4
    have HBW4 : Hid (base ≤ W4.heap.size) := Lib.hid (Nat.le_trans HBASE2.out hb4.size)
    clear ho4 hb4
    obtain ⟨W5, hW5⟩ : ∃ W5, W5 = W4.alloc (.cells #[.int .u32 (S : Int), .int .i64 (n : Int), .slice none 0 0] 64) := ⟨_, rfl⟩
    have hb5 : Below W4.heap.size W4 W5 := by rw [hW5]; exact (Below.refl _ W4).alloc (Nat.le_refl _) _
    have HO5 : Hid (OwnN W5 base (.slice (some ⟨g4, 0, none⟩) n c4) (d.set bk f)) := Lib.hid (HO4.out.below hb5)
    have HR5 : Hid (OwnC RK W5 base (.slice (some ⟨g, 0, none⟩) m cc) rr) := Lib.hid (HR4.out.below hb5)
    have HOO5 : Hid (Owned W5 base (.slice Ao no co) o) := Lib.hid (owned_keep HOO4.out fun i hi => hb5.block i (owned_lt HOO4.out i hi).2)
    have HB5 : Hid (Below base W W5) := Lib.hid (HB4.out.trans (hb5.mono HBW4.out))
    have HBW5 : Hid (base ≤ W5.heap.size) := Lib.hid (Nat.le_trans HBW4.out hb5.size)
    have hgw4 : g < W4.heap.size := (HR4.out.lt g rfl).2
    have hins := insR_any W5 base HBW5.out (some ⟨g, 0, none⟩) m cc rr HR5.out (k + 1) (by have := HLT.out; omega) (rvP S n) W4.heap.size (by rw [hW5]; exact heap_alloc_new W4 _) (fun i hi => by have e : g = i := Option.some.inj hi; omega) (by have := HM.out; omega)
    rw [show ((k + 1 : Nat) : Int) = (k : Int) + 1 by omega] at hins
    obtain ⟨L6, hL6⟩ : ∃ L6, L6 = rr.take (k + 1) ++ rvP S n :: rr.drop (k + 1) := ⟨_, rfl⟩
    rw [← hL6] at hins
    have HINS := Lib.hid hins
    have HW5 := Lib.hid hW5
    have HL6 := Lib.hid hL6
    clear hins hW5 hb5 hgw4 hL6
    go_wp2_with fail
    rw [← HW5.out]
    with_reducible refine HINS.out.mono ?_
    rintro E6 W6 ⟨v6, rfl, ho6, hg6⟩
    clear HINS hec4
    obtain ⟨csg, zg, hgt⟩ := HR5.out.type (k := g) rfl
    have HO6 : Hid (OwnN W6 base (.slice (some ⟨g4, 0, none⟩) n c4) (d.set bk f)) := Lib.hid (ownN_T HO5.out hg6.1 hgt)
    have HOO6 : Hid (Owned W6 base (.slice Ao no co) o) := Lib.hid (owned_T HOO5.out hg6.1 hgt)
    have HB6 : Hid (Below base W W6) := Lib.hid (HB5.out.grown hg6.1 HBW5.out (fun i hi => by have e : g = i := Option.some.inj hi; have := (HR5.out.lt g rfl).1; omega))
    have HBW6 : Hid (base ≤ W6.heap.size) := Lib.hid (Nat.le_trans HBW5.out hg6.1.size)
    obtain ⟨A6, c6, rfl⟩ := ho6.shape
    have hL6l : L6.length = m + 1 := by
      have h1 := (HR5.out.fits).1
      rw [HL6.out, List.length_append, List.length_cons, List.length_take, List.length_drop]
      have := HLT.out
      omega
    rw [hL6l] at ho6 ⊢
    have hix := indexOf_any A6 (m + 1) c6 W6.heap.size L6 W6 (ho6.reads RK_ok) (Nat.le_refl _) (by have := HM.out; omega) (fun x hx => by
      rw [HL6.out] at hx
      rcases List.mem_append.1 hx with hx | hx
      · exact HRS.out x (List.mem_of_mem_take hx)
      · rcases List.mem_cons.1 hx with rfl | hx
        · exact ⟨hS32, by show n < 4294967296; have := HND.out; omega⟩
        · exact HRS.out x (List.mem_of_mem_drop hx))
    have HIX := Lib.hid hix
    clear hix ho6 hg6 hgt hL6l
    go_wp2_with fail
    with_reducible refine HIX.out.mono ?_
    rintro E7 W7 ⟨A7, c7, rfl, ho7, hb7⟩
    clear HIX
    have HO7 : Hid (OwnN W7 base (.slice (some ⟨g4, 0, none⟩) n c4) (d.set bk f)) := Lib.hid (HO6.out.below hb7)
    have HOO7 : Hid (Owned W7 base (.slice Ao no co) o) := Lib.hid (owned_keep HOO6.out fun i hi => hb7.block i (owned_lt HOO6.out i hi).2)
    have HB7 : Hid (Below base W W7) := Lib.hid (HB6.out.trans (hb7.mono HBW6.out))
    have HBW7 : Hid (base ≤ W7.heap.size) := Lib.hid (Nat.le_trans HBW6.out hb7.size)
    obtain ⟨ix, hix⟩ : ∃ ix, ix = indexL (L6.map Rv.w) := ⟨_, rfl⟩
    rw [← hix] at ho7 ⊢
    obtain ⟨hfin, hgfin, hsome, hfrz⟩ := putN HO7.out 0 (by rw [List.length_set, HDL.out]; have := HND.out; omega) A7 c7 ix.length ix rfl (Owned.mono ho7 HBW6.out)
    obtain ⟨x0, hx0⟩ := Option.isSome_iff_exists.1 hsome
    obtain ⟨nx, hnx⟩ : ∃ nx, nx = ix.length := ⟨_, rfl⟩
    rw [← hnx] at hfin hgfin ⊢
    obtain ⟨W8, hW8⟩ : ∃ W8, W8 = W7.setCell ⟨g4, 0, none⟩ (.slice A7 nx c7) := ⟨_, rfl⟩
    rw [← hW8] at hfin hgfin
    have hoo8 : Owned W8 base (.slice Ao no co) o := owned_keep HOO7.out fun i hi => hgfin.block i (owned_lt HOO7.out i hi).2 (fun e => by
      have e' : g4 = i := (Option.some.inj e).symm
      obtain ⟨cs, z, e1⟩ := ownN_cells HO7.out (k := i) (congrArg some e')
      obtain ⟨cs', z', e2⟩ := owned_cells HOO7.out hi
      rw [e1] at e2
      injection e2 with e2
      injection e2 with _ e2
      exact absurd e2 (by decide))
    have hb8 : Below base W W8 := HB7.out.grown hgfin HBW7.out (fun i hi => by injection hi with hi; omega)
    have hbw8 : base ≤ W8.heap.size := Nat.le_trans HBW7.out hgfin.size
    obtain ⟨DF, hDF⟩ : ∃ DF, DF = (d.set bk f).set 0 ix := ⟨_, rfl⟩
    rw [← hDF] at hfin
    have hDFl : DF.length = n := by rw [hDF, List.length_set, List.length_set, HDL.out]
    obtain ⟨v10, W10, hrun, ho10, hg10⟩ := run_appN W8 base _ DF hfin Ao co o (by rw [← HNO.out]; exact hoo8) 24 (by have := HND.out; omega) hbw8
    rw [← HNO.out] at hrun
    have hsz8 : W8.heap.size = W7.heap.size := by rw [hW8]; simp [World.setCell]
    rw [hsz8] at hrun
    clear hsz8
    have HB10 : Hid (Below base W W10) := Lib.hid (hb8.grown hg10.1 hbw8 (fun i hi => by have e : g4 = i := Option.some.inj hi; omega))
    have HO10 := Lib.hid ho10
    have HDF := Lib.hid hDF
    have HIXX := Lib.hid hix
    rw [hW8] at hrun
    clear hfin hgfin hsome hoo8 hb8 hbw8 hDF hDFl ho10 hg10 hix hnx ho7 hb7 hW8
    go_wp2_with (at_builtin; refine Lib.wpList_append_run _ rfl _ _ _ _ rfl _ _ rfl rfl _ _ hrun ?_)
    rw [HP.out]
    refine ⟨v10, ?_, ?_, HB10.out⟩
    · rw [HSP3.out]; rfl
    · rw [HSP3.out]
      have h := HO10.out
      rw [HDF.out, HIXX.out, HL6.out] at h
      rw [show (((d ++ [o]).set (T.getD k p0).1.b f).set 0 (indexL ((T.map Prod.fst).take (k + 1) ++ (⟨S, d.length⟩ :: (T.map Prod.fst).drop (k + 1))))) = ((d.set bk f).set 0 (indexL ((rr.take (k + 1) ++ rvP S n :: rr.drop (k + 1)).map Rv.w))) ++ [o] from by
        have hb := HBKN.out
        have hd := HDN.out
        rw [HTK.out, List.set_append_left _ _ (by omega), List.set_append_left _ _ (by rw [List.length_set]; omega), List.map_append, List.map_cons, List.map_take, List.map_drop, HW.out, hd]
        rfl]
      exact h
end Go.Proofs.YtbagocghlijleaaGreat.Ht

namespace Go.Proofs.YtbagocghlijleaaGreat.Ht
set_option maxRecDepth 20000
open Go.RowKit
open Go.Proofs.YtbagocghlijleaaGreat.Mem Go.Proofs.YtbagocghlijleaaGreat.Crc Go.Proofs.YtbagocghlijleaaGreat.Rec Go.Proofs.YtbagocghlijleaaGreat.Reg Go.Proofs.YtbagocghlijleaaGreat.Lf
attribute [local go_sem ↓] ldE_eq stE_eq ldX_eq stX_eq ldR_eq stR_eq ldQ_eq stQ_eq

set_option maxRecDepth 100000 in
set_option maxHeartbeats 16000000 in
theorem Add_any (A : Option Addr) (n c B : Nat) (d : List (List UInt8)) (e : Nm) (he : e.rep) (w : World) (h : HoldsN w B A n d) (hB : B ≤ w.heap.size) (hn : n ≤ 5864062014634) (hsz : ∀ b ∈ d, b.length ≤ 140737488355328) :
    Calls Tryz.prog 26 #[.slice A n c, .agg e.c] w (Tree2 w (addD d e)) := by
  obtain ⟨post, hpost⟩ : ∃ post : Ending → World → Prop, post = Tree2 w (addD d e) := ⟨_, rfl⟩
  rw [← hpost]
  have HP := Lib.hid hpost; clear hpost
  obtain ⟨W0, hW0⟩ : ∃ W0, W0 = w.alloc (.cells e.c 48) := ⟨_, rfl⟩
  have hvx : VarX W0 w.heap.size e := by rw [hW0]; exact VarX.new w e
  have hz0 : W0.heap.size = w.heap.size + 1 := by rw [hW0]; simp
  have hb0 : Below w.heap.size w W0 := by rw [hW0]; exact (Below.refl _ w).alloc (Nat.le_refl _) _
  have hth := find_any A n c B d e he W0 (h.below (hb0.mono hB)) (by omega) hn hsz
  have hlx := hvx.load
  have hfd : addD d e = match readD d with
    | none => ([], 13)
    | some T => if okN e = false then ([], 1) else if placeA (leafAt T e.t).2 e.t < (leafAt T e.t).2.length then ([], 4) else
      match withL d (leafAt T e.t).1.b ((leafAt T e.t).2 ++ [e]) with
      | some c => (c, 0)
      | none => splitD d T (atL (T.map Prod.fst) (Crc.sum e.t) T.length) (sortR ordB ((leafAt T e.t).2 ++ [e])) := rfl
  obtain ⟨X, hX⟩ : ∃ X, X = e.c := ⟨_, rfl⟩
  rw [← hX] at hW0 hlx hth ⊢
  have HTH := Lib.hid hth
  have HH := Lib.hid h
  have HSZ := Lib.hid hsz
  have HX := Lib.hid hX
  have HVX := Lib.hid hvx
  have HZ0 := Lib.hid hz0
  have HB0 := Lib.hid hb0
  have HW0 := Lib.hid hW0
  rw [hW0] at hlx
  clear hW0 hth h hsz hX hvx hz0 hb0
  go_enter Tryz.func26, Tryz.ntmps26
  go_wp2_with fail
  rw [← HW0.out]
  with_reducible refine HTH.out.mono ?_
  rintro E w1 hres
  unfold Find2 at hres
  clear HTH hlx
  have hbox : ∀ cs : Array Value, cs.size = 4 → (∀ u ∈ cs, u.oneCell' = true) → Below W0.heap.size W0 w1 → ∃ w2, (stQ (.pointer (some ⟨w1.heap.size, 0, none⟩)) (.agg cs)).run Tryz.prog (w1.alloc (.cells #[.slice none 0 0, .int .i64 0, .int .i64 0, .bool false] 88)) = .ok () w2 ∧ VarQ w2 w1.heap.size cs ∧ Below w1.heap.size w1 w2 ∧ w1.heap.size < w2.heap.size := fun cs hs h1 hb => by
    obtain ⟨w2, k1, k2, k3⟩ := run_stQ_row (w1.alloc (.cells zeroQ 88)) w1.heap.size zeroQ cs rfl hs h1 (heap_alloc_new w1 _)
    refine ⟨w2, k1, k2, ((Below.refl _ w1).alloc (Nat.le_refl _) _).grown k3 (by simp) (fun i hi => by injection hi with hi; omega), ?_⟩
    have := k3.size
    simp at this; omega
  have HBOX := Lib.hid hbox; clear hbox
  have hbw1 : Below W0.heap.size W0 w1 → Below w.heap.size w w1 := fun hb => HB0.out.trans (hb.mono HB0.out.size)
  have HBW1 := Lib.hid hbw1; clear hbw1
  have hzq : zeroQ = #[.slice none 0 0, .int .i64 0, .int .i64 0, .bool false] := rfl
  cases hrd : readD d with
  | none =>
    rw [hrd] at hres hfd
    obtain ⟨rfl, hb⟩ := hres
    dsimp only at hfd
    obtain ⟨w2, hst, -, hb2, -⟩ := HBOX.out zeroQ rfl zeroQ_one hb
    have HF := Lib.hid hfd; clear hfd hrd
    have HB2 : Hid (Below w.heap.size w w2) := Lib.hid ((HBW1.out hb).trans (hb2.mono (HBW1.out hb).size))
    rw [hzq] at hst ⊢
    clear hb hb2 hzq
    go_wp2
    rw [HP.out, HF.out]
    exact ⟨_, rfl, OwnN.nil _ _, HB2.out⟩
  | some T =>
    have HTO := Lib.hid ((readD_iff d T).1 hrd)
    rw [hrd] at hres hfd
    clear hrd
    dsimp only at hres hfd
    by_cases hok : okN e = false
    · rw [if_pos hok] at hres hfd
      obtain ⟨rfl, hb⟩ := hres
      obtain ⟨w2, hst, -, hb2, -⟩ := HBOX.out zeroQ rfl zeroQ_one hb
      have HF := Lib.hid hfd; clear hfd hok
      have HB2 : Hid (Below w.heap.size w w2) := Lib.hid ((HBW1.out hb).trans (hb2.mono (HBW1.out hb).size))
      rw [hzq] at hst ⊢
      clear hb hb2 hzq
      go_wp2
      rw [HP.out, HF.out]
      exact ⟨_, rfl, OwnN.nil _ _, HB2.out⟩
    · rw [if_neg hok] at hres hfd
      clear hzq
      obtain ⟨g, c1, l, rfl, hra, hb1⟩ := hres
      rw [here_found HTO.out e]
      obtain ⟨w2, hst, hq2, hb2, hsz2⟩ := HBOX.out (qC ⟨g, T.length, c1, atK T e.t, posB (entsAt T e.t) e, hereB T e.t⟩) rfl (qC_one _) hb1
      have hz := HZ0.out
      have hs1 := hb1.size
      have hb1w := HBW1.out hb1
      have hb2w : Below w.heap.size w w2 := hb1w.trans (hb2.mono hb1w.size)
      have hra2 : RowsAt w2 W0.heap.size g T.length c1 (T.map Prod.fst) (T.map fun p => sortR ordB p.2) T.length l := hra.below hb2
      have hx2 : VarX w2 w.heap.size e := (hb2.block _ (by omega)).trans ((hb1.block _ (by omega)).trans HVX.out)
      obtain ⟨gp, hgp⟩ : ∃ gp, gp = w1.heap.size := ⟨_, rfl⟩
      rw [← hgp] at hq2 hsz2
      have c0 : w2.cell? ⟨gp, 0, none⟩ = some (.slice (some ⟨g, 0, none⟩) T.length c1) := cell_of_row w2 gp 0 _ _ _ hq2
      have c1' : w2.cell? ⟨gp, 1, none⟩ = some (.int .i64 (atK T e.t : Int)) := cell_of_row w2 gp 1 _ _ _ hq2
      have c3' : w2.cell? ⟨gp, 3, none⟩ = some (.bool (hereB T e.t)) := cell_of_row w2 gp 3 _ _ _ hq2
      have hqc : ∀ V : World, V.heap[gp]? = w2.heap[gp]? → V.cell? ⟨gp, 0, none⟩ = some (.slice (some ⟨g, 0, none⟩) T.length c1) ∧ V.cell? ⟨gp, 1, none⟩ = some (.int .i64 (atK T e.t : Int)) ∧ V.cell? ⟨gp, 2, none⟩ = some (.int .i64 (posB (entsAt T e.t) e : Int)) := fun V hV =>
        ⟨cell_of_row V gp 0 _ _ _ (hV.trans hq2), cell_of_row V gp 1 _ _ _ (hV.trans hq2), cell_of_row V gp 2 _ _ _ (hV.trans hq2)⟩
      have HGP := Lib.hid hgp
      obtain ⟨Q, hQ⟩ : ∃ Q, Q = qC ⟨g, T.length, c1, atK T e.t, posB (entsAt T e.t) e, hereB T e.t⟩ := ⟨_, rfl⟩
      rw [← hQ] at hst ⊢
      rw [hgp] at c0 c1' c3'
      have HB2W := Lib.hid hb2w
      cases hhb : hereB T e.t with
      | true =>
        have hpl : placeA (leafAt T e.t).2 e.t < (leafAt T e.t).2.length := by unfold hereB at hhb; exact of_decide_eq_true hhb
        rw [if_pos hpl] at hfd
        rw [hhb] at c3'
        have HF := Lib.hid hfd
        clear hfd hok hra hra2 hx2 hq2 hqc hQ hb1 hb2 hb1w hb2w hhb hpl hgp hs1 hz hsz2
        go_wp2
        rw [HP.out, HF.out]
        exact ⟨_, rfl, OwnN.nil _ _, HB2W.out⟩
      | false =>
        have hpl : ¬ placeA (leafAt T e.t).2 e.t < (leafAt T e.t).2.length := by unfold hereB at hhb; exact of_decide_eq_false hhb
        rw [if_neg hpl] at hfd
        rw [hhb] at c3'
        obtain ⟨s1, s2⟩ := add_same HTO.out e hhb
        have hll := hra2.len
        rw [List.length_map] at hll
        have hKm : atK T e.t < T.length := atL_most _ _ _ (by
          rcases Nat.eq_zero_or_pos T.length with h0 | h0
          · exfalso
            have := HTO.out.leaf_mem e.t
            rw [List.eq_nil_of_length_eq_zero h0] at this
            cases this
          · exact h0)
        have hlr : atK T e.t < l.length := by omega
        have hEl : atK T e.t < (T.map fun p => sortR ordB p.2).length := by rw [List.length_map]; exact hKm
        obtain ⟨hen, heng⟩ := hra2.ents _ hlr hEl
        have hTk : leafAt T e.t = T[atK T e.t] := by
          unfold leafAt
          rw [List.getD_eq_getElem?_getD]
          show (T[atK T e.t]?).getD p0 = _
          rw [List.getElem?_eq_getElem hKm]; rfl
        have hEr : (T.map fun p => sortR ordB p.2)[atK T e.t]'hEl = entsAt T e.t := by
          rw [List.getElem_map]
          unfold entsAt
          rw [hTk]
        rw [hEr] at hen
        have hyw : (l[atK T e.t]).w = (leafAt T e.t).1 := by
          rw [hTk]
          have h1 : (l.map Rv.w)[atK T e.t]'(by simpa using hlr) = (T.map Prod.fst)[atK T e.t]'(by simpa using hKm) := by simp only [hra2.rows]
          simpa using h1
        have hld : (ldR (.pointer (some ⟨g, atK T e.t * 3, none⟩))).run Tryz.prog w2 = .ok (.agg (rC (l[atK T e.t]))) w2 := by
          have := run_ldR_at (hra2.own.reads RK_ok) (atK T e.t) hlr (0 + atK T e.t * 3) rfl
          rwa [Nat.zero_add] at this
        obtain ⟨y, hy⟩ : ∃ y, y = l[atK T e.t] := ⟨_, rfl⟩
        rw [← hy] at hen heng hyw hld
        have hyb : y.b = (leafAt T e.t).1.b := congrArg Rw.b hyw
        have hlow := leaf_low HTO.out e.t
        rw [← hyb] at hfd hlow
        obtain ⟨hrep, h41⟩ := ents_rep HTO.out e.t
        have hst2 := run_stR_new w2 y
        unfold zeroR at hst2
        obtain ⟨W3, hW3⟩ : ∃ W3, W3 = w2.alloc (.cells (rC y) 64) := ⟨_, rfl⟩
        have hvr : VarR W3 w2.heap.size y := by rw [hW3]; exact VarR.new w2 y
        have hbW3 : Below w2.heap.size w2 W3 := by rw [hW3]; exact (Below.refl _ w2).alloc (Nat.le_refl _) _
        rw [← hW3] at hst2
        obtain ⟨es, hes⟩ : ∃ es, es = entsAt T e.t := ⟨_, rfl⟩
        obtain ⟨pp, hpp⟩ : ∃ pp, pp = posB (entsAt T e.t) e := ⟨_, rfl⟩
        have hple : posB (entsAt T e.t) e ≤ (entsAt T e.t).length := by unfold posB; exact List.Sublist.length_le (List.takeWhile_sublist _)
        rw [← hpp] at s1 hqc hple
        rw [← hes] at s1 hen hrep h41 hple
        obtain ⟨A5, c5, hyv⟩ := hen.shape
        rw [hyv] at hen heng
        obtain ⟨KK, hKK⟩ : ∃ KK, KK = atK T e.t := ⟨_, rfl⟩
        obtain ⟨tl, htl⟩ : ∃ tl, tl = T.length := ⟨_, rfl⟩
        have hKa : atL (T.map Prod.fst) (Crc.sum e.t) T.length = KK := by rw [hKK]; rfl
        rw [hKa] at hfd
        rw [← hKK] at hqc c1' hld hKm
        rw [← htl] at hqc c0 hKm hra2
        rw [← s1] at hfd
        obtain ⟨M, hM⟩ : ∃ M, M = es.take pp ++ e :: es.drop pp := ⟨_, rfl⟩
        rw [← hM] at hfd s1
        have hMM : sortR ordN M = sortR ordN ((leafAt T e.t).2 ++ [e]) := by rw [s1]; exact sort_sort s2
        have hMa : apart M := by rw [s1]; exact sort_apart s2
        have hMl : M.length = es.length + 1 := by rw [hM, List.length_append, List.length_cons, List.length_take, List.length_drop]; omega
        have hfd2 : addD d e = if (enc (sortR ordN M)).2 = 0 then (d.set y.b (enc (sortR ordN M)).1, 0) else splitD d T KK M := by
          rw [hfd]
          unfold withL
          rw [hMM]
          by_cases h0 : (enc (sortR ordN ((leafAt T e.t).2 ++ [e]))).2 = 0
          · rw [if_pos h0, if_pos h0]
          · rw [if_neg h0, if_neg h0]
        obtain ⟨bk, hbk⟩ : ∃ bk, bk = y.b := ⟨_, rfl⟩
        rw [← hbk] at hfd2 hlow
        obtain ⟨ln, hln⟩ : ∃ ln, ln = es.length := ⟨_, rfl⟩
        rw [← hln] at hen heng hple h41 hMl
        have hcells : ∀ V : World, VarR V w2.heap.size y → V.cell? ⟨w2.heap.size, 2, none⟩ = some (.slice A5 ln c5) ∧ V.cell? ⟨w2.heap.size, 1, none⟩ = some (.int .i64 (bk : Int)) := fun V hV => by
          have h1 := hV.cells.2.2
          rw [hyv, ← hln] at h1
          exact ⟨h1, by rw [hbk]; exact hV.cells.2.1⟩
        have HF := Lib.hid hfd2
        have HCELLS := Lib.hid hcells
        have HQC := Lib.hid hqc
        have HRA2 := Lib.hid hra2
        have HEN := Lib.hid hen
        have HENG := Lib.hid heng
        have HX2 := Lib.hid hx2
        have HVR := Lib.hid hvr
        have HBW3 := Lib.hid hbW3
        have HREP := Lib.hid hrep
        have HM := Lib.hid hM
        have HMA := Lib.hid hMa
        have HML := Lib.hid hMl
        have HZS : Hid (w.heap.size < gp ∧ gp < w2.heap.size ∧ w2.heap.size < W3.heap.size ∧ W0.heap.size = w.heap.size + 1 ∧ W0.heap.size ≤ w2.heap.size) := Lib.hid ⟨by omega, hsz2, hvr.lt, hz, by have := hb2.size; omega⟩
        have HLE : Hid (pp ≤ ln ∧ ln ≤ 41 ∧ KK < tl ∧ bk < d.length) := Lib.hid ⟨hple, h41, hKm, hlow⟩
        have HTL := Lib.hid htl
        have hent := entryOf_any e he
        unfold eC at hent
        have HENT := Lib.hid hent
        clear hent
        have HGPT : Hid (∀ i, (Value.slice A5 ln c5).ownBlock = some i → i ≠ gp) := Lib.hid (fun i hi e2 => by
          obtain ⟨cs, z, e1⟩ := hen.type hi
          rw [e2, show w2.heap[gp]? = _ from hq2] at e1
          injection e1 with e1
          injection e1 with _ e1
          exact absurd e1 (by decide))
        rw [← HX.out] at HENT
        have HPV : Hid (∀ V', VarX V' w.heap.size e → (ldX (.pointer (some ⟨w.heap.size, 0, none⟩))).run Tryz.prog V' = .ok (.agg X) V') := Lib.hid (fun V' hV' => by rw [HX.out]; exact hV'.load)
        have hki : (KK : Int) < (tl : Int) := by omega
        obtain ⟨C, hC⟩ : ∃ C, C = rC y := ⟨_, rfl⟩
        rw [← hC] at hst2 hld
        clear hfd hfd2 hok hra hra2 hx2 hq2 hqc hQ hb1 hb2 hb1w hb2w hhb hpl hs1 hz hsz2 s1 s2 hll hKm hlr hEl hen heng hTk hEr hyw hy hyb hlow hrep h41 hW3 hvr hbW3 hes hpp hple hyv hKK htl hKa hM hMM hMa hMl hbk hln hcells hC hgp
        go_wp2_with fail
        have hp3 : W3.heap[gp]? = w2.heap[gp]? := HBW3.out.block gp HZS.out.2.1
        have hq3 := (HQC.out W3 hp3).2.2
        rw [HGP.out] at hq3
        have hS0 : VarX W3.drew w.heap.size e ∧ W3.drew.cell? ⟨w2.heap.size, 2, none⟩ = some (.slice A5 ln c5) ∧ W3.drew.cell? ⟨w1.heap.size, 2, none⟩ = some (.int .i64 (pp : Int)) := ⟨(HBW3.out.block _ (by have := HZS.out; omega)).trans HX2.out, (HCELLS.out W3 HVR.out).1, hq3⟩
        refine wp_region_E (fun V => VarX V w.heap.size e ∧ V.cell? ⟨w2.heap.size, 2, none⟩ = some (.slice A5 ln c5) ∧ V.cell? ⟨w1.heap.size, 2, none⟩ = some (.int .i64 (pp : Int))) 99 rfl ?_
        have hS := hS0
        refine wpE_takeF 0 ⟨some 29, _, _, _, _, _⟩ (v := ?_) (by decide) rfl (by kernel_rfl) (by kernel_rfl) (by kernel_rfl) (fun _ _ _ h => h) hS (Or.inl ⟨by kernel_rfl, ?_⟩) ?_
        rotate_left
        · (intro V hSw; obtain ⟨s1, s2, s3⟩ := hSw; have s4 := HPV.out V s1; go_simp; try with_reducible rfl)
        try simp only [Act.put]
        refine wpE_takeF 1 ⟨some 30, _, _, _, _, _⟩ (v := ?_) (by decide) rfl (by kernel_rfl) (by kernel_rfl) (by kernel_rfl) (fun _ _ _ h => h) hS (Or.inl ⟨by kernel_rfl, ?_⟩) ?_
        rotate_left
        · (intro V hSw; obtain ⟨s1, s2, s3⟩ := hSw; have s4 := HPV.out V s1; go_simp; try with_reducible rfl)
        try simp only [Act.put]
        refine wpE_takeF 2 ⟨some 31, _, _, _, _, _⟩ (v := ?_) (by decide) rfl (by kernel_rfl) (by kernel_rfl) (by kernel_rfl) (fun _ _ _ h => h) hS (Or.inl ⟨by kernel_rfl, ?_⟩) ?_
        rotate_left
        · (intro V hSw; obtain ⟨s1, s2, s3⟩ := hSw; have s4 := HPV.out V s1; go_simp; try with_reducible rfl)
        try simp only [Act.put]
        refine wpE_takeF 3 ⟨some 32, _, _, _, _, _⟩ (v := ?_) (by decide) rfl (by kernel_rfl) (by kernel_rfl) (by kernel_rfl) (fun _ _ _ h => h) hS (Or.inl ⟨by kernel_rfl, ?_⟩) ?_
        rotate_left
        · (intro V hSw; obtain ⟨s1, s2, s3⟩ := hSw; have s4 := HPV.out V s1; go_simp; try with_reducible rfl)
        try simp only [Act.put]
        refine wpE_takeF 4 ⟨some 33, _, _, _, _, _⟩ (v := ?_) (by decide) rfl (by kernel_rfl) (by kernel_rfl) (by kernel_rfl) (fun _ _ _ h => h) hS (Or.inl ⟨by kernel_rfl, ?_⟩) ?_
        rotate_left
        · (intro V hSw; obtain ⟨s1, s2, s3⟩ := hSw; have s4 := HPV.out V s1; go_simp; try with_reducible rfl)
        try simp only [Act.put]
        refine wpE_one 5 (o := ⟨some 34, _, _, _, _, _⟩) (by kernel_rfl) rfl (fun K' hK' => ?_)
        rw [if_pos (by kernel_rfl)]
        refine call_wp 38 _ _ _ _ rfl Tryz.func38 (by kernel_rfl) rfl _ ?hv _ (HENT.out _) ?_
        case hv => simp only [List.map_toArray, List.map_cons, List.map_nil]; go_simp
        rintro E V2 ⟨rfl, hb2⟩
        have hb2' : Below W3.heap.size W3 V2 := ⟨hb2.os, hb2.tape, hb2.output, hb2.size, hb2.block⟩
        have hx2 : VarX V2 w.heap.size e := (hb2'.block _ (by have := HZS.out; omega)).trans hS0.1
        have hr2 : VarR V2 w2.heap.size y := (hb2'.block _ HVR.out.lt).trans HVR.out
        have hp2 : V2.heap[gp]? = w2.heap[gp]? := (hb2'.block gp (by have := HZS.out; omega)).trans hp3
        have hq2 := (HQC.out V2 hp2).2.2
        rw [HGP.out] at hq2
        have hS2 : VarX V2 w.heap.size e ∧ V2.cell? ⟨w2.heap.size, 2, none⟩ = some (.slice A5 ln c5) ∧ V2.cell? ⟨w1.heap.size, 2, none⟩ = some (.int .i64 (pp : Int)) := ⟨hx2, (HCELLS.out V2 hr2).1, hq2⟩
        have hb3 : Below V2.heap.size V2 (V2.alloc (.cells #[.int .u32 (Crc.sum e.t : Int), .string ⟨e.t.toArray⟩, .int .i64 e.i] 68)) := (Below.refl _ V2).alloc (Nat.le_refl _) _
        have hw2V : w2.heap.size ≤ V2.heap.size := by have := hb2'.size; have := HZS.out; omega
        have hen2 : OwnC EN V2 w.heap.size (.slice A5 ln c5) es := ((HEN.out.below HBW3.out).below hb2').mono (by have := HZS.out; omega)
        have hins := insE_any (V2.alloc (.cells #[.int .u32 (Crc.sum e.t : Int), .string ⟨e.t.toArray⟩, .int .i64 e.i] 68)) w.heap.size (by have := hb3.size; have := HZS.out; omega) A5 ln c5 es (hen2.below hb3) pp HLE.out.1 e V2.heap.size (heap_alloc_new V2 _) (fun i hi => by have := (HEN.out.lt i hi).2; omega) (by have := HLE.out; omega)
        rw [← HM.out] at hins
        have hS3 : VarX (V2.alloc (.cells #[.int .u32 (Crc.sum e.t : Int), .string ⟨e.t.toArray⟩, .int .i64 e.i] 68)) w.heap.size e ∧ (V2.alloc (.cells #[.int .u32 (Crc.sum e.t : Int), .string ⟨e.t.toArray⟩, .int .i64 e.i] 68)).cell? ⟨w2.heap.size, 2, none⟩ = some (.slice A5 ln c5) ∧ (V2.alloc (.cells #[.int .u32 (Crc.sum e.t : Int), .string ⟨e.t.toArray⟩, .int .i64 e.i] 68)).cell? ⟨w1.heap.size, 2, none⟩ = some (.int .i64 (pp : Int)) := ⟨hx2.alloc _, (hb3.cell (p := ⟨w2.heap.size, 2, none⟩) (by show w2.heap.size < V2.heap.size; have := hr2.lt; omega)).trans hS2.2.1, (hb3.cell (p := ⟨w1.heap.size, 2, none⟩) (by show w1.heap.size < V2.heap.size; rw [← HGP.out]; have := HZS.out; omega)).trans hS2.2.2⟩
        have hr3 : VarR (V2.alloc (.cells #[.int .u32 (Crc.sum e.t : Int), .string ⟨e.t.toArray⟩, .int .i64 e.i] 68)) w2.heap.size y := (hb3.block _ hr2.lt).trans hr2
        have hp4 : (V2.alloc (.cells #[.int .u32 (Crc.sum e.t : Int), .string ⟨e.t.toArray⟩, .int .i64 e.i] 68)).heap[gp]? = w2.heap[gp]? := (hb3.block gp (by have := HZS.out; omega)).trans hp2
        have hbw : Below w.heap.size w (V2.alloc (.cells #[.int .u32 (Crc.sum e.t : Int), .string ⟨e.t.toArray⟩, .int .i64 e.i] 68)) := ((HB2W.out.trans (HBW3.out.mono HB2W.out.size)).trans (hb2'.mono (by have := HZS.out; omega))).trans (hb3.mono (by have := HZS.out; omega))
        have hra3 : RowsAt (V2.alloc (.cells #[.int .u32 (Crc.sum e.t : Int), .string ⟨e.t.toArray⟩, .int .i64 e.i] 68)) W0.heap.size g tl c1 (T.map Prod.fst) (T.map fun p => sortR ordB p.2) tl l := ((HRA2.out.below HBW3.out).below hb2').below hb3
        have HINS := Lib.hid hins; have HR3 := Lib.hid hr3; have HP4 := Lib.hid hp4; have HBWA := Lib.hid hbw; have HRA3 := Lib.hid hra3; have HS3 := Lib.hid hS3
        clear hins hr3 hp4 hbw hra3 hen2 hw2V hb3 hq2 hp2 hr2 hx2 hb2' hS3
        refine ⟨_, rfl, hK'.out _ _ hS2 (fun hS => ?_)⟩
        clear hK' K'
        try simp only [Act.put]
        refine wpE_one 6 (by kernel_rfl) rfl (fun K' hK' => ?_)
        go_simp
        refine hK'.out _ _ HS3.out (fun hS => ?_)
        clear hK' K'
        try simp only [Act.put]
        refine wpE_one 7 (o := ⟨some 36, _, _, _, _, _⟩) (by kernel_rfl) rfl (fun K' hK' => ?_)
        rw [if_pos (by kernel_rfl)]
        refine call_wp 45 _ _ _ _ rfl Tryz.func45 (by kernel_rfl) rfl _ ?hvz _ HINS.out ?_
        case hvz => simp only [List.map_toArray, List.map_cons, List.map_nil]; go_simp
        rintro E V4 ⟨v4, rfl, ho4, hg4⟩
        have hx4 : VarX V4 w.heap.size e := (hg4.1.block _ HS3.out.1.lt (fun e2 => by have := (HEN.out.lt _ e2.symm).1; have := HZS.out; omega)).trans HS3.out.1
        have hr4 : VarR V4 w2.heap.size y := (hg4.1.block _ HR3.out.lt (fun e2 => by have := (HEN.out.lt _ e2.symm).2; omega)).trans HR3.out
        have hp5 : V4.heap[gp]? = w2.heap[gp]? := (hg4.1.block gp (by have := HR3.out.lt; have := HZS.out; omega) (fun e2 => HGPT.out _ e2.symm rfl)).trans HP4.out
        have hq4 := (HQC.out V4 hp5).2.2
        rw [HGP.out] at hq4
        have hS4 : VarX V4 w.heap.size e ∧ V4.cell? ⟨w2.heap.size, 2, none⟩ = some (.slice A5 ln c5) ∧ V4.cell? ⟨w1.heap.size, 2, none⟩ = some (.int .i64 (pp : Int)) := ⟨hx4, (HCELLS.out V4 hr4).1, hq4⟩
        have hbw4 : Below w.heap.size w V4 := HBWA.out.grown hg4.1 HBWA.out.size (fun i hi => by have := (HEN.out.lt i hi).1; have := HZS.out; omega)
        have hrg : OwnC RK V4 w.heap.size (.slice (some ⟨g, 0, none⟩) tl c1) l := (HRA3.out.own.kept (fun i hi => hg4.1.block i (HRA3.out.own.lt i hi).2 (fun e2 => HENG.out _ e2.symm (Option.some.inj hi).symm))).mono (by have := HZS.out; omega)
        have hne : ∀ i, v4.ownBlock = some i → i ≠ g := fun i hi => (hg4.2 i hi).elim (fun h => HENG.out i h) (fun h => by have := (HRA3.out.own.lt g rfl).2; omega)
        have HO4 := Lib.hid ho4; have HR4 := Lib.hid hr4; have HP5 := Lib.hid hp5; have HBW4 := Lib.hid hbw4; have HRG := Lib.hid hrg; have HNE := Lib.hid hne
        clear ho4 hr4 hp5 hbw4 hrg hg4 hx4 hq4 hne
        refine ⟨_, rfl, hK'.out _ _ hS4 (fun hS => ?_)⟩
        clear hK' K'
        try simp only [Act.put]
        refine wpE_takeF 8 ⟨some 9, _, _, _, _, _⟩ (v := ?_) (by decide) rfl (by kernel_rfl) (by kernel_rfl) (by kernel_rfl) (fun _ _ _ h => h) hS (Or.inl ⟨by kernel_rfl, ?_⟩) ?_
        rotate_left
        · (intro V hSw; go_simp; try with_reducible rfl)
        try simp only [Act.put]
        refine wpE_done (by kernel_rfl) ?_ _
        try simp only [List.setIfInBounds_toArray, List.set_cons_succ, List.set_cons_zero]
        clear hS hS0 hS2 hS4 hp3 hq3 HINS HENT HPV
        have ho4 := HO4.out
        obtain ⟨A9, c9, rfl⟩ := ho4.shape
        obtain ⟨ml, hml⟩ : ∃ ml, ml = M.length := ⟨_, rfl⟩
        have hrepM : ∀ x ∈ M, x.rep := fun x hx => by
          rw [HM.out] at hx
          rcases (put_mem es e pp x).1 hx with hx | hx
          · rw [hx]; exact he
          · exact HREP.out x hx
        have hlf := leafOf_any A9 M.length c9 V4.heap.size M V4 (ho4.reads EN_ok) (Nat.le_refl _) hrepM (by have := HML.out; have := HLE.out; omega) HMA.out
        rw [← hml] at hlf ho4 ⊢
        have HNE2 := Lib.hid HNE.out
        have HO5 := Lib.hid ho4
        have HLF := Lib.hid hlf
        have HREPM := Lib.hid hrepM
        have HMLL : Hid (ml = ln + 1) := Lib.hid (by rw [hml]; exact HML.out)
        have HLEN : Hid (d.length = n) := Lib.hid HH.out.1
        clear ho4 hlf hrepM hml HO4 HNE
        go_wp2_with fail
        with_reducible refine HLF.out.mono ?_
        rintro E5 W5 ⟨A6, c6, rfl, ho6, hb6⟩
        clear HLF
        have hr5 : VarR W5 w2.heap.size y := (hb6.block _ HR4.out.lt).trans HR4.out
        have hp5 : W5.heap[gp]? = w2.heap[gp]? := (hb6.block gp (by have := HR4.out.lt; have := HZS.out; omega)).trans HP5.out
        have hq0 := (HQC.out W5 hp5).1
        have hq1 := (HQC.out W5 hp5).2.1
        have hc1 := (HCELLS.out W5 hr5).2
        rw [HGP.out] at hq0 hq1
        have hbw5 : Below w.heap.size w W5 := HBW4.out.trans (hb6.mono HBW4.out.size)
        have HBW5 := Lib.hid hbw5
        by_cases h0 : (enc (sortR ordN M)).2 = 0
        · rw [show decide ((enc (sortR ordN M)).2 = 0) = true from decide_eq_true h0]
          have hF := HF.out
          rw [if_pos h0] at hF
          obtain ⟨bs, hbs⟩ : ∃ bs, bs = (enc (sortR ordN M)).1 := ⟨_, rfl⟩
          rw [← hbs] at ho6 hF ⊢
          have HF2 := Lib.hid hF
          have htd := turned_any A n c B d W5 (HH.out.below (hbw5.mono hB)) (by have := hbw5.size; omega) hn HSZ.out bk (by have := HLEN.out; have := HLE.out; omega) w.heap.size hbw5.size A6 bs.length c6 bs rfl (Owned.mono ho6 HBW4.out.size)
          have HTD := Lib.hid htd
          generalize bs.length = m4 at HTD ⊢
          clear htd hbw5 ho6 hb6 hr5 hp5 hq0 hq1 h0 hF hbs
          go_wp2_with fail
          with_reducible refine HTD.out.mono ?_
          rintro E6 W6 ⟨v6, rfl, ho6, hb7⟩
          clear HTD
          have HO6 := Lib.hid ho6
          have HB6 : Hid (Below w.heap.size w W6) := Lib.hid (HBW5.out.trans (hb7.mono HBW5.out.size))
          clear ho6 hb7 hc1
          go_wp2
          rw [HP.out, HF2.out]
          exact ⟨_, rfl, HO6.out, HB6.out⟩
        · rw [show decide ((enc (sortR ordN M)).2 = 0) = false from decide_eq_false h0]
          have hF := HF.out
          rw [if_neg h0] at hF
          have HF2 := Lib.hid hF
          have ho5 : OwnC EN W5 w.heap.size (.slice A9 ml c9) M := HO5.out.below hb6
          obtain ⟨g9, rfl, hg9a, hg9b, -⟩ := ho5.form (by have := HMLL.out; omega)
          have hsp := split_any A n c B d T HTO.out w.heap.size g tl c1 l KK g9 ml c9 M W5 (HH.out.below (hbw5.mono hB)) hB hbw5.size HSZ.out (HRG.out.below hb6) HRA2.out.rows HLE.out.2.2.1 ho5 (HNE2.out g9 rfl) (by have := HMLL.out; omega) (by have := HMLL.out; have := HLE.out; omega) HMA.out HREPM.out
          have HSP := Lib.hid hsp
          obtain ⟨bl, hbl⟩ : ∃ bl, bl = (enc (sortR ordN M)).1.length := ⟨_, rfl⟩
          rw [← hbl]
          clear hsp ho5 hbw5 ho6 hb6 hr5 hp5 hc1 h0 hF hg9a hg9b hbl
          go_wp2_with fail
          with_reducible refine HSP.out.mono ?_
          rintro E6 W6 ⟨v6, rfl, ho6, hb7⟩
          clear HSP
          have HO6 := Lib.hid ho6
          have HB6 : Hid (Below w.heap.size w W6) := Lib.hid (HBW5.out.trans hb7)
          clear ho6 hb7 hq0 hq1
          go_wp2
          rw [HP.out, HF2.out]
          exact ⟨_, rfl, HO6.out, HB6.out⟩
end Go.Proofs.YtbagocghlijleaaGreat.Ht
