/- BuddyTakes: for every list of bytes and all numbers n, want and goal, the program gives out the blocks that the document says, with the map behind it, and the bytes that are handed in are unchanged. -/
import Derived.Test.YtnkiblifnknbkaaBdArg
namespace Go.Proofs.Ytnkiblifnknbkaa.BuddyTakes
set_option maxRecDepth 20000
open Go Go.ChangeShapes Go.WideShapes Go.ChangeAt Go.RowKit
open Go.Proofs.Ytnkiblifnknbkaa.Mem Go.Proofs.Ytnkiblifnknbkaa.Bt Go.Proofs.Ytnkiblifnknbkaa.Rec Go.Proofs.Ytnkiblifnknbkaa.Bits Go.Proofs.Ytnkiblifnknbkaa.Bd Go.Proofs.Ytnkiblifnknbkaa.Buddy Go.Proofs.Ytnkiblifnknbkaa.Lift
attribute [local go_sem ↓] ldS_eq stS_eq eqS_eq

set_option maxRecDepth 100000 in
set_option maxHeartbeats 4000000 in
theorem walk (A : Option Addr) (n c : Nat) (bs : List UInt8) (x y z : Int) (w : World) (h : Holds w w.heap.size A n bs) (hc : n ≤ c) (hm : c ≤ 140737488351232) (f3 : z ≤ 9223372036854775807) :
    Calls Try.prog 3 #[.slice A n c, .agg (wishV x y z)] w fun e w' => e = .returned (.bool true) ∧ Below w.heap.size w w' := by
  obtain rfl : bs.length = n := h.1
  have HM := fun (V : World) (hb : Below w.heap.size w V) => h.below hb
  have H := Lib.hid HM; clear HM h
  obtain ⟨W0, hW0⟩ : ∃ W0, W0 = w.alloc (.cells (wishV x y z) 24) := ⟨_, rfl⟩
  have hb0 : Below w.heap.size w W0 := by rw [hW0]; exact (Below.refl _ w).alloc (Nat.le_refl _) _
  have hx0 : W0.heap[w.heap.size]? = some (.cells (wishV x y z) 24 (0, 0)) := by rw [hW0]; exact heap_alloc_new w _
  have hz0 : W0.heap.size = w.heap.size + 1 := by rw [hW0]; simp
  have hld : ∀ (V : World), Below W0.heap.size W0 V → V.cell? ⟨w.heap.size, 0, none⟩ = some (.int .i64 x) ∧ V.cell? ⟨w.heap.size, 1, none⟩ = some (.int .i64 y) ∧ V.cell? ⟨w.heap.size, 2, none⟩ = some (.int .i64 z) := fun V hV => by
    have hh := (hV.block w.heap.size (by omega)).trans hx0
    exact ⟨cell_of_row V _ 0 _ _ _ hh, cell_of_row V _ 1 _ _ _ hh, cell_of_row V _ 2 _ _ _ hh⟩
  have HLD := Lib.hid hld; clear hld
  have HM := Lib.hid (fun (V : World) (hV : Below W0.heap.size W0 V) => hb0.trans (hV.mono hb0.size)); clear hb0 hx0
  have HW := Lib.hid hW0; clear hW0
  cases hp : takeB bs.length x y z with
  | false =>
    have hta := fun (A' : Option Addr) (c' : Nat) (V : World) => take_bad A' bs.length c' V x y z (by omega) hp
    have hrta := fun (V : World) => rtake_bad A bs.length c V x y z (by omega) hp
    have HTA := Lib.hid hta; clear hta
    have HRTA := Lib.hid hrta; clear hrta
    go_enter Try.func3, Try.ntmps3
    go_wp2_with fail
    rw [← HW.out]
    with_reducible refine (alive_any W0).mono ?_
    rintro e w1 ⟨rfl, hb1⟩
    have ho := owned_made w1 [] w1.heap.size (Nat.le_refl _) (by unfold maxLen; simp)
    have HC1 := Lib.hid hb1; clear hb1
    have HO1 := Lib.hid ho; clear ho
    go_wp2_with (at_builtin; refine wpList_addall rfl (.tmp 14) (.tmp 15) rfl w1.heap.size _ [] rfl HO1.out w.heap.size A bs.length c bs rfl ?c1 ?c2 ?c3 ?_)
    case c1 => exact H.out _ (HM.out _ (HC1.out.alloc HC1.out.size _))
    case c2 => simp; omega
    case c3 => simp
    intro v w2 ho2 hb2
    have hcb2 : Below w1.heap.size w1 w2 := ((Below.refl _ w1).alloc (Nat.le_refl _) _).trans hb2
    have hC2 := thenB HC1.out hcb2
    obtain ⟨A2, c2, rfl, -⟩ := Owned.holds ho2
    have hG := fun (V : World) (hV : Below w2.heap.size w2 V) => (Owned.reads ho2).below hV
    have HG := Lib.hid hG; clear hG ho2 hb2 hcb2 HO1 HC1
    have hG2 : Below w2.heap.size w2 w2 := Below.refl _ _
    obtain ⟨l20, l21, l22⟩ := HLD.out w2 hC2
    have HC2 := Lib.hid hC2; clear hC2
    have HG2 := Lib.hid hG2; clear hG2
    go_wp2_with fail
    with_reducible refine (HTA.out A2 c2 w2).mono ?_
    rintro e w3 ⟨rfl, hb3⟩
    have hb3' : Below w2.heap.size w2 (w3.alloc (.cells (spanV 0 0) 27)) := hb3.alloc hb3.size _
    have q3 := run_stS_new w3 0 0
    obtain ⟨w4, hw4⟩ : ∃ w4, w4 = w3.alloc (.cells (spanV 0 0) 27) := ⟨_, rfl⟩
    have hrow4 : w4.heap[w3.heap.size]? = some (.cells (spanV 0 0) 27 (0, 0)) := by rw [hw4]; exact heap_alloc_new w3 _
    have hz4 : w4.heap.size = w3.heap.size + 1 := by rw [hw4]; simp
    rw [← hw4] at hb3' q3
    have HC4 := Lib.hid (thenB HC2.out hb3')
    have HG4 := Lib.hid hb3'
    have hb34 : Below w3.heap.size w3 w4 := hw4 ▸ (Below.refl _ w3).alloc (Nat.le_refl _) _
    have HB34 := Lib.hid hb34; clear hb3 hb3' hb34
    have HR4 := Lib.hid hrow4; clear hrow4
    have HWW := Lib.hid hw4; clear hw4
    clear l20 l21 l22
    obtain ⟨l40, l41, l42⟩ := HLD.out w4 HC4.out
    go_wp2_with fail
    with_reducible refine (HRTA.out w4).mono ?_
    rintro e w5 ⟨rfl, hb5⟩
    have htx := fun (V : World) => text_of (c := 0) (holds_nil V 0) (Nat.zero_le _) V (Below.refl _ _)
    have q5 := run_stS_new w5 0 0
    obtain ⟨w6, hw6⟩ : ∃ w6, w6 = w5.alloc (.cells (spanV 0 0) 27) := ⟨_, rfl⟩
    have hrow6 : w6.heap[w5.heap.size]? = some (.cells (spanV 0 0) 27 (0, 0)) := by rw [hw6]; exact heap_alloc_new w5 _
    have hb56 : Below w5.heap.size w5 w6 := hw6 ▸ (Below.refl _ w5).alloc (Nat.le_refl _) _
    have hb46 := thenB hb5 hb56
    rw [← hw6] at q5
    have hrow46 := (hb46.block w3.heap.size (by omega)).trans HR4.out
    have l1 := run_ldS w6 w3.heap.size 0 0 hrow46
    have l2 := run_ldS w6 w5.heap.size 0 0 hrow6
    have l3 := run_eqS w6 0 0 0 0
    rw [decide_eq_true ⟨rfl, rfl⟩] at l3
    have hC6 := thenB HC4.out hb46
    have hG6 := thenB HG4.out hb46
    have u8 := run_text w6 w2.heap.size A2 bs.length c2 bs (HG.out w6 hG6)
    have u9 := run_text w6 w.heap.size A bs.length c bs (H.out w6 (HM.out _ hC6))
    have u1 := htx w6
    clear htx
    have HF := Lib.hid (HM.out _ hC6); clear hC6 hG6 hb5 hb56 hb46 hrow6 hrow46 hw6
    go_wp2
    go_ret
    exact ⟨rfl, HF.out⟩
  | true =>
    unfold takeB at hp
    rw [Bool.and_eq_true] at hp
    obtain ⟨h0, h1⟩ := of_decide_eq_true hp.1
    obtain ⟨h2, h3, h4⟩ := of_decide_eq_true hp.2
    clear hp
    obtain ⟨nn, rfl⟩ : ∃ nn : Nat, x = (nn : Int) := ⟨x.toNat, by omega⟩
    obtain ⟨want, rfl⟩ : ∃ want : Nat, y = (want : Int) := ⟨y.toNat, by omega⟩
    obtain ⟨goal, rfl⟩ : ∃ goal : Nat, z = (goal : Int) := ⟨z.toNat, by omega⟩
    have hta := fun (A' : Option Addr) (c' : Nat) (B : Nat) (V : World) (hh : Holds V B A' bs.length bs) (hB : B ≤ V.heap.size) => take_run A' bs.length c' B bs V nn want goal hh hB (by omega) (by omega) (by omega) (by omega) (by omega)
    have hrta := fun (V : World) (hV : Below w.heap.size w V) => rtake_run A bs.length c w.heap.size bs V nn want goal (H.out V hV) hV.size (by omega) (by omega) (by omega) (by omega) (by omega)
    have HTA := Lib.hid hta; clear hta
    have HRTA := Lib.hid hrta; clear hrta
    go_enter Try.func3, Try.ntmps3
    go_wp2_with fail
    rw [← HW.out]
    with_reducible refine (alive_any W0).mono ?_
    rintro e w1 ⟨rfl, hb1⟩
    have ho := owned_made w1 [] w1.heap.size (Nat.le_refl _) (by unfold maxLen; simp)
    have HC1 := Lib.hid hb1; clear hb1
    have HO1 := Lib.hid ho; clear ho
    go_wp2_with (at_builtin; refine wpList_addall rfl (.tmp 14) (.tmp 15) rfl w1.heap.size _ [] rfl HO1.out w.heap.size A bs.length c bs rfl ?c1 ?c2 ?c3 ?_)
    case c1 => exact H.out _ (HM.out _ (HC1.out.alloc HC1.out.size _))
    case c2 => simp; omega
    case c3 => simp
    intro v w2 ho2 hb2
    have hcb2 : Below w1.heap.size w1 w2 := ((Below.refl _ w1).alloc (Nat.le_refl _) _).trans hb2
    have hC2 := thenB HC1.out hcb2
    obtain ⟨A2, c2, rfl, -⟩ := Owned.holds ho2
    have hG := fun (V : World) (hV : Below w2.heap.size w2 V) => (Owned.reads ho2).below hV
    have HG := Lib.hid hG; clear hG ho2 hb2 hcb2 HO1 HC1
    have hG2 : Below w2.heap.size w2 w2 := Below.refl _ _
    obtain ⟨l20, l21, l22⟩ := HLD.out w2 hC2
    have HC2 := Lib.hid hC2; clear hC2
    have HG2 := Lib.hid hG2; clear hG2
    go_wp2_with fail
    with_reducible refine (HTA.out A2 c2 w2.heap.size w2 (HG.out w2 HG2.out) (Nat.le_refl _)).mono ?_
    rintro e w3 ⟨r, hr, hout⟩
    rcases r with _ | ⟨a, o⟩
    · obtain ⟨rfl, hb3⟩ := hout
      have HRR := Lib.hid hr; clear hr
      have hb3' : Below w2.heap.size w2 (w3.alloc (.cells (spanV 0 0) 27)) := hb3.alloc hb3.size _
      have q3 := run_stS_new w3 0 0
      obtain ⟨w4, hw4⟩ : ∃ w4, w4 = w3.alloc (.cells (spanV 0 0) 27) := ⟨_, rfl⟩
      have hrow4 : w4.heap[w3.heap.size]? = some (.cells (spanV 0 0) 27 (0, 0)) := by rw [hw4]; exact heap_alloc_new w3 _
      have hz4 : w4.heap.size = w3.heap.size + 1 := by rw [hw4]; simp
      rw [← hw4] at hb3' q3
      have HC4 := Lib.hid (thenB HC2.out hb3')
      have HG4 := Lib.hid hb3'
      have hb34 : Below w3.heap.size w3 w4 := hw4 ▸ (Below.refl _ w3).alloc (Nat.le_refl _) _
      have HB34 := Lib.hid hb34; clear hb3 hb3' hb34
      have HR4 := Lib.hid hrow4; clear hrow4
      have HWW := Lib.hid hw4; clear hw4
      clear l20 l21 l22
      obtain ⟨l40, l41, l42⟩ := HLD.out w4 HC4.out
      go_wp2_with fail
      with_reducible refine (HRTA.out w4 (HM.out _ HC4.out)).mono ?_
      rintro e w5 ⟨r2, hr2, hout2⟩
      obtain rfl := take_unique HRR.out hr2
      clear hr2
      obtain ⟨rfl, hb5⟩ := hout2
      have htx := fun (V : World) => text_of (c := 0) (holds_nil V 0) (Nat.zero_le _) V (Below.refl _ _)
      have q5 := run_stS_new w5 0 0
      obtain ⟨w6, hw6⟩ : ∃ w6, w6 = w5.alloc (.cells (spanV 0 0) 27) := ⟨_, rfl⟩
      have hrow6 : w6.heap[w5.heap.size]? = some (.cells (spanV 0 0) 27 (0, 0)) := by rw [hw6]; exact heap_alloc_new w5 _
      have hb56 : Below w5.heap.size w5 w6 := hw6 ▸ (Below.refl _ w5).alloc (Nat.le_refl _) _
      have hb46 := thenB hb5 hb56
      rw [← hw6] at q5
      have hrow46 := (hb46.block w3.heap.size (by omega)).trans HR4.out
      have l1 := run_ldS w6 w3.heap.size 0 0 hrow46
      have l2 := run_ldS w6 w5.heap.size 0 0 hrow6
      have l3 := run_eqS w6 0 0 0 0
      rw [decide_eq_true ⟨rfl, rfl⟩] at l3
      have hC6 := thenB HC4.out hb46
      have hG6 := thenB HG4.out hb46
      have u8 := run_text w6 w2.heap.size A2 bs.length c2 bs (HG.out w6 hG6)
      have u9 := run_text w6 w.heap.size A bs.length c bs (H.out w6 (HM.out _ hC6))
      have u1 := htx w6
      clear htx
      have HF := Lib.hid (HM.out _ hC6); clear hC6 hG6 hb5 hb56 hb46 hrow6 hrow46 hw6
      go_wp2
      go_ret
      exact ⟨rfl, HF.out⟩
    · obtain ⟨-, Aa, ca, rfl, hb3, -, ta⟩ := hout
      obtain ⟨L, hL⟩ : ∃ L, L = min want (2 ^ o) := ⟨_, rfl⟩
      rw [← hL] at ta ⊢
      have TA := Lib.hid ta; clear ta
      have HRR := Lib.hid hr; clear hr
      have HLL := Lib.hid hL; clear hL
      have hb3' : Below w2.heap.size w2 (w3.alloc (.cells (spanV (a : Int) (L : Int)) 27)) := hb3.alloc hb3.size _
      have q3 := run_stS_new w3 (a : Int) (L : Int)
      obtain ⟨w4, hw4⟩ : ∃ w4, w4 = w3.alloc (.cells (spanV (a : Int) (L : Int)) 27) := ⟨_, rfl⟩
      have hrow4 : w4.heap[w3.heap.size]? = some (.cells (spanV (a : Int) (L : Int)) 27 (0, 0)) := by rw [hw4]; exact heap_alloc_new w3 _
      have hz4 : w4.heap.size = w3.heap.size + 1 := by rw [hw4]; simp
      rw [← hw4] at hb3' q3
      have HC4 := Lib.hid (thenB HC2.out hb3')
      have HG4 := Lib.hid hb3'
      have hb34 : Below w3.heap.size w3 w4 := hw4 ▸ (Below.refl _ w3).alloc (Nat.le_refl _) _
      have HB34 := Lib.hid hb34; clear hb3 hb3' hb34
      have HR4 := Lib.hid hrow4; clear hrow4
      have HWW := Lib.hid hw4; clear hw4
      clear l20 l21 l22
      obtain ⟨l40, l41, l42⟩ := HLD.out w4 HC4.out
      go_wp2_with fail
      with_reducible refine (HRTA.out w4 (HM.out _ HC4.out)).mono ?_
      rintro e w5 ⟨r2, hr2, hout2⟩
      obtain rfl := take_unique HRR.out hr2
      clear hr2
      obtain ⟨-, Ab, cb, rfl, hb5, -, tb⟩ := hout2
      rw [← HLL.out] at tb ⊢
      have TB := Lib.hid tb; clear tb
      have q5 := run_stS_new w5 (a : Int) (L : Int)
      obtain ⟨w6, hw6⟩ : ∃ w6, w6 = w5.alloc (.cells (spanV (a : Int) (L : Int)) 27) := ⟨_, rfl⟩
      have hrow6 : w6.heap[w5.heap.size]? = some (.cells (spanV (a : Int) (L : Int)) 27 (0, 0)) := by rw [hw6]; exact heap_alloc_new w5 _
      have hb56 : Below w5.heap.size w5 w6 := hw6 ▸ (Below.refl _ w5).alloc (Nat.le_refl _) _
      have hb46 := thenB hb5 hb56
      rw [← hw6] at q5
      have hrow46 := (hb46.block w3.heap.size (by omega)).trans HR4.out
      have l1 := run_ldS w6 w3.heap.size (a : Int) (L : Int) hrow46
      have l2 := run_ldS w6 w5.heap.size (a : Int) (L : Int) hrow6
      have l3 := run_eqS w6 (a : Int) (L : Int) (a : Int) (L : Int)
      rw [decide_eq_true ⟨rfl, rfl⟩] at l3
      have hC6 := thenB HC4.out hb46
      have hG6 := thenB HG4.out hb46
      have u8 := run_text w6 w2.heap.size A2 bs.length c2 bs (HG.out w6 hG6)
      have u9 := run_text w6 w.heap.size A bs.length c bs (H.out w6 (HM.out _ hC6))
      have u1 := TA.out w6 (thenB HB34.out hb46)
      have u2 := TB.out w6 hb56
      obtain ⟨ys, hys⟩ : ∃ ys, ys = fillL bs (a : Int) ((a + L : Nat) : Int) true := ⟨_, rfl⟩
      rw [← hys] at u1 u2
      clear hys
      have HF := Lib.hid (HM.out _ hC6); clear hC6 hG6 hb5 hb56 hb46 hrow6 hrow46 hw6
      go_wp2
      go_ret
      exact ⟨rfl, HF.out⟩

theorem walks : Walks 3 Try.f3 All := by
  intro H enc W base args ds p hval hA hsz _
  rw [Try.params3] at hA hval hsz
  obtain ⟨v0, vs0, d0, ds0, p0, q0, hargs, rfl, rfl, h0, r0⟩ := trodAll_cons hA
  obtain ⟨v1, vs1, d1, ds1, p1, q1, rfl, rfl, rfl, h1, r1⟩ := trodAll_cons r0
  obtain ⟨rfl, rfl, rfl⟩ := trodAll_nil r1
  obtain rfl : args = #[v0, v1] := by cases args; simp_all
  obtain ⟨A, n, c, bs, rfl, hb, hn, hc⟩ := open_bytesC (hval 0 _ v0 rfl rfl) h0 _ (reach_bytes hsz (j := 0) rfl rfl)
  obtain ⟨x, y, z, rfl, hx, hy, hz⟩ := open_wish (hval 1 _ v1 rfl rfl) h1
  exact walk A n c bs x y z W hb hn hc hz.2

set_option maxRecDepth 100000 in
theorem proved : Rows.BuddyTakesSaid :=
  OpenClaim.holds_of_wide 3 Try.f3 rfl rfl rfl rfl rfl rfl rfl ⟨rfl, rfl, rfl, rfl, rfl⟩ rfl rfl rfl rfl rfl (by kernel_rfl) Try.func3 (by kernel_rfl)
    (of_decide_eq_true (by kernel_rfl)) (by unfold Func.isWrapper; first | (rw [if_pos (by decide +kernel)]; kernel_rfl) | (rw [if_neg (by decide +kernel)]; exact ⟨rfl, rfl⟩))
    (fun os started H enc _ => lifted (s := Rows.buddyTakesSpec) walks (by kernel_rfl) rfl rfl (fun H ds hl => by match ds, hl with | [d1, d2], _ => rfl) (by kernel_rfl) Try.func3 os started H enc
      (ChangeSpec.witness6 (enc := enc) (C := Try.checked) false ⟨#[], #[.slice none 0 0, .agg #[.int .i64 0, .int .i64 0, .int .i64 0]], []⟩ 8 (by kernel_rfl) (by kernel_rfl) (by kernel_rfl) (by kernel_rfl)))
#print axioms proved
end Go.Proofs.Ytnkiblifnknbkaa.BuddyTakes
