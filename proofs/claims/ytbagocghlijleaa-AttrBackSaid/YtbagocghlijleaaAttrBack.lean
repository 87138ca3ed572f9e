/- AttrBack: for every list of attributes, its block is read again as the list, and with bits turned within 32 side by side, anywhere, it is read as none; a list that has no block is answered with no bytes. -/
import Derived.Test.YtbagocghlijleaaAtAlive
import Derived.Test.YtbagocghlijleaaAtArg
import Derived.Test.YtbagocghlijleaaAtDec
namespace Go.Proofs.Ytbagocghlijleaa.AttrBack
set_option maxRecDepth 20000
open Go.ChangeShapes Go.WideShapes Go.ChangeAt Go.RowKit
open Go.Proofs.Ytbagocghlijleaa.Mem Go.Proofs.Ytbagocghlijleaa.Crc Go.Proofs.Ytbagocghlijleaa.Rec Go.Proofs.Ytbagocghlijleaa.At Go.Proofs.Ytbagocghlijleaa.Lift Go.Proofs.Ytbagocghlijleaa.Reg Go.Proofs.Ytbagocghlijleaa.Bst
attribute [local go_sem ↓] ldX_eq stX_eq eqX_eq neqX_eq

theorem ends (l : List Pr) (burst first : Nat) (h : right l = true) (hs : sizeL l ≤ 250) (hf : first ≤ 2048) :
    ∃ m f, decP (turnTo burst first (blockL l) 32) = (m, f) ∧ ((f = 0 ∧ marked burst first 256 32 = false) ∨ (f = 13 ∧ marked burst first 256 32 = true)) := by
  have hl := blockL_len hs
  by_cases hm : mask burst first 256 32 = 0
  · refine ⟨l, 0, ?_, .inl ⟨rfl, by unfold marked; rw [decide_eq_false]; simpa using hm⟩⟩
    rw [turn_none burst first _ (by rw [hl]; exact hm)]
    exact decP_of (enc_yes h hs)
  · refine ⟨[], 13, ?_, .inr ⟨rfl, decide_eq_true hm⟩⟩
    exact dec_turned l _ (turn_burst burst first _ (by rw [hl]; omega)) (turn_some burst first _ (by rw [hl]; exact hm))

set_option maxRecDepth 100000 in
set_option maxHeartbeats 4000000 in
theorem walk (A : Option Addr) (n c : Nat) (l : List Pr) (a : Int) (burst : Nat) (w : World) (h : HoldsX w w.heap.size A n l) (hn : n ≤ 4398046510976) (hu : burst < 4294967296) :
    Calls Try.prog 5 #[.slice A n c, .int .i64 a, .int .u32 (burst : Int)] w fun e w' => e = .returned (.bool true) ∧ Below w.heap.size w w' := by
  obtain ⟨first, hk, hK⟩ := place a 2048 (by omega) (by omega)
  have HK := Lib.hid hk; clear hk
  have hln := h.1
  have hh : ∀ V, Below w.heap.size w V → HoldsX V w.heap.size A n l ∧ w.heap.size ≤ V.heap.size := fun V hV => ⟨h.below hV, hV.size⟩
  have henc := fun V (hV : Below w.heap.size w V) => encode_any A n c w.heap.size l V (hh V hV).1 (hh V hV).2 (by omega)
  have HENC := Lib.hid henc; clear henc
  have HH := Lib.hid hh; clear hh h
  go_enter Try.func5, Try.ntmps5
  go_wp2_with fail
  with_reducible refine (alive_any w).mono ?_
  rintro e w1 ⟨rfl, hb1⟩
  have HB1 := Lib.hid hb1; clear hb1
  go_wp2_with fail
  with_reducible refine (HENC.out w1 HB1.out).mono ?_
  rintro e w2 ⟨A2, c2, rfl, ho2, hb2⟩
  have HB2 : Hid (Below w.heap.size w w2) := Lib.hid (HB1.out.trans (hb2.mono HB1.out.size))
  have HW1 := Lib.hid HB1.out.size
  clear hb2 HENC HB1
  by_cases hz : (enc l).2 = 0
  · obtain ⟨hright, hsize, he⟩ := enc_zero hz
    rw [he] at ho2 ⊢
    dsimp only at ho2 ⊢
    have hL := blockL_len hsize
    have hends := ends l burst first hright hsize (by have := HK.out; omega)
    have hdecb := decP_of he
    obtain ⟨L, hLL⟩ : ∃ L, L = blockL l := ⟨_, rfl⟩
    rw [← hLL] at ho2 hL hends hdecb ⊢
    clear hLL he hz hright hsize
    rw [hL] at ho2 ⊢
    have HENDS := Lib.hid hends; clear hends
    have HDECB := Lib.hid hdecb; clear hdecb
    have HSL := Lib.hid hL; clear hL
    obtain ⟨g, cap, hv, hg1, hg2, hcap, -⟩ := Owned.row ho2 (by rw [HSL.out]; omega)
    rw [HSL.out] at hv
    injection hv with e1 e2 e3
    clear e2
    subst e1 e3
    have HC1 : Hid (256 ≤ c2) := Lib.hid (Owned.fits ho2).1
    have HO2 := Lib.hid ho2
    have HG1 := Lib.hid hg1
    clear ho2 hcap hg2 hg1
    have hdec := decode_any (some ⟨g, 0, none⟩) 256 c2 w2.heap.size L w2 (Owned.reads HO2.out) (Nat.le_refl _) HC1.out (by omega)
    rw [HDECB.out] at hdec
    have HDEC := Lib.hid hdec; clear hdec
    go_wp2_with fail
    with_reducible refine HDEC.out.mono ?_
    rintro e w3 ⟨A3, c3, rfl, ho3, hb3⟩
    dsimp only at ho3 ⊢
    have HB3 : Hid (Below w.heap.size w w3) := Lib.hid (HB2.out.trans (hb3.mono HB2.out.size))
    have HO3 : Hid (Owned w3 w1.heap.size (.slice (some ⟨g, 0, none⟩) 256 c2) L) := Lib.hid (Owned.keep HO2.out hb3 (Nat.le_refl _))
    have hW23 : w2.heap.size ≤ w3.heap.size := hb3.size
    rw [hln] at ho3 ⊢
    have hsame := same_any A A3 n n c c3 w.heap.size w3.heap.size l l w3 (HH.out w3 HB3.out).1 ho3.reads (HH.out w3 HB3.out).2 (Nat.le_refl _) (by omega)
    rw [decide_eq_true rfl] at hsame
    have HSAME := Lib.hid hsame; clear hsame ho3 hb3 HDEC HO2 HB2
    go_wp2_with (first | (with_reducible refine HSAME.out.mono ?_; rintro e w4 ⟨rfl, hb4⟩) | fail)
    have HB4 : Hid (Below w.heap.size w w4) := Lib.hid (HB3.out.trans (hb4.mono HB3.out.size))
    have HO4 : Hid (Owned w4 w1.heap.size (.slice (some ⟨g, 0, none⟩) 256 c2) L) := Lib.hid (Owned.keep HO3.out hb4 (Nat.le_refl _))
    clear hb4 HSAME HO3 HB3 HDECB
    rw [hK]
    clear hK
    generalize (IntKind.u64.wrap a).tmod 2048 = aa
    go_loopw [12, 13, 14] (fun t i _ wr => ∃ k : Nat, k ≤ 32 ∧ i = .int .i64 (k : Int) ∧ t = .bool (marked burst first 256 k) ∧ Owned wr w1.heap.size (.slice (some ⟨g, 0, none⟩) 256 c2) (turnTo burst first L k) ∧ Below w.heap.size w wr) (fun _ i _ _ => 32 - (intOf i).toNat)
    case atStart => exact ⟨0, by omega, rfl, rfl, HO4.out, HB4.out⟩
    case round =>
      clear HO4 HB4
      obtain ⟨k, hk32, rfl, rfl, hown, hbr⟩ := hrel
      have htl : (turnTo burst first L k).length = 256 := by rw [turn_len]; exact HSL.out
      have HTL := Lib.hid htl; clear htl
      have HBR := Lib.hid hbr; clear hbr
      rcases Nat.lt_or_ge k 32 with hlt | hge
      · have HO2 := Lib.hid hown
        clear hown
        have hB := bit_bits burst k hu
        rcases Nat.mod_two_eq_zero_or_one (burst / 2 ^ k) with hbit | hbit
        · rw [hbit] at hB
          have hmiss : hit burst first 256 k = false := by simp [hit, hbit]
          have E1 := Lib.hid (marked_miss _ _ _ _ hmiss)
          have E2 : Hid (turnTo burst first L (k + 1) = turnTo burst first L k) := Lib.hid (turn_miss _ _ _ _ (by rw [HSL.out]; exact hmiss))
          clear hbit hmiss
          go_wp2
          go_roundw
          case rel => exact ⟨k + 1, by omega, by go_num, by rw [E1.out], by rw [E2.out]; exact HO2.out, HBR.out⟩
          case measure => simp [intOf]; omega
        · rw [hbit] at hB
          by_cases hin : first + k < 2048
          · have hhit : hit burst first 256 k = true := by simp [hit, hbit]; omega
            have E1 := Lib.hid (marked_hit _ _ _ _ hhit)
            have hinI : (first : Int) + (k : Int) < 2048 := by omega
            obtain ⟨P, hP⟩ : ∃ P, first + k = P := ⟨_, rfl⟩
            have hPI : (first : Int) + (k : Int) = (P : Int) := by omega
            have hJ : P / 8 < 256 := by omega
            obtain ⟨g', cap', e', -, hgl, -, hrow⟩ := Owned.row HO2.out (by rw [HTL.out]; omega)
            injection e' with e1 e2 e3
            clear e2
            injection e1 with e1
            injection e1 with e1
            subst e1 e3
            obtain ⟨hc, hf, hst⟩ := hrow (P / 8) (by rw [HTL.out]; exact hJ)
            clear hrow hbit
            obtain ⟨v, hv⟩ : ∃ v, (turnTo burst first L k)[P / 8]'(by rw [HTL.out]; exact hJ) = v := ⟨_, rfl⟩
            rw [hv] at hc
            have E2 := Lib.hid (turn_hit burst first L k (by rw [HSL.out]; exact hhit) v (by rw [hP]; simp [List.getD, HTL.out, hJ, hv]))
            have hP' := Lib.hid hP
            have Hst := Lib.hid hst
            unfold byteV at hc
            clear hP hhit hv hst
            go_wp2_with fail
            go_region
            go_wp2
            go_roundw
            case rel =>
              obtain ⟨q1, q2⟩ := Hst.out (v ^^^ UInt8.ofNat (2 ^ (P % 8)))
              rw [cell_bits v (P % 8) (by omega)]
              refine ⟨k + 1, by omega, by go_num, by rw [E1.out], ?_, ?_⟩
              · rw [E2.out, hP'.out]
                exact q1
              · exact (HBR.out.trans (q2.mono HW1.out)).drew
            case measure => simp [intOf]; omega
          · have hmiss : hit burst first 256 k = false := by simp [hit]; omega
            have E1 := Lib.hid (marked_miss _ _ _ _ hmiss)
            have E2 : Hid (turnTo burst first L (k + 1) = turnTo burst first L k) := Lib.hid (turn_miss _ _ _ _ (by rw [HSL.out]; exact hmiss))
            obtain ⟨P, hP⟩ : ∃ P : Nat, P = first + k := ⟨_, rfl⟩
            have hPI : (first : Int) + (k : Int) = (P : Int) := by omega
            have hP1 : 2048 ≤ P := by omega
            have hP2 : P ≤ 4096 := by have := HK.out; omega
            clear hbit hmiss hin hP
            go_wp2
            go_roundw
            case rel => exact ⟨k + 1, by omega, by go_num, by rw [E1.out], by rw [E2.out]; exact HO2.out, HBR.out⟩
            case measure => simp [intOf]; omega
      · obtain rfl : k = 32 := by omega
        have HOT := Lib.hid hown; clear hown
        obtain ⟨m, f, hd, hends⟩ := HENDS.out
        generalize turnTo burst first L 32 = T at HOT HTL hd
        generalize marked burst first 256 32 = M at hends ⊢
        clear hge hk32 HENDS
        have hdec := decode_any (some ⟨g, 0, none⟩) 256 c2 wr.heap.size T wr (Owned.reads HOT.out) (Nat.le_refl _) HC1.out (by omega)
        rw [hd] at hdec
        have HDEC := Lib.hid hdec; clear hdec hd
        rcases hends with ⟨rfl, rfl⟩ | ⟨rfl, rfl⟩
        all_goals
          go_wp2_with fail
          with_reducible refine HDEC.out.mono ?_
          rintro e w5 ⟨A5, c5, rfl, ho5, hb5⟩
          have HB5 : Hid (Below w.heap.size w w5) := Lib.hid (HBR.out.trans (hb5.mono HBR.out.size))
          clear ho5 hb5
          dsimp only
          generalize m.length = nm
          go_wp2
          go_ret
          exact ⟨rfl, HB5.out⟩
  · have h1 : (enc l).1 = [] := by
      unfold enc at hz ⊢
      split
      · split
        · rename_i h1 h2
          rw [if_pos h1, if_pos h2] at hz
          exact absurd rfl hz
        · rfl
      · rfl
    have h0 : (enc l).1.length = 0 := by rw [h1]; rfl
    rw [h0]
    clear h0 h1 ho2 hK
    have hcases : (enc l).2 = 1 ∨ (enc l).2 = 15 := (enc_two l).resolve_left hz
    clear hz
    rcases hcases with hq | hq
    all_goals
      rw [hq]
      clear hq
      go_wp2
      go_ret
      exact ⟨rfl, HB2.out⟩

theorem walks : Walks 5 Try.f5 All := by
  intro H enc W base args ds p hval hA hsz _
  rw [Try.params5] at hA hval hsz
  obtain ⟨v0, vs0, d0, ds0, p0, q0, hargs, rfl, rfl, h0, r0⟩ := trodAll_cons hA
  obtain ⟨v1, vs1, d1, ds1, p1, q1, rfl, rfl, rfl, h1, r1⟩ := trodAll_cons r0
  obtain ⟨v2, vs2, d2, ds2, p2, q2, rfl, rfl, rfl, h2, r2⟩ := trodAll_cons r1
  obtain ⟨rfl, rfl, rfl⟩ := trodAll_nil r2
  obtain rfl : args = #[v0, v1, v2] := by cases args; simp_all
  obtain ⟨A0, n0, c0, l0, rfl, hl0, hr0, hn0, hc0⟩ := exts_open (hval 0 _ v0 rfl rfl) h0 _ (reach_exts hsz (j := 0) rfl rfl)
  obtain ⟨x1, rfl, rfl, rfl, hx1⟩ := open_int Try.underlying3 (hval 1 _ v1 rfl rfl) h1
  have bx1 := bounds_i64 hx1
  obtain ⟨x2, rfl, rfl, rfl, hx2⟩ := open_int Try.underlying39 (hval 2 _ v2 rfl rfl) h2
  have bx2 := bounds_u32 hx2
  obtain ⟨b2, rfl⟩ := Int.eq_ofNat_of_zero_le (show 0 ≤ x2 by omega)
  have hb2 : b2 < 4294967296 := by omega
  exact walk A0 n0 c0 l0 x1 b2 W hl0 (by omega) hb2

set_option maxRecDepth 100000 in
theorem proved : Rows.AttrBackSaid :=
  OpenClaim.holds_of_wide 5 Try.f5 rfl rfl rfl rfl rfl rfl rfl ⟨rfl, rfl, rfl, rfl, rfl⟩ rfl rfl rfl rfl rfl (by kernel_rfl) Try.func5 (by kernel_rfl)
    (of_decide_eq_true (by kernel_rfl)) (by unfold Func.isWrapper; first | (rw [if_pos (by decide +kernel)]; kernel_rfl) | (rw [if_neg (by decide +kernel)]; exact ⟨rfl, rfl⟩))
    (fun os started H enc _ => lifted (s := Rows.attrBackSpec) walks (by kernel_rfl) rfl rfl (fun H ds hl => by match ds, hl with | [d1, d2, d3], _ => rfl) (by kernel_rfl) Try.func5 os started H enc
      (ChangeSpec.witness6 (enc := enc) (C := Try.checked) false ⟨#[], #[.slice none 0 0, .int .i64 0, .int .u32 0], []⟩ 8 (by kernel_rfl) (by kernel_rfl) (by kernel_rfl) (by kernel_rfl)))
#print axioms proved
end Go.Proofs.Ytbagocghlijleaa.AttrBack
