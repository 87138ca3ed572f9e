/- BitsTurns: for every list of bytes and all numbers from and to, the program's Put and Fill (with ones and with zeros) of a copy of the bytes make what the document's make of the bytes; what Fill hands back may be written and appended to, and the copy is unchanged. -/
import Derived.Test.YtobnnflacdhjcaaBtTold
import Derived.Deep.RegionHeld
import Derived.Test.YtobnnflacdhjcaaLift
namespace Go.Proofs.Ytobnnflacdhjcaa.BitsTurns
set_option maxRecDepth 20000
open Go Go.ChangeShapes Go.WideShapes Go.ChangeAt Go.RowKit
open Go.Proofs.Ytobnnflacdhjcaa.Mem Go.Proofs.Ytobnnflacdhjcaa.Bt Go.Proofs.Ytobnnflacdhjcaa.Rec Go.Proofs.Ytobnnflacdhjcaa.Bits Go.Proofs.Ytobnnflacdhjcaa.Lift

def xorB (x y : Value) : Sem Value := binOp .xor 5 x y
theorem xorB_eq (x y : Value) : binOp .xor 5 x y = xorB x y := rfl
attribute [local go_sem ↓] xorB_eq
theorem run_xorB (u : UInt8) (W : World) : ∃ y : UInt8, (xorB (.int .u8 (u.toNat : Int)) (.int .u8 255)).run Try.prog W = .ok (.int .u8 (y.toNat : Int)) W ∧ ∀ W', (xorB (.int .u8 (u.toNat : Int)) (.int .u8 255)).run Try.prog W' = .ok (.int .u8 (y.toNat : Int)) W' := by
  have h : ∀ W, (xorB (.int .u8 (u.toNat : Int)) (.int .u8 ((255 : Nat) : Int))).run Try.prog W = .ok (.int .u8 (Go.bits .xor .u8 (u.toNat : Int) ((255 : Nat) : Int))) W := fun _ => rfl
  have hx : u.toNat ^^^ 255 < 2 ^ 8 := Nat.xor_lt_two_pow (by have := u.toNat_lt; omega) (by omega)
  refine ⟨UInt8.ofNat (u.toNat ^^^ 255), ?_, fun W' => ?_⟩
  all_goals
    have h' := h
    rw [u8_xor_nat u.toNat 255 u.toNat_lt (by omega)] at h'
    rw [UInt8.toNat_ofNat', Nat.mod_eq_of_lt (by omega)]
    exact h' _

set_option maxRecDepth 100000 in
set_option maxHeartbeats 4000000 in
theorem walk (A : Option Addr) (n c : Nat) (bs : List UInt8) (fr to : Int) (w : World) (h : Holds w w.heap.size A n bs) (hc : n ≤ c) (hm : c ≤ 140737488351232) (f1 : -9223372036854775808 ≤ fr) (f2 : fr ≤ 9223372036854775807) (_ : -9223372036854775808 ≤ to) (_ : to ≤ 9223372036854775807) :
    Calls Try.prog 4 #[.slice A n c, .int .i64 fr, .int .i64 to] w fun e w' => e = .returned (.bool true) ∧ Below w.heap.size w w' := by
  obtain rfl : bs.length = n := h.1
  have hn : bs.length ≤ 140737488351232 := by omega
  have HM := fun (V : World) (hb : Below w.heap.size w V) => h.below hb
  have H := Lib.hid HM; clear HM h
  go_enter Try.func4, Try.ntmps4
  go_wp2_with fail
  with_reducible refine (alive_any w).mono ?_
  rintro e w1 ⟨rfl, hb1⟩
  have ho := owned_made w1 [] w.heap.size hb1.size (by unfold maxLen; simp)
  have HB1 := Lib.hid hb1; clear hb1
  have HO1 := Lib.hid ho; clear ho
  go_wp2_with (at_builtin; refine wpList_addall rfl (.tmp 14) (.tmp 15) rfl w.heap.size _ [] rfl HO1.out w.heap.size A bs.length c bs rfl ?c1 ?c2 ?c3 ?_)
  case c1 => exact H.out _ (HB1.out.alloc HB1.out.size _)
  case c2 => simp; omega
  case c3 => have := HB1.out.size; simp; omega
  intro v w2 ho2 hb2
  have hb2' : Below w.heap.size w w2 := (HB1.out.alloc HB1.out.size _).trans hb2
  obtain ⟨A2, c2, rfl, -⟩ := Owned.holds ho2
  have HB2 := Lib.hid hb2'
  have HG := fun (V : World) (hb : Below w2.heap.size w2 V) => (Owned.reads ho2).below hb
  have G := Lib.hid HG; clear HG
  clear hb2 hb2' ho2 HO1 HB1
  have hP1 := fun (V : World) (v : Bool) (hb : Below w2.heap.size w2 V) => put_told A2 bs.length c2 w2.heap.size bs v V fr (G.out V hb) hb.size (by omega) f1 f2
  have hP2 := fun (V : World) (v : Bool) (hb : Below w.heap.size w V) => rput_told A bs.length c w.heap.size bs v V fr (H.out V hb) hb.size (by omega) f1 f2
  have hF1 := fun (V : World) (v : Bool) (hb : Below w2.heap.size w2 V) => fill_told A2 bs.length c2 w2.heap.size bs v V fr to (G.out V hb) hb.size (by omega)
  have hF2 := fun (V : World) (v : Bool) (hb : Below w.heap.size w V) => rfill_told A bs.length c w.heap.size bs v V fr to (H.out V hb) hb.size (by omega)
  have HP1 := Lib.hid hP1; clear hP1
  have HP2 := Lib.hid hP2; clear hP2
  have HF1 := Lib.hid hF1; clear hF1
  have HF2 := Lib.hid hF2; clear hF2
  go_wp2
  go_loopw [9, 18] (fun _ k wr => ∃ j : Nat, j ≤ 2 ∧ k = .int .i64 (j : Int) ∧ Below w2.heap.size w2 wr) (fun _ k _ => 2 - (intOf k).toNat)
  case atStart => exact ⟨0, by omega, rfl, Below.refl _ _⟩
  case round =>
    obtain ⟨j, hj, rfl, hb⟩ := hrel
    by_cases hlt : j < 2
    · obtain ⟨v, hv⟩ : ∃ v : Bool, ∀ W, (Instr.index 30 (.agg #[.bool true, .bool false]) (.int .i64 (j : Int))).run Try.prog W = .ok (.bool v) W := by
        rcases (show j = 0 ∨ j = 1 by omega) with rfl | rfl
        · exact ⟨true, fun W => by rfl⟩
        · exact ⟨false, fun W => by rfl⟩
      have hji : (j : Int) < 2 := by omega
      have hS0 : Below w2.heap.size w2 wr.drew := hb.drew
      have hR0 : Below w.heap.size w wr.drew := HB2.out.trans (hS0.mono HB2.out.size)
      clear hb
      go_wp2
      go_region_held (fun V => Below w2.heap.size w2 V) (assumption)
        (first
          | (go_at_call 18
             have hcall := HP1.out _ v hS0
             with_reducible refine hcall.mono ?_
             rintro e V1 ⟨B1, k1, rfl, g1, -, t1⟩
             clear hcall
             have hS1 := hS0.trans (g1.mono hS0.size)
             have hR1 := hR0.trans (g1.mono hR0.size)
             have u11 := t1 V1 (Below.refl _ _)
             have T1 := Lib.hid t1
             clear t1)
          | (go_at_call 19
             have hcall := HP2.out _ v hR1
             with_reducible refine hcall.mono ?_
             rintro e V2 ⟨B2, k2, rfl, g2, -, t2⟩
             clear hcall
             have u12 := T1.out V2 (g2)
             have hS2 := hS1.trans (g2.mono hS1.size)
             have hR2 := hR1.trans (g2.mono hR1.size)
             have u22 := t2 V2 (Below.refl _ _)
             have T2 := Lib.hid t2
             clear t2)
          | (go_at_call 20
             have hcall := HF1.out _ v hS2
             with_reducible refine hcall.mono ?_
             rintro e V3 ⟨B3, k3, rfl, g3, -, t3⟩
             clear hcall
             have u13 := T1.out V3 ((g2).trans (g3.mono (g2).size))
             have u23 := T2.out V3 (g3)
             have hS3 := hS2.trans (g3.mono hS2.size)
             have hR3 := hR2.trans (g3.mono hR2.size)
             have u33 := t3 V3 (Below.refl _ _)
             have T3 := Lib.hid t3
             clear t3)
          | (go_at_call 21
             have hcall := HF2.out _ v hR3
             with_reducible refine hcall.mono ?_
             rintro e V4 ⟨B4, k4, rfl, g4, -, t4⟩
             clear hcall
             have u14 := T1.out V4 (((g2).trans (g3.mono (g2).size)).trans (g4.mono ((g2).trans (g3.mono (g2).size)).size))
             have u24 := T2.out V4 ((g3).trans (g4.mono (g3).size))
             have u34 := T3.out V4 (g4)
             have hS4 := hS3.trans (g4.mono hS3.size)
             have hR4 := hR3.trans (g4.mono hR3.size)
             have u44 := t4 V4 (Below.refl _ _)
             have T4 := Lib.hid t4
             clear t4))
      all_goals
        go_wp2
        go_roundw
        case rel => exact ⟨j + 1, by omega, by go_num, by assumption⟩
        case measure => simp [intOf]; omega
    · obtain rfl : j = 2 := by omega
      have GB := Lib.hid hb; clear hb
      go_wp2_with fail
      with_reducible refine (HF1.out _ true GB.out).mono ?_
      rintro e w9 ⟨A9, c9, rfl, hb9, ho9, -⟩
      have hl9 := (fillL_ok bs fr to true).1
      have HL9 := Lib.hid hl9; clear hl9
      have HO9 := Lib.hid ho9; clear ho9
      have HB9 := Lib.hid hb9; clear hb9 HF1 HF2 HP1 HP2
      go_wp2
      go_loopw [11] (fun k V => ∃ (q : Nat) (ys : List UInt8), q ≤ bs.length ∧ k = .int .i64 (q : Int) ∧ ys.length = bs.length ∧ Owned V wr.heap.size (.slice A9 bs.length c9) ys ∧ Below wr.heap.size wr V) (fun k _ => bs.length - (intOf k).toNat)
      case atStart => exact ⟨0, _, Nat.zero_le _, rfl, HL9.out, HO9.out, HB9.out⟩
      case round =>
        obtain ⟨q, ys, hq, rfl, hyl, hoV, hbV⟩ := hrel
        by_cases hlq : q < bs.length
        · obtain ⟨g, cap, hv, -, -, -, hrow⟩ := Owned.row hoV (by omega)
          obtain ⟨r1, r2, r3⟩ := hrow q (by omega)
          obtain ⟨u, hu⟩ : ∃ u, u = ys[q]'(by omega) := ⟨_, rfl⟩
          rw [← hu] at r1
          obtain ⟨y, -, q3⟩ := run_xorB u w
          obtain ⟨ho3, hb3⟩ := r3 y
          have hA9 : A9 = some ⟨g, 0, none⟩ := by injection hv with e1 _ _
          have hc9 : cap = c9 := by injection hv with _ _ e3; exact e3.symm
          subst hA9 hc9
          unfold byteV at r1 ho3 hb3
          have HO3 := Lib.hid ho3; clear ho3
          have HB3 := Lib.hid (hbV.trans hb3); clear hb3
          have hqi : (q : Int) < (bs.length : Int) := by omega
          have hq0 : (0 : Int) ≤ (q : Int) := by omega
          clear r3 hrow hv hoV hbV hu
          have HYL := Lib.hid hyl; clear hyl
          go_wp2
          go_roundw
          case rel => exact ⟨q + 1, _, by omega, by go_num, by rw [List.length_set]; exact HYL.out, HO3.out, HB3.out⟩
          case measure => simp [intOf]; omega
        · obtain rfl : q = bs.length := by omega
          have HOV := Lib.hid hoV; clear hoV
          have HBV := Lib.hid hbV; clear hbV
          have HYL := Lib.hid hyl; clear hyl
          rename World => V
          go_wp2_with (at_builtin; refine wpList_addone rfl _ _ rfl wr.heap.size _ ys rfl HOV.out 1 _ rfl rfl ?c1 ?c2 ?_)
          case c1 => rw [HYL.out]; omega
          case c2 => exact HBV.out.size
          intro v9 w9 ho9 hb9
          obtain ⟨A8, c8, rfl, -⟩ := Owned.holds ho9
          have hl8 : (ys ++ [1]).length = bs.length + 1 := by rw [List.length_append, HYL.out]; rfl
          have GB9 := Lib.hid (GB.out.trans ((HBV.out.trans hb9).mono GB.out.size))
          have B9 := Lib.hid (HB2.out.trans (GB9.out.mono HB2.out.size))
          have q1 := run_text w9 w2.heap.size A2 bs.length c2 bs (G.out _ GB9.out)
          have q2 := run_text w9 w.heap.size A bs.length c bs (H.out _ B9.out)
          clear ho9 hb9
          rw [hl8]
          go_wp2
          go_ret
          exact ⟨rfl, B9.out⟩


theorem walks : Walks 4 Try.f4 All := by
  intro H enc W base args ds p hval hA hsz _
  rw [Try.params4] at hA hval hsz
  obtain ⟨v0, vs0, d0, ds0, p0, q0, hargs, rfl, rfl, h0, r0⟩ := trodAll_cons hA
  obtain ⟨v1, vs1, d1, ds1, p1, q1, rfl, rfl, rfl, h1, r1⟩ := trodAll_cons r0
  obtain ⟨v2, vs2, d2, ds2, p2, q2, rfl, rfl, rfl, h2, r2⟩ := trodAll_cons r1
  obtain ⟨rfl, rfl, rfl⟩ := trodAll_nil r2
  obtain rfl : args = #[v0, v1, v2] := by cases args; simp_all
  obtain ⟨A, n, c, bs, rfl, hb, hn, hc⟩ := open_bytesC (hval 0 _ v0 rfl rfl) h0 _ (reach_bytes hsz (j := 0) rfl rfl)
  obtain ⟨x1, rfl, rfl, rfl, hx1⟩ := open_int Try.underlying3 (hval 1 _ v1 rfl rfl) h1
  have bx1 := bounds_i64 hx1
  obtain ⟨x2, rfl, rfl, rfl, hx2⟩ := open_int Try.underlying3 (hval 2 _ v2 rfl rfl) h2
  have bx2 := bounds_i64 hx2
  exact walk A n c bs x1 x2 W hb hn hc (by omega) (by omega) (by omega) (by omega)

set_option maxRecDepth 100000 in
theorem proved : Rows.BitsTurnsSaid :=
  OpenClaim.holds_of_wide 4 Try.f4 rfl rfl rfl rfl rfl rfl rfl ⟨rfl, rfl, rfl, rfl, rfl⟩ rfl rfl rfl rfl rfl (by kernel_rfl) Try.func4 (by kernel_rfl)
    (of_decide_eq_true (by kernel_rfl)) (by unfold Func.isWrapper; first | (rw [if_pos (by decide +kernel)]; kernel_rfl) | (rw [if_neg (by decide +kernel)]; exact ⟨rfl, rfl⟩))
    (fun os started H enc _ => lifted (s := Rows.bitsTurnsSpec) walks (by kernel_rfl) rfl rfl (fun H ds hl => by match ds, hl with | [d1, d2, d3], _ => rfl) (by kernel_rfl) Try.func4 os started H enc
      (ChangeSpec.witness6 (enc := enc) (C := Try.checked) false ⟨#[], #[.slice none 0 0, .int .i64 0, .int .i64 0], []⟩ 8 (by kernel_rfl) (by kernel_rfl) (by kernel_rfl) (by kernel_rfl)))
#print axioms proved
end Go.Proofs.Ytobnnflacdhjcaa.BitsTurns
