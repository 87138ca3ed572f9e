/- LeafDecodes: for every list of bytes, the program's Decode of a copy and the document's Decode answer the same names and the same error; and the names that were read stay what they were when the copy's bytes are turned behind the call. -/
import Derived.Test.YtmnajefioehheaaLfAlive
namespace Go.Proofs.Ytmnajefioehheaa.LeafDecodes
set_option maxRecDepth 20000
open Go.ChangeShapes Go.WideShapes Go.ChangeAt Go.RowKit
open Go.Proofs.Ytmnajefioehheaa.Mem Go.Proofs.Ytmnajefioehheaa.Crc Go.Proofs.Ytmnajefioehheaa.Rec Go.Proofs.Ytmnajefioehheaa.Lf Go.Proofs.Ytmnajefioehheaa.Lift Go.Proofs.Ytmnajefioehheaa.Reg
attribute [local go_sem ↓] ldX_eq stX_eq eqX_eq neqX_eq

def xorB (x y : Value) : Sem Value := binOp .xor 5 x y
theorem xorB_eq (x y : Value) : binOp .xor 5 x y = xorB x y := rfl
theorem flip_u8 (u : UInt8) : Go.bits .xor .u8 (u.toNat : Int) 255 = ((UInt8.ofNat (u.toNat ^^^ 255)).toNat : Int) := by
  have h := u.toNat_lt
  have e := u8_xor_nat u.toNat 255 (by omega) (by omega)
  have hx : u.toNat ^^^ 255 < 2 ^ 8 := Nat.xor_lt_two_pow (by omega) (by omega)
  rw [show (255 : Int) = ((255 : Nat) : Int) from rfl, e, UInt8.toNat_ofNat']
  congr 1
  omega
theorem run_xorB (u : UInt8) (W : World) : (xorB (.int .u8 (u.toNat : Int)) (.int .u8 255)).run Try.prog W = .ok (.int .u8 ((u ^^^ 255).toNat : Int)) W := by
  have h : (binOp .xor 5 (.int .u8 (u.toNat : Int)) (.int .u8 255)).run Try.prog W = .ok (.int .u8 (Go.bits .xor .u8 (u.toNat : Int) 255)) W := rfl
  rw [flip_u8] at h
  rw [show (u ^^^ 255).toNat = (UInt8.ofNat (u.toNat ^^^ 255)).toNat by
    rw [UInt8.toNat_ofNat', UInt8.toNat_xor]
    have hx : u.toNat ^^^ 255 < 2 ^ 8 := Nat.xor_lt_two_pow u.toNat_lt (by omega)
    rw [Nat.mod_eq_of_lt hx]
    rfl]
  exact h
attribute [local go_sem ↓] xorB_eq
theorem Owned.blockLt {w : World} {base : Nat} {v : Value} {bs : List UInt8} (h : Owned w base v bs) : ∀ k, v.ownBlock = some k → k < w.heap.size := fun k hk => (World.ownsRow.lt h k hk).2

theorem decP_len (b : List UInt8) : (decP b).1.length ≤ 41 := by
  unfold decP decL
  split
  · split
    · exact toldP_len b
    · exact Nat.zero_le _
  · exact Nat.zero_le _

set_option maxRecDepth 100000 in
set_option maxHeartbeats 4000000 in
theorem walk (A : Option Addr) (m c : Nat) (bs : List UInt8) (w : World) (h : Holds w w.heap.size A m bs) (hc : m ≤ c) (hm : c ≤ 140737488351232) :
    Calls Try.prog 4 #[.slice A m c] w fun e w' => e = .returned (.bool true) ∧ Below w.heap.size w w' := by
  obtain rfl : bs.length = m := h.1
  have H := Lib.hid h; clear h
  obtain ⟨x, hx⟩ : ∃ x, x = (decP bs).1 := ⟨_, rfl⟩
  obtain ⟨r, hr⟩ : ∃ r, r = (decP bs).2 := ⟨_, rfl⟩
  have hxl := decP_len bs
  rw [← hx] at hxl
  have hE : decP bs = (x, r) := by rw [hx, hr]
  have HE := Lib.hid hE; clear hE hx hr
  go_enter Try.func4, Try.ntmps4
  go_wp2_with fail
  with_reducible refine (alive_any w).mono ?_
  rintro e w1 ⟨rfl, hb1⟩
  have ho := owned_made w1 [] w.heap.size hb1.size (by unfold maxLen; simp)
  have HB1 := Lib.hid hb1; clear hb1
  have HO1 := Lib.hid ho; clear ho
  go_wp2_with (at_builtin; refine wpList_addall rfl (.tmp 11) (.tmp 12) rfl w.heap.size _ [] rfl HO1.out w.heap.size A bs.length c bs rfl ?c1 ?c2 ?c3 ?_)
  case c1 => exact H.out.below (HB1.out.alloc HB1.out.size _)
  case c2 => simp; omega
  case c3 => have := HB1.out.size; simp; omega
  intro v w2 ho2 hb2
  have hb2' : Below w.heap.size w w2 := (HB1.out.alloc HB1.out.size _).trans hb2
  obtain ⟨A2, c2, rfl, -⟩ := Owned.holds ho2
  have hdec := decode_any A2 bs.length c2 w2.heap.size bs w2 (Owned.reads ho2) (Nat.le_refl _) (Owned.fits ho2).1 (by omega)
  rw [HE.out] at hdec
  have HDEC := Lib.hid hdec; clear hdec
  have HO2 := Lib.hid ho2
  have HB2 := Lib.hid hb2'
  clear hb2 hb2' ho2 HO1 HB1
  go_wp2_with fail
  with_reducible refine HDEC.out.mono ?_
  rintro e w3 ⟨A3, c3, rfl, ho3, hb3⟩
  dsimp only at ho3 ⊢
  have HB3 : Hid (Below w.heap.size w w3) := Lib.hid (HB2.out.trans (hb3.mono HB2.out.size))
  have HO3 := Lib.hid (show Owned w3 w.heap.size (.slice A2 bs.length c2) bs from Owned.keep HO2.out hb3 (Nat.le_refl _))
  have HY3 := Lib.hid ho3
  have HS3 : Hid (w2.heap.size ≤ w3.heap.size) := Lib.hid hb3.size
  have hdec := rdecode_any A bs.length c w.heap.size bs w3 (H.out.below HB3.out) HB3.out.size hc (by omega)
  rw [← dec_same, HE.out] at hdec
  clear ho3 hb3 HDEC HB2
  have HDEC := Lib.hid hdec; clear hdec
  go_wp2_with fail
  with_reducible refine HDEC.out.mono ?_
  rintro e w5 ⟨A5, c5, rfl, ho5, hb5⟩
  dsimp only at ho5 ⊢
  have HB6 : Hid (Below w.heap.size w w5) := Lib.hid (HB3.out.trans (hb5.mono HB3.out.size))
  have HO6 := Lib.hid (show Owned w5 w.heap.size (.slice A2 bs.length c2) bs from Owned.keep HO3.out hb5 (Nat.le_refl _))
  have HY6 := Lib.hid (HY3.out.below hb5)
  have HT6 := Lib.hid ho5
  obtain ⟨G, hG⟩ : ∃ G, G = (Value.slice A2 bs.length c2).ownBlock := ⟨_, rfl⟩
  have hGl : ∀ k, G = some k → k < w2.heap.size := fun k hk => Owned.blockLt HO2.out k (hG ▸ hk)
  have HGL := Lib.hid hGl; clear hGl
  have HG := Lib.hid hG; clear hG
  clear ho5 hb5 HDEC HB3 HO3 HY3 HO2
  obtain ⟨K, hK⟩ : ∃ K, K = bs.length := ⟨_, rfl⟩
  rw [← hK] at HO6 HG ⊢
  have hK2 : K ≤ 140737488351232 := by omega
  have HKL := Lib.hid hK; clear hK hm hc
  obtain ⟨nx, hnx⟩ : ∃ nx, nx = x.length := ⟨_, rfl⟩
  rw [← hnx] at HY6 HT6 hxl ⊢
  have HNX := Lib.hid hnx; clear hnx
  go_wp2_with fail
  go_loopw [8] (fun i wr => ∃ (k : Nat) (Y : List UInt8), k ≤ K ∧ Y.length = K ∧ i = .int .i64 k ∧ Owned wr w.heap.size (.slice A2 K c2) Y ∧ (∀ q, G ≠ some q → wr.heap[q]? = w5.heap[q]?) ∧ Below w.heap.size w wr) (fun i _ => K - (intOf i).toNat)
  case atStart => exact ⟨0, bs, by omega, HKL.out.symm, rfl, HO6.out, fun _ _ => rfl, HB6.out⟩
  case round =>
    obtain ⟨k, Y, hk, hYl, rfl, hoY, hTY, hBY⟩ := hrel
    by_cases hlt : k < K
    · obtain ⟨g, cap, hv, hg1, -, -, hrow⟩ := Owned.row hoY (by omega)
      obtain ⟨r1, r2, r3⟩ := hrow k (by omega)
      have hA : A2 = some ⟨g, 0, none⟩ := by injection hv
      have hGg : G = some g := by rw [HG.out, hA]; rfl
      have hk1 : (0 : Int) ≤ (k : Int) := by omega
      have hk2 : (k : Int) < (K : Int) := by omega
      obtain ⟨u, hu⟩ : ∃ u, u = Y[k]'(by omega) := ⟨_, rfl⟩
      rw [← hu] at r1
      unfold byteV at r1
      have hfl := run_xorB u
      have hnew := (r3 (u ^^^ 255)).1
      have hbn := (r3 (u ^^^ 255)).2
      have hTn : ∀ q, G ≠ some q → (wr.setCell ⟨g, k, none⟩ (byteV (u ^^^ 255))).heap[q]? = w5.heap[q]? := fun q hq => by
        rw [Below.heap_setCell _ _ _ _ (by simp only [ne_eq]; rintro rfl; exact hq hGg)]
        exact hTY q hq
      have HN1 := Lib.hid hnew; clear hnew
      have HT1 := Lib.hid hTn; clear hTn
      have HB1 : Hid (Below w.heap.size w _) := Lib.hid (hBY.trans hbn)
      have HY1 := Lib.hid hYl
      subst hA
      clear hrow r3 hu hv hoY hTY hYl hbn hBY hGg
      go_wp2
      go_roundw
      case rel => exact ⟨k + 1, _, by omega, by rw [List.length_set]; exact HY1.out, by go_num, HN1.out, HT1.out, HB1.out⟩
      case measure => simp [intOf]; omega
    · obtain rfl : k = K := by omega
      have hy6 : OwnX wr w2.heap.size (.slice A3 nx c3) x := HY6.out.kept (fun q hq => hTY q (fun e => by have := HGL.out _ e; have := (HY6.out.lt q hq).1; omega))
      have ht6 : OwnX wr w3.heap.size (.slice A5 nx c5) x := HT6.out.kept (fun q hq => hTY q (fun e => by have := HGL.out _ e; have := (HT6.out.lt q hq).1; have := HS3.out; omega))
      have hsm := same_any A3 A5 nx nx c3 c5 wr.heap.size wr.heap.size x x wr hy6.reads ht6.reads (Nat.le_refl _) (Nat.le_refl _) (by omega)
      rw [decide_eq_true rfl] at hsm
      have HSM := Lib.hid hsm
      have HBY := Lib.hid hBY
      clear hsm hBY hy6 ht6 hTY hoY hYl
      go_wp2_with fail
      with_reducible refine HSM.out.mono ?_
      rintro e w7 ⟨rfl, hb7⟩
      have HB7 : Hid (Below w.heap.size w w7) := Lib.hid (HBY.out.trans (hb7.mono HBY.out.size))
      clear hb7
      go_wp2
      go_ret
      exact ⟨rfl, HB7.out⟩

theorem walks : Walks 4 Try.f4 All := by
  intro H enc W base args ds p hval hA hsz _
  rw [Try.params4] at hA hval hsz
  obtain ⟨v0, vs0, d0, ds0, p0, q0, hargs, rfl, rfl, h0, r0⟩ := trodAll_cons hA
  obtain ⟨rfl, rfl, rfl⟩ := trodAll_nil r0
  obtain rfl : args = #[v0] := by cases args; simp_all
  obtain ⟨A0, n0, c0, b0, rfl, hb0, hn0, hc0⟩ := open_bytesC (hval 0 _ v0 rfl rfl) h0 _ (reach_bytes hsz (j := 0) rfl rfl)
  exact walk A0 n0 c0 b0 W hb0 hn0 hc0

set_option maxRecDepth 100000 in
theorem proved : Rows.LeafDecodesSaid :=
  OpenClaim.holds_of_wide 4 Try.f4 rfl rfl rfl rfl rfl rfl rfl ⟨rfl, rfl, rfl, rfl, rfl⟩ rfl rfl rfl rfl rfl (by kernel_rfl) Try.func4 (by kernel_rfl)
    (of_decide_eq_true (by kernel_rfl)) (by unfold Func.isWrapper; first | (rw [if_pos (by decide +kernel)]; kernel_rfl) | (rw [if_neg (by decide +kernel)]; exact ⟨rfl, rfl⟩))
    (fun os started H enc _ => lifted (s := Rows.leafDecodesSpec) walks (by kernel_rfl) rfl rfl (fun H ds hl => by match ds, hl with | [d1], _ => rfl) (by kernel_rfl) Try.func4 os started H enc
      (ChangeSpec.witness6 (enc := enc) (C := Try.checked) false ⟨#[], #[.slice none 0 0], []⟩ 8 (by kernel_rfl) (by kernel_rfl) (by kernel_rfl) (by kernel_rfl)))
#print axioms proved
end Go.Proofs.Ytmnajefioehheaa.LeafDecodes
