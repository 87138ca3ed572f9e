/- InodeDecodes: for every list of bytes and every number, the program's Decode of a copy and the document's Decode answer the same inode and the same error; and the inode that was read stays what it was when the copy's bytes are turned behind the call. -/
import Derived.Test.YtbppgihbnjnapaaInAlive
import Derived.Test.YtbppgihbnjnapaaInRDo
namespace Go.Proofs.Ytbppgihbnjnapaa.InodeDecodes
set_option maxRecDepth 20000
open Go.ChangeShapes Go.WideShapes Go.ChangeAt Go.RowKit
open Go.Proofs.Ytbppgihbnjnapaa.Mem Go.Proofs.Ytbppgihbnjnapaa.Crc Go.Proofs.Ytbppgihbnjnapaa.Rec Go.Proofs.Ytbppgihbnjnapaa.Ino Go.Proofs.Ytbppgihbnjnapaa.Lift

def xorB (x y : Value) : Sem Value := binOp .xor 5 x y
theorem xorB_eq (x y : Value) : binOp .xor 5 x y = xorB x y := rfl
theorem flip_u8 (u : UInt8) : Go.bits .xor .u8 (u.toNat : Int) 255 = ((UInt8.ofNat (u.toNat ^^^ 255)).toNat : Int) := by
  have h := u.toNat_lt
  have e := u8_xor_nat u.toNat 255 (by omega) (by omega)
  have hx : u.toNat ^^^ 255 < 2 ^ 8 := Nat.xor_lt_two_pow (by omega) (by omega)
  rw [show (255 : Int) = ((255 : Nat) : Int) from rfl, e, UInt8.toNat_ofNat']
  congr 1
  omega
theorem run_xorB (u : UInt8) (W : World) : (xorB (.int .u8 (u.toNat : Int)) (.int .u8 255)).run Try.prog W = .ok (.int .u8 ((u ^^^ 255).toNat : Int)) W := by
  have h : (binOp .xor 5 (.int .u8 (u.toNat : Int)) (.int .u8 255)).run Try.prog W = .ok (.int .u8 (Go.bits .xor .u8 (u.toNat : Int) 255)) W := rfl
  rw [flip_u8] at h
  rw [show (u ^^^ 255).toNat = (UInt8.ofNat (u.toNat ^^^ 255)).toNat by
    rw [UInt8.toNat_ofNat', UInt8.toNat_xor]
    have hx : u.toNat ^^^ 255 < 2 ^ 8 := Nat.xor_lt_two_pow u.toNat_lt (by omega)
    rw [Nat.mod_eq_of_lt hx]
    rfl]
  exact h
attribute [local go_sem ↓] Go.wp_at_zero Go.wp_at_succ ldI_eq stI_eq xorB_eq

/-- Bytes of one's own behind stores into other blocks. -/
theorem Owned.far {w w' : World} {base : Nat} {v : Value} {bs : List UInt8} {G : Option Nat} (h : Owned w base v bs) (hk : ∀ k, G ≠ some k → w'.heap[k]? = w.heap[k]?) (hne : ∀ k, v.ownBlock = some k → G ≠ some k) : Owned w' base v bs := by
  obtain ⟨h1, h2⟩ := h
  refine ⟨h1, ?_⟩
  rcases h2 with h2 | ⟨b, cap, cur, e, hg, hh, r⟩
  · exact .inl h2
  · exact .inr ⟨b, cap, cur, e, hg, (hk b (hne b (by rw [e]; rfl))).trans hh, r⟩
theorem Owned.blockLt {w : World} {base : Nat} {v : Value} {bs : List UInt8} (h : Owned w base v bs) : ∀ k, v.ownBlock = some k → k < w.heap.size := fun k hk => (World.ownsRow.lt h k hk).2

set_option maxRecDepth 100000 in
set_option maxHeartbeats 2000000 in
theorem walk (A : Option Addr) (m c : Nat) (bs : List UInt8) (n : Int) (w : World) (h : Holds w w.heap.size A m bs) (hc : m ≤ c) (hm : c ≤ 140737488351232) :
    Calls Try.prog 4 #[.slice A m c, .int .i64 n] w fun e w' => e = .returned (.bool true) ∧ Below w.heap.size w w' := by
  obtain rfl : bs.length = m := h.1
  have H := Lib.hid h; clear h
  obtain ⟨x, hx⟩ : ∃ x, x = (dec bs n).1 := ⟨_, rfl⟩
  obtain ⟨r, hr⟩ : ∃ r, r = (dec bs n).2 := ⟨_, rfl⟩
  have hE : dec bs n = (x, r) := by rw [hx, hr]
  have HE := Lib.hid hE; clear hE hx hr
  go_enter Try.func4, Try.ntmps4
  go_wp2_with fail
  with_reducible refine (alive_any w).mono ?_
  rintro e w1 ⟨rfl, hb1⟩
  have ho := owned_made w1 [] w.heap.size hb1.size (by unfold maxLen; simp)
  have HB1 := Lib.hid hb1; clear hb1
  have HO1 := Lib.hid ho; clear ho
  go_wp2_with (at_builtin; refine wpList_addall rfl (.tmp 13) (.tmp 14) rfl w.heap.size _ [] rfl HO1.out w.heap.size A bs.length c bs rfl ?c1 ?c2 ?c3 ?_)
  case c1 => exact H.out.below (HB1.out.alloc HB1.out.size _)
  case c2 => simp; omega
  case c3 => have := HB1.out.size; simp; omega
  intro v w2 ho2 hb2
  have hb2' : Below w.heap.size w w2 := (HB1.out.alloc HB1.out.size _).trans hb2
  obtain ⟨A2, c2, rfl, -⟩ := Owned.holds ho2
  have hdec := decode_any A2 bs.length c2 w2.heap.size bs n w2 (Owned.reads ho2) (Owned.fits ho2).1 (Nat.le_refl _)
  rw [HE.out] at hdec
  have HDEC := Lib.hid hdec; clear hdec
  have HO2 := Lib.hid ho2
  have HB2 := Lib.hid hb2'
  clear hb2 hb2' ho2 HO1 HB1
  go_wp2_with fail
  with_reducible refine HDEC.out.mono ?_
  rintro e w3 ⟨A3, c3, rfl, ho3, hb3⟩
  have l3 := run_stI_new w3 x A3 c3
  obtain ⟨w4, hw4⟩ : ∃ y, y = w3.alloc (.cells (x.c A3 c3) 24) := ⟨_, rfl⟩
  have HV4 : Hid (VarI w4 w3.heap.size x A3 c3) := Lib.hid (hw4 ▸ VarI.new w3 x A3 c3)
  have HB4 : Hid (Below w.heap.size w w4) := Lib.hid (hw4 ▸ (HB2.out.trans (hb3.mono HB2.out.size)).alloc (Nat.le_trans HB2.out.size hb3.size) _)
  have HO4 := Lib.hid (show Owned w4 w.heap.size (.slice A2 bs.length c2) bs from hw4 ▸ Owned.keep HO2.out (hb3.alloc hb3.size _) (Nat.le_refl _))
  have HY4 := Lib.hid (show Owned w4 w2.heap.size (.slice A3 x.body.length c3) x.body from hw4 ▸ Owned.keep ho3 ((Below.refl _ _).alloc (Nat.le_refl _) _) (Nat.le_refl _))
  have HS3 : Hid (w2.heap.size ≤ w3.heap.size) := Lib.hid hb3.size
  rw [← hw4] at l3
  have hdec := rdecode_any A bs.length c w.heap.size bs n w4 (H.out.below HB4.out) hc HB4.out.size
  rw [HE.out] at hdec
  clear hw4 ho3 hb3 HDEC HB2
  have HDEC := Lib.hid hdec; clear hdec
  go_wp2_with fail
  with_reducible refine HDEC.out.mono ?_
  rintro e w5 ⟨A5, c5, rfl, ho5, hb5⟩
  have l5 := run_stI_new w5 x A5 c5
  obtain ⟨w6, hw6⟩ : ∃ y, y = w5.alloc (.cells (x.c A5 c5) 24) := ⟨_, rfl⟩
  have HV6 : Hid (VarI w6 w3.heap.size x A3 c3) := Lib.hid (hw6 ▸ (HV4.out.keep hb5 HV4.out.lt).alloc _)
  have HZ6 : Hid (VarI w6 w5.heap.size x A5 c5) := Lib.hid (hw6 ▸ VarI.new w5 x A5 c5)
  have HB6 : Hid (Below w.heap.size w w6) := Lib.hid (hw6 ▸ (HB4.out.trans (hb5.mono HB4.out.size)).alloc (Nat.le_trans HB4.out.size hb5.size) _)
  have HO6 := Lib.hid (show Owned w6 w.heap.size (.slice A2 bs.length c2) bs from hw6 ▸ Owned.keep HO4.out (hb5.alloc hb5.size _) (Nat.le_refl _))
  have HY6 := Lib.hid (show Owned w6 w2.heap.size (.slice A3 x.body.length c3) x.body from hw6 ▸ Owned.keep HY4.out (hb5.alloc hb5.size _) (Nat.le_refl _))
  have HT6 := Lib.hid (show Owned w6 w4.heap.size (.slice A5 x.body.length c5) x.body from hw6 ▸ Owned.keep ho5 ((Below.refl _ _).alloc (Nat.le_refl _) _) (Nat.le_refl _))
  have HS5 : Hid (w2.heap.size ≤ w5.heap.size) := Lib.hid (by have := HS3.out; have := HV4.out.lt; have := hb5.size; omega)
  have HS4 : Hid (w2.heap.size ≤ w4.heap.size) := Lib.hid (by have := HS3.out; have := HV4.out.lt; omega)
  rw [← hw6] at l5
  obtain ⟨G, hG⟩ : ∃ G, G = (Value.slice A2 bs.length c2).ownBlock := ⟨_, rfl⟩
  have hGl : ∀ k, G = some k → k < w2.heap.size := fun k hk => Owned.blockLt HO2.out k (hG ▸ hk)
  have HGL := Lib.hid hGl; clear hGl
  have HG := Lib.hid hG; clear hG
  clear hw6 ho5 hb5 HDEC HB4 HO4 HV4 HY4 l3 HO2
  obtain ⟨K, hK⟩ : ∃ K, K = bs.length := ⟨_, rfl⟩
  rw [← hK] at HO6 HG ⊢
  have hK2 : K ≤ 140737488351232 := by omega
  have HKL := Lib.hid hK; clear hK hm hc
  go_wp2_with fail
  clear l5
  go_loopw [10] (fun i wr => ∃ (k : Nat) (Y : List UInt8), k ≤ K ∧ Y.length = K ∧ i = .int .i64 k ∧ Owned wr w.heap.size (.slice A2 K c2) Y ∧ (∀ q, G ≠ some q → wr.heap[q]? = w6.heap[q]?) ∧ Below w.heap.size w wr) (fun i _ => K - (intOf i).toNat)
  case atStart => exact ⟨0, bs, by omega, HKL.out.symm, rfl, HO6.out, fun _ _ => rfl, HB6.out⟩
  case round =>
    obtain ⟨k, Y, hk, hYl, rfl, hoY, hTY, hBY⟩ := hrel
    by_cases hlt : k < K
    · obtain ⟨g, cap, hv, hg1, -, -, hrow⟩ := Owned.row hoY (by omega)
      obtain ⟨r1, r2, r3⟩ := hrow k (by omega)
      have hA : A2 = some ⟨g, 0, none⟩ := by injection hv
      have hGg : G = some g := by rw [HG.out, hA]; rfl
      have hk1 : (0 : Int) ≤ (k : Int) := by omega
      have hk2 : (k : Int) < (K : Int) := by omega
      obtain ⟨u, hu⟩ : ∃ u, u = Y[k]'(by omega) := ⟨_, rfl⟩
      rw [← hu] at r1
      unfold byteV at r1
      have hfl := run_xorB u
      have hnew := (r3 (u ^^^ 255)).1
      have hbn := (r3 (u ^^^ 255)).2
      have hTn : ∀ q, G ≠ some q → (wr.setCell ⟨g, k, none⟩ (byteV (u ^^^ 255))).heap[q]? = w6.heap[q]? := fun q hq => by
        rw [Below.heap_setCell _ _ _ _ (by simp only [ne_eq]; rintro rfl; exact hq hGg)]
        exact hTY q hq
      have HN1 := Lib.hid hnew; clear hnew
      have HT1 := Lib.hid hTn; clear hTn
      have HB1 : Hid (Below w.heap.size w _) := Lib.hid (hBY.trans hbn)
      have HY1 := Lib.hid hYl
      subst hA
      clear hrow r3 hu hv hoY hTY hYl hbn hBY hGg
      go_wp2
      go_roundw
      case rel => exact ⟨k + 1, _, by omega, by rw [List.length_set]; exact HY1.out, by go_num, HN1.out, HT1.out, HB1.out⟩
      case measure => simp [intOf]; omega
    · obtain rfl : k = K := by omega
      have hv6 : VarI wr w3.heap.size x A3 c3 := (hTY _ (fun e => by have := HGL.out _ e; have := HS3.out; omega)).trans HV6.out
      have hz6 : VarI wr w5.heap.size x A5 c5 := (hTY _ (fun e => by have := HGL.out _ e; have := HS5.out; omega)).trans HZ6.out
      have hy6 : Owned wr w2.heap.size (.slice A3 x.body.length c3) x.body := Owned.far HY6.out hTY (fun q hq e => by have := HGL.out _ e; have := Owned.base_le HY6.out q hq; omega)
      have ht6 : Owned wr w4.heap.size (.slice A5 x.body.length c5) x.body := Owned.far HT6.out hTY (fun q hq e => by have := HGL.out _ e; have := Owned.base_le HT6.out q hq; have := HS4.out; omega)
      have k1 := hv6.load
      have k2 := hz6.load
      have hsm := same_any x x A3 A5 c3 c5 wr.heap.size wr.heap.size wr (Owned.reads hy6) (Owned.reads ht6) (Nat.le_refl _) (Nat.le_refl _)
      rw [decide_eq_true rfl] at hsm
      have HSM := Lib.hid hsm
      have HBY := Lib.hid hBY
      clear hsm hBY hv6 hz6 hy6 ht6 hTY hoY hYl
      go_wp2_with fail
      with_reducible refine HSM.out.mono ?_
      rintro e w7 ⟨rfl, hb7⟩
      have HB7 : Hid (Below w.heap.size w w7) := Lib.hid (HBY.out.trans (hb7.mono HBY.out.size))
      clear hb7
      go_wp2
      go_ret
      exact ⟨rfl, HB7.out⟩

theorem walks : Walks 4 Try.f4 All := by
  intro H enc W base args ds p hval hA hsz _
  rw [Try.params4] at hA hval hsz
  obtain ⟨v0, vs0, d0, ds0, p0, q0, hargs, rfl, rfl, h0, r0⟩ := trodAll_cons hA
  obtain ⟨v1, vs1, d1, ds1, p1, q1, rfl, rfl, rfl, h1, r1⟩ := trodAll_cons r0
  obtain ⟨rfl, rfl, rfl⟩ := trodAll_nil r1
  obtain rfl : args = #[v0, v1] := by cases args; simp_all
  obtain ⟨A, n, c, bs, rfl, hb, hn, hc⟩ := open_bytesC (hval 0 _ v0 rfl rfl) h0 _ (reach_bytes hsz (j := 0) rfl rfl)
  obtain ⟨x1, rfl, rfl, rfl, hx1⟩ := open_int Try.underlying3 (hval 1 _ v1 rfl rfl) h1
  have bx1 := bounds_i64 hx1
  exact walk A n c bs x1 W hb hn hc

set_option maxRecDepth 100000 in
theorem proved : Rows.InodeDecodesSaid :=
  OpenClaim.holds_of_wide 4 Try.f4 rfl rfl rfl rfl rfl rfl rfl ⟨rfl, rfl, rfl, rfl, rfl⟩ rfl rfl rfl rfl rfl (by kernel_rfl) Try.func4 (by kernel_rfl)
    (of_decide_eq_true (by kernel_rfl)) (by unfold Func.isWrapper; first | (rw [if_pos (by decide +kernel)]; kernel_rfl) | (rw [if_neg (by decide +kernel)]; exact ⟨rfl, rfl⟩))
    (fun os started H enc _ => lifted (s := Rows.inodeDecodesSpec) walks (by kernel_rfl) rfl rfl (fun H ds hl => by match ds, hl with | [d1, d2], _ => rfl) (by kernel_rfl) Try.func4 os started H enc
      (ChangeSpec.witness6 (enc := enc) (C := Try.checked) false ⟨#[], #[.slice none 0 0, .int .i64 0], []⟩ 8 (by kernel_rfl) (by kernel_rfl) (by kernel_rfl) (by kernel_rfl)))
#print axioms proved
end Go.Proofs.Ytbppgihbnjnapaa.InodeDecodes
