/- InodeAgain: for every list of bytes and every number, an inode that is read out of the bytes makes these very bytes again, and may be or is none; and where none is read no inode is told. -/
import Derived.Test.YtbppgihbnjnapaaInAlive
namespace Go.Proofs.Ytbppgihbnjnapaa.InodeAgain
set_option maxRecDepth 20000
open Go.ChangeShapes Go.WideShapes Go.ChangeAt Go.RowKit
open Go.Proofs.Ytbppgihbnjnapaa.Mem Go.Proofs.Ytbppgihbnjnapaa.Crc Go.Proofs.Ytbppgihbnjnapaa.Rec Go.Proofs.Ytbppgihbnjnapaa.Ino Go.Proofs.Ytbppgihbnjnapaa.Lift
attribute [local go_sem ↓] Go.wp_at_zero Go.wp_at_succ ldI_eq stI_eq

set_option maxRecDepth 100000 in
set_option maxHeartbeats 1000000 in
theorem walk (A : Option Addr) (m c : Nat) (bs : List UInt8) (n : Int) (w : World) (h : Holds w w.heap.size A m bs) (hc : m ≤ c) (_ : c ≤ 140737488351232) (_ : -9223372036854775808 ≤ n) (_ : n ≤ 9223372036854775807) :
    Calls Try.prog 7 #[.slice A m c, .int .i64 n] w fun e w' => e = .returned (.bool true) ∧ Below w.heap.size w w' := by
  have H := Lib.hid h; clear h
  obtain ⟨x, hx⟩ : ∃ x, x = (dec bs n).1 := ⟨_, rfl⟩
  obtain ⟨r, hr⟩ : ∃ r, r = (dec bs n).2 := ⟨_, rfl⟩
  have hx0 : r ≠ 0 → x = in0 := fun h => by rw [hx]; exact dec_err (hr ▸ h)
  have hx1 : r = 0 → enc x n = (bs, 0) ∧ (x.kind = 0 ∨ x.may = true) := fun h => by rw [hx]; exact enc_dec (hr ▸ h)
  have hdec := fun (W : World) (hb : Below w.heap.size w W) => decode_any A m c w.heap.size bs n W (H.out.below hb) hc hb.size
  rw [← hx, ← hr] at hdec
  have HX0 := Lib.hid hx0; clear hx0
  have HX1 := Lib.hid hx1; clear hx1 hx hr
  have HDEC := Lib.hid hdec; clear hdec
  go_enter Try.func7, Try.ntmps7
  go_wp2_with fail
  with_reducible refine (alive_any w).mono ?_
  rintro e w1 ⟨rfl, hb1⟩
  have HB1 := Lib.hid hb1; clear hb1
  go_wp2_with fail
  with_reducible refine (HDEC.out w1 HB1.out).mono ?_
  rintro e w2 ⟨A2, c2, rfl, ho2, hb2⟩
  have l2 := run_stI_new w2 x A2 c2
  obtain ⟨w3, hw3⟩ : ∃ y, y = w2.alloc (.cells (x.c A2 c2) 24) := ⟨_, rfl⟩
  have HV3 : Hid (VarI w3 w2.heap.size x A2 c2) := Lib.hid (hw3 ▸ VarI.new w2 x A2 c2)
  have HB3 : Hid (Below w.heap.size w w3) := Lib.hid (hw3 ▸ (HB1.out.trans (hb2.mono HB1.out.size)).alloc (Nat.le_trans HB1.out.size hb2.size) _)
  have HO3 := Lib.hid (show Owned w3 w1.heap.size (.slice A2 x.body.length c2) x.body from hw3 ▸ Owned.keep ho2 ((Below.refl _ _).alloc (Nat.le_refl _) _) (Nat.le_refl _))
  rw [← hw3] at l2
  have l3 := HV3.out.load
  clear hw3 ho2 hb2 HDEC HB1
  by_cases hr : r = 0
  · subst hr
    obtain ⟨he, hk⟩ := HX1.out rfl
    have henc := encode_any x A2 c2 w3.heap.size n w3 (Owned.reads HO3.out) (Nat.le_refl _)
    rw [he] at henc
    have HENC := Lib.hid henc; clear henc he
    have HK := Lib.hid hk; clear hk
    go_wp2_with fail
    with_reducible refine HENC.out.mono ?_
    rintro e w4 ⟨A4, c4, rfl, ho4, hb4⟩
    have HB4 : Hid (Below w.heap.size w w4) := Lib.hid (HB3.out.trans (hb4.mono HB3.out.size))
    have HV4 := Lib.hid (HV3.out.keep hb4 HV3.out.lt)
    have t1 := run_text w4 _ A4 bs.length c4 bs (Owned.reads ho4)
    have t2 := run_text w4 w.heap.size A m c bs (H.out.below HB4.out)
    obtain ⟨BB, hBB⟩ : ∃ B : ByteArray, B = ⟨bs.toArray⟩ := ⟨_, rfl⟩
    rw [← hBB] at t1 t2
    have l4 := HV4.out.load
    obtain ⟨q0, -⟩ := HV4.out.cells
    clear ho4 hb4 hBB HENC HV3 HO3 l3
    by_cases hk0 : x.kind = 0
    · rw [hk0] at q0
      clear hk0
      go_wp2
      go_ret
      exact ⟨rfl, HB4.out⟩
    · have hm : x.may = true := HK.out.resolve_left hk0
      have hkb : (x.kind == 0) = false := beq_false_of_ne hk0
      obtain ⟨kk, hkk⟩ : ∃ kk, kk = x.kind := ⟨_, rfl⟩
      rw [← hkk] at q0 hkb hk0
      have HM := Lib.hid hm; clear hm hkk
      go_wp2_with fail
      with_reducible refine (check_any x A2 c2 w4).mono ?_
      rintro e w5 ⟨rfl, hb5⟩
      rw [chk_yes HM.out]
      have HB5 : Hid (Below w.heap.size w w5) := Lib.hid (HB4.out.trans (hb5.mono HB4.out.size))
      clear hb5
      go_wp2
      go_ret
      exact ⟨rfl, HB5.out⟩
  · have hx := HX0.out hr
    subst hx
    have hrb : (r != 0) = true := bne_iff_ne.2 hr
    go_wp2_with fail
    with_reducible refine (rnil_any in0 A2 c2 w3).mono ?_
    rintro e w4 ⟨rfl, hb4⟩
    rw [nil_in0]
    have HB4 : Hid (Below w.heap.size w w4) := Lib.hid (HB3.out.trans (hb4.mono HB3.out.size))
    clear hb4
    go_wp2
    go_ret
    exact ⟨rfl, HB4.out⟩

theorem walks : Walks 7 Try.f7 All := by
  intro H enc W base args ds p hval hA hsz _
  rw [Try.params7] at hA hval hsz
  obtain ⟨v0, vs0, d0, ds0, p0, q0, hargs, rfl, rfl, h0, r0⟩ := trodAll_cons hA
  obtain ⟨v1, vs1, d1, ds1, p1, q1, rfl, rfl, rfl, h1, r1⟩ := trodAll_cons r0
  obtain ⟨rfl, rfl, rfl⟩ := trodAll_nil r1
  obtain rfl : args = #[v0, v1] := by cases args; simp_all
  obtain ⟨A, n, c, bs, rfl, hb, hn, hc⟩ := open_bytesC (hval 0 _ v0 rfl rfl) h0 _ (reach_bytes hsz (j := 0) rfl rfl)
  obtain ⟨x1, rfl, rfl, rfl, hx1⟩ := open_int Try.underlying3 (hval 1 _ v1 rfl rfl) h1
  have bx1 := bounds_i64 hx1
  exact walk A n c bs x1 W hb hn hc (by omega) (by omega)

set_option maxRecDepth 100000 in
theorem proved : Rows.InodeAgainSaid :=
  OpenClaim.holds_of_wide 7 Try.f7 rfl rfl rfl rfl rfl rfl rfl ⟨rfl, rfl, rfl, rfl, rfl⟩ rfl rfl rfl rfl rfl (by kernel_rfl) Try.func7 (by kernel_rfl)
    (of_decide_eq_true (by kernel_rfl)) (by unfold Func.isWrapper; first | (rw [if_pos (by decide +kernel)]; kernel_rfl) | (rw [if_neg (by decide +kernel)]; exact ⟨rfl, rfl⟩))
    (fun os started H enc _ => lifted (s := Rows.inodeAgainSpec) walks (by kernel_rfl) rfl rfl (fun H ds hl => by match ds, hl with | [d1, d2], _ => rfl) (by kernel_rfl) Try.func7 os started H enc
      (ChangeSpec.witness6 (enc := enc) (C := Try.checked) false ⟨#[], #[.slice none 0 0, .int .i64 0], []⟩ 8 (by kernel_rfl) (by kernel_rfl) (by kernel_rfl) (by kernel_rfl)))
#print axioms proved
end Go.Proofs.Ytbppgihbnjnapaa.InodeAgain
