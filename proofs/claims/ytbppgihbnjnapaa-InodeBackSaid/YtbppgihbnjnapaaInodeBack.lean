/- InodeBack: for every inode and every two numbers, what Encode tells of it Decode reads again with the same number, and with no other one, but for no inode; where Encode tells an error it tells no bytes. -/
import Derived.Test.YtbppgihbnjnapaaInAlive
namespace Go.Proofs.Ytbppgihbnjnapaa.InodeBack
set_option maxRecDepth 20000
open Go.ChangeShapes Go.WideShapes Go.ChangeAt Go.RowKit
open Go.Proofs.Ytbppgihbnjnapaa.Mem Go.Proofs.Ytbppgihbnjnapaa.Crc Go.Proofs.Ytbppgihbnjnapaa.Rec Go.Proofs.Ytbppgihbnjnapaa.Ino Go.Proofs.Ytbppgihbnjnapaa.Lift
attribute [local go_sem ↓] Go.wp_at_zero Go.wp_at_succ ldI_eq stI_eq

theorem enc_len {x : In} {n : Int} (h : (enc x n).2 = 0) : (enc x n).1.length = 128 := by
  rcases enc_ways x n with e | ⟨_, ⟨rfl, e⟩ | ⟨hm, e⟩⟩
  · rw [e] at h; simp at h
  · rw [e]; exact zer_len
  · rw [e]; exact code_len x _ (may_body hm)
theorem enc_zero {x : In} {n : Int} (h : (enc x n).2 = 0) (hk : x.kind = 0) : x = in0 ∧ (enc x n).1 = zer := by
  rcases enc_ways x n with e | ⟨_, ⟨rfl, e⟩ | ⟨hm, e⟩⟩
  · rw [e] at h; simp at h
  · rw [e]; exact ⟨rfl, rfl⟩
  · have := (of_decide_eq_true hm).1
    omega
theorem dec_far {bs : List UInt8} {n : Int} (h : ¬ (0 ≤ n ∧ n ≤ 1048576)) : dec bs n = (in0, 1) := by unfold dec; rw [if_neg h]

set_option maxRecDepth 100000 in
set_option maxHeartbeats 2000000 in
theorem walk (x : In) (A : Option Addr) (c : Nat) (n o : Int) (w : World) (h : Holds w w.heap.size A x.body.length x.body) :
    Calls Try.prog 5 #[.agg (x.c A c), .int .i64 n, .int .i64 o] w fun e w' => e = .returned (.bool true) ∧ Below w.heap.size w w' := by
  have H := Lib.hid h; clear h
  obtain ⟨L, hL⟩ : ∃ L, L = (enc x n).1 := ⟨_, rfl⟩
  obtain ⟨r, hr⟩ : ∃ r, r = (enc x n).2 := ⟨_, rfl⟩
  have henc := fun (W : World) (hb : Below w.heap.size w W) => encode_any x A c w.heap.size n W (H.out.below hb) hb.size
  rw [← hL, ← hr] at henc
  have h0 : r ≠ 0 → L = [] := fun h => by rw [hL, enc_err (hr ▸ h)]
  have h1 : r = 0 → L.length = 128 ∧ dec L n = (x, 0) := fun h => by rw [hL]; exact ⟨enc_len (hr ▸ h), dec_enc (hr ▸ h)⟩
  obtain ⟨z, hz⟩ : ∃ z, z = (dec L o).1 := ⟨_, rfl⟩
  obtain ⟨g, hg⟩ : ∃ g, g = (dec L o).2 := ⟨_, rfl⟩
  have h2 : r = 0 → o = n → z = x ∧ g = 0 := fun h e => by rw [hz, hg, e, (h1 h).2]; exact ⟨rfl, rfl⟩
  have h3 : r = 0 → x.kind = 0 → (z = x ∧ g = 0) ∨ (g ≠ 0 ∧ ¬ (0 ≤ o ∧ o ≤ 1048576)) := fun h hk => by
    obtain ⟨e1, e2⟩ := enc_zero (hr ▸ h) hk
    have e3 : L = zer := hL.trans e2
    by_cases ho : 0 ≤ o ∧ o ≤ 1048576
    · left; rw [hz, hg, e3, dec_zer o ho, e1]; exact ⟨rfl, rfl⟩
    · right; rw [hg, dec_far ho]; exact ⟨by simp, ho⟩
  have h4 : r = 0 → x.kind ≠ 0 → o ≠ n → g ≠ 0 ∧ z = in0 := fun h hk hne => by
    have := dec_other (hr ▸ h) hk hne
    rw [← hL, ← hg] at this
    exact ⟨this, by rw [hz]; exact dec_err (hg ▸ this)⟩
  have h5 : dec L o = (z, g) := by rw [hz, hg]
  have HENC := Lib.hid henc; clear henc
  have H0 := Lib.hid h0; clear h0
  have H1 := Lib.hid h1; clear h1
  have H2 := Lib.hid h2; clear h2
  have H3 := Lib.hid h3; clear h3
  have H4 := Lib.hid h4; clear h4
  have H5 := Lib.hid h5; clear h5 hL hr hz hg
  have hbx := boxI w x A c
  have l1 := hbx.load
  have HBX := Lib.hid hbx; clear hbx
  obtain ⟨W0, hW0⟩ : ∃ W0, W0 = w.alloc (.cells (x.c A c) 24) := ⟨_, rfl⟩
  rw [← hW0] at l1 HBX
  have HW0 := Lib.hid hW0; clear hW0
  go_enter Try.func5, Try.ntmps5
  go_wp2_with fail
  rw [← HW0.out]
  with_reducible refine (alive_any W0).mono ?_
  rintro e w1 ⟨rfl, hb1⟩
  have HB1 := Lib.hid (HBX.out.next hb1); clear hb1 l1 HBX
  have l1 := HB1.out.load
  go_wp2_with fail
  with_reducible refine (HENC.out w1 HB1.out.below).mono ?_
  rintro e w2 ⟨A2, c2, rfl, ho2, hb2⟩
  have HB2 := Lib.hid (HB1.out.next hb2)
  have hf := Owned.fits ho2
  have HF := Lib.hid hf.1
  have HO2 := Lib.hid ho2
  have HSZ : Hid (w.heap.size ≤ w1.heap.size) := Lib.hid HB1.out.below.size
  clear hb2 ho2 hf HENC HB1 l1
  by_cases hr : r = 0
  · subst hr
    obtain ⟨hl, hd⟩ := H1.out rfl
    rw [hl] at HF HO2 ⊢
    have hdec := decode_any A2 128 c2 w2.heap.size L n w2 (Owned.reads HO2.out) HF.out (Nat.le_refl _)
    rw [hd] at hdec
    have HDEC := Lib.hid hdec; clear hdec hd
    have HL := Lib.hid hl; clear hl
    go_wp2_with fail
    with_reducible refine HDEC.out.mono ?_
    rintro e w3 ⟨A3, c3, rfl, ho3, hb3⟩
    have l3 := run_stI_new w3 x A3 c3
    obtain ⟨w4, hw4⟩ : ∃ y, y = w3.alloc (.cells (x.c A3 c3) 24) := ⟨_, rfl⟩
    have HB4 : Hid (BoxI w x A c w4) := Lib.hid (hw4 ▸ (HB2.out.next hb3).next ((Below.refl _ _).alloc (Nat.le_refl _) _))
    have HV4 : Hid (VarI w4 w3.heap.size x A3 c3) := Lib.hid (hw4 ▸ VarI.new w3 x A3 c3)
    have HO4 := Lib.hid (show Owned w4 w1.heap.size (.slice A2 128 c2) L from hw4 ▸ Owned.keep HO2.out (hb3.alloc hb3.size _) (Nat.le_refl _))
    have HY4 := Lib.hid (show Holds w4 w4.heap.size A3 x.body.length x.body from Owned.reads (show Owned w4 w2.heap.size (.slice A3 x.body.length c3) x.body from hw4 ▸ Owned.keep ho3 ((Below.refl _ _).alloc (Nat.le_refl _) _) (Nat.le_refl _)))
    rw [← hw4] at l3
    clear hw4 ho3 hb3 HDEC HB2 HO2
    have hdec := decode_any A2 128 c2 w4.heap.size L o w4 (Owned.reads HO4.out) HF.out (Nat.le_refl _)
    rw [H5.out] at hdec
    have HDEC := Lib.hid hdec; clear hdec
    go_wp2_with fail
    with_reducible refine HDEC.out.mono ?_
    rintro e w5 ⟨A5, c5, rfl, ho5, hb5⟩
    have l5 := run_stI_new w5 z A5 c5
    obtain ⟨w6, hw6⟩ : ∃ y, y = w5.alloc (.cells (z.c A5 c5) 24) := ⟨_, rfl⟩
    have HB6 : Hid (BoxI w x A c w6) := Lib.hid (hw6 ▸ (HB4.out.next hb5).next ((Below.refl _ _).alloc (Nat.le_refl _) _))
    have HV6 : Hid (VarI w6 w3.heap.size x A3 c3) := Lib.hid (hw6 ▸ (HV4.out.keep hb5 HV4.out.lt).alloc _)
    have HZ6 : Hid (VarI w6 w5.heap.size z A5 c5) := Lib.hid (hw6 ▸ VarI.new w5 z A5 c5)
    have HY6 : Hid (Holds w6 w6.heap.size A3 x.body.length x.body) := Lib.hid (by rw [hw6]; exact (((HY4.out.below hb5).more hb5.size).below ((Below.refl _ _).alloc (Nat.le_refl _) _)).more (by simp))
    have HT6 : Hid (Holds w6 w6.heap.size A5 z.body.length z.body) := Lib.hid (Owned.reads (show Owned w6 w4.heap.size (.slice A5 z.body.length c5) z.body from hw6 ▸ Owned.keep ho5 ((Below.refl _ _).alloc (Nat.le_refl _) _) (Nat.le_refl _)))
    rw [← hw6] at l5
    clear hw6 ho5 hb5 HDEC HB4 HO4 HV4 HY4 l3
    have k1 := HB6.out.load
    have k2 := HV6.out.load
    have hsm := same_any x x A A3 c c3 w.heap.size w6.heap.size w6 (H.out.below HB6.out.below) HY6.out HB6.out.below.size (Nat.le_refl _)
    rw [decide_eq_true rfl] at hsm
    have HSM := Lib.hid hsm; clear hsm
    go_wp2_with fail
    with_reducible refine HSM.out.mono ?_
    rintro e w7 ⟨rfl, hb7⟩
    have HB7 := Lib.hid (HB6.out.next hb7)
    have HZ7 := Lib.hid (HZ6.out.keep hb7 HZ6.out.lt)
    have HT7 : Hid (Holds w7 w7.heap.size A5 z.body.length z.body) := Lib.hid ((HT6.out.below hb7).more hb7.size)
    have k3 := HB7.out.load
    have k4 := HZ7.out.load
    obtain ⟨q0, -⟩ := HB7.out.row.cells
    clear hb7 HSM HB6 HZ6 HT6 HY6 HV6 k1 k2 l5
    have hsm := fun (hh : Holds w7 w7.heap.size A5 z.body.length z.body) => same_any x z A A5 c c5 w.heap.size w7.heap.size w7 (H.out.below HB7.out.below) hh
    have HSM := Lib.hid hsm; clear hsm
    by_cases hk : x.kind = 0
    · have h3 := H3.out (by trivial) hk
      rw [hk] at q0
      have HK := Lib.hid hk; clear hk
      rcases h3 with ⟨hz, hg⟩ | ⟨hg, ho⟩
      · subst hz hg
        have hsm := HSM.out HT7.out HB7.out.below.size (Nat.le_refl _)
        rw [decide_eq_true rfl] at hsm
        have HS2 := Lib.hid hsm; clear hsm HSM
        go_wp2_with fail
        with_reducible refine HS2.out.mono ?_
        rintro e w8 ⟨rfl, hb8⟩
        have HB8 : Hid (Below w.heap.size w w8) := Lib.hid (HB7.out.next hb8).below
        clear hb8
        go_wp2
        go_ret
        exact ⟨rfl, HB8.out⟩
      · have hgb : (g == 0) = false := beq_false_of_ne hg
        have HO := Lib.hid ho; clear ho hg
        rcases Int.lt_or_le o 0 with h0 | h0
        · go_wp2
          go_ret
          exact ⟨rfl, HB7.out.below⟩
        · have h1 : 1048576 < o := by have := HO.out; omega
          go_wp2
          go_ret
          exact ⟨rfl, HB7.out.below⟩
    · have hkb : (x.kind == 0) = false := beq_false_of_ne hk
      by_cases hon : o = n
      · obtain ⟨hz, hg⟩ := H2.out (by trivial) hon
        have hsm := HSM.out
        subst hz hg
        have hsm := hsm HT7.out HB7.out.below.size (Nat.le_refl _)
        rw [decide_eq_true rfl] at hsm
        have HS2 := Lib.hid hsm; clear hsm HSM
        obtain ⟨kk, hkk⟩ : ∃ kk, kk = z.kind := ⟨_, rfl⟩
        rw [← hkk] at q0 hkb hk
        clear hkk
        subst hon
        go_wp2_with fail
        with_reducible refine HS2.out.mono ?_
        rintro e w8 ⟨rfl, hb8⟩
        have HB8 : Hid (Below w.heap.size w w8) := Lib.hid (HB7.out.next hb8).below
        clear hb8
        go_wp2
        go_ret
        exact ⟨rfl, HB8.out⟩
      · obtain ⟨hg, hz⟩ := H4.out (by trivial) hk hon
        subst hz
        have hgb : (g != 0) = true := bne_iff_ne.2 hg
        have hob : (o == n) = false := beq_false_of_ne hon
        obtain ⟨kk, hkk⟩ : ∃ kk, kk = x.kind := ⟨_, rfl⟩
        rw [← hkk] at q0 hkb hk
        clear hkk HSM
        go_wp2_with fail
        with_reducible refine (rnil_any in0 A5 c5 w7).mono ?_
        rintro e w8 ⟨rfl, hb8⟩
        rw [nil_in0]
        have HB8 : Hid (Below w.heap.size w w8) := Lib.hid (HB7.out.next hb8).below
        clear hb8
        go_wp2
        go_ret
        exact ⟨rfl, HB8.out⟩
  · have hl := H0.out hr
    subst hl
    have hrb : (r != 0) = true := bne_iff_ne.2 hr
    have HB3 := HB2
    go_wp2
    go_ret
    exact ⟨rfl, HB3.out.below⟩

theorem walks : Walks 5 Try.f5 All := by
  intro H enc W base args ds p hval hA hsz _
  rw [Try.params5] at hA hval hsz
  obtain ⟨v0, vs0, d0, ds0, p0, q0, hargs, rfl, rfl, h0, r0⟩ := trodAll_cons hA
  obtain ⟨v1, vs1, d1, ds1, p1, q1, rfl, rfl, rfl, h1, r1⟩ := trodAll_cons r0
  obtain ⟨v2, vs2, d2, ds2, p2, q2, rfl, rfl, rfl, h2, r2⟩ := trodAll_cons r1
  obtain ⟨rfl, rfl, rfl⟩ := trodAll_nil r2
  obtain rfl : args = #[v0, v1, v2] := by cases args; simp_all
  obtain ⟨x, A, c, rfl, hb, hn, hc⟩ := inode_open (hval 0 _ v0 rfl rfl) h0 (inode_weights hsz (j := 0) rfl rfl)
  obtain ⟨x1, rfl, rfl, rfl, hx1⟩ := open_int Try.underlying3 (hval 1 _ v1 rfl rfl) h1
  have bx1 := bounds_i64 hx1
  obtain ⟨x2, rfl, rfl, rfl, hx2⟩ := open_int Try.underlying3 (hval 2 _ v2 rfl rfl) h2
  have bx2 := bounds_i64 hx2
  exact walk x A c x1 x2 W hb

set_option maxRecDepth 100000 in
theorem proved : Rows.InodeBackSaid :=
  OpenClaim.holds_of_wide 5 Try.f5 rfl rfl rfl rfl rfl rfl rfl ⟨rfl, rfl, rfl, rfl, rfl⟩ rfl rfl rfl rfl rfl (by kernel_rfl) Try.func5 (by kernel_rfl)
    (of_decide_eq_true (by kernel_rfl)) (by unfold Func.isWrapper; first | (rw [if_pos (by decide +kernel)]; kernel_rfl) | (rw [if_neg (by decide +kernel)]; exact ⟨rfl, rfl⟩))
    (fun os started H enc _ => lifted (s := Rows.inodeBackSpec) walks (by kernel_rfl) rfl rfl (fun H ds hl => by match ds, hl with | [d1, d2, d3], _ => rfl) (by kernel_rfl) Try.func5 os started H enc
      (ChangeSpec.witness6 (enc := enc) (C := Try.checked) false ⟨#[], #[.agg #[.int .i64 0, .int .i64 0, .int .i64 0, .bool false, .int .i64 0, .slice none 0 0], .int .i64 0, .int .i64 0], []⟩ 8 (by kernel_rfl) (by kernel_rfl) (by kernel_rfl) (by kernel_rfl)))
#print axioms proved
end Go.Proofs.Ytbppgihbnjnapaa.InodeBack
