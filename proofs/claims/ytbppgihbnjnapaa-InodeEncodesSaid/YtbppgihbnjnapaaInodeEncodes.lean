/- InodeEncodes: for every inode and every number, the program's Encode of a copy and the document's Encode answer the same bytes and the same error, Check answers the same, and the copy is unchanged. -/
import Derived.Test.YtbppgihbnjnapaaInAlive
import Derived.Test.YtbppgihbnjnapaaInRCode
import Derived.Test.YtbppgihbnjnapaaRegC
namespace Go.Proofs.Ytbppgihbnjnapaa.InodeEncodes
set_option maxRecDepth 20000
open Go.ChangeShapes Go.WideShapes Go.ChangeAt Go.RowKit
open Go.Proofs.Ytbppgihbnjnapaa.Mem Go.Proofs.Ytbppgihbnjnapaa.Crc Go.Proofs.Ytbppgihbnjnapaa.Rec Go.Proofs.Ytbppgihbnjnapaa.Ino Go.Proofs.Ytbppgihbnjnapaa.Lift Go.Proofs.Ytbppgihbnjnapaa.Reg
attribute [local go_sem ↓] Go.wp_at_zero Go.wp_at_succ ldI_eq stI_eq

set_option maxRecDepth 100000 in
set_option maxHeartbeats 2000000 in
theorem walk (x : In) (A : Option Addr) (c : Nat) (n : Int) (w : World) (h : Holds w w.heap.size A x.body.length x.body) (hl : x.body.length ≤ 140737488351232) :
    Calls Try.prog 3 #[.agg (x.c A c), .int .i64 n] w fun e w' => e = .returned (.bool true) ∧ Below w.heap.size w w' := by
  have H := Lib.hid h; clear h
  have HLL := Lib.hid hl; clear hl
  obtain ⟨L, hL⟩ : ∃ L, L = (enc x n).1 := ⟨_, rfl⟩
  obtain ⟨r, hr⟩ : ∃ r, r = (enc x n).2 := ⟨_, rfl⟩
  have hE : enc x n = (L, r) := by rw [hL, hr]
  have HE := Lib.hid hE; clear hE hL hr
  have hbx := boxI w x A c
  have l1 := hbx.load
  have HBX := Lib.hid hbx; clear hbx
  obtain ⟨W0, hW0⟩ : ∃ W0, W0 = w.alloc (.cells (x.c A c) 24) := ⟨_, rfl⟩
  rw [← hW0] at l1 HBX
  have HW0 := Lib.hid hW0; clear hW0
  go_enter Try.func3, Try.ntmps3
  go_wp2_with fail
  rw [← HW0.out]
  with_reducible refine (alive_any W0).mono ?_
  rintro e w1 ⟨rfl, hb1⟩
  have HB1 := Lib.hid (HBX.out.next hb1); clear hb1 l1 HBX
  have l1 := HB1.out.load
  go_wp2_with fail
  with_reducible refine (copy_any x A c w.heap.size w1 (H.out.below HB1.out.below) HLL.out HB1.out.below.size).mono ?_
  rintro e w2 ⟨A2, c2, rfl, ho2, hb2⟩
  have l2 := run_stI_new w2 x A2 c2
  obtain ⟨w3, hw3⟩ : ∃ y, y = w2.alloc (.cells (x.c A2 c2) 24) := ⟨_, rfl⟩
  have HB3 : Hid (BoxI w x A c w3) := Lib.hid (hw3 ▸ (HB1.out.next hb2).next ((Below.refl _ _).alloc (Nat.le_refl _) _))
  have HV3 : Hid (VarI w3 w2.heap.size x A2 c2) := Lib.hid (hw3 ▸ VarI.new w2 x A2 c2)
  have HO3 := Lib.hid (show Owned w3 w1.heap.size (.slice A2 x.body.length c2) x.body from hw3 ▸ Owned.keep ho2 ((Below.refl _ _).alloc (Nat.le_refl _) _) (Nat.le_refl _))
  rw [← hw3] at l2
  have l3 := HV3.out.load
  clear hw3 ho2 hb2 HB1 l1
  have henc := encode_any x A2 c2 w3.heap.size n w3 (Owned.reads HO3.out) (Nat.le_refl _)
  rw [HE.out] at henc
  have HENC := Lib.hid henc; clear henc
  go_wp2_with fail
  with_reducible refine HENC.out.mono ?_
  rintro e w4 ⟨A4, c4, rfl, ho4, hb4⟩
  have HB4 := Lib.hid (HB3.out.next hb4)
  have HV4 := Lib.hid (HV3.out.keep hb4 HV3.out.lt)
  have HO4 := Lib.hid (Owned.keep HO3.out hb4 (Nat.le_refl _))
  have HL4 := Lib.hid ho4
  clear ho4 hb4 HENC HB3 HV3 HO3 l2 l3
  have l4 := HB4.out.load
  have henc := rencode_any x A c w.heap.size n w4 (H.out.below HB4.out.below) HB4.out.below.size
  rw [HE.out] at henc
  have HENC := Lib.hid henc; clear henc
  go_wp2_with fail
  with_reducible refine HENC.out.mono ?_
  rintro e w5 ⟨A5, c5, rfl, ho5, hb5⟩
  have HB5 := Lib.hid (HB4.out.next hb5).below
  have HBX := Lib.hid (HB4.out.next hb5)
  have HV5 := Lib.hid (HV4.out.keep hb5 HV4.out.lt)
  have HO5 := Lib.hid (Owned.keep HO4.out hb5 (Nat.le_refl _))
  have hlat : ∀ V, Below w5.heap.size w5 V → (convert 22 9 (.slice A4 L.length c4)).run Try.prog V = .ok (.string ⟨L.toArray⟩) V ∧ (convert 22 9 (.slice A5 L.length c5)).run Try.prog V = .ok (.string ⟨L.toArray⟩) V ∧
      (ldI (.pointer (some ⟨w2.heap.size, 0, none⟩))).run Try.prog V = .ok (.agg (x.c A2 c2)) V ∧ (ldI (.pointer (some ⟨w.heap.size, 0, none⟩))).run Try.prog V = .ok (.agg (x.c A c)) V := fun V hV =>
    ⟨run_text V _ A4 _ c4 L (Owned.reads (Owned.keep (Owned.keep HL4.out hb5 (Nat.le_refl _)) hV (Nat.le_refl _))), run_text V _ A5 _ c5 L (Owned.reads (Owned.keep ho5 hV (Nat.le_refl _))), (HV5.out.keep hV HV5.out.lt).load, (HBX.out.row.keep hV HBX.out.row.lt).load⟩
  obtain ⟨SS, hSS⟩ : ∃ S : ByteArray, S = ⟨L.toArray⟩ := ⟨_, rfl⟩
  rw [← hSS] at hlat
  have HLAT := Lib.hid hlat; clear hlat hSS
  have hsm : ∀ V, Below w5.heap.size w5 V → Calls Try.prog 14 #[.agg (x.c A2 c2), .agg (x.c A c)] V fun e w' => e = .returned (.bool true) ∧ Below V.heap.size V w' := fun V hV => by
    have := same_any x x A2 A c2 c w5.heap.size w.heap.size V ((Owned.reads HO5.out).below hV) (H.out.below (HB5.out.trans (hV.mono HB5.out.size))) hV.size (Nat.le_trans HB5.out.size hV.size)
    rwa [decide_eq_true rfl] at this
  have HSM := Lib.hid hsm; clear hsm
  clear ho5 hb5 HENC HB4 HV4 HO4 HL4 l4
  have b0 : Below w5.heap.size w5 w5.drew := (Below.refl _ _).drew
  obtain ⟨z1, z2, z3, z4⟩ := HLAT.out _ b0
  have HB0 := Lib.hid b0; clear b0
  go_wp2_with fail
  first
  | (go_region_held (fun V => (convert 22 9 (.slice A4 L.length c4)).run Try.prog V = .ok (.string SS) V ∧ (convert 22 9 (.slice A5 L.length c5)).run Try.prog V = .ok (.string SS) V ∧ (ldI (.pointer (some ⟨w2.heap.size, 0, none⟩))).run Try.prog V = .ok (.agg (x.c A2 c2)) V ∧ (ldI (.pointer (some ⟨w.heap.size, 0, none⟩))).run Try.prog V = .ok (.agg (x.c A c)) V) (first | assumption | exact ⟨z1, z2, z3, z4⟩)
      (first
        | (go_at_call 12
           with_reducible refine (check_any x A2 c2 _).mono ?_
           rintro e w6 ⟨rfl, hb6⟩
           have HB6 := Lib.hid (HB0.out.trans (hb6.mono HB0.out.size))
           have s6 := HLAT.out w6 HB6.out
           clear hb6)
        | (go_at_call 13
           with_reducible refine (rcheck_any x A c _).mono ?_
           rintro e w7 ⟨rfl, hb7⟩
           have HB7 := Lib.hid (HB6.out.trans (hb7.mono HB6.out.size))
           have s7 := HLAT.out w7 HB7.out
           clear hb7)
        | (go_at_call 14
           with_reducible refine (HSM.out _ HB7.out).mono ?_
           rintro e w8 ⟨rfl, hb8⟩
           have HB8 := Lib.hid (HB7.out.trans (hb8.mono HB7.out.size))
           have s8 := HLAT.out w8 HB8.out
           clear hb8)))
  | fail
  all_goals
    go_wp2
    go_ret
    exact ⟨rfl, HB5.out.trans (HB8.out.mono HB5.out.size)⟩

theorem walks : Walks 3 Try.f3 All := by
  intro H enc W base args ds p hval hA hsz _
  rw [Try.params3] at hA hval hsz
  obtain ⟨v0, vs0, d0, ds0, p0, q0, hargs, rfl, rfl, h0, r0⟩ := trodAll_cons hA
  obtain ⟨v1, vs1, d1, ds1, p1, q1, rfl, rfl, rfl, h1, r1⟩ := trodAll_cons r0
  obtain ⟨rfl, rfl, rfl⟩ := trodAll_nil r1
  obtain rfl : args = #[v0, v1] := by cases args; simp_all
  obtain ⟨x, A, c, rfl, hb, hn, hc⟩ := inode_open (hval 0 _ v0 rfl rfl) h0 (inode_weights hsz (j := 0) rfl rfl)
  obtain ⟨x1, rfl, rfl, rfl, hx1⟩ := open_int Try.underlying3 (hval 1 _ v1 rfl rfl) h1
  have bx1 := bounds_i64 hx1
  exact walk x A c x1 W hb (by omega)

set_option maxRecDepth 100000 in
theorem proved : Rows.InodeEncodesSaid :=
  OpenClaim.holds_of_wide 3 Try.f3 rfl rfl rfl rfl rfl rfl rfl ⟨rfl, rfl, rfl, rfl, rfl⟩ rfl rfl rfl rfl rfl (by kernel_rfl) Try.func3 (by kernel_rfl)
    (of_decide_eq_true (by kernel_rfl)) (by unfold Func.isWrapper; first | (rw [if_pos (by decide +kernel)]; kernel_rfl) | (rw [if_neg (by decide +kernel)]; exact ⟨rfl, rfl⟩))
    (fun os started H enc _ => lifted (s := Rows.inodeEncodesSpec) walks (by kernel_rfl) rfl rfl (fun H ds hl => by match ds, hl with | [d1, d2], _ => rfl) (by kernel_rfl) Try.func3 os started H enc
      (ChangeSpec.witness6 (enc := enc) (C := Try.checked) false ⟨#[], #[.agg #[.int .i64 0, .int .i64 0, .int .i64 0, .bool false, .int .i64 0, .slice none 0 0], .int .i64 0], []⟩ 8 (by kernel_rfl) (by kernel_rfl) (by kernel_rfl) (by kernel_rfl)))
#print axioms proved
end Go.Proofs.Ytbppgihbnjnapaa.InodeEncodes
