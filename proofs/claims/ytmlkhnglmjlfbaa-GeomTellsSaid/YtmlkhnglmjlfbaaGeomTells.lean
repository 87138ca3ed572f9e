/- GeomTells: for every number of blocks, every geometry and every number, Layout, Encode, Inode and Where answer what the document's do. -/
import Derived.Test.YtmlkhnglmjlfbaaGmAny
import Derived.Test.YtmlkhnglmjlfbaaLift
import Derived.Deep.RegionHeld
import Derived.Test.YtmlkhnglmjlfbaaGmDec
import Derived.Test.YtmlkhnglmjlfbaaGmArg
namespace Go.Proofs.Ytmlkhnglmjlfbaa.GeomTells
set_option maxRecDepth 20000
open Go.ChangeShapes Go.WideShapes Go.ChangeAt Go.RowKit
open Go.Proofs.Ytmlkhnglmjlfbaa.Mem Go.Proofs.Ytmlkhnglmjlfbaa.Crc Go.Proofs.Ytmlkhnglmjlfbaa.Rec Go.Proofs.Ytmlkhnglmjlfbaa.Gm Go.Proofs.Ytmlkhnglmjlfbaa.Lift
attribute [local go_sem ↓] Go.wp_at_zero Go.wp_at_succ ldG_eq stG_eq eqG_eq
attribute [local go_sem ↓] neqG_eq

set_option maxRecDepth 100000 in
set_option maxHeartbeats 2000000 in
theorem walk (b : Int) (g0 : Gm) (i : Int) (w : World) (hi1 : -9223372036854775808 ≤ i) (hi2 : i ≤ 9223372036854775807) :
    Calls Try.prog 3 #[.int .i64 b, .agg g0.c, .int .i64 i] w fun e w' => e = .returned (.bool true) ∧ Below w.heap.size w w' := by
  obtain ⟨G, hG⟩ : ∃ G, G = (layE b).1 := ⟨_, rfl⟩
  obtain ⟨x, hx⟩ : ∃ x, x = (layE b).2 := ⟨_, rfl⟩
  have HG := Lib.hid hG; clear hG
  have HX := Lib.hid hx; clear hx
  obtain ⟨W, hW⟩ : ∃ y, y = w.alloc (.cells g0.c 23) := ⟨_, rfl⟩
  have hv0 : VarG W w.heap.size g0 := hW ▸ VarG.new w _
  have hb0 : Below w.heap.size w W := hW ▸ (Below.refl _ _).alloc (Nat.le_refl _) _
  have HW := Lib.hid hW; clear hW
  have HV0 := Lib.hid hv0; clear hv0
  have HB0 := Lib.hid hb0; clear hb0
  go_enter Try.func3, Try.ntmps3
  go_wp2_with fail
  rw [← HW.out]
  with_reducible refine (alive_any W).mono ?_
  rintro e w1 ⟨rfl, hb1⟩
  have HV1 := Lib.hid (HV0.out.keep hb1)
  have HB1 := Lib.hid (HB0.out.trans (hb1.mono HB0.out.size))
  clear hb1 HV0 HB0 HW
  go_wp2_with fail
  with_reducible refine (layout_any b w1).mono ?_
  rintro e w2 ⟨rfl, hb2⟩
  rw [← HG.out, ← HX.out]
  obtain ⟨w3, hw3⟩ : ∃ y, y = w2.alloc (.cells G.c 23) := ⟨_, rfl⟩
  have l3 := run_stG_new w2 G
  rw [← hw3] at l3
  have HA3 : Hid (VarG w3 w2.heap.size G) := Lib.hid (hw3 ▸ VarG.new w2 _)
  have HV3 : Hid (VarG w3 w.heap.size g0) := Lib.hid (hw3 ▸ (HV1.out.keep hb2).alloc _)
  have HB3 : Hid (Below w.heap.size w w3) := Lib.hid (hw3 ▸ (HB1.out.trans (hb2.mono HB1.out.size)).alloc (Nat.le_trans HB1.out.size hb2.size) _)
  have hn3 : w.heap.size < w2.heap.size := by have := HV1.out.lt; have := hb2.size; omega
  clear hw3 hb2 HB1 HV1
  go_wp2_with fail
  with_reducible refine (rlayout_any b w3).mono ?_
  rintro e w4 ⟨rfl, hb4⟩
  rw [← HG.out, ← HX.out]
  obtain ⟨w5, hw5⟩ : ∃ y, y = w4.alloc (.cells G.c 23) := ⟨_, rfl⟩
  have l5 := run_stG_new w4 G
  rw [← hw5] at l5
  have HA5 : Hid (VarG w5 w2.heap.size G) := Lib.hid (hw5 ▸ (HA3.out.keep hb4).alloc _)
  have HC5 : Hid (VarG w5 w4.heap.size G) := Lib.hid (hw5 ▸ VarG.new w4 _)
  have HV5 : Hid (VarG w5 w.heap.size g0) := Lib.hid (hw5 ▸ (HV3.out.keep hb4).alloc _)
  have HB5 : Hid (Below w.heap.size w w5) := Lib.hid (hw5 ▸ (HB3.out.trans (hb4.mono HB3.out.size)).alloc (Nat.le_trans HB3.out.size hb4.size) _)
  have q1 := HA5.out.load
  have q2 := HC5.out.load
  have q3 := run_neqG w5 G G
  rw [decide_eq_true rfl] at q3
  have q4 : w5.cell? ⟨w.heap.size, 0, none⟩ = some (.int .i64 g0.blocks) := HV5.out.cell 0
  clear hw5 hb4 HB3 HV3 HA3 l3
  by_cases hx0 : x = 0
  · by_cases hbn : g0.blocks < 0
    · obtain ⟨w6, hst, hx6, hb6⟩ := run_stG_at w5 w.heap.size G g0 HV5.out
      have HV6 : Hid (VarG w6 w.heap.size G) := Lib.hid hx6
      have HB6 : Hid (Below w.heap.size w w6) := Lib.hid (HB5.out.trans (hb6 _ (Nat.le_refl _)))
      have l6 := HV6.out.load
      clear hx6 hb6 HB5 HV5 HA5 HC5
      obtain ⟨gg, hgg⟩ : ∃ gg, gg = G := ⟨_, rfl⟩
      rw [← hgg] at HV6 l6
      go_wp2_with fail
      rw [← hgg]
      clear hgg q1 q2 q3 q4 l5
      with_reducible refine (encode_any gg w6).mono ?_
      rintro e w7 ⟨A7, c7, rfl, hh7, hb7⟩
      have HV7 := Lib.hid (HV6.out.keep hb7)
      have HB7 : Hid (Below w.heap.size w w7) := Lib.hid (HB6.out.trans (hb7.mono HB6.out.size))
      have HH7 := Lib.hid hh7
      have l7 := HV7.out.load
      clear hh7 hb7 HV6 HB6 l6
      go_wp2_with fail
      with_reducible refine (rencode_any gg w7).mono ?_
      rintro e w8 ⟨A8, c8, rfl, hh8, hb8⟩
      have HV8 := Lib.hid (HV7.out.keep hb8)
      have HB8 : Hid (Below w.heap.size w w8) := Lib.hid (HB7.out.trans (hb8.mono HB7.out.size))
      have HH8 := Lib.hid hh8
      have HH78 : Hid (Holds w8 w8.heap.size A7 (encL gg).length (encL gg)) := Lib.hid ((HH7.out.below hb8).more hb8.size)
      have l8 := HV8.out.load
      clear hh8 hb8 HV7 HB7 l7 HH7
      obtain ⟨x1, x2, x3, hin⟩ := inodeE_form gg i
      have HIN := Lib.hid hin; clear hin
      go_wp2_with fail
      with_reducible refine (inode_any gg i w8 hi1 hi2).mono ?_
      rintro e w9 ⟨rfl, hb9⟩
      rw [HIN.out]
      have HV9 := Lib.hid (HV8.out.keep hb9)
      have HB9 : Hid (Below w.heap.size w w9) := Lib.hid (HB8.out.trans (hb9.mono HB8.out.size))
      have HP9 : Hid (Holds w9 w9.heap.size A7 (encL gg).length (encL gg)) := Lib.hid ((HH78.out.below hb9).more hb9.size)
      have HQ9 : Hid (Holds w9 w9.heap.size A8 (encL gg).length (encL gg)) := Lib.hid ((HH8.out.below hb9).more hb9.size)
      have l9 := HV9.out.load
      clear hb9 HV8 HB8 l8 HH8 HH78
      go_wp2_with fail
      with_reducible refine (rinode_any gg i w9 hi1 hi2).mono ?_
      rintro e w10 ⟨rfl, hb10⟩
      rw [HIN.out]
      have HV10 := Lib.hid (HV9.out.keep hb10)
      have HB10 : Hid (Below w.heap.size w w10) := Lib.hid (HB9.out.trans (hb10.mono HB9.out.size))
      have HP10 : Hid (Holds w10 w10.heap.size A7 (encL gg).length (encL gg)) := Lib.hid ((HP9.out.below hb10).more hb10.size)
      have HQ10 : Hid (Holds w10 w10.heap.size A8 (encL gg).length (encL gg)) := Lib.hid ((HQ9.out.below hb10).more hb10.size)
      clear hb10 HV9 HB9 l9 HP9 HQ9
      have t1 := run_text w10.drew w10.drew.heap.size A7 (encL gg).length c7 (encL gg) HP10.out
      have t2 := run_text w10.drew w10.drew.heap.size A8 (encL gg).length c8 (encL gg) HQ10.out
      have HVd : Hid (VarG w10.drew w.heap.size gg) := HV10
      have HBd : Hid (Below w.heap.size w w10.drew) := Lib.hid HB10.out.drew
      have l10 := HVd.out.load
      have hlat : ∀ U, Below w10.drew.heap.size w10.drew U → (ldG (.pointer (some ⟨w.heap.size, 0, none⟩))).run Try.prog U = .ok (.agg gg.c) U ∧ (convert 28 9 (.slice A7 (encL gg).length c7)).run Try.prog U = .ok (.string ⟨(encL gg).toArray⟩) U ∧ (convert 28 9 (.slice A8 (encL gg).length c8)).run Try.prog U = .ok (.string ⟨(encL gg).toArray⟩) U := fun U hU =>
        ⟨(HVd.out.keep hU).load, run_text U _ A7 _ c7 _ (HP10.out.below (w := w10.drew) hU), run_text U _ A8 _ c8 _ (HQ10.out.below (w := w10.drew) hU)⟩
      have HLAT := Lib.hid hlat; clear hlat
      clear HP10 HQ10
      generalize encL gg = L at t1 t2 HLAT ⊢
      generalize encX gg = x4 at ⊢
      go_wp2_with fail
      go_region_held (fun V => (ldG (.pointer (some ⟨w.heap.size, 0, none⟩))).run Try.prog V = .ok (.agg gg.c) V ∧ (convert 28 9 (.slice A7 L.length c7)).run Try.prog V = .ok (.string ⟨L.toArray⟩) V ∧ (convert 28 9 (.slice A8 L.length c8)).run Try.prog V = .ok (.string ⟨L.toArray⟩) V) (first | assumption | exact ⟨l10, t1, t2⟩)
        (first
          | (go_at_call 15
             with_reducible refine (where_any gg i _).mono ?_
             rintro e w11 ⟨rfl, hb11⟩
             have HB11 : Hid (Below w.heap.size w w11) := Lib.hid (HBd.out.trans (hb11.mono HBd.out.size))
             have HS11 := HLAT.out w11 hb11)
          | (go_at_call 16
             with_reducible refine (rwhere_any gg i _).mono ?_
             rintro e w12 ⟨rfl, hb12⟩
             have HB12 : Hid (Below w.heap.size w w12) := Lib.hid (HB11.out.trans (hb12.mono HB11.out.size))
             have HS12 := HLAT.out w12 (hb11.trans (hb12.mono hb11.size))))
      all_goals
        go_wp2
        go_ret
        exact ⟨rfl, HB12.out⟩
    · obtain ⟨w6, hw6⟩ : ∃ y, y = w5 := ⟨_, rfl⟩
      obtain ⟨gg, hgg⟩ : ∃ gg, gg = g0 := ⟨_, rfl⟩
      have HV6 : Hid (VarG w6 w.heap.size gg) := by rw [hw6, hgg]; exact HV5
      have HB6 : Hid (Below w.heap.size w w6) := by rw [hw6]; exact HB5
      have l6 := HV5.out.load
      clear HB5 HV5 HA5 HC5
      go_wp2_with fail
      rw [← hgg, ← hw6]
      clear hw6 hgg q1 q2 q3 q4 l5
      with_reducible refine (encode_any gg w6).mono ?_
      rintro e w7 ⟨A7, c7, rfl, hh7, hb7⟩
      have HV7 := Lib.hid (HV6.out.keep hb7)
      have HB7 : Hid (Below w.heap.size w w7) := Lib.hid (HB6.out.trans (hb7.mono HB6.out.size))
      have HH7 := Lib.hid hh7
      have l7 := HV7.out.load
      clear hh7 hb7 HV6 HB6 l6
      go_wp2_with fail
      with_reducible refine (rencode_any gg w7).mono ?_
      rintro e w8 ⟨A8, c8, rfl, hh8, hb8⟩
      have HV8 := Lib.hid (HV7.out.keep hb8)
      have HB8 : Hid (Below w.heap.size w w8) := Lib.hid (HB7.out.trans (hb8.mono HB7.out.size))
      have HH8 := Lib.hid hh8
      have HH78 : Hid (Holds w8 w8.heap.size A7 (encL gg).length (encL gg)) := Lib.hid ((HH7.out.below hb8).more hb8.size)
      have l8 := HV8.out.load
      clear hh8 hb8 HV7 HB7 l7 HH7
      obtain ⟨x1, x2, x3, hin⟩ := inodeE_form gg i
      have HIN := Lib.hid hin; clear hin
      go_wp2_with fail
      with_reducible refine (inode_any gg i w8 hi1 hi2).mono ?_
      rintro e w9 ⟨rfl, hb9⟩
      rw [HIN.out]
      have HV9 := Lib.hid (HV8.out.keep hb9)
      have HB9 : Hid (Below w.heap.size w w9) := Lib.hid (HB8.out.trans (hb9.mono HB8.out.size))
      have HP9 : Hid (Holds w9 w9.heap.size A7 (encL gg).length (encL gg)) := Lib.hid ((HH78.out.below hb9).more hb9.size)
      have HQ9 : Hid (Holds w9 w9.heap.size A8 (encL gg).length (encL gg)) := Lib.hid ((HH8.out.below hb9).more hb9.size)
      have l9 := HV9.out.load
      clear hb9 HV8 HB8 l8 HH8 HH78
      go_wp2_with fail
      with_reducible refine (rinode_any gg i w9 hi1 hi2).mono ?_
      rintro e w10 ⟨rfl, hb10⟩
      rw [HIN.out]
      have HV10 := Lib.hid (HV9.out.keep hb10)
      have HB10 : Hid (Below w.heap.size w w10) := Lib.hid (HB9.out.trans (hb10.mono HB9.out.size))
      have HP10 : Hid (Holds w10 w10.heap.size A7 (encL gg).length (encL gg)) := Lib.hid ((HP9.out.below hb10).more hb10.size)
      have HQ10 : Hid (Holds w10 w10.heap.size A8 (encL gg).length (encL gg)) := Lib.hid ((HQ9.out.below hb10).more hb10.size)
      clear hb10 HV9 HB9 l9 HP9 HQ9
      have t1 := run_text w10.drew w10.drew.heap.size A7 (encL gg).length c7 (encL gg) HP10.out
      have t2 := run_text w10.drew w10.drew.heap.size A8 (encL gg).length c8 (encL gg) HQ10.out
      have HVd : Hid (VarG w10.drew w.heap.size gg) := HV10
      have HBd : Hid (Below w.heap.size w w10.drew) := Lib.hid HB10.out.drew
      have l10 := HVd.out.load
      have hlat : ∀ U, Below w10.drew.heap.size w10.drew U → (ldG (.pointer (some ⟨w.heap.size, 0, none⟩))).run Try.prog U = .ok (.agg gg.c) U ∧ (convert 28 9 (.slice A7 (encL gg).length c7)).run Try.prog U = .ok (.string ⟨(encL gg).toArray⟩) U ∧ (convert 28 9 (.slice A8 (encL gg).length c8)).run Try.prog U = .ok (.string ⟨(encL gg).toArray⟩) U := fun U hU =>
        ⟨(HVd.out.keep hU).load, run_text U _ A7 _ c7 _ (HP10.out.below (w := w10.drew) hU), run_text U _ A8 _ c8 _ (HQ10.out.below (w := w10.drew) hU)⟩
      have HLAT := Lib.hid hlat; clear hlat
      clear HP10 HQ10
      generalize encL gg = L at t1 t2 HLAT ⊢
      generalize encX gg = x4 at ⊢
      go_wp2_with fail
      go_region_held (fun V => (ldG (.pointer (some ⟨w.heap.size, 0, none⟩))).run Try.prog V = .ok (.agg gg.c) V ∧ (convert 28 9 (.slice A7 L.length c7)).run Try.prog V = .ok (.string ⟨L.toArray⟩) V ∧ (convert 28 9 (.slice A8 L.length c8)).run Try.prog V = .ok (.string ⟨L.toArray⟩) V) (first | assumption | exact ⟨l10, t1, t2⟩)
        (first
          | (go_at_call 15
             with_reducible refine (where_any gg i _).mono ?_
             rintro e w11 ⟨rfl, hb11⟩
             have HB11 : Hid (Below w.heap.size w w11) := Lib.hid (HBd.out.trans (hb11.mono HBd.out.size))
             have HS11 := HLAT.out w11 hb11)
          | (go_at_call 16
             with_reducible refine (rwhere_any gg i _).mono ?_
             rintro e w12 ⟨rfl, hb12⟩
             have HB12 : Hid (Below w.heap.size w w12) := Lib.hid (HB11.out.trans (hb12.mono HB11.out.size))
             have HS12 := HLAT.out w12 (hb11.trans (hb12.mono hb11.size))))
      all_goals
        go_wp2
        go_ret
        exact ⟨rfl, HB12.out⟩
  · obtain ⟨w6, hw6⟩ : ∃ y, y = w5 := ⟨_, rfl⟩
    obtain ⟨gg, hgg⟩ : ∃ gg, gg = g0 := ⟨_, rfl⟩
    have HV6 : Hid (VarG w6 w.heap.size gg) := by rw [hw6, hgg]; exact HV5
    have HB6 : Hid (Below w.heap.size w w6) := by rw [hw6]; exact HB5
    have l6 := HV5.out.load
    clear HB5 HV5 HA5 HC5
    have hxb : (x == 0) = false := beq_eq_false_iff_ne.2 hx0
    go_wp2_with fail
    rw [← hgg, ← hw6]
    clear hw6 hgg q1 q2 q3 q4 l5
    with_reducible refine (encode_any gg w6).mono ?_
    rintro e w7 ⟨A7, c7, rfl, hh7, hb7⟩
    have HV7 := Lib.hid (HV6.out.keep hb7)
    have HB7 : Hid (Below w.heap.size w w7) := Lib.hid (HB6.out.trans (hb7.mono HB6.out.size))
    have HH7 := Lib.hid hh7
    have l7 := HV7.out.load
    clear hh7 hb7 HV6 HB6 l6
    go_wp2_with fail
    with_reducible refine (rencode_any gg w7).mono ?_
    rintro e w8 ⟨A8, c8, rfl, hh8, hb8⟩
    have HV8 := Lib.hid (HV7.out.keep hb8)
    have HB8 : Hid (Below w.heap.size w w8) := Lib.hid (HB7.out.trans (hb8.mono HB7.out.size))
    have HH8 := Lib.hid hh8
    have HH78 : Hid (Holds w8 w8.heap.size A7 (encL gg).length (encL gg)) := Lib.hid ((HH7.out.below hb8).more hb8.size)
    have l8 := HV8.out.load
    clear hh8 hb8 HV7 HB7 l7 HH7
    obtain ⟨x1, x2, x3, hin⟩ := inodeE_form gg i
    have HIN := Lib.hid hin; clear hin
    go_wp2_with fail
    with_reducible refine (inode_any gg i w8 hi1 hi2).mono ?_
    rintro e w9 ⟨rfl, hb9⟩
    rw [HIN.out]
    have HV9 := Lib.hid (HV8.out.keep hb9)
    have HB9 : Hid (Below w.heap.size w w9) := Lib.hid (HB8.out.trans (hb9.mono HB8.out.size))
    have HP9 : Hid (Holds w9 w9.heap.size A7 (encL gg).length (encL gg)) := Lib.hid ((HH78.out.below hb9).more hb9.size)
    have HQ9 : Hid (Holds w9 w9.heap.size A8 (encL gg).length (encL gg)) := Lib.hid ((HH8.out.below hb9).more hb9.size)
    have l9 := HV9.out.load
    clear hb9 HV8 HB8 l8 HH8 HH78
    go_wp2_with fail
    with_reducible refine (rinode_any gg i w9 hi1 hi2).mono ?_
    rintro e w10 ⟨rfl, hb10⟩
    rw [HIN.out]
    have HV10 := Lib.hid (HV9.out.keep hb10)
    have HB10 : Hid (Below w.heap.size w w10) := Lib.hid (HB9.out.trans (hb10.mono HB9.out.size))
    have HP10 : Hid (Holds w10 w10.heap.size A7 (encL gg).length (encL gg)) := Lib.hid ((HP9.out.below hb10).more hb10.size)
    have HQ10 : Hid (Holds w10 w10.heap.size A8 (encL gg).length (encL gg)) := Lib.hid ((HQ9.out.below hb10).more hb10.size)
    clear hb10 HV9 HB9 l9 HP9 HQ9
    have t1 := run_text w10.drew w10.drew.heap.size A7 (encL gg).length c7 (encL gg) HP10.out
    have t2 := run_text w10.drew w10.drew.heap.size A8 (encL gg).length c8 (encL gg) HQ10.out
    have HVd : Hid (VarG w10.drew w.heap.size gg) := HV10
    have HBd : Hid (Below w.heap.size w w10.drew) := Lib.hid HB10.out.drew
    have l10 := HVd.out.load
    have hlat : ∀ U, Below w10.drew.heap.size w10.drew U → (ldG (.pointer (some ⟨w.heap.size, 0, none⟩))).run Try.prog U = .ok (.agg gg.c) U ∧ (convert 28 9 (.slice A7 (encL gg).length c7)).run Try.prog U = .ok (.string ⟨(encL gg).toArray⟩) U ∧ (convert 28 9 (.slice A8 (encL gg).length c8)).run Try.prog U = .ok (.string ⟨(encL gg).toArray⟩) U := fun U hU =>
      ⟨(HVd.out.keep hU).load, run_text U _ A7 _ c7 _ (HP10.out.below (w := w10.drew) hU), run_text U _ A8 _ c8 _ (HQ10.out.below (w := w10.drew) hU)⟩
    have HLAT := Lib.hid hlat; clear hlat
    clear HP10 HQ10
    generalize encL gg = L at t1 t2 HLAT ⊢
    generalize encX gg = x4 at ⊢
    go_wp2_with fail
    go_region_held (fun V => (ldG (.pointer (some ⟨w.heap.size, 0, none⟩))).run Try.prog V = .ok (.agg gg.c) V ∧ (convert 28 9 (.slice A7 L.length c7)).run Try.prog V = .ok (.string ⟨L.toArray⟩) V ∧ (convert 28 9 (.slice A8 L.length c8)).run Try.prog V = .ok (.string ⟨L.toArray⟩) V) (first | assumption | exact ⟨l10, t1, t2⟩)
      (first
        | (go_at_call 15
           with_reducible refine (where_any gg i _).mono ?_
           rintro e w11 ⟨rfl, hb11⟩
           have HB11 : Hid (Below w.heap.size w w11) := Lib.hid (HBd.out.trans (hb11.mono HBd.out.size))
           have HS11 := HLAT.out w11 hb11)
        | (go_at_call 16
           with_reducible refine (rwhere_any gg i _).mono ?_
           rintro e w12 ⟨rfl, hb12⟩
           have HB12 : Hid (Below w.heap.size w w12) := Lib.hid (HB11.out.trans (hb12.mono HB11.out.size))
           have HS12 := HLAT.out w12 (hb11.trans (hb12.mono hb11.size))))
    all_goals
      go_wp2
      go_ret
      exact ⟨rfl, HB12.out⟩

theorem walks : Walks 3 Try.f3 All := by
  intro H enc W base args ds p hval hA hsz _
  rw [Try.params3] at hA hval hsz
  obtain ⟨v0, vs0, d0, ds0, p0, q0, hargs, rfl, rfl, h0, r0⟩ := trodAll_cons hA
  obtain ⟨v1, vs1, d1, ds1, p1, q1, rfl, rfl, rfl, h1, r1⟩ := trodAll_cons r0
  obtain ⟨v2, vs2, d2, ds2, p2, q2, rfl, rfl, rfl, h2, r2⟩ := trodAll_cons r1
  obtain ⟨rfl, rfl, rfl⟩ := trodAll_nil r2
  obtain rfl : args = #[v0, v1, v2] := by cases args; simp_all
  obtain ⟨b, rfl, rfl, rfl, hb⟩ := open_int Try.underlying3 (hval 0 _ v0 rfl rfl) h0
  obtain ⟨i, rfl, rfl, rfl, hi⟩ := open_int Try.underlying3 (hval 2 _ v2 rfl rfl) h2
  obtain ⟨g, rfl⟩ := open_geom (hval 1 _ v1 rfl rfl) h1
  have bI := bounds_i64 hi
  exact walk b g i W (by omega) (by omega)

set_option maxRecDepth 100000 in
theorem proved : Rows.GeomTellsSaid :=
  OpenClaim.holds_of_wide 3 Try.f3 rfl rfl rfl rfl rfl rfl rfl ⟨rfl, rfl, rfl, rfl, rfl⟩ rfl rfl rfl rfl rfl (by kernel_rfl) Try.func3 (by kernel_rfl)
    (of_decide_eq_true (by kernel_rfl)) (by unfold Func.isWrapper; first | (rw [if_pos (by decide +kernel)]; kernel_rfl) | (rw [if_neg (by decide +kernel)]; exact ⟨rfl, rfl⟩))
    (fun os started H enc _ => lifted (s := Rows.geomTellsSpec) walks (by kernel_rfl) rfl rfl (fun H ds hl => by match ds, hl with | [d1, d2, d3], _ => rfl) (by kernel_rfl) Try.func3 os started H enc
      (ChangeSpec.witness6 (enc := enc) (C := Try.checked) false ⟨#[], #[.int .i64 0, .agg #[.int .i64 0, .int .i64 0, .int .i64 0, .int .i64 0, .int .i64 0, .int .i64 0, .int .i64 0, .int .i64 0], .int .i64 0], []⟩ 8 (by kernel_rfl) (by kernel_rfl) (by kernel_rfl) (by kernel_rfl)))
#print axioms proved
end Go.Proofs.Ytmlkhnglmjlfbaa.GeomTells
