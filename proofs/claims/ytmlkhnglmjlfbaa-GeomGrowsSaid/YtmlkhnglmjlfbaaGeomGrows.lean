/- GeomGrows: for any two numbers of blocks, the greater device has no fewer inodes and no shorter log, no fewer data blocks but for one, and another geometry and superblock unless the numbers are the same. -/
import Derived.Test.YtmlkhnglmjlfbaaGmAny
import Derived.Test.YtmlkhnglmjlfbaaGmBack
import Derived.Test.YtmlkhnglmjlfbaaLift
namespace Go.Proofs.Ytmlkhnglmjlfbaa.GeomGrows
set_option maxRecDepth 20000
open Go.ChangeShapes Go.WideShapes Go.ChangeAt Go.RowKit
open Go.Proofs.Ytmlkhnglmjlfbaa.Mem Go.Proofs.Ytmlkhnglmjlfbaa.Crc Go.Proofs.Ytmlkhnglmjlfbaa.Rec Go.Proofs.Ytmlkhnglmjlfbaa.Gm Go.Proofs.Ytmlkhnglmjlfbaa.Lift
attribute [local go_sem ↓] ldG_eq stG_eq eqG_eq

theorem lay_inj {a b : Int} (h : lay a = lay b) : a = b := congrArg Gm.blocks h
theorem layE_in {b : Int} (h : 128 ≤ b ∧ b ≤ 1024) : layE b = (lay b, 0) := if_pos h
theorem layE_out {b : Int} (h : ¬ (128 ≤ b ∧ b ≤ 1024)) : layE b = (gm0, 1) := if_neg h
theorem encL_lay (b : Int) (h : 128 ≤ b ∧ b ≤ 1024) : encL (lay b) = sup b.toNat := by
  have h1 := is_lay b.toNat (by omega) (by omega)
  rw [show ((b.toNat : Nat) : Int) = b by omega] at h1
  unfold encL
  rw [h1]; rfl
theorem encX_lay (b : Int) (h : 128 ≤ b ∧ b ≤ 1024) : encX (lay b) = 0 := by
  have h1 := is_lay b.toNat (by omega) (by omega)
  rw [show ((b.toNat : Nat) : Int) = b by omega] at h1
  unfold encX
  rw [h1]; rfl
theorem two_vars {w2 w3 w4 w5 w : World} {G G' : Gm} (hb2 : Below w.heap.size w w2) (hw3 : w3 = w2.alloc (.cells G.c 23)) (hb4 : Below w3.heap.size w3 w4) (hw5 : w5 = w4.alloc (.cells G'.c 23)) :
    VarG w5 w2.heap.size G ∧ VarG w5 w4.heap.size G' ∧ Below w.heap.size w w5 := by
  subst hw3 hw5
  exact ⟨((VarG.new w2 G).keep hb4).alloc _, VarG.new w4 G', ((hb2.alloc hb2.size _).trans (hb4.mono (by have := hb2.size; simp; omega))).alloc (by have := hb2.size; have := hb4.size; simp at this; omega) _⟩

set_option maxRecDepth 100000 in
set_option maxHeartbeats 2000000 in
theorem walk_lt (a b : Int) (w : World) (hlt : a < b) (h1 : -9223372036854775808 ≤ a) (h2 : a ≤ 9223372036854775807) (h3 : -9223372036854775808 ≤ b) (h4 : b ≤ 9223372036854775807) :
    Calls Try.prog 7 #[.int .i64 a, .int .i64 b] w fun e w' => e = .returned (.bool true) ∧ Below w.heap.size w w' := by
  obtain ⟨G, hG⟩ : ∃ G, G = (layE a).1 := ⟨_, rfl⟩
  obtain ⟨x, hx⟩ : ∃ x, x = (layE a).2 := ⟨_, rfl⟩
  obtain ⟨G', hG'⟩ : ∃ G, G = (layE b).1 := ⟨_, rfl⟩
  obtain ⟨x', hx'⟩ : ∃ x, x = (layE b).2 := ⟨_, rfl⟩
  have HG := Lib.hid hG; clear hG
  have HX := Lib.hid hx; clear hx
  have HG' := Lib.hid hG'; clear hG'
  have HX' := Lib.hid hx'; clear hx'
  go_enter Try.func7, Try.ntmps7
  go_wp2_with fail
  with_reducible refine (alive_any w).mono ?_
  rintro e w1 ⟨rfl, hb1⟩
  have HB1 := Lib.hid hb1; clear hb1
  go_wp2_with fail
  with_reducible refine (layout_any a w1).mono ?_
  rintro e w2 ⟨rfl, hb2⟩
  rw [← HG.out, ← HX.out]
  have HB2 : Hid (Below w.heap.size w w2) := Lib.hid (HB1.out.trans (hb2.mono HB1.out.size))
  obtain ⟨w3, hw3⟩ : ∃ y, y = w2.alloc (.cells G.c 23) := ⟨_, rfl⟩
  have l3 := run_stG_new w2 G
  rw [← hw3] at l3
  have HW3 := Lib.hid hw3
  clear hw3 hb2 HB1
  go_wp2_with fail
  with_reducible refine (layout_any b w3).mono ?_
  rintro e w4 ⟨rfl, hb4⟩
  rw [← HG'.out, ← HX'.out]
  obtain ⟨w5, hw5⟩ : ∃ y, y = w4.alloc (.cells G'.c 23) := ⟨_, rfl⟩
  have l5 := run_stG_new w4 G'
  rw [← hw5] at l5
  obtain ⟨hv, hv', hb5⟩ := two_vars HB2.out HW3.out hb4 hw5
  have HV := Lib.hid hv; clear hv
  have HV' := Lib.hid hv'; clear hv'
  have HB5 := Lib.hid hb5; clear hb5
  clear hw5 hb4 HW3 HB2 l3
  by_cases ok : 128 ≤ a ∧ a ≤ 1024
  · by_cases ok' : 128 ≤ b ∧ b ≤ 1024
    · have e1 : G = lay a := by rw [HG.out, layE_in ok]
      have e2 : x = 0 := by rw [HX.out, layE_in ok]
      have e3 : G' = lay b := by rw [HG'.out, layE_in ok']
      have e4 : x' = 0 := by rw [HX'.out, layE_in ok']
      subst e1 e2 e3 e4
      have l6 := HV.out.load
      have OK := Lib.hid ok; clear ok
      have OK' := Lib.hid ok'; clear ok'
      clear HG HX HG' HX'
      go_wp2_with fail
      with_reducible refine (encode_any (lay a) w5).mono ?_
      rintro e w7 ⟨A7, c7, rfl, hh7, hb7⟩
      rw [encL_lay a OK.out] at hh7 ⊢
      have HV7 := Lib.hid (HV.out.keep hb7)
      have HV7' := Lib.hid (HV'.out.keep hb7)
      have HB7 : Hid (Below w.heap.size w w7) := Lib.hid (HB5.out.trans (hb7.mono HB5.out.size))
      have HH7 := Lib.hid hh7
      have l7 := HV7'.out.load
      clear hh7 hb7 l6 l5 HV HV' HB5
      go_wp2_with fail
      with_reducible refine (encode_any (lay b) w7).mono ?_
      rintro e w8 ⟨A8, c8, rfl, hh8, hb8⟩
      rw [encL_lay b OK'.out] at hh8 ⊢
      have hv8 := HV7.out.keep hb8
      have hv8' := HV7'.out.keep hb8
      have HB8 : Hid (Below w.heap.size w w8) := Lib.hid (HB7.out.trans (hb8.mono HB7.out.size))
      have t1 := run_text w8 _ A7 _ c7 _ (HH7.out.below hb8)
      have t2 := run_text w8 _ A8 _ c8 _ hh8
      have q1 := hv8.load
      have q2 := hv8'.load
      have q3 := run_eqG w8 (lay a) (lay b)
      obtain ⟨i1, hi1⟩ : ∃ v, v = a / 4 := ⟨_, rfl⟩
      obtain ⟨i2, hi2⟩ : ∃ v, v = b / 4 := ⟨_, rfl⟩
      obtain ⟨n1, hn1⟩ : ∃ v, v = 32 + a / 32 := ⟨_, rfl⟩
      obtain ⟨n2, hn2⟩ : ∃ v, v = 32 + b / 32 := ⟨_, rfl⟩
      obtain ⟨d1, hd1⟩ : ∃ v, v = 3 + (a / 4 + 1) / 2 + (32 + a / 32) := ⟨_, rfl⟩
      obtain ⟨d2, hd2⟩ : ∃ v, v = 3 + (b / 4 + 1) / 2 + (32 + b / 32) := ⟨_, rfl⟩
      have f1 : w8.cell? ⟨w2.heap.size, 1, none⟩ = some (.int .i64 i1) := by rw [hv8.cell 1, hi1]; rfl
      have f2 : w8.cell? ⟨w4.heap.size, 1, none⟩ = some (.int .i64 i2) := by rw [hv8'.cell 1, hi2]; rfl
      have f3 : w8.cell? ⟨w2.heap.size, 6, none⟩ = some (.int .i64 n1) := by rw [hv8.cell 6, hn1]; rfl
      have f4 : w8.cell? ⟨w4.heap.size, 6, none⟩ = some (.int .i64 n2) := by rw [hv8'.cell 6, hn2]; rfl
      have f5 : w8.cell? ⟨w2.heap.size, 0, none⟩ = some (.int .i64 a) := by rw [hv8.cell 0]; rfl
      have f6 : w8.cell? ⟨w4.heap.size, 0, none⟩ = some (.int .i64 b) := by rw [hv8'.cell 0]; rfl
      have f7 : w8.cell? ⟨w2.heap.size, 7, none⟩ = some (.int .i64 d1) := by rw [hv8.cell 7, hd1]; rfl
      have f8 : w8.cell? ⟨w4.heap.size, 7, none⟩ = some (.int .i64 d2) := by rw [hv8'.cell 7, hd2]; rfl
      have ok := OK.out
      have ok' := OK'.out
      have g1 : i1 ≤ i2 := by omega
      have g2 : n1 ≤ n2 := by omega
      have g3 : a - d1 ≤ b - d2 + 1 := by omega
      have g4 : 0 ≤ d1 ∧ d1 ≤ 2000 := by omega
      have g5 : 0 ≤ d2 ∧ d2 ≤ 2000 := by omega
      have hne : ¬ a = b := by omega
      have hnd : decide (lay a = lay b) = false := decide_eq_false (fun e => hne (lay_inj e))
      rw [hnd] at q3
      have hns : (sup (a).toNat == sup (b).toNat) = false := beq_eq_false_iff_ne.2 (fun e => hne (by have := sup_inj _ _ (by omega) (by omega) e; omega))
      have hab : (a == b) = false := beq_eq_false_iff_ne.2 (by omega)
      clear hnd
      clear hi1 hi2 hn1 hn2 hd1 hd2 hh8 hb8 hv8 hv8' HH7 HV7 HV7' HB7 l7 OK OK'
      go_wp2
      go_ret
      exact ⟨rfl, HB8.out⟩
    · have e4 : x' = 1 := by rw [HX'.out, layE_out ok']
      have e2 : x = 0 := by rw [HX.out, layE_in ok]
      subst e4 e2
      clear HG HX HG' HX'
      go_wp2
      go_ret
      exact ⟨rfl, HB5.out⟩
  · have e2 : x = 1 := by rw [HX.out, layE_out ok]
    subst e2
    clear HG HX HG' HX'
    go_wp2
    go_ret
    exact ⟨rfl, HB5.out⟩

set_option maxRecDepth 100000 in
set_option maxHeartbeats 2000000 in
theorem walk_gt (a b : Int) (w : World) (hlt : b < a) (h1 : -9223372036854775808 ≤ b) (h2 : b ≤ 9223372036854775807) (h3 : -9223372036854775808 ≤ a) (h4 : a ≤ 9223372036854775807) :
    Calls Try.prog 7 #[.int .i64 a, .int .i64 b] w fun e w' => e = .returned (.bool true) ∧ Below w.heap.size w w' := by
  obtain ⟨G, hG⟩ : ∃ G, G = (layE b).1 := ⟨_, rfl⟩
  obtain ⟨x, hx⟩ : ∃ x, x = (layE b).2 := ⟨_, rfl⟩
  obtain ⟨G', hG'⟩ : ∃ G, G = (layE a).1 := ⟨_, rfl⟩
  obtain ⟨x', hx'⟩ : ∃ x, x = (layE a).2 := ⟨_, rfl⟩
  have HG := Lib.hid hG; clear hG
  have HX := Lib.hid hx; clear hx
  have HG' := Lib.hid hG'; clear hG'
  have HX' := Lib.hid hx'; clear hx'
  go_enter Try.func7, Try.ntmps7
  go_wp2_with fail
  with_reducible refine (alive_any w).mono ?_
  rintro e w1 ⟨rfl, hb1⟩
  have HB1 := Lib.hid hb1; clear hb1
  go_wp2_with fail
  with_reducible refine (layout_any b w1).mono ?_
  rintro e w2 ⟨rfl, hb2⟩
  rw [← HG.out, ← HX.out]
  have HB2 : Hid (Below w.heap.size w w2) := Lib.hid (HB1.out.trans (hb2.mono HB1.out.size))
  obtain ⟨w3, hw3⟩ : ∃ y, y = w2.alloc (.cells G.c 23) := ⟨_, rfl⟩
  have l3 := run_stG_new w2 G
  rw [← hw3] at l3
  have HW3 := Lib.hid hw3
  clear hw3 hb2 HB1
  go_wp2_with fail
  with_reducible refine (layout_any a w3).mono ?_
  rintro e w4 ⟨rfl, hb4⟩
  rw [← HG'.out, ← HX'.out]
  obtain ⟨w5, hw5⟩ : ∃ y, y = w4.alloc (.cells G'.c 23) := ⟨_, rfl⟩
  have l5 := run_stG_new w4 G'
  rw [← hw5] at l5
  obtain ⟨hv, hv', hb5⟩ := two_vars HB2.out HW3.out hb4 hw5
  have HV := Lib.hid hv; clear hv
  have HV' := Lib.hid hv'; clear hv'
  have HB5 := Lib.hid hb5; clear hb5
  clear hw5 hb4 HW3 HB2 l3
  by_cases ok : 128 ≤ b ∧ b ≤ 1024
  · by_cases ok' : 128 ≤ a ∧ a ≤ 1024
    · have e1 : G = lay b := by rw [HG.out, layE_in ok]
      have e2 : x = 0 := by rw [HX.out, layE_in ok]
      have e3 : G' = lay a := by rw [HG'.out, layE_in ok']
      have e4 : x' = 0 := by rw [HX'.out, layE_in ok']
      subst e1 e2 e3 e4
      have l6 := HV.out.load
      have OK := Lib.hid ok; clear ok
      have OK' := Lib.hid ok'; clear ok'
      clear HG HX HG' HX'
      go_wp2_with fail
      with_reducible refine (encode_any (lay b) w5).mono ?_
      rintro e w7 ⟨A7, c7, rfl, hh7, hb7⟩
      rw [encL_lay b OK.out] at hh7 ⊢
      have HV7 := Lib.hid (HV.out.keep hb7)
      have HV7' := Lib.hid (HV'.out.keep hb7)
      have HB7 : Hid (Below w.heap.size w w7) := Lib.hid (HB5.out.trans (hb7.mono HB5.out.size))
      have HH7 := Lib.hid hh7
      have l7 := HV7'.out.load
      clear hh7 hb7 l6 l5 HV HV' HB5
      go_wp2_with fail
      with_reducible refine (encode_any (lay a) w7).mono ?_
      rintro e w8 ⟨A8, c8, rfl, hh8, hb8⟩
      rw [encL_lay a OK'.out] at hh8 ⊢
      have hv8 := HV7.out.keep hb8
      have hv8' := HV7'.out.keep hb8
      have HB8 : Hid (Below w.heap.size w w8) := Lib.hid (HB7.out.trans (hb8.mono HB7.out.size))
      have t1 := run_text w8 _ A7 _ c7 _ (HH7.out.below hb8)
      have t2 := run_text w8 _ A8 _ c8 _ hh8
      have q1 := hv8.load
      have q2 := hv8'.load
      have q3 := run_eqG w8 (lay b) (lay a)
      obtain ⟨i1, hi1⟩ : ∃ v, v = b / 4 := ⟨_, rfl⟩
      obtain ⟨i2, hi2⟩ : ∃ v, v = a / 4 := ⟨_, rfl⟩
      obtain ⟨n1, hn1⟩ : ∃ v, v = 32 + b / 32 := ⟨_, rfl⟩
      obtain ⟨n2, hn2⟩ : ∃ v, v = 32 + a / 32 := ⟨_, rfl⟩
      obtain ⟨d1, hd1⟩ : ∃ v, v = 3 + (b / 4 + 1) / 2 + (32 + b / 32) := ⟨_, rfl⟩
      obtain ⟨d2, hd2⟩ : ∃ v, v = 3 + (a / 4 + 1) / 2 + (32 + a / 32) := ⟨_, rfl⟩
      have f1 : w8.cell? ⟨w2.heap.size, 1, none⟩ = some (.int .i64 i1) := by rw [hv8.cell 1, hi1]; rfl
      have f2 : w8.cell? ⟨w4.heap.size, 1, none⟩ = some (.int .i64 i2) := by rw [hv8'.cell 1, hi2]; rfl
      have f3 : w8.cell? ⟨w2.heap.size, 6, none⟩ = some (.int .i64 n1) := by rw [hv8.cell 6, hn1]; rfl
      have f4 : w8.cell? ⟨w4.heap.size, 6, none⟩ = some (.int .i64 n2) := by rw [hv8'.cell 6, hn2]; rfl
      have f5 : w8.cell? ⟨w2.heap.size, 0, none⟩ = some (.int .i64 b) := by rw [hv8.cell 0]; rfl
      have f6 : w8.cell? ⟨w4.heap.size, 0, none⟩ = some (.int .i64 a) := by rw [hv8'.cell 0]; rfl
      have f7 : w8.cell? ⟨w2.heap.size, 7, none⟩ = some (.int .i64 d1) := by rw [hv8.cell 7, hd1]; rfl
      have f8 : w8.cell? ⟨w4.heap.size, 7, none⟩ = some (.int .i64 d2) := by rw [hv8'.cell 7, hd2]; rfl
      have ok := OK.out
      have ok' := OK'.out
      have g1 : i1 ≤ i2 := by omega
      have g2 : n1 ≤ n2 := by omega
      have g3 : b - d1 ≤ a - d2 + 1 := by omega
      have g4 : 0 ≤ d1 ∧ d1 ≤ 2000 := by omega
      have g5 : 0 ≤ d2 ∧ d2 ≤ 2000 := by omega
      have hne : ¬ b = a := by omega
      have hnd : decide (lay b = lay a) = false := decide_eq_false (fun e => hne (lay_inj e))
      rw [hnd] at q3
      have hns : (sup (b).toNat == sup (a).toNat) = false := beq_eq_false_iff_ne.2 (fun e => hne (by have := sup_inj _ _ (by omega) (by omega) e; omega))
      have hab : (a == b) = false := beq_eq_false_iff_ne.2 (by omega)
      clear hnd
      clear hi1 hi2 hn1 hn2 hd1 hd2 hh8 hb8 hv8 hv8' HH7 HV7 HV7' HB7 l7 OK OK'
      go_wp2
      go_ret
      exact ⟨rfl, HB8.out⟩
    · have e4 : x' = 1 := by rw [HX'.out, layE_out ok']
      have e2 : x = 0 := by rw [HX.out, layE_in ok]
      subst e4 e2
      clear HG HX HG' HX'
      go_wp2
      go_ret
      exact ⟨rfl, HB5.out⟩
  · have e2 : x = 1 := by rw [HX.out, layE_out ok]
    subst e2
    clear HG HX HG' HX'
    go_wp2
    go_ret
    exact ⟨rfl, HB5.out⟩

set_option maxRecDepth 100000 in
set_option maxHeartbeats 2000000 in
theorem walk_eq (a : Int) (w : World) (h1 : -9223372036854775808 ≤ a) (h2 : a ≤ 9223372036854775807) (h3 : -9223372036854775808 ≤ a) (h4 : a ≤ 9223372036854775807) :
    Calls Try.prog 7 #[.int .i64 a, .int .i64 a] w fun e w' => e = .returned (.bool true) ∧ Below w.heap.size w w' := by
  obtain ⟨G, hG⟩ : ∃ G, G = (layE a).1 := ⟨_, rfl⟩
  obtain ⟨x, hx⟩ : ∃ x, x = (layE a).2 := ⟨_, rfl⟩
  obtain ⟨G', hG'⟩ : ∃ G, G = (layE a).1 := ⟨_, rfl⟩
  obtain ⟨x', hx'⟩ : ∃ x, x = (layE a).2 := ⟨_, rfl⟩
  have HG := Lib.hid hG; clear hG
  have HX := Lib.hid hx; clear hx
  have HG' := Lib.hid hG'; clear hG'
  have HX' := Lib.hid hx'; clear hx'
  go_enter Try.func7, Try.ntmps7
  go_wp2_with fail
  with_reducible refine (alive_any w).mono ?_
  rintro e w1 ⟨rfl, hb1⟩
  have HB1 := Lib.hid hb1; clear hb1
  go_wp2_with fail
  with_reducible refine (layout_any a w1).mono ?_
  rintro e w2 ⟨rfl, hb2⟩
  rw [← HG.out, ← HX.out]
  have HB2 : Hid (Below w.heap.size w w2) := Lib.hid (HB1.out.trans (hb2.mono HB1.out.size))
  obtain ⟨w3, hw3⟩ : ∃ y, y = w2.alloc (.cells G.c 23) := ⟨_, rfl⟩
  have l3 := run_stG_new w2 G
  rw [← hw3] at l3
  have HW3 := Lib.hid hw3
  clear hw3 hb2 HB1
  go_wp2_with fail
  with_reducible refine (layout_any a w3).mono ?_
  rintro e w4 ⟨rfl, hb4⟩
  rw [← HG'.out, ← HX'.out]
  obtain ⟨w5, hw5⟩ : ∃ y, y = w4.alloc (.cells G'.c 23) := ⟨_, rfl⟩
  have l5 := run_stG_new w4 G'
  rw [← hw5] at l5
  obtain ⟨hv, hv', hb5⟩ := two_vars HB2.out HW3.out hb4 hw5
  have HV := Lib.hid hv; clear hv
  have HV' := Lib.hid hv'; clear hv'
  have HB5 := Lib.hid hb5; clear hb5
  clear hw5 hb4 HW3 HB2 l3
  by_cases ok : 128 ≤ a ∧ a ≤ 1024
  · by_cases ok' : 128 ≤ a ∧ a ≤ 1024
    · have e1 : G = lay a := by rw [HG.out, layE_in ok]
      have e2 : x = 0 := by rw [HX.out, layE_in ok]
      have e3 : G' = lay a := by rw [HG'.out, layE_in ok']
      have e4 : x' = 0 := by rw [HX'.out, layE_in ok']
      subst e1 e2 e3 e4
      have l6 := HV.out.load
      have OK := Lib.hid ok; clear ok
      have OK' := Lib.hid ok'; clear ok'
      clear HG HX HG' HX'
      go_wp2_with fail
      with_reducible refine (encode_any (lay a) w5).mono ?_
      rintro e w7 ⟨A7, c7, rfl, hh7, hb7⟩
      rw [encL_lay a OK.out] at hh7 ⊢
      have HV7 := Lib.hid (HV.out.keep hb7)
      have HV7' := Lib.hid (HV'.out.keep hb7)
      have HB7 : Hid (Below w.heap.size w w7) := Lib.hid (HB5.out.trans (hb7.mono HB5.out.size))
      have HH7 := Lib.hid hh7
      have l7 := HV7'.out.load
      clear hh7 hb7 l6 l5 HV HV' HB5
      go_wp2_with fail
      with_reducible refine (encode_any (lay a) w7).mono ?_
      rintro e w8 ⟨A8, c8, rfl, hh8, hb8⟩
      rw [encL_lay a OK'.out] at hh8 ⊢
      have hv8 := HV7.out.keep hb8
      have hv8' := HV7'.out.keep hb8
      have HB8 : Hid (Below w.heap.size w w8) := Lib.hid (HB7.out.trans (hb8.mono HB7.out.size))
      have t1 := run_text w8 _ A7 _ c7 _ (HH7.out.below hb8)
      have t2 := run_text w8 _ A8 _ c8 _ hh8
      have q1 := hv8.load
      have q2 := hv8'.load
      have q3 := run_eqG w8 (lay a) (lay a)
      obtain ⟨i1, hi1⟩ : ∃ v, v = a / 4 := ⟨_, rfl⟩
      obtain ⟨i2, hi2⟩ : ∃ v, v = a / 4 := ⟨_, rfl⟩
      obtain ⟨n1, hn1⟩ : ∃ v, v = 32 + a / 32 := ⟨_, rfl⟩
      obtain ⟨n2, hn2⟩ : ∃ v, v = 32 + a / 32 := ⟨_, rfl⟩
      obtain ⟨d1, hd1⟩ : ∃ v, v = 3 + (a / 4 + 1) / 2 + (32 + a / 32) := ⟨_, rfl⟩
      obtain ⟨d2, hd2⟩ : ∃ v, v = 3 + (a / 4 + 1) / 2 + (32 + a / 32) := ⟨_, rfl⟩
      have f1 : w8.cell? ⟨w2.heap.size, 1, none⟩ = some (.int .i64 i1) := by rw [hv8.cell 1, hi1]; rfl
      have f2 : w8.cell? ⟨w4.heap.size, 1, none⟩ = some (.int .i64 i2) := by rw [hv8'.cell 1, hi2]; rfl
      have f3 : w8.cell? ⟨w2.heap.size, 6, none⟩ = some (.int .i64 n1) := by rw [hv8.cell 6, hn1]; rfl
      have f4 : w8.cell? ⟨w4.heap.size, 6, none⟩ = some (.int .i64 n2) := by rw [hv8'.cell 6, hn2]; rfl
      have f5 : w8.cell? ⟨w2.heap.size, 0, none⟩ = some (.int .i64 a) := by rw [hv8.cell 0]; rfl
      have f6 : w8.cell? ⟨w4.heap.size, 0, none⟩ = some (.int .i64 a) := by rw [hv8'.cell 0]; rfl
      have f7 : w8.cell? ⟨w2.heap.size, 7, none⟩ = some (.int .i64 d1) := by rw [hv8.cell 7, hd1]; rfl
      have f8 : w8.cell? ⟨w4.heap.size, 7, none⟩ = some (.int .i64 d2) := by rw [hv8'.cell 7, hd2]; rfl
      have ok := OK.out
      have ok' := OK'.out
      have g1 : i1 ≤ i2 := by omega
      have g2 : n1 ≤ n2 := by omega
      have g3 : a - d1 ≤ a - d2 + 1 := by omega
      have g4 : 0 ≤ d1 ∧ d1 ≤ 2000 := by omega
      have g5 : 0 ≤ d2 ∧ d2 ≤ 2000 := by omega
      rw [decide_eq_true rfl] at q3
      clear hi1 hi2 hn1 hn2 hd1 hd2 hh8 hb8 hv8 hv8' HH7 HV7 HV7' HB7 l7 OK OK'
      go_wp2
      go_ret
      exact ⟨rfl, HB8.out⟩
    · have e4 : x' = 1 := by rw [HX'.out, layE_out ok']
      have e2 : x = 0 := by rw [HX.out, layE_in ok]
      subst e4 e2
      clear HG HX HG' HX'
      go_wp2
      go_ret
      exact ⟨rfl, HB5.out⟩
  · have e2 : x = 1 := by rw [HX.out, layE_out ok]
    subst e2
    clear HG HX HG' HX'
    go_wp2
    go_ret
    exact ⟨rfl, HB5.out⟩

theorem walks : Walks 7 Try.f7 All := by
  intro H enc W base args ds p hval hA hsz _
  rw [Try.params7] at hA hval hsz
  obtain ⟨v0, vs0, d0, ds0, p0, q0, hargs, rfl, rfl, h0, r0⟩ := trodAll_cons hA
  obtain ⟨v1, vs1, d1, ds1, p1, q1, rfl, rfl, rfl, h1, r1⟩ := trodAll_cons r0
  obtain ⟨rfl, rfl, rfl⟩ := trodAll_nil r1
  obtain rfl : args = #[v0, v1] := by cases args; simp_all
  obtain ⟨a, rfl, rfl, rfl, ha⟩ := open_int Try.underlying3 (hval 0 _ v0 rfl rfl) h0
  obtain ⟨b, rfl, rfl, rfl, hb⟩ := open_int Try.underlying3 (hval 1 _ v1 rfl rfl) h1
  have bA := bounds_i64 ha
  have bB := bounds_i64 hb
  rcases Int.lt_trichotomy a b with h | h | h
  · exact walk_lt a b W h (by omega) (by omega) (by omega) (by omega)
  · subst h
    exact walk_eq a W (by omega) (by omega) (by omega) (by omega)
  · exact walk_gt a b W h (by omega) (by omega) (by omega) (by omega)

set_option maxRecDepth 100000 in
theorem proved : Rows.GeomGrowsSaid :=
  OpenClaim.holds_of_wide 7 Try.f7 rfl rfl rfl rfl rfl rfl rfl ⟨rfl, rfl, rfl, rfl, rfl⟩ rfl rfl rfl rfl rfl (by kernel_rfl) Try.func7 (by kernel_rfl)
    (of_decide_eq_true (by kernel_rfl)) (by unfold Func.isWrapper; first | (rw [if_pos (by decide +kernel)]; kernel_rfl) | (rw [if_neg (by decide +kernel)]; exact ⟨rfl, rfl⟩))
    (fun os started H enc _ => lifted (s := Rows.geomGrowsSpec) walks (by kernel_rfl) rfl rfl (fun H ds hl => by match ds, hl with | [d1, d2], _ => rfl) (by kernel_rfl) Try.func7 os started H enc
      (ChangeSpec.witness6 (enc := enc) (C := Try.checked) false ⟨#[], #[.int .i64 0, .int .i64 0], []⟩ 8 (by kernel_rfl) (by kernel_rfl) (by kernel_rfl) (by kernel_rfl)))
#print axioms proved
end Go.Proofs.Ytmlkhnglmjlfbaa.GeomGrows
