/- ExtentReads: any bytes are read as a root, and any texts as nodes, or they are refused, as the document says. -/
import Derived.Test.YtkhenchhafmlmaaExAlive
import Derived.Test.YtkhenchhafmlmaaExRJoin
import Derived.Test.YtkhenchhafmlmaaExSameI
import Derived.Test.YtkhenchhafmlmaaExNodesArg
namespace Go.Proofs.Ytkhenchhafmlmaa.ExtentReads
set_option maxRecDepth 20000
open Go.ChangeShapes Go.WideShapes Go.ChangeAt Go.RowKit
open Go.Proofs.Ytkhenchhafmlmaa.Mem Go.Proofs.Ytkhenchhafmlmaa.Crc Go.Proofs.Ytkhenchhafmlmaa.Rec Go.Proofs.Ytkhenchhafmlmaa.Ex Go.Proofs.Ytkhenchhafmlmaa.Lift Go.Proofs.Ytkhenchhafmlmaa.Reg
attribute [local go_sem ↓] ldX_eq stX_eq eqX_eq neqX_eq ldS_eq eqS_eq neqS_eq

theorem owned_empty (w : World) : Owned (w.alloc (.cells #[] 5)) w.heap.size (.slice (some ⟨w.heap.size, 0, none⟩) 0 0) [] :=
  owned_made w [] w.heap.size (Nat.le_refl _) (by unfold maxLen; simp)
theorem rootL_small (b : List UInt8) : (rootL b).1.length ≤ 60 ∧ (rootL b).2.1.length ≤ 60 := by
  rcases root_ways b with ⟨l, h1, h2, rfl⟩ | ⟨bs, h1, h2, h3, rfl⟩ | ⟨h1, _⟩
  · rw [(root_hold h1 h2).1]; exact ⟨by dsimp only; omega, by simp⟩
  · rw [(root_name h1 h2 h3).1]; exact ⟨by simp, by dsimp only; omega⟩
  · rw [h1]; exact ⟨by simp, by simp⟩
theorem joinL_small (N : List (List UInt8)) : (joinL N).1.length ≤ 60 := by
  rcases join_ways N with ⟨l, h1, h2, rfl⟩ | ⟨h1, _⟩
  · rw [(join_nodes h1 h2).1]; exact (right_lin h1).2.2.2.2
  · rw [h1]; simp

set_option maxRecDepth 100000 in
set_option maxHeartbeats 8000000 in
theorem walk (A A' : Option Addr) (n c n' c' : Nat) (b : List UInt8) (N : List (List UInt8)) (w : World) (h : Holds w w.heap.size A n b) (hnc : n ≤ c) (hn : n ≤ 140737488351232) (h' : HoldsN w w.heap.size A' n' N) (hn' : n' ≤ 5864062014634) :
    Calls Try.prog 8 #[.slice A n c, .slice A' n' c'] w fun E w' => E = .returned (.bool true) ∧ Below w.heap.size w w' := by
  have hh : ∀ V, Below w.heap.size w V → Holds V w.heap.size A n b ∧ w.heap.size ≤ V.heap.size ∧ HoldsN V w.heap.size A' n' N := fun V hV => ⟨h.below hV, hV.size, h'.below hV⟩
  have hroot := fun (A1 : Option Addr) (c1 B1 : Nat) V (hX : Holds V B1 A1 n b) (hB1 : B1 ≤ V.heap.size) (hc1 : n ≤ c1) => root_any A1 n c1 B1 b V hX hB1 hc1
  have hrroot := fun V (hV : Below w.heap.size w V) => rroot_any A n c w.heap.size b V (hh V hV).1 (hh V hV).2.1 hnc
  have hjoin := fun V (hV : Below w.heap.size w V) => join_any A' n' c' w.heap.size N V (hh V hV).2.2 (hh V hV).2.1
  have hrjoin := fun V (hV : Below w.heap.size w V) => rjoin_any A' n' c' w.heap.size N V (hh V hV).2.2 (hh V hV).2.1 hn'
  have hs1 := rootL_small b
  have hs2 := joinL_small N
  rw [← root_eq] at hrroot
  rw [← join_eq] at hrjoin
  obtain ⟨L, hL⟩ : ∃ L, L = (rootL b).1 := ⟨_, rfl⟩
  obtain ⟨bs, hbs⟩ : ∃ x, x = (rootL b).2.1 := ⟨_, rfl⟩
  obtain ⟨er, her⟩ : ∃ x, x = (rootL b).2.2 := ⟨_, rfl⟩
  obtain ⟨M, hM⟩ : ∃ x, x = (joinL N).1 := ⟨_, rfl⟩
  obtain ⟨es, hes⟩ : ∃ x, x = (joinL N).2 := ⟨_, rfl⟩
  unfold RootOut at hroot hrroot
  unfold MarkOut at hjoin hrjoin
  rw [← hL, ← hbs, ← her] at hroot hrroot
  rw [← hM, ← hes] at hjoin hrjoin
  rw [← hL, ← hbs] at hs1
  rw [← hM] at hs2
  have HH := Lib.hid hh; clear hh
  have HROOT := Lib.hid hroot; clear hroot
  have HRROOT := Lib.hid hrroot; clear hrroot
  have HJOIN := Lib.hid hjoin; clear hjoin
  have HRJOIN := Lib.hid hrjoin; clear hrjoin
  have HS1 := Lib.hid hs1; clear hs1
  have HS2 := Lib.hid hs2; clear hs2
  clear h h' hL hbs her hM hes
  go_enter Try.func8, Try.ntmps8
  go_wp2_with fail
  with_reducible refine (alive_any w).mono ?_
  rintro E w1 ⟨rfl, hb1⟩
  have HB1 := Lib.hid hb1; clear hb1
  have hb0 : Below w1.heap.size w1 (w1.alloc (.cells #[] 5)) := (Below.refl _ _).alloc (Nat.le_refl _) _
  obtain ⟨v2, w2, hrun, ho2, hb2⟩ := run_addall (w1.alloc (.cells #[] 5)) 46 w1.heap.size _ [] (owned_empty w1) w.heap.size A n c b ((HH.out w1 HB1.out).1.below (hb0.mono HB1.out.size)) (by simp; omega) (by simp)
  rw [List.nil_append] at ho2
  obtain ⟨A2, c2, rfl⟩ := Owned.shape ho2
  have hbl : b.length = n := (HH.out w (Below.refl _ _)).1.1
  rw [hbl] at ho2 hrun
  have HB2 : Hid (Below w.heap.size w w2) := Lib.hid (HB1.out.trans ((hb0.trans hb2).mono HB1.out.size))
  have hrd := Owned.reads ho2
  have hfc := (Owned.fits ho2).1
  have HRD := Lib.hid hrd; clear hrd ho2 hb2 hb0 hbl
  go_wp2_with (at_builtin; refine wpList_apprun rfl (.tmp 18) (.tmp 19) 46 46 rfl _ _ rfl rfl _ w2 hrun ?_)
  clear hrun
  go_wp2_with fail
  with_reducible refine (HROOT.out A2 c2 w2.heap.size w2 HRD.out (Nat.le_refl _) hfc).mono ?_
  rintro E w3 ⟨A3, c3, A4, c4, rfl, hox, hoi, hb3⟩
  have HB3 : Hid (Below w.heap.size w w3) := Lib.hid (HB2.out.trans (hb3.mono HB2.out.size))
  have hX : ∀ V, Below w3.heap.size w3 V → HoldsX V w3.heap.size A3 L.length L ∧ w3.heap.size ≤ V.heap.size ∧ HoldsI V w3.heap.size A4 bs.length bs := fun V hV => ⟨hox.reads.below hV, hV.size, hoi.reads.below hV⟩
  have HX := Lib.hid hX; clear hX hox hoi hb3 HRD hfc
  go_wp2_with fail
  with_reducible refine (HRROOT.out w3 HB3.out).mono ?_
  rintro E w4 ⟨A5, c5, A6, c6, rfl, hox, hoi, hb4⟩
  have HB4 : Hid (Below w.heap.size w w4) := Lib.hid (HB3.out.trans (hb4.mono HB3.out.size))
  have HB34 := Lib.hid hb4
  have hY : ∀ V, Below w4.heap.size w4 V → HoldsX V w4.heap.size A5 L.length L ∧ w4.heap.size ≤ V.heap.size ∧ HoldsI V w4.heap.size A6 bs.length bs := fun V hV => ⟨hox.reads.below hV, hV.size, hoi.reads.below hV⟩
  have HY := Lib.hid hY; clear hY hox hoi hb4
  go_wp2_with fail
  with_reducible refine (HJOIN.out w4 HB4.out).mono ?_
  rintro E w5 ⟨A7, c7, rfl, hox, hb5⟩
  have HB5 : Hid (Below w.heap.size w w5) := Lib.hid (HB4.out.trans (hb5.mono HB4.out.size))
  have HB45 := Lib.hid hb5
  have hZ : ∀ V, Below w5.heap.size w5 V → HoldsX V w5.heap.size A7 M.length M ∧ w5.heap.size ≤ V.heap.size := fun V hV => ⟨hox.reads.below hV, hV.size⟩
  have HZ := Lib.hid hZ; clear hZ hox hb5
  go_wp2_with fail
  with_reducible refine (HRJOIN.out w5 HB5.out).mono ?_
  rintro E w6 ⟨A8, c8, rfl, hox, hb6⟩
  have HB6 : Hid (Below w.heap.size w w6) := Lib.hid (HB5.out.trans (hb6.mono HB5.out.size))
  have HB56 := Lib.hid hb6
  have hU : ∀ V, Below w6.heap.size w6 V → HoldsX V w6.heap.size A8 M.length M ∧ w6.heap.size ≤ V.heap.size := fun V hV => ⟨hox.reads.below hV, hV.size⟩
  have HU := Lib.hid hU; clear hU hox hb6
  have HB46 : Hid (Below w4.heap.size w4 w6) := Lib.hid (HB45.out.trans (HB56.out.mono HB45.out.size))
  have HB36 : Hid (Below w3.heap.size w3 w6) := Lib.hid (HB34.out.trans (HB46.out.mono HB34.out.size))
  have hc1 := same_any A3 A5 L.length L.length c3 c5 w3.heap.size w4.heap.size L L w6 (HX.out w6 HB36.out).1 (HY.out w6 HB46.out).1 (HX.out w6 HB36.out).2.1 (HY.out w6 HB46.out).2.1 (by have := HS1.out; omega)
  rw [decide_eq_true rfl] at hc1
  have hc2 := fun V (hV : Below w6.heap.size w6 V) => sameI_any A4 A6 bs.length bs.length c4 c6 w3.heap.size w4.heap.size bs bs V (HX.out V (HB36.out.trans (hV.mono HB36.out.size))).2.2 (HY.out V (HB46.out.trans (hV.mono HB46.out.size))).2.2 (by have := HS1.out; omega)
  simp only [decide_true] at hc2
  have hc3 := fun V (hV : Below w6.heap.size w6 V) => same_any A7 A8 M.length M.length c7 c8 w5.heap.size w6.heap.size M M V (HZ.out V (HB56.out.trans (hV.mono HB56.out.size))).1 (HU.out V hV).1 (HZ.out V (HB56.out.trans (hV.mono HB56.out.size))).2 (HU.out V hV).2 (by have := HS2.out; omega)
  simp only [decide_true] at hc3
  have HC1 := Lib.hid hc1; clear hc1
  have HC2 := Lib.hid hc2; clear hc2
  have HC3 := Lib.hid hc3; clear hc3
  clear HX HY HZ HU HS1 HS2
  generalize L.length = ll at HC1 ⊢
  generalize bs.length = lb at HC2 ⊢
  generalize M.length = lm at HC3 ⊢
  go_wp2_with fail
  with_reducible refine HC1.out.mono ?_
  rintro E w7 ⟨rfl, hb7⟩
  have HB7 := Lib.hid hb7; clear hb7
  go_wp2_with fail
  with_reducible refine (HC2.out w7 HB7.out).mono ?_
  rintro E w8 ⟨rfl, hb8⟩
  have HB8 : Hid (Below w6.heap.size w6 w8) := Lib.hid (HB7.out.trans (hb8.mono HB7.out.size))
  clear hb8
  go_wp2_with fail
  with_reducible refine (HC3.out w8 HB8.out).mono ?_
  rintro E w9 ⟨rfl, hb9⟩
  have HB9 : Hid (Below w.heap.size w w9) := Lib.hid (HB6.out.trans ((HB8.out.trans (hb9.mono HB8.out.size)).mono HB6.out.size))
  clear hb9
  go_wp2
  go_ret
  exact ⟨rfl, HB9.out⟩

theorem walks : Walks 8 Try.f8 All := by
  intro H enc W base args ds p hval hA hsz _
  rw [Try.params8] at hA hval hsz
  obtain ⟨v0, vs0, d0, ds0, p0, q0, hargs, rfl, rfl, h0, r0⟩ := trodAll_cons hA
  obtain ⟨v1, vs1, d1, ds1, p1, q1, rfl, rfl, rfl, h1, r1⟩ := trodAll_cons r0
  obtain ⟨rfl, rfl, rfl⟩ := trodAll_nil r1
  obtain rfl : args = #[v0, v1] := by cases args; simp_all
  obtain ⟨A0, n0, c0, b0, rfl, hb0, hn0, hc0⟩ := open_bytesC (hval 0 _ v0 rfl rfl) h0 _ (reach_bytes hsz (j := 0) rfl rfl)
  obtain ⟨A1, n1, c1, N1, rfl, hN1, hn1, hc1⟩ := nodes_open (hval 1 _ v1 rfl rfl) h1 _ (reach_nodes hsz (j := 1) rfl rfl)
  exact walk A0 A1 n0 c0 n1 c1 b0 N1 W hb0 hn0 (by omega) hN1 (by omega)

set_option maxRecDepth 100000 in
theorem proved : Rows.ExtentReadsSaid :=
  OpenClaim.holds_of_wide 8 Try.f8 rfl rfl rfl rfl rfl rfl rfl ⟨rfl, rfl, rfl, rfl, rfl⟩ rfl rfl rfl rfl rfl (by kernel_rfl) Try.func8 (by kernel_rfl)
    (of_decide_eq_true (by kernel_rfl)) (by unfold Func.isWrapper; first | (rw [if_pos (by decide +kernel)]; kernel_rfl) | (rw [if_neg (by decide +kernel)]; exact ⟨rfl, rfl⟩))
    (fun os started H enc _ => lifted (s := Rows.extentReadsSpec) walks (by kernel_rfl) rfl rfl (fun H ds hl => by match ds, hl with | [d1, d2], _ => rfl) (by kernel_rfl) Try.func8 os started H enc
      (ChangeSpec.witness6 (enc := enc) (C := Try.checked) false ⟨#[], #[.slice none 0 0, .slice none 0 0], []⟩ 8 (by kernel_rfl) (by kernel_rfl) (by kernel_rfl) (by kernel_rfl)))
#print axioms proved
end Go.Proofs.Ytkhenchhafmlmaa.ExtentReads
