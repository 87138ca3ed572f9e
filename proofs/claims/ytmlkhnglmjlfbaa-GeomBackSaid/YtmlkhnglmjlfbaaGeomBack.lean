/- GeomBack: for every number of blocks, a superblock is read again; with bits turned within 32 side by side, anywhere, it is not; and what is told is new memory each time. -/
import Derived.Test.YtmlkhnglmjlfbaaGmAny
import Derived.Test.YtmlkhnglmjlfbaaGmBack
import Derived.Test.YtmlkhnglmjlfbaaLift
import Derived.RegionTactic
namespace Go.Proofs.Ytmlkhnglmjlfbaa.GeomBack
set_option maxRecDepth 20000
open Go.ChangeShapes Go.WideShapes Go.ChangeAt Go.RowKit
open Go.Proofs.Ytmlkhnglmjlfbaa.Mem Go.Proofs.Ytmlkhnglmjlfbaa.Crc Go.Proofs.Ytmlkhnglmjlfbaa.Rec Go.Proofs.Ytmlkhnglmjlfbaa.Gm Go.Proofs.Ytmlkhnglmjlfbaa.Lift Go.Proofs.Ytmlkhnglmjlfbaa.Bst
attribute [local go_sem ↓] ldG_eq stG_eq eqG_eq neqG_eq

set_option maxRecDepth 100000 in
theorem walk_no (b : Int) (a : Int) (u : Int) (w : World) (h : ¬ (128 ≤ b ∧ b ≤ 1024)) :
    Calls Try.prog 6 #[.int .i64 b, .int .i64 a, .int .u32 u] w fun e w' => e = .returned (.bool true) ∧ Below w.heap.size w w' := by
  have h' : b < 128 ∨ 1024 < b := by omega
  have hno : gm0.is = false := by decide
  have HH := Lib.hid h'; clear h' h
  go_enter Try.func6, Try.ntmps6
  go_wp2_with fail
  with_reducible refine (alive_any w).mono ?_
  rintro e w1 ⟨rfl, hb1⟩
  have HB1 := Lib.hid hb1; clear hb1
  go_wp2_with fail
  with_reducible refine (layout_no b w1 HH.out).mono ?_
  rintro e w2 ⟨rfl, hb2⟩
  obtain ⟨w3, hw3⟩ : ∃ y, y = w2.alloc (.cells gm0.c 23) := ⟨_, rfl⟩
  have l3 := run_stG_new w2 gm0
  rw [← hw3] at l3
  have HV3 : Hid (VarG w3 w2.heap.size gm0) := Lib.hid (hw3 ▸ VarG.new w2 _)
  have HB3 : Hid (Below w.heap.size w w3) := Lib.hid (hw3 ▸ (HB1.out.trans (hb2.mono HB1.out.size)).alloc (Nat.le_trans HB1.out.size hb2.size) _)
  have l4 := HV3.out.load
  have HNO := Lib.hid hno
  clear hw3 hb2 HB1 HV3 hno
  go_wp2_with fail
  with_reducible refine (encode_no gm0 w3 HNO.out).mono ?_
  rintro e w4 ⟨rfl, hb4⟩
  have HB4 : Hid (Below w.heap.size w w4) := Lib.hid (HB3.out.trans (hb4.mono HB3.out.size))
  clear hb4 HB3 l3 l4
  go_wp2
  go_ret
  exact ⟨rfl, HB4.out⟩

set_option maxRecDepth 100000 in
set_option maxHeartbeats 2000000 in
theorem walk_ok (b : Nat) (a : Int) (burst : Nat) (w : World) (h1 : 128 ≤ b) (h2 : b ≤ 1024) (hu : burst < 4294967296) :
    Calls Try.prog 6 #[.int .i64 (b : Int), .int .i64 a, .int .u32 (burst : Int)] w fun e w' => e = .returned (.bool true) ∧ Below w.heap.size w w' := by
  obtain ⟨first, hk, hK⟩ := place a 2048 (by omega) (by omega)
  have hdec : decE (sup b) = .tuple #[.agg (lay (b : Int)).c, .int .i64 0] := by
    unfold decE
    rw [if_pos (isSup_sup b h1 h2), said_sup b h2]
  have HDEC := Lib.hid hdec; clear hdec
  have hdecT : decE (turnTo burst first (sup b) 32) = if mask burst first 256 32 = 0 then .tuple #[.agg (lay (b : Int)).c, .int .i64 0] else .tuple #[.agg gm0.c, .int .i64 13] := by
    by_cases hm : mask burst first 256 32 = 0
    · rw [if_pos hm, turn_none burst first (sup b) (by rw [sup_len]; exact hm)]; exact HDEC.out
    · rw [if_neg hm]
      unfold decE
      rw [if_neg (by rw [turned_not burst first b (by omega) hm]; simp)]
  have HDECT := Lib.hid hdecT; clear hdecT
  obtain ⟨G, hG⟩ : ∃ G, G = lay (b : Int) := ⟨_, rfl⟩
  have h1' : (128 : Int) ≤ (b : Int) := by omega
  have h2' : (b : Int) ≤ 1024 := by omega
  have HK := Lib.hid hk; clear hk
  have H1 := Lib.hid h1; clear h1
  have H2 := Lib.hid h2; clear h2
  have HG := Lib.hid hG; clear hG
  have H1' := Lib.hid h1'; clear h1'
  have H2' := Lib.hid h2'; clear h2'
  go_enter Try.func6, Try.ntmps6
  go_wp2_with fail
  with_reducible refine (alive_any w).mono ?_
  rintro e w1 ⟨rfl, hb1⟩
  have HB1 := Lib.hid hb1; clear hb1
  go_wp2_with fail
  with_reducible refine (layout_ok (b : Int) w1 H1'.out H2'.out).mono ?_
  rintro e w2 ⟨rfl, hb2⟩
  rw [← HG.out]
  obtain ⟨w3, hw3⟩ : ∃ y, y = w2.alloc (.cells G.c 23) := ⟨_, rfl⟩
  have l3 := run_stG_new w2 G
  rw [← hw3] at l3
  have HV3 : Hid (VarG w3 w2.heap.size G) := Lib.hid (hw3 ▸ VarG.new w2 _)
  have HB3 : Hid (Below w.heap.size w w3) := Lib.hid (hw3 ▸ (HB1.out.trans (hb2.mono HB1.out.size)).alloc (Nat.le_trans HB1.out.size hb2.size) _)
  have l4 := HV3.out.load
  clear hw3 hb2 HB1
  have henc : Calls Try.prog 11 #[.agg G.c] w3 (Sup b w3) := by rw [HG.out]; exact encode_ok b w3 H1.out H2.out
  have HENC := Lib.hid henc; clear henc
  go_wp2_with fail
  with_reducible refine HENC.out.mono ?_
  rintro e w4 ⟨A, c, rfl, ho, hb4⟩
  have HV4 := Lib.hid (HV3.out.keep hb4)
  have HB4 : Hid (Below w.heap.size w w4) := Lib.hid (HB3.out.trans (hb4.mono HB3.out.size))
  have hlt : w2.heap.size < w3.heap.size := HV3.out.lt
  obtain ⟨g, cap, hv, hg1, hg2, hcap, -⟩ := Owned.row ho (by rw [sup_len]; omega)
  have hcap2 := (Owned.fits ho).2
  injection hv with e1 e2 e3
  clear e2
  subst e1 e3
  have HO4 := Lib.hid ho
  have HLT := Lib.hid hlt; clear hlt
  have HC1 : Hid (256 ≤ c) := Lib.hid (Owned.fits ho).1
  have HC2 := Lib.hid hcap2
  have HBASE : Hid (w.heap.size ≤ w3.heap.size) := Lib.hid HB3.out.size
  clear ho hb4 hcap hcap2 l3 l4 HB3 HENC HV3
  go_wp2_with fail
  with_reducible refine (decode_full (some ⟨g, 0, none⟩) c w4.heap.size (sup b) w4 (Owned.reads HO4.out) HC1.out HC2.out (Nat.le_refl _)).mono ?_
  rintro e w5 ⟨rfl, hb5⟩
  rw [HDEC.out, ← HG.out]
  obtain ⟨w6, hw6⟩ : ∃ y, y = w5.alloc (.cells G.c 23) := ⟨_, rfl⟩
  have l6 := run_stG_new w5 G
  rw [← hw6] at l6
  have HV6 : Hid (VarG w6 w2.heap.size G) := Lib.hid (hw6 ▸ (HV4.out.keep hb5).alloc _)
  have HV6' : Hid (VarG w6 w5.heap.size G) := Lib.hid (hw6 ▸ VarG.new w5 _)
  have HO6 : Hid (Owned w6 w3.heap.size (.slice (some ⟨g, 0, none⟩) 256 c) (sup b)) := Lib.hid (hw6 ▸ Owned.keep (Owned.keep HO4.out hb5 (Nat.le_refl _)) ((Below.refl w5.heap.size w5).alloc (Nat.le_refl _) _) (Nat.le_refl _))
  have HB6 : Hid (Below w.heap.size w w6) := Lib.hid (hw6 ▸ (HB4.out.trans (hb5.mono HB4.out.size)).alloc (Nat.le_trans HB4.out.size hb5.size) _)
  have q1 := HV6.out.load
  have q2 := HV6'.out.load
  have q3 := run_neqG w6 G G
  rw [decide_eq_true rfl] at q3
  clear hw6 hb5 HO4 HV4 HB4 HV6'
  go_wp2_with fail
  clear q1 q2 q3 l6
  have hsl := sup_len b
  have HSL := Lib.hid hsl; clear hsl
  rw [hK]
  clear hK
  generalize (IntKind.u64.wrap a).tmod 2048 = aa
  go_loopw [14, 15, 16] (fun t i _ wr => ∃ k : Nat, k ≤ 32 ∧ i = .int .i64 (k : Int) ∧ t = .bool (marked burst first 256 k) ∧ Owned wr w3.heap.size (.slice (some ⟨g, 0, none⟩) 256 c) (turnTo burst first (sup b) k) ∧ VarG wr w2.heap.size G ∧ Below w.heap.size w wr) (fun _ i _ _ => 32 - (intOf i).toNat)
  case atStart => exact ⟨0, by omega, rfl, rfl, HO6.out, HV6.out, HB6.out⟩
  case round =>
    clear HO6 HV6 HB6
    obtain ⟨k, hk32, rfl, rfl, hown, hvr, hbr⟩ := hrel
    have htl : (turnTo burst first (sup b) k).length = 256 := by rw [turn_len]; exact HSL.out
    have HTL := Lib.hid htl; clear htl
    have HVR := Lib.hid hvr; clear hvr
    have HBR := Lib.hid hbr; clear hbr
    rcases Nat.lt_or_ge k 32 with hlt | hge
    · have HO2 := Lib.hid hown
      clear hown
      have hB := bit_bits burst k hu
      rcases Nat.mod_two_eq_zero_or_one (burst / 2 ^ k) with hbit | hbit
      · rw [hbit] at hB
        have hmiss : hit burst first 256 k = false := by simp [hit, hbit]
        have E1 := Lib.hid (marked_miss _ _ _ _ hmiss)
        have E2 : Hid (turnTo burst first (sup b) (k + 1) = turnTo burst first (sup b) k) := Lib.hid (turn_miss _ _ _ _ (by rw [HSL.out]; exact hmiss))
        clear hbit hmiss
        go_wp2
        go_roundw
        case rel => exact ⟨k + 1, by omega, by go_num, by rw [E1.out], by rw [E2.out]; exact HO2.out, HVR.out, HBR.out⟩
        case measure => simp [intOf]; omega
      · rw [hbit] at hB
        by_cases hin : first + k < 2048
        · have hhit : hit burst first 256 k = true := by simp [hit, hbit]; omega
          have E1 := Lib.hid (marked_hit _ _ _ _ hhit)
          have hinI : (first : Int) + (k : Int) < 2048 := by omega
          obtain ⟨P, hP⟩ : ∃ P, first + k = P := ⟨_, rfl⟩
          have hPI : (first : Int) + (k : Int) = (P : Int) := by omega
          have hJ : P / 8 < 256 := by omega
          obtain ⟨g', cap', e', -, hgl, -, hrow⟩ := Owned.row HO2.out (by rw [HTL.out]; omega)
          injection e' with e1 e2 e3
          clear e2
          injection e1 with e1
          injection e1 with e1
          subst e1 e3
          obtain ⟨hc, hf, hst⟩ := hrow (P / 8) (by rw [HTL.out]; exact hJ)
          clear hrow hbit
          obtain ⟨v, hv⟩ : ∃ v, (turnTo burst first (sup b) k)[P / 8]'(by rw [HTL.out]; exact hJ) = v := ⟨_, rfl⟩
          rw [hv] at hc
          have E2 := Lib.hid (turn_hit burst first (sup b) k (by rw [HSL.out]; exact hhit) v (by rw [hP]; simp [List.getD, HTL.out, hJ, hv]))
          have hP' := Lib.hid hP
          have Hst := Lib.hid hst
          unfold byteV at hc
          clear hP hhit hv hst
          go_wp2_with fail
          go_region
          go_wp2
          go_roundw
          case rel =>
            obtain ⟨q1, q2⟩ := Hst.out (v ^^^ UInt8.ofNat (2 ^ (P % 8)))
            rw [cell_bits v (P % 8) (by omega)]
            refine ⟨k + 1, by omega, by go_num, by rw [E1.out], ?_, ?_, (HBR.out.trans (q2.mono HBASE.out)).drew⟩
            · rw [E2.out, hP'.out]
              exact q1
            · exact (q2.block _ HLT.out).trans HVR.out
          case measure => simp [intOf]; omega
        · have hmiss : hit burst first 256 k = false := by simp [hit]; omega
          have E1 := Lib.hid (marked_miss _ _ _ _ hmiss)
          have E2 : Hid (turnTo burst first (sup b) (k + 1) = turnTo burst first (sup b) k) := Lib.hid (turn_miss _ _ _ _ (by rw [HSL.out]; exact hmiss))
          obtain ⟨P, hP⟩ : ∃ P : Nat, P = first + k := ⟨_, rfl⟩
          have hPI : (first : Int) + (k : Int) = (P : Int) := by omega
          have hP1 : 2048 ≤ P := by omega
          have hP2 : P ≤ 4096 := by have := HK.out; omega
          clear hbit hmiss hin hP
          go_wp2
          go_roundw
          case rel => exact ⟨k + 1, by omega, by go_num, by rw [E1.out], by rw [E2.out]; exact HO2.out, HVR.out, HBR.out⟩
          case measure => simp [intOf]; omega
    · obtain rfl : k = 32 := by omega
      have HOT := Lib.hid hown; clear hown
      have l1 := HVR.out.load
      have hmd : marked burst first 256 32 = !decide (mask burst first 256 32 = 0) := by unfold marked; simp
      rw [hmd]
      clear hmd
      obtain ⟨x, X, hdT, hx13⟩ : ∃ (x : Int) (X : Gm), decE (turnTo burst first (sup b) 32) = .tuple #[.agg X.c, .int .i64 x] ∧ (x == 13) = !decide (mask burst first 256 32 = 0) := by
        by_cases hm : mask burst first 256 32 = 0
        · exact ⟨0, lay (b : Int), by rw [HDECT.out, if_pos hm], by simp [hm]⟩
        · exact ⟨13, gm0, by rw [HDECT.out, if_neg hm], by simp [hm]⟩
      have HDT := Lib.hid hdT; clear hdT
      generalize decide (mask burst first 256 32 = 0) = D at hx13 ⊢
      generalize turnTo burst first (sup b) 32 = T at HOT HTL HDT
      clear hge hk32
      go_wp2_with fail
      with_reducible refine (decode_full (some ⟨g, 0, none⟩) c wr.heap.size T wr (Owned.reads HOT.out) HC1.out HC2.out (Nat.le_refl _)).mono ?_
      rintro e w7 ⟨rfl, hb7⟩
      rw [HDT.out]
      have HV7 := Lib.hid (HVR.out.keep hb7)
      have HB7 : Hid (Below w.heap.size w w7) := Lib.hid (HBR.out.trans (hb7.mono HBR.out.size))
      have l7 := HV7.out.load
      have henc : Calls Try.prog 11 #[.agg G.c] w7 (Sup b w7) := by rw [HG.out]; exact encode_ok b w7 H1.out H2.out
      have HENC := Lib.hid henc; clear henc
      clear hb7 l1 HVR HBR
      go_wp2_with fail
      with_reducible refine HENC.out.mono ?_
      rintro e w8 ⟨A8, c8, rfl, ho8, hb8⟩
      have HV8 := Lib.hid (HV7.out.keep hb8)
      have HB8 : Hid (Below w.heap.size w w8) := Lib.hid (HB7.out.trans (hb8.mono HB7.out.size))
      have HR8 := Lib.hid (Owned.reads ho8)
      have l8 := HV8.out.load
      have henc : Calls Try.prog 12 #[.agg G.c] w8 (Sup b w8) := by rw [HG.out]; exact rencode_ok b w8 H1.out H2.out
      have HENC' := Lib.hid henc; clear henc
      clear hb8 ho8 l7 HV7 HB7 HENC
      go_wp2_with fail
      with_reducible refine HENC'.out.mono ?_
      rintro e w9 ⟨A9, c9, rfl, ho9, hb9⟩
      have HB9 : Hid (Below w.heap.size w w9) := Lib.hid (HB8.out.trans (hb9.mono HB8.out.size))
      have t1 := run_text w9 _ A8 256 c8 _ (HR8.out.below hb9)
      have t2 := run_text w9 _ A9 256 c9 _ (Owned.reads ho9)
      clear hb9 ho9 l8 HV8 HB8 HENC' HR8
      go_wp2
      go_ret
      exact ⟨rfl, HB9.out⟩

theorem walks : Walks 6 Try.f6 All := by
  intro H enc W base args ds p hval hA hsz _
  rw [Try.params6] at hA hval hsz
  obtain ⟨v0, vs0, d0, ds0, p0, q0, hargs, rfl, rfl, h0, r0⟩ := trodAll_cons hA
  obtain ⟨v1, vs1, d1, ds1, p1, q1, rfl, rfl, rfl, h1, r1⟩ := trodAll_cons r0
  obtain ⟨v2, vs2, d2, ds2, p2, q2, rfl, rfl, rfl, h2, r2⟩ := trodAll_cons r1
  obtain ⟨rfl, rfl, rfl⟩ := trodAll_nil r2
  obtain rfl : args = #[v0, v1, v2] := by cases args; simp_all
  obtain ⟨b, rfl, rfl, rfl, hb⟩ := open_int Try.underlying3 (hval 0 _ v0 rfl rfl) h0
  obtain ⟨a, rfl, rfl, rfl, ha⟩ := open_int Try.underlying3 (hval 1 _ v1 rfl rfl) h1
  obtain ⟨y, rfl, rfl, rfl, hy⟩ := open_int Try.underlying41 (hval 2 _ v2 rfl rfl) h2
  have bY := bounds_u32 hy
  obtain ⟨u, rfl⟩ := Int.eq_ofNat_of_zero_le bY.1
  by_cases ok : 128 ≤ b ∧ b ≤ 1024
  · obtain ⟨n, rfl⟩ := Int.eq_ofNat_of_zero_le (show 0 ≤ b by omega)
    exact walk_ok n a u W (by omega) (by omega) (by omega)
  · exact walk_no b a _ W ok

set_option maxRecDepth 100000 in
theorem proved : Rows.GeomBackSaid :=
  OpenClaim.holds_of_wide 6 Try.f6 rfl rfl rfl rfl rfl rfl rfl ⟨rfl, rfl, rfl, rfl, rfl⟩ rfl rfl rfl rfl rfl (by kernel_rfl) Try.func6 (by kernel_rfl)
    (of_decide_eq_true (by kernel_rfl)) (by unfold Func.isWrapper; first | (rw [if_pos (by decide +kernel)]; kernel_rfl) | (rw [if_neg (by decide +kernel)]; exact ⟨rfl, rfl⟩))
    (fun os started H enc _ => lifted (s := Rows.geomBackSpec) walks (by kernel_rfl) rfl rfl (fun H ds hl => by match ds, hl with | [d1, d2, d3], _ => rfl) (by kernel_rfl) Try.func6 os started H enc
      (ChangeSpec.witness6 (enc := enc) (C := Try.checked) false ⟨#[], #[.int .i64 0, .int .i64 0, .int .u32 0], []⟩ 8 (by kernel_rfl) (by kernel_rfl) (by kernel_rfl) (by kernel_rfl)))
#print axioms proved
end Go.Proofs.Ytmlkhnglmjlfbaa.GeomBack
