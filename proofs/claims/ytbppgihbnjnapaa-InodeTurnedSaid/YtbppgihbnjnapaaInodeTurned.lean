/- InodeTurned: for every inode, its bytes with bits turned within 32 side by side, anywhere, are not read with its number, but where all of them became or were 0: these tell no inode. -/
import Derived.Test.YtbppgihbnjnapaaInAlive
import Derived.RegionTactic
namespace Go.Proofs.Ytbppgihbnjnapaa.InodeTurned
set_option maxRecDepth 20000
open Go.ChangeShapes Go.WideShapes Go.ChangeAt Go.RowKit
open Go.Proofs.Ytbppgihbnjnapaa.Mem Go.Proofs.Ytbppgihbnjnapaa.Crc Go.Proofs.Ytbppgihbnjnapaa.Rec Go.Proofs.Ytbppgihbnjnapaa.Ino Go.Proofs.Ytbppgihbnjnapaa.Lift Go.Proofs.Ytbppgihbnjnapaa.Bst
attribute [local go_sem ↓] Go.wp_at_zero Go.wp_at_succ ldI_eq stI_eq

theorem enc_len {x : In} {n : Int} (h : (enc x n).2 = 0) : (enc x n).1.length = 128 := by
  rcases enc_ways x n with e | ⟨_, ⟨rfl, e⟩ | ⟨hm, e⟩⟩
  · rw [e] at h; simp at h
  · rw [e]; exact zer_len
  · rw [e]; exact code_len x _ (may_body hm)
theorem ends (x : In) (L : List UInt8) (burst first : Nat) (hL : enc x 7 = (L, 0)) (hf : first ≤ 1024) :
    (turnTo burst first L 32 = zer ∧ dec (turnTo burst first L 32) 7 = (in0, 0)) ∨ (turnTo burst first L 32 ≠ zer ∧ x.kind = 0) ∨
      (turnTo burst first L 32 ≠ zer ∧ x.kind ≠ 0 ∧ ∃ y : In, ∃ f : Int, dec (turnTo burst first L 32) 7 = (y, f) ∧ ((f = 0 ∧ marked burst first 128 32 = false) ∨ (f = 13 ∧ marked burst first 128 32 = true))) := by
  have hl : L.length = 128 := by
    have := enc_len (x := x) (n := 7) (by rw [hL])
    rwa [hL] at this
  by_cases hz : turnTo burst first L 32 = zer
  · left; rw [hz]; exact ⟨rfl, dec_zer 7 (by omega)⟩
  · right
    by_cases hk : x.kind = 0
    · exact .inl ⟨hz, hk⟩
    · right
      refine ⟨hz, hk, ?_⟩
      by_cases hm : mask burst first 128 32 = 0
      · have e : turnTo burst first L 32 = L := turn_none burst first L (by rw [hl]; exact hm)
        have hd : dec L 7 = (x, 0) := by
          have := dec_enc (x := x) (n := 7) (by rw [hL])
          rwa [hL] at this
        exact ⟨x, 0, by rw [e]; exact hd, .inl ⟨rfl, by unfold marked; rw [decide_eq_false]; simpa using hm⟩⟩
      · refine ⟨in0, 13, ?_, .inr ⟨rfl, decide_eq_true hm⟩⟩
        rcases enc_ways x 7 with e | ⟨hn, ⟨rfl, e⟩ | ⟨hmay, e⟩⟩
        · rw [hL] at e
          have := congrArg Prod.snd e
          simp at this
        · exact absurd rfl hk
        · rw [hL] at e
          have e1 : L = code x (7 : Int).toNat := congrArg Prod.fst e
          rw [e1] at hz ⊢
          exact dec_turned x 7 burst first hn hmay hf hz hm

set_option maxRecDepth 100000 in
set_option maxHeartbeats 4000000 in
theorem walk (x : In) (A : Option Addr) (c : Nat) (a : Int) (burst : Nat) (w : World) (h : Holds w w.heap.size A x.body.length x.body) (hu : burst < 4294967296) :
    Calls Try.prog 6 #[.agg (x.c A c), .int .i64 a, .int .u32 (burst : Int)] w fun e w' => e = .returned (.bool true) ∧ Below w.heap.size w w' := by
  have H := Lib.hid h; clear h
  obtain ⟨first, hk, hK⟩ := place a 1024 (by omega) (by omega)
  have HK := Lib.hid hk; clear hk
  obtain ⟨L, hL⟩ : ∃ L, L = (enc x 7).1 := ⟨_, rfl⟩
  obtain ⟨r, hr⟩ : ∃ r, r = (enc x 7).2 := ⟨_, rfl⟩
  have hE : enc x 7 = (L, r) := by rw [hL, hr]
  have henc := fun (W : World) (hb : Below w.heap.size w W) => encode_any x A c w.heap.size 7 W (H.out.below hb) hb.size
  rw [hE] at henc
  have HENC := Lib.hid henc; clear henc
  have HE := Lib.hid hE; clear hE hL hr
  have hbx := boxI w x A c
  have l1 := hbx.load
  have HBX := Lib.hid hbx; clear hbx
  obtain ⟨W0, hW0⟩ : ∃ W0, W0 = w.alloc (.cells (x.c A c) 24) := ⟨_, rfl⟩
  rw [← hW0] at l1 HBX
  have HW0 := Lib.hid hW0; clear hW0
  go_enter Try.func6, Try.ntmps6
  go_wp2_with fail
  rw [← HW0.out]
  with_reducible refine (alive_any W0).mono ?_
  rintro e w1 ⟨rfl, hb1⟩
  have HB1 := Lib.hid (HBX.out.next hb1); clear hb1 l1 HBX
  have l1 := HB1.out.load
  go_wp2_with fail
  with_reducible refine (HENC.out w1 HB1.out.below).mono ?_
  rintro e w2 ⟨A2, c2, rfl, ho2, hb2⟩
  have HB2 := Lib.hid (HB1.out.next hb2)
  have HBASE : Hid (w.heap.size < w1.heap.size) := Lib.hid HB1.out.row.lt
  clear hb2 HENC HB1 l1
  by_cases hr : r = 0
  · subst hr
    have hl : L.length = 128 := by
      have := enc_len (x := x) (n := 7) (by rw [HE.out])
      rwa [HE.out] at this
    rw [hl] at ho2 ⊢
    have hends := ends x L burst first HE.out (by have := HK.out; omega)
    have HENDS := Lib.hid hends; clear hends
    have HF := Lib.hid (Owned.fits ho2).1
    obtain ⟨g, cap, hv, hg1, hg2, hcap, -⟩ := Owned.row ho2 (by omega)
    rw [hl] at hv
    injection hv with e1 e2 e3
    clear e2
    subst e1 e3
    have HO2 := Lib.hid ho2
    have HL := Lib.hid hl; clear hl
    clear ho2 hcap hg2 hg1
    go_wp2_with fail
    rw [hK]
    clear hK
    generalize (IntKind.u64.wrap a).tmod 1024 = aa
    go_loopw [10, 11, 12] (fun t i _ wr => ∃ k : Nat, k ≤ 32 ∧ i = .int .i64 (k : Int) ∧ t = .bool (marked burst first 128 k) ∧ Owned wr w1.heap.size (.slice (some ⟨g, 0, none⟩) 128 c2) (turnTo burst first L k) ∧ BoxI w x A c wr) (fun _ i _ _ => 32 - (intOf i).toNat)
    case atStart => exact ⟨0, by omega, rfl, rfl, HO2.out, HB2.out⟩
    case round =>
      clear HO2 HB2
      obtain ⟨k, hk32, rfl, rfl, hown, hbr⟩ := hrel
      have htl : (turnTo burst first L k).length = 128 := by rw [turn_len]; exact HL.out
      have HTL := Lib.hid htl; clear htl
      have HBR := Lib.hid hbr; clear hbr
      rcases Nat.lt_or_ge k 32 with hlt | hge
      · have HO2 := Lib.hid hown
        clear hown
        have hB := bit_bits burst k hu
        rcases Nat.mod_two_eq_zero_or_one (burst / 2 ^ k) with hbit | hbit
        · rw [hbit] at hB
          have hmiss : hit burst first 128 k = false := by simp [hit, hbit]
          have E1 := Lib.hid (marked_miss _ _ _ _ hmiss)
          have E2 : Hid (turnTo burst first L (k + 1) = turnTo burst first L k) := Lib.hid (turn_miss _ _ _ _ (by rw [HL.out]; exact hmiss))
          clear hbit hmiss
          go_wp2
          go_roundw
          case rel => exact ⟨k + 1, by omega, by go_num, by rw [E1.out], by rw [E2.out]; exact HO2.out, HBR.out⟩
          case measure => simp [intOf]; omega
        · rw [hbit] at hB
          by_cases hin : first + k < 1024
          · have hhit : hit burst first 128 k = true := by simp [hit, hbit]; omega
            have E1 := Lib.hid (marked_hit _ _ _ _ hhit)
            have hinI : (first : Int) + (k : Int) < 1024 := by omega
            obtain ⟨P, hP⟩ : ∃ P, first + k = P := ⟨_, rfl⟩
            have hPI : (first : Int) + (k : Int) = (P : Int) := by omega
            have hJ : P / 8 < 128 := by omega
            obtain ⟨g', cap', e', -, hgl, -, hrow⟩ := Owned.row HO2.out (by rw [HTL.out]; omega)
            injection e' with e1 e2 e3
            clear e2
            injection e1 with e1
            injection e1 with e1
            subst e1 e3
            obtain ⟨hc, hf, hst⟩ := hrow (P / 8) (by rw [HTL.out]; exact hJ)
            clear hrow hbit
            obtain ⟨v, hv⟩ : ∃ v, (turnTo burst first L k)[P / 8]'(by rw [HTL.out]; exact hJ) = v := ⟨_, rfl⟩
            rw [hv] at hc
            have E2 := Lib.hid (turn_hit burst first L k (by rw [HL.out]; exact hhit) v (by rw [hP]; simp [List.getD, HTL.out, hJ, hv]))
            have hP' := Lib.hid hP
            have Hst := Lib.hid hst
            unfold byteV at hc
            clear hP hhit hv hst
            go_wp2_with fail
            go_region
            go_wp2
            go_roundw
            case rel =>
              obtain ⟨q1, q2⟩ := Hst.out (v ^^^ UInt8.ofNat (2 ^ (P % 8)))
              rw [cell_bits v (P % 8) (by omega)]
              refine ⟨k + 1, by omega, by go_num, by rw [E1.out], ?_, ?_⟩
              · rw [E2.out, hP'.out]
                exact q1
              · exact ⟨(q2.block _ HBASE.out).trans HBR.out.row, (HBR.out.below.trans (q2.mono (Nat.le_of_lt HBASE.out))).drew⟩
            case measure => simp [intOf]; omega
          · have hmiss : hit burst first 128 k = false := by simp [hit]; omega
            have E1 := Lib.hid (marked_miss _ _ _ _ hmiss)
            have E2 : Hid (turnTo burst first L (k + 1) = turnTo burst first L k) := Lib.hid (turn_miss _ _ _ _ (by rw [HL.out]; exact hmiss))
            obtain ⟨P, hP⟩ : ∃ P : Nat, P = first + k := ⟨_, rfl⟩
            have hPI : (first : Int) + (k : Int) = (P : Int) := by omega
            have hP1 : 1024 ≤ P := by omega
            have hP2 : P ≤ 2048 := by have := HK.out; omega
            clear hbit hmiss hin hP
            go_wp2
            go_roundw
            case rel => exact ⟨k + 1, by omega, by go_num, by rw [E1.out], by rw [E2.out]; exact HO2.out, HBR.out⟩
            case measure => simp [intOf]; omega
      · obtain rfl : k = 32 := by omega
        have HOT := Lib.hid hown; clear hown
        have hends := HENDS.out
        generalize turnTo burst first L 32 = T at HOT HTL hends
        generalize marked burst first 128 32 = M at hends ⊢
        clear hge hk32 HENDS
        have HENDS := Lib.hid hends; clear hends
        -- the worlds of the comparing
        have hbd : BoxI w x A c wr.drew := ⟨HBR.out.row, HBR.out.below.drew⟩
        have hod : Owned wr.drew w1.heap.size (.slice (some ⟨g, 0, none⟩) 128 c2) T := HOT.out
        obtain ⟨w3, hw3⟩ : ∃ y, y = wr.drew.alloc (.cells (zer.map byteV).toArray 5) := ⟨_, rfl⟩
        have m1 := make128 wr.drew
        have hz : Holds w3 w3.heap.size (some ⟨wr.heap.size, 0, none⟩) 128 zer := hw3 ▸ Owned.reads (zer_made wr.drew)
        have hb3 : BoxI w x A c w3 := hw3 ▸ hbd.next ((Below.refl _ _).alloc (Nat.le_refl _) _)
        have ho3 : Owned w3 w1.heap.size (.slice (some ⟨g, 0, none⟩) 128 c2) T := hw3 ▸ Owned.keep hod ((Below.refl _ _).alloc (Nat.le_refl _) _) (Nat.le_refl _)
        rw [← hw3] at m1
        have t0 := run_text wr.drew _ _ 128 c2 T (Owned.reads hod)
        have t1 := run_text w3 _ _ 128 c2 T (Owned.reads ho3)
        have t2 := run_text w3 _ _ 128 128 zer hz
        have HB3 := Lib.hid hb3
        have HO3 := Lib.hid ho3
        have hdec := decode_any (some ⟨g, 0, none⟩) 128 c2 w3.heap.size T 7 w3 (Owned.reads ho3) HF.out (Nat.le_refl _)
        have HDEC := Lib.hid hdec
        obtain ⟨ZZ, hZZ⟩ : ∃ ZZ : ByteArray, ZZ = ⟨zer.toArray⟩ := ⟨_, rfl⟩
        obtain ⟨TT, hTT⟩ : ∃ TT : ByteArray, TT = ⟨T.toArray⟩ := ⟨_, rfl⟩
        rw [← hZZ] at t2
        rw [← hTT] at t0 t1
        have hnl : T ≠ zer → (TT.toList == ZZ.toList) = false := fun hne => by
          refine beq_false_of_ne (fun e => ?_)
          rw [hTT, hZZ, ByteArray.toList_eq, ByteArray.toList_eq] at e
          exact hne e
        have hyl : T = zer → TT = ZZ := fun e => by rw [hTT, hZZ, e]
        have HNL := Lib.hid hnl; clear hnl
        have HYL := Lib.hid hyl; clear hyl
        have q0 := hb3.row.cells.1
        clear hbd hod hw3 hz hb3 ho3 hdec hZZ hTT HOT HBR
        rcases HENDS.out with ⟨hT, hd⟩ | ⟨hT, hk0⟩ | ⟨hT, hk0, y, f, hd, hf⟩
        · have hS := HYL.out hT
          subst hS
          rw [hd] at HDEC
          clear hd hT HENDS HNL HYL
          go_wp2_with fail
          go_region_held (fun V => (convert 22 9 (.slice (some ⟨g, 0, none⟩) 128 c2)).run Try.prog V = .ok (.string TT) V) (first | assumption) (fail)
          all_goals
            clear t0 t1 t2 m1
            go_wp2_with fail
            with_reducible refine HDEC.out.mono ?_
            rintro e w4 ⟨A4, c4, rfl, ho4, hb4⟩
            have l4 := run_stI_new w4 in0 A4 c4
            obtain ⟨w5, hw5⟩ : ∃ y, y = w4.alloc (.cells (in0.c A4 c4) 24) := ⟨_, rfl⟩
            have HB5 : Hid (BoxI w x A c w5) := Lib.hid (hw5 ▸ (HB3.out.next hb4).next ((Below.refl _ _).alloc (Nat.le_refl _) _))
            have l5 := (show VarI w5 w4.heap.size in0 A4 c4 from hw5 ▸ VarI.new w4 in0 A4 c4).load
            rw [← hw5] at l4
            clear hw5 ho4 hb4 q0
            go_wp2_with fail
            with_reducible refine (rnil_any in0 A4 c4 w5).mono ?_
            rintro e w6 ⟨rfl, hb6⟩
            rw [nil_in0]
            have HB6 : Hid (Below w.heap.size w w6) := Lib.hid (HB5.out.next hb6).below
            clear hb6
            go_wp2
            go_ret
            exact ⟨rfl, HB6.out⟩
        · have hS := HNL.out hT
          rw [hk0] at q0
          obtain ⟨y, f, hd⟩ : ∃ (y : In) (f : Int), dec T 7 = (y, f) := ⟨_, _, rfl⟩
          rw [hd] at HDEC
          have HK0 := Lib.hid hk0
          clear hd hT hk0 HENDS HNL HYL
          go_wp2_with fail
          go_region_held (fun V => (convert 22 9 (.slice (some ⟨g, 0, none⟩) 128 c2)).run Try.prog V = .ok (.string TT) V) (first | assumption) (fail)
          all_goals
            clear t0 t1 t2 m1
            go_wp2_with fail
            with_reducible refine HDEC.out.mono ?_
            rintro e w4 ⟨A4, c4, rfl, ho4, hb4⟩
            have l4 := run_stI_new w4 y A4 c4
            obtain ⟨w5, hw5⟩ : ∃ z, z = w4.alloc (.cells (y.c A4 c4) 24) := ⟨_, rfl⟩
            have HB5 : Hid (BoxI w x A c w5) := Lib.hid (hw5 ▸ (HB3.out.next hb4).next ((Below.refl _ _).alloc (Nat.le_refl _) _))
            have p0 := HB5.out.row.cells.1
            rw [HK0.out] at p0
            rw [← hw5] at l4
            clear hw5 ho4 hb4 q0
            go_wp2
            go_ret
            exact ⟨rfl, HB5.out.below⟩
        · have hS := HNL.out hT
          rw [hd] at HDEC
          have hkb : (x.kind == 0) = false := beq_false_of_ne hk0
          obtain ⟨kk, hkk⟩ : ∃ kk, x.kind = kk := ⟨_, rfl⟩
          rw [hkk] at q0 hkb hk0
          have HKK := Lib.hid hkk; clear hkk
          have HFF := Lib.hid hf; clear hf
          clear hd hT HENDS HNL HYL
          go_wp2_with fail
          go_region_held (fun V => (convert 22 9 (.slice (some ⟨g, 0, none⟩) 128 c2)).run Try.prog V = .ok (.string TT) V) (first | assumption) (fail)
          all_goals
            clear t0 t1 t2 m1
            go_wp2_with fail
            with_reducible refine HDEC.out.mono ?_
            rintro e w4 ⟨A4, c4, rfl, ho4, hb4⟩
            have l4 := run_stI_new w4 y A4 c4
            obtain ⟨w5, hw5⟩ : ∃ z, z = w4.alloc (.cells (y.c A4 c4) 24) := ⟨_, rfl⟩
            have HB5 : Hid (BoxI w x A c w5) := Lib.hid (hw5 ▸ (HB3.out.next hb4).next ((Below.refl _ _).alloc (Nat.le_refl _) _))
            have p0 := HB5.out.row.cells.1
            rw [HKK.out] at p0
            rw [← hw5] at l4
            clear hw5 ho4 hb4 q0
            rcases HFF.out with ⟨rfl, rfl⟩ | ⟨rfl, rfl⟩
            · go_wp2
              go_ret
              exact ⟨rfl, HB5.out.below⟩
            · go_wp2
              go_ret
              exact ⟨rfl, HB5.out.below⟩
  · have hrb : (r != 0) = true := bne_iff_ne.2 hr
    clear hK
    go_wp2
    go_ret
    exact ⟨rfl, HB2.out.below⟩

theorem walks : Walks 6 Try.f6 All := by
  intro H enc W base args ds p hval hA hsz _
  rw [Try.params6] at hA hval hsz
  obtain ⟨v0, vs0, d0, ds0, p0, q0, hargs, rfl, rfl, h0, r0⟩ := trodAll_cons hA
  obtain ⟨v1, vs1, d1, ds1, p1, q1, rfl, rfl, rfl, h1, r1⟩ := trodAll_cons r0
  obtain ⟨v2, vs2, d2, ds2, p2, q2, rfl, rfl, rfl, h2, r2⟩ := trodAll_cons r1
  obtain ⟨rfl, rfl, rfl⟩ := trodAll_nil r2
  obtain rfl : args = #[v0, v1, v2] := by cases args; simp_all
  obtain ⟨x, A, c, rfl, hb, hn, hc⟩ := inode_open (hval 0 _ v0 rfl rfl) h0 (inode_weights hsz (j := 0) rfl rfl)
  obtain ⟨x1, rfl, rfl, rfl, hx1⟩ := open_int Try.underlying3 (hval 1 _ v1 rfl rfl) h1
  have bx1 := bounds_i64 hx1
  obtain ⟨x2, rfl, rfl, rfl, hx2⟩ := open_int Try.underlying38 (hval 2 _ v2 rfl rfl) h2
  have bx2 := bounds_u32 hx2
  obtain ⟨u, rfl⟩ := Int.eq_ofNat_of_zero_le bx2.1
  exact walk x A c x1 u W hb (by omega)

set_option maxRecDepth 100000 in
theorem proved : Rows.InodeTurnedSaid :=
  OpenClaim.holds_of_wide 6 Try.f6 rfl rfl rfl rfl rfl rfl rfl ⟨rfl, rfl, rfl, rfl, rfl⟩ rfl rfl rfl rfl rfl (by kernel_rfl) Try.func6 (by kernel_rfl)
    (of_decide_eq_true (by kernel_rfl)) (by unfold Func.isWrapper; first | (rw [if_pos (by decide +kernel)]; kernel_rfl) | (rw [if_neg (by decide +kernel)]; exact ⟨rfl, rfl⟩))
    (fun os started H enc _ => lifted (s := Rows.inodeTurnedSpec) walks (by kernel_rfl) rfl rfl (fun H ds hl => by match ds, hl with | [d1, d2, d3], _ => rfl) (by kernel_rfl) Try.func6 os started H enc
      (ChangeSpec.witness6 (enc := enc) (C := Try.checked) false ⟨#[], #[.agg #[.int .i64 0, .int .i64 0, .int .i64 0, .bool false, .int .i64 0, .slice none 0 0], .int .i64 0, .int .u32 0], []⟩ 8 (by kernel_rfl) (by kernel_rfl) (by kernel_rfl) (by kernel_rfl)))
#print axioms proved
end Go.Proofs.Ytbppgihbnjnapaa.InodeTurned
