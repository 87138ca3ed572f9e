/- SparseTwo: for every list of runs and every two spots: two puts at places that have nothing in common give the same list in either order, and the same holes made in both give the same. For every list within the reach of memory; the tables that the row lists are laid, and no call reads one. -/
import Derived.Test.YtmbmjdogfjmlpaaDoorSpArg
import Derived.Test.YtmbmjdogfjmlpaaDoorSpLaws
import Derived.ChangeMaps5
namespace Go.Proofs.YtmbmjdogfjmlpaaDoor.SparseTwo
set_option maxRecDepth 20000
open Go.ChangeShapes Go.WideShapes Go.ChangeAt Go.RowKit Go.Deep
open Go.Proofs.YtmbmjdogfjmlpaaDoor.Mem Go.Proofs.YtmbmjdogfjmlpaaDoor.Rec Go.Proofs.YtmbmjdogfjmlpaaDoor.Sp Go.Proofs.YtmbmjdogfjmlpaaDoor.Lift Go.Proofs.YtmbmjdogfjmlpaaDoor.Reg
attribute [local go_sem ↓] ldX_eq stX_eq

theorem small300 (x : Int) : ∃ k : Nat, k < 300 ∧ (IntKind.u64.wrap x).tmod 300 = (k : Int) ∧ wrap64 ((IntKind.u64.wrap x).tmod 300) = (k : Int) := by
  refine ⟨((x % 18446744073709551616) % 300).toNat, by omega, ?_, ?_⟩
  · rw [IntKind.wrap_u64, Int.tmod_eq_emod_of_nonneg (by omega)]
    omega
  · rw [IntKind.wrap_u64, Int.tmod_eq_emod_of_nonneg (by omega)]
    unfold wrap64
    omega
set_option maxRecDepth 100000 in
set_option maxHeartbeats 16000000 in
theorem walk (A : Option Addr) (n c : Nat) (l : List Rn) (sa sn ta tn : Int) (w : World) (h : HoldsX w w.heap.size A n l) (hrep : ∀ x ∈ l, x.rep) (hn : n ≤ 5864062014634) (hsa : -9223372036854775808 ≤ sa ∧ sa ≤ 9223372036854775807) (hta : -9223372036854775808 ≤ ta ∧ ta ≤ 9223372036854775807) :
    Calls Tryd.prog 7 #[.slice A n c, .agg #[.int .i64 sa, .int .i64 sn], .agg #[.int .i64 ta, .int .i64 tn]] w fun E w' => E = .returned (.bool true) ∧ Below w.heap.size w w' := by
  obtain ⟨post, hpost⟩ : ∃ post : Ending → World → Prop, post = fun E w' => E = .returned (.bool true) ∧ Below w.heap.size w w' := ⟨_, rfl⟩
  rw [← hpost]
  have HP := Lib.hid hpost; clear hpost
  have hln := h.1
  have hh : ∀ V, Below w.heap.size w V → HoldsX V w.heap.size A n l := fun V hV => h.below hV
  have HH := Lib.hid hh; clear hh h
  have HREP := Lib.hid hrep; clear hrep
  obtain ⟨W0, hW0⟩ : ∃ W0, W0 = (w.alloc (.cells #[.int .i64 sa, .int .i64 sn] 40)).alloc (.cells #[.int .i64 ta, .int .i64 tn] 40) := ⟨_, rfl⟩
  obtain ⟨gx, hgx⟩ : ∃ gx, gx = w.heap.size := ⟨_, rfl⟩
  have hv0 : VarP W0 gx sa sn := by rw [hW0, hgx]; exact (VarP.new w sa sn).alloc _
  have hu0 : VarP W0 (gx + 1) ta tn := by
    have := VarP.new (w.alloc (.cells #[.int .i64 sa, .int .i64 sn] 40)) ta tn
    rw [hW0, hgx]
    simpa using this
  have hb0 : Below w.heap.size w W0 := by rw [hW0]; exact ((Below.refl _ w).alloc (Nat.le_refl _) _).alloc (by simp) _
  have HGX := Lib.hid hgx; clear hgx
  have HV0 := Lib.hid hv0; clear hv0
  have HU0 := Lib.hid hu0; clear hu0
  have HB0 := Lib.hid hb0; clear hb0
  have HW0 := Lib.hid hW0; clear hW0
  go_enter Tryd.func7, Tryd.ntmps7
  go_wp2_with fail
  rw [← HW0.out, ← HGX.out]
  with_reducible refine (alive_any W0).mono ?_
  rintro E1 w1 ⟨rfl, hb1⟩
  have HB1 : Hid (Below w.heap.size w w1) := Lib.hid (HB0.out.trans (hb1.mono HB0.out.size))
  have HV1 : Hid (VarP w1 gx sa sn) := Lib.hid (HV0.out.keep hb1 HV0.out.lt)
  have HU1 : Hid (VarP w1 (gx + 1) ta tn) := Lib.hid (HU0.out.keep hb1 HU0.out.lt)
  clear hb1 HV0 HU0 HW0
  obtain ⟨q0, q1⟩ := HV1.out.cells
  obtain ⟨q2, q3⟩ := HU1.out.cells
  obtain ⟨na, hna, hk1, hk2⟩ := small300 sn
  obtain ⟨nb, hnb, hk3, hk4⟩ := small300 tn
  have hmk := fun W => run_makeZ na (by omega) W
  have hmk2 := fun W => run_makeZ nb (by omega) W
  have hna0 : (0 : Int) ≤ (na : Int) := by omega
  have hnb0 : (0 : Int) ≤ (nb : Int) := by omega
  have hna3 : (na : Int) ≤ 300 := by omega
  have hnb3 : (nb : Int) ≤ 300 := by omega
  obtain ⟨Za, hZa⟩ : ∃ Z, Z = ((List.replicate na (0 : UInt8)).map byteV).toArray := ⟨_, rfl⟩
  obtain ⟨Zb, hZb⟩ : ∃ Z, Z = ((List.replicate nb (0 : UInt8)).map byteV).toArray := ⟨_, rfl⟩
  have hoa := fun W : World => owned_made W (List.replicate na 0) W.heap.size (Nat.le_refl _) (by rw [List.length_replicate]; unfold maxLen; omega)
  have hob := fun W : World => owned_made W (List.replicate nb 0) W.heap.size (Nat.le_refl _) (by rw [List.length_replicate]; unfold maxLen; omega)
  simp only [List.length_replicate] at hoa hob
  simp only [← hZa] at hmk hoa
  simp only [← hZb] at hmk2 hob
  have HOA0 := Lib.hid hoa; clear hoa
  have HOB0 := Lib.hid hob; clear hob
  clear hZa hZb
  have q3' : (w1.alloc (.cells Za 5)).cell? ⟨gx + 1, 1, none⟩ = some (.int .i64 tn) := (HU1.out.alloc _).cells.2
  go_wp2
  obtain ⟨g1, hg1⟩ : ∃ g1, g1 = w1.heap.size := ⟨_, rfl⟩
  obtain ⟨w3, hw3⟩ : ∃ w3, w3 = (w1.alloc (.cells Za 5)).alloc (.cells Zb 5) := ⟨_, rfl⟩
  have hb3 : Below w.heap.size w w3 := by rw [hw3]; exact (HB1.out.alloc HB1.out.size _).alloc (by simp; have := HB1.out.size; omega) _
  have hv3 : VarP w3 gx sa sn := by rw [hw3]; exact (HV1.out.alloc _).alloc _
  have hu3 : VarP w3 (gx + 1) ta tn := by rw [hw3]; exact (HU1.out.alloc _).alloc _
  have ho3 : Owned w3 g1 (.slice (some ⟨g1, 0, none⟩) na na) (List.replicate na 0) := by
    rw [hw3, hg1]
    exact Owned.keep (HOA0.out w1) ((Below.refl _ _).alloc (Nat.le_refl _) _) (Nat.le_refl _)
  have hq3 : Owned w3 g1 (.slice (some ⟨g1 + 1, 0, none⟩) nb nb) (List.replicate nb 0) := by
    have := HOB0.out (w1.alloc (.cells Za 5))
    rw [hw3, hg1]
    rw [show (w1.alloc (.cells Za 5)).heap.size = w1.heap.size + 1 by simp] at this
    exact Owned.mono this (by omega)
  have hgl : gx + 1 < g1 := by rw [hg1]; exact HU1.out.lt
  have hgw : w.heap.size ≤ g1 := by rw [hg1]; exact HB1.out.size
  rw [← hw3, ← hg1]
  clear hk1 hk2 hk3 hk4 hmk hmk2 q0 q1 q2 q3 q3' hw3 hg1 HOA0 HOB0 HV1 HU1 HB1
  have HGL := Lib.hid hgl; clear hgl
  have HGW := Lib.hid hgw; clear hgw
  go_loopw [9] (fun iv wr => ∃ (k : Nat) (bs : List UInt8), k ≤ na ∧ iv = .int .i64 (k : Int) ∧ bs.length = na ∧ Owned wr g1 (.slice (some ⟨g1, 0, none⟩) na na) bs ∧ Owned wr g1 (.slice (some ⟨g1 + 1, 0, none⟩) nb nb) (List.replicate nb 0) ∧ VarP wr gx sa sn ∧ VarP wr (gx + 1) ta tn ∧ Below w.heap.size w wr) (fun iv _ => na - (intOf iv).toNat)
  case atStart => exact ⟨0, _, Nat.zero_le _, rfl, by simp, ho3, hq3, hv3, hu3, hb3⟩
  case round =>
    clear ho3 hq3 hv3 hu3 hb3
    obtain ⟨k, bs, hk, rfl, hbl, hoa, hob, hv, hu, hbr⟩ := hrel
    rcases Nat.lt_or_ge k na with hlt | hge
    · have hk0 : (0 : Int) ≤ (k : Int) := by omega
      have hkn : (k : Int) < (na : Int) := by omega
      obtain ⟨r, hr⟩ : ∃ r, r = k % 3 := ⟨_, rfl⟩
      have hrm : (k : Int).tmod 3 = (r : Int) := by rw [Int.tmod_eq_emod_of_nonneg (by omega)]; omega
      have hr3 : (r : Int) ≤ 2 := by omega
      have hr0 : (0 : Int) ≤ (r : Int) := by omega
      obtain ⟨g, cap, e1, hg1, hg2, hcap, hrow⟩ := Owned.row hoa (by rw [hbl]; omega)
      rw [hbl] at e1
      injection e1 with e1 e2 e3
      injection e1 with e1
      injection e1 with e1
      subst e1 e3
      obtain ⟨q1, q2, q3⟩ := hrow k (by rw [hbl]; exact hlt)
      obtain ⟨q4, q5⟩ := q3 (UInt8.ofNat r)
      have hbv : byteV (UInt8.ofNat r) = .int .u8 (r : Int) := by
        unfold byteV
        congr 1
        rw [UInt8.toNat_ofNat']
        omega
      rw [hbv] at q4 q5
      have q6 : Owned (wr.setCell ⟨g1, k, none⟩ (.int .u8 (r : Int))) g1 (.slice (some ⟨g1 + 1, 0, none⟩) nb nb) (List.replicate nb 0) := Owned.other hob (fun b hb => by injection hb with hb; dsimp only at hb; omega)
      have q7 := hv.keep q5 (by have := HGL.out; omega)
      have q8 := hu.keep q5 (by have := HGL.out; omega)
      have q9 := hbr.trans (q5.mono HGW.out)
      have q1' : ∃ u, wr.cell? ⟨g1, k, none⟩ = some u := ⟨_, q1⟩
      clear q1 hrow q3 hcap q5 hbv hr
      obtain ⟨u, q1⟩ := q1'
      have H4 := Lib.hid q4; clear q4
      have H6 := Lib.hid q6; clear q6
      have H7 := Lib.hid q7; clear q7
      have H8 := Lib.hid q8; clear q8
      have H9 := Lib.hid q9; clear q9
      have HBL := Lib.hid hbl; clear hbl hoa hob hv hu hbr
      go_wp2
      go_roundw
      case rel => exact ⟨k + 1, _, by omega, by go_num, by rw [List.length_set]; exact HBL.out, H4.out, H6.out, H7.out, H8.out, H9.out⟩
      case measure => simp [intOf]; omega
    · have hkn : ¬ (k : Int) < (na : Int) := by omega
      have hbs0 : Hid (bs.length = na) := Lib.hid hbl
      have HBR := Lib.hid hbr
      obtain ⟨W4, hW4⟩ : ∃ W4, W4 = wr := ⟨_, rfl⟩
      subst hW4
      go_wp2
      go_loopw [10] (fun iv wi => ∃ (j : Nat) (cs : List UInt8), j ≤ nb ∧ iv = .int .i64 (j : Int) ∧ cs.length = nb ∧ Owned wi g1 (.slice (some ⟨g1, 0, none⟩) na na) bs ∧ Owned wi g1 (.slice (some ⟨g1 + 1, 0, none⟩) nb nb) cs ∧ VarP wi gx sa sn ∧ VarP wi (gx + 1) ta tn ∧ Below w.heap.size w wi) (fun iv _ => nb - (intOf iv).toNat)
      case atStart => exact ⟨0, _, Nat.zero_le _, rfl, by simp, hoa, hob, hv, hu, hbr⟩
      case round =>
        clear hoa hob hv hu hbr HBR hkn hge hk hbl
        obtain ⟨j, cs, hj, rfl, hcl, hoa, hob, hv, hu, hbr⟩ := hrel
        rcases Nat.lt_or_ge j nb with hlt | hge
        · have hk0 : (0 : Int) ≤ (j : Int) := by omega
          have hkn : (j : Int) < (nb : Int) := by omega
          obtain ⟨r, hr⟩ : ∃ r, r = j % 2 := ⟨_, rfl⟩
          have hrm : (j : Int).tmod 2 = (r : Int) := by rw [Int.tmod_eq_emod_of_nonneg (by omega)]; omega
          have hr3 : (r : Int) ≤ 1 := by omega
          have hr0 : (0 : Int) ≤ (r : Int) := by omega
          have hr7 : (7 : Int) + (r : Int) = ((7 + r : Nat) : Int) := by omega
          obtain ⟨g, cap, e1, hg1, hg2, hcap, hrow⟩ := Owned.row hob (by rw [hcl]; omega)
          rw [hcl] at e1
          injection e1 with e1 e2 e3
          injection e1 with e1
          injection e1 with e1
          subst e1 e3
          obtain ⟨q1, q2, q3⟩ := hrow j (by rw [hcl]; exact hlt)
          obtain ⟨q4, q5⟩ := q3 (UInt8.ofNat (7 + r))
          have hbv : byteV (UInt8.ofNat (7 + r)) = .int .u8 (7 + (r : Int)) := by
            unfold byteV
            congr 1
            rw [UInt8.toNat_ofNat']
            omega
          rw [hbv] at q4 q5
          have q6 : Owned (wr.setCell ⟨g1 + 1, j, none⟩ (.int .u8 (7 + (r : Int)))) g1 (.slice (some ⟨g1, 0, none⟩) na na) bs := Owned.other hoa (fun b hb => by injection hb with hb; dsimp only at hb; omega)
          have q7 := hv.keep q5 (by have := HGL.out; omega)
          have q8 := hu.keep q5 (by have := HGL.out; omega)
          have q9 := hbr.trans (q5.mono HGW.out)
          have q1' : ∃ u, wr.cell? ⟨g1 + 1, j, none⟩ = some u := ⟨_, q1⟩
          clear q1 hrow q3 hcap q5 hbv hr hr7
          obtain ⟨u, q1⟩ := q1'
          have H4 := Lib.hid q4; clear q4
          have H6 := Lib.hid q6; clear q6
          have H7 := Lib.hid q7; clear q7
          have H8 := Lib.hid q8; clear q8
          have H9 := Lib.hid q9; clear q9
          have HCL := Lib.hid hcl; clear hcl hoa hob hv hu hbr
          go_wp2
          go_roundw
          case rel => exact ⟨j + 1, _, by omega, by go_num, by rw [List.length_set]; exact HCL.out, H6.out, H4.out, H7.out, H8.out, H9.out⟩
          case measure => simp [intOf]; omega
        · have hkn : ¬ (j : Int) < (nb : Int) := by omega
          obtain ⟨W9, hW9⟩ : ∃ W9, W9 = wr := ⟨_, rfl⟩
          subst hW9
          have HBS := Lib.hid (show bs.length = na from hbs0.out)
          have hf : ∀ V, Below W9.heap.size W9 V → (V.cell? ⟨gx, 0, none⟩ = some (.int .i64 sa) ∧ V.cell? ⟨gx, 1, none⟩ = some (.int .i64 sn)) ∧ (V.cell? ⟨gx + 1, 0, none⟩ = some (.int .i64 ta) ∧ V.cell? ⟨gx + 1, 1, none⟩ = some (.int .i64 tn)) ∧
              (convert 41 9 (.slice (some ⟨g1, 0, none⟩) na na)).run Tryd.prog V = .ok (.string ⟨bs.toArray⟩) V ∧ (convert 41 9 (.slice (some ⟨g1 + 1, 0, none⟩) nb nb)).run Tryd.prog V = .ok (.string ⟨cs.toArray⟩) V := fun V hV =>
            ⟨(hv.keep hV hv.lt).cells, (hu.keep hV hu.lt).cells, run_text V _ _ na na _ (Owned.reads (Owned.keep hoa hV (Nat.le_refl _))), run_text V _ _ nb nb _ (Owned.reads (Owned.keep hob hV (Nat.le_refl _)))⟩
          have HB9 := Lib.hid hbr
          clear hoa hob hv hu hbr hge hj
          have hbl := HBS.out
          have hput1 := fun (V : World) (hV : Below w.heap.size w V) => Put_any A n c w.heap.size l sa bs V (HH.out V hV) hV.size (by omega) HREP.out hsa
          have hput2 := fun (V : World) (hV : Below w.heap.size w V) => Put_any A n c w.heap.size l ta cs V (HH.out V hV) hV.size (by omega) HREP.out hta
          have hXr := putA_right l sa bs
          have hYr := putA_right l ta cs
          have hok1 := @putA_ok l sa bs
          have hok2 := @putA_ok l ta cs
          unfold Runs2 at hput1 hput2
          obtain ⟨y1, hy1⟩ : ∃ y, y = putA l sa bs := ⟨_, rfl⟩
          obtain ⟨y2, hy2⟩ : ∃ y, y = putA l ta cs := ⟨_, rfl⟩
          simp only [← hy1] at hput1
          simp only [← hy2] at hput2
          rw [← hy1] at hXr hok1
          rw [← hy2] at hYr hok2
          obtain ⟨X, e⟩ := y1
          obtain ⟨Y, f⟩ := y2
          dsimp only at hput1 hput2 hXr hYr hok1 hok2
          have hXl := right_len hXr
          have hYl := right_len hYr
          have hpb := fun (A : Option Addr) (c B : Nat) (V : World) (hV : HoldsX V B A X.length X) (hB : B ≤ V.heap.size) => Put_any A X.length c B X ta cs V hV hB (by omega) (repL hXr) hta
          have hpa := fun (A : Option Addr) (c B : Nat) (V : World) (hV : HoldsX V B A Y.length Y) (hB : B ≤ V.heap.size) => Put_any A Y.length c B Y sa bs V hV hB (by omega) (repL hYr) hsa
          unfold Runs2 at hpa hpb
          obtain ⟨mx, hmx⟩ : ∃ mx, mx = X.length := ⟨_, rfl⟩
          obtain ⟨my, hmy⟩ : ∃ my, my = Y.length := ⟨_, rfl⟩
          simp only [← hmx] at hput1 hpb hXl
          simp only [← hmy] at hput2 hpa hYl
          obtain ⟨DA, hDA⟩ : ∃ D : ByteArray, D = ⟨bs.toArray⟩ := ⟨_, rfl⟩
          obtain ⟨DB, hDB⟩ : ∃ D : ByteArray, D = ⟨cs.toArray⟩ := ⟨_, rfl⟩
          simp only [← hDA] at hput1 hpa hf
          simp only [← hDB] at hput2 hpb hf
          have HF := Lib.hid hf; clear hf
          have HP1 := Lib.hid hput1; clear hput1
          have HP2 := Lib.hid hput2; clear hput2
          have HBL := Lib.hid hbl; clear hbl
          have HCL := Lib.hid hcl; clear hcl
          clear hmx hmy hDA hDB hy1 hy2 hbs0 HBS
          obtain ⟨⟨q0, q1⟩, ⟨q2, q3⟩, t1, t2⟩ := HF.out W9 (Below.refl _ _)
          go_wp2_with fail
          with_reducible refine (HP1.out W9 HB9.out).mono ?_
          rintro E11 w11 ⟨A11, c11, rfl, ho11, hb11⟩
          have HB11 : Hid (Below w.heap.size w w11) := Lib.hid (HB9.out.trans (hb11.mono HB9.out.size))
          have HW11 := Lib.hid hb11
          have HX11 := Lib.hid ho11
          clear hb11 ho11 q0 q1 q2 q3 t1 t2
          obtain ⟨⟨q0, q1⟩, ⟨q2, q3⟩, t1, t2⟩ := HF.out w11 HW11.out
          go_wp2_with fail
          with_reducible refine (HP2.out w11 HB11.out).mono ?_
          rintro E12 w12 ⟨A12, c12, rfl, ho12, hb12⟩
          have HB12 : Hid (Below w.heap.size w w12) := Lib.hid (HB11.out.trans (hb12.mono HB11.out.size))
          have HW12 : Hid (Below W9.heap.size W9 w12) := Lib.hid (HW11.out.trans (hb12.mono HW11.out.size))
          have HX12 := Lib.hid (HX11.out.below hb12)
          have HY12 := Lib.hid ho12
          clear hb12 ho12 q0 q1 q2 q3 t1 t2 HX11
          obtain ⟨⟨q0, q1⟩, ⟨q2, q3⟩, t1, t2⟩ := HF.out w12 HW12.out
          rcases Decidable.em (e = 0) with he | he
          rotate_left
          · have hz : (e == 0) = false := beq_false_of_ne he
            have hz2 : (e != 0) = true := by unfold bne; rw [hz]; rfl
            clear hok1 hok2 he
            go_wp2
            rw [HP.out]
            exact ⟨rfl, HB12.out⟩
          subst he
          rcases Decidable.em (f = 0) with hf0 | hf0
          rotate_left
          · have hz : (f == 0) = false := beq_false_of_ne hf0
            have hz2 : (f != 0) = true := by unfold bne; rw [hz]; rfl
            clear hok1 hok2 hf0
            go_wp2
            rw [HP.out]
            exact ⟨rfl, HB12.out⟩
          subst hf0
          obtain ⟨hr, h0s, hs6, hX⟩ := hok1 rfl
          obtain ⟨_, h0t, ht6, hY⟩ := hok2 rfl
          clear hok1 hok2
          rw [HBL.out] at hs6
          rw [HCL.out] at ht6
          have hs1 : -9223372036854775808 ≤ sa + (na : Int) := by omega
          have hs2 : sa + (na : Int) ≤ 9223372036854775807 := by omega
          have hs3 : -9223372036854775808 ≤ ta + (nb : Int) := by omega
          have hs4 : ta + (nb : Int) ≤ 9223372036854775807 := by omega
          have tl : (ta + (nb : Int) ≤ sa ∨ sa + (na : Int) ≤ ta) → ∃ R Q : List Rn, ∃ mr mq : Nat, mr ≤ 65538 ∧ mq ≤ 65538 ∧
              Hid (∀ (A : Option Addr) (c B : Nat) (V : World) (hV : HoldsX V B A mx X) (hB : B ≤ V.heap.size), Calls Tryd.prog 11 #[.slice A mx c, .int .i64 ta, .string DB] V fun e w' => ∃ A c, e = .returned (.tuple #[.slice A mr c, .int .i64 0]) ∧ OwnX w' V.heap.size (.slice A mr c) R ∧ Below V.heap.size V w') ∧
              Hid (∀ (A : Option Addr) (c B : Nat) (V : World) (hV : HoldsX V B A my Y) (hB : B ≤ V.heap.size), Calls Tryd.prog 11 #[.slice A my c, .int .i64 sa, .string DA] V fun e w' => ∃ A c, e = .returned (.tuple #[.slice A mr c, .int .i64 0]) ∧ OwnX w' V.heap.size (.slice A mr c) R ∧ Below V.heap.size V w') ∧
              Hid (∀ (A : Option Addr) (c B : Nat) (V : World) (hV : HoldsX V B A mr R) (hB : B ≤ V.heap.size), Calls Tryd.prog 22 #[.slice A mr c, .int .i64 sa, .int .i64 (sa + (na : Int))] V fun e w' => ∃ A c, e = .returned (.tuple #[.slice A mq c, .int .i64 0]) ∧ OwnX w' V.heap.size (.slice A mq c) Q ∧ Below V.heap.size V w') := fun hor => by
            have hRX : putA X ta cs = (putL X ta cs, 0) := putA_yes hXr h0t (by rw [HCL.out]; exact ht6)
            have hRY : putA Y sa bs = (putL Y sa bs, 0) := putA_yes hYr h0s (by rw [HBL.out]; exact hs6)
            have hXY : putL X ta cs = putL Y sa bs := by
              rw [hX, hY]
              exact put_two hr h0s h0t (by rw [HBL.out]; exact hs6) (by rw [HCL.out]; exact ht6) (by rw [HBL.out, HCL.out]; exact hor)
            have hRr := putA_right X ta cs
            rw [hRX] at hRr
            dsimp only at hRr
            have hRl := right_len hRr
            have hZ : zeroA (putL X ta cs) sa (sa + (na : Int)) = (zeroL (putL X ta cs) sa (sa + (na : Int)), 0) := zeroA_yes hRr h0s (by omega)
            have hQr := zeroA_right (putL X ta cs) sa (sa + (na : Int))
            rw [hZ] at hQr
            have hze := fun (A : Option Addr) (c B : Nat) (V : World) (hV : HoldsX V B A (putL X ta cs).length (putL X ta cs)) (hB : B ≤ V.heap.size) => Zero_any A (putL X ta cs).length c B (putL X ta cs) sa (sa + (na : Int)) V hV hB (by omega) (repL hRr)
            unfold Runs2 at hze
            simp only [hRX] at hpb
            simp only [hRY, ← hXY] at hpa
            simp only [hZ] at hze
            exact ⟨_, _, _, _, hRl, right_len hQr, Lib.hid hpb, Lib.hid hpa, Lib.hid hze⟩
          clear hpa hpb hXr hYr hX hY hr
          rcases Int.lt_or_le sa (ta + (nb : Int)) with hc1 | hc1
          · rcases Int.lt_or_le ta (sa + (na : Int)) with hc2 | hc2
            · clear tl
              go_wp2
              rw [HP.out]
              exact ⟨rfl, HB12.out⟩
            · have hc2' : ¬ ta < sa + (na : Int) := by omega
              obtain ⟨R, Q, mr, mq, hmr, hmq, HPB, HPA, HZR⟩ := tl (.inr hc2)
              clear tl
              go_wp2_with fail
              with_reducible refine (HPB.out A11 c11 w12.heap.size w12 HX12.out.reads (Nat.le_refl _)).mono ?_
              rintro E13 w13 ⟨A13, c13, rfl, ho13, hb13⟩
              have HB13 : Hid (Below w.heap.size w w13) := Lib.hid (HB12.out.trans (hb13.mono HB12.out.size))
              have HW13 : Hid (Below W9.heap.size W9 w13) := Lib.hid (HW12.out.trans (hb13.mono HW12.out.size))
              have HR13 := Lib.hid ho13
              have HY13 := Lib.hid (HY12.out.below hb13)
              clear hb13 ho13 HX12 HY12 q0 q1 q2 q3 t1 t2
              obtain ⟨⟨q0, q1⟩, ⟨q2, q3⟩, t1, t2⟩ := HF.out w13 HW13.out
              go_wp2_with fail
              with_reducible refine (HPA.out A12 c12 w13.heap.size w13 HY13.out.reads (Nat.le_refl _)).mono ?_
              rintro E14 w14 ⟨A14, c14, rfl, ho14, hb14⟩
              have HB14 : Hid (Below w.heap.size w w14) := Lib.hid (HB13.out.trans (hb14.mono HB13.out.size))
              have HW14 : Hid (Below W9.heap.size W9 w14) := Lib.hid (HW13.out.trans (hb14.mono HW13.out.size))
              have HS14 := Lib.hid ho14
              have HR14 := Lib.hid (HR13.out.below hb14)
              clear hb14 ho14 HR13 HY13 q0 q1 q2 q3 t1 t2
              obtain ⟨⟨q0, q1⟩, ⟨q2, q3⟩, t1, t2⟩ := HF.out w14 HW14.out
              go_wp2_with fail
              with_reducible refine (HZR.out A13 c13 w14.heap.size w14 HR14.out.reads (Nat.le_refl _)).mono ?_
              rintro E15 w15 ⟨A15, c15, rfl, ho15, hb15⟩
              have HB15 : Hid (Below w.heap.size w w15) := Lib.hid (HB14.out.trans (hb15.mono HB14.out.size))
              have HW15 : Hid (Below W9.heap.size W9 w15) := Lib.hid (HW14.out.trans (hb15.mono HW14.out.size))
              have HU15 := Lib.hid ho15
              have HR15 := Lib.hid (HR14.out.below hb15)
              have HS15 := Lib.hid (HS14.out.below hb15)
              clear hb15 ho15 HR14 HS14 q0 q1 q2 q3 t1 t2
              obtain ⟨⟨q0, q1⟩, ⟨q2, q3⟩, t1, t2⟩ := HF.out w15 HW15.out
              go_wp2_with fail
              with_reducible refine (HZR.out A14 c14 w15.heap.size w15 HS15.out.reads (Nat.le_refl _)).mono ?_
              rintro E16 w16 ⟨A16, c16, rfl, ho16, hb16⟩
              have HB16 : Hid (Below w.heap.size w w16) := Lib.hid (HB15.out.trans (hb16.mono HB15.out.size))
              have HV16 := Lib.hid ho16
              have HU16 := Lib.hid (HU15.out.below hb16)
              have HR16 := Lib.hid (HR15.out.below hb16)
              have HS16 := Lib.hid (HS15.out.below hb16)
              clear hb16 ho16 HR15 HS15 HU15 q0 q1 q2 q3 t1 t2
              have hs := same_any A13 A14 mr mr c13 c14 w16.heap.size w16.heap.size R R w16 HR16.out.reads HS16.out.reads (Nat.le_refl _) (Nat.le_refl _) (by omega)
              rw [decide_eq_true rfl] at hs
              have HS17 := Lib.hid hs; clear hs
              go_wp2_with fail
              with_reducible refine HS17.out.mono ?_
              rintro E17 w17 ⟨rfl, hb17⟩
              have HB17 : Hid (Below w.heap.size w w17) := Lib.hid (HB16.out.trans (hb17.mono HB16.out.size))
              have HU17 := Lib.hid (HU16.out.below hb17)
              have HV17 := Lib.hid (HV16.out.below hb17)
              clear hb17 HU16 HV16 HR16 HS16
              have hs := same_any A15 A16 mq mq c15 c16 w17.heap.size w17.heap.size Q Q w17 HU17.out.reads HV17.out.reads (Nat.le_refl _) (Nat.le_refl _) (by omega)
              rw [decide_eq_true rfl] at hs
              have HS18 := Lib.hid hs; clear hs
              go_wp2_with fail
              with_reducible refine HS18.out.mono ?_
              rintro E18 w18 ⟨rfl, hb18⟩
              have HB18 : Hid (Below w.heap.size w w18) := Lib.hid (HB17.out.trans (hb18.mono HB17.out.size))
              clear hb18
              go_wp2
              rw [HP.out]
              exact ⟨rfl, HB18.out⟩
          · have hc1' : ¬ sa < ta + (nb : Int) := by omega
            obtain ⟨R, Q, mr, mq, hmr, hmq, HPB, HPA, HZR⟩ := tl (.inl hc1)
            clear tl
            go_wp2_with fail
            with_reducible refine (HPB.out A11 c11 w12.heap.size w12 HX12.out.reads (Nat.le_refl _)).mono ?_
            rintro E13 w13 ⟨A13, c13, rfl, ho13, hb13⟩
            have HB13 : Hid (Below w.heap.size w w13) := Lib.hid (HB12.out.trans (hb13.mono HB12.out.size))
            have HW13 : Hid (Below W9.heap.size W9 w13) := Lib.hid (HW12.out.trans (hb13.mono HW12.out.size))
            have HR13 := Lib.hid ho13
            have HY13 := Lib.hid (HY12.out.below hb13)
            clear hb13 ho13 HX12 HY12 q0 q1 q2 q3 t1 t2
            obtain ⟨⟨q0, q1⟩, ⟨q2, q3⟩, t1, t2⟩ := HF.out w13 HW13.out
            go_wp2_with fail
            with_reducible refine (HPA.out A12 c12 w13.heap.size w13 HY13.out.reads (Nat.le_refl _)).mono ?_
            rintro E14 w14 ⟨A14, c14, rfl, ho14, hb14⟩
            have HB14 : Hid (Below w.heap.size w w14) := Lib.hid (HB13.out.trans (hb14.mono HB13.out.size))
            have HW14 : Hid (Below W9.heap.size W9 w14) := Lib.hid (HW13.out.trans (hb14.mono HW13.out.size))
            have HS14 := Lib.hid ho14
            have HR14 := Lib.hid (HR13.out.below hb14)
            clear hb14 ho14 HR13 HY13 q0 q1 q2 q3 t1 t2
            obtain ⟨⟨q0, q1⟩, ⟨q2, q3⟩, t1, t2⟩ := HF.out w14 HW14.out
            go_wp2_with fail
            with_reducible refine (HZR.out A13 c13 w14.heap.size w14 HR14.out.reads (Nat.le_refl _)).mono ?_
            rintro E15 w15 ⟨A15, c15, rfl, ho15, hb15⟩
            have HB15 : Hid (Below w.heap.size w w15) := Lib.hid (HB14.out.trans (hb15.mono HB14.out.size))
            have HW15 : Hid (Below W9.heap.size W9 w15) := Lib.hid (HW14.out.trans (hb15.mono HW14.out.size))
            have HU15 := Lib.hid ho15
            have HR15 := Lib.hid (HR14.out.below hb15)
            have HS15 := Lib.hid (HS14.out.below hb15)
            clear hb15 ho15 HR14 HS14 q0 q1 q2 q3 t1 t2
            obtain ⟨⟨q0, q1⟩, ⟨q2, q3⟩, t1, t2⟩ := HF.out w15 HW15.out
            go_wp2_with fail
            with_reducible refine (HZR.out A14 c14 w15.heap.size w15 HS15.out.reads (Nat.le_refl _)).mono ?_
            rintro E16 w16 ⟨A16, c16, rfl, ho16, hb16⟩
            have HB16 : Hid (Below w.heap.size w w16) := Lib.hid (HB15.out.trans (hb16.mono HB15.out.size))
            have HV16 := Lib.hid ho16
            have HU16 := Lib.hid (HU15.out.below hb16)
            have HR16 := Lib.hid (HR15.out.below hb16)
            have HS16 := Lib.hid (HS15.out.below hb16)
            clear hb16 ho16 HR15 HS15 HU15 q0 q1 q2 q3 t1 t2
            have hs := same_any A13 A14 mr mr c13 c14 w16.heap.size w16.heap.size R R w16 HR16.out.reads HS16.out.reads (Nat.le_refl _) (Nat.le_refl _) (by omega)
            rw [decide_eq_true rfl] at hs
            have HS17 := Lib.hid hs; clear hs
            go_wp2_with fail
            with_reducible refine HS17.out.mono ?_
            rintro E17 w17 ⟨rfl, hb17⟩
            have HB17 : Hid (Below w.heap.size w w17) := Lib.hid (HB16.out.trans (hb17.mono HB16.out.size))
            have HU17 := Lib.hid (HU16.out.below hb17)
            have HV17 := Lib.hid (HV16.out.below hb17)
            clear hb17 HU16 HV16 HR16 HS16
            have hs := same_any A15 A16 mq mq c15 c16 w17.heap.size w17.heap.size Q Q w17 HU17.out.reads HV17.out.reads (Nat.le_refl _) (Nat.le_refl _) (by omega)
            rw [decide_eq_true rfl] at hs
            have HS18 := Lib.hid hs; clear hs
            go_wp2_with fail
            with_reducible refine HS18.out.mono ?_
            rintro E18 w18 ⟨rfl, hb18⟩
            have HB18 : Hid (Below w.heap.size w w18) := Lib.hid (HB17.out.trans (hb18.mono HB17.out.size))
            clear hb18
            go_wp2
            rw [HP.out]
            exact ⟨rfl, HB18.out⟩

theorem walks : Walks 7 Tryd.f7 All := by
  intro H enc W base args ds p hval hA hsz _
  rw [Tryd.params7] at hA hval hsz
  obtain ⟨v0, vs0, d0, ds0, p0, q0, hargs, rfl, rfl, h0, r0⟩ := trodAll_cons hA
  obtain ⟨v1, vs1, d1, ds1, p1, q1, rfl, rfl, rfl, h1, r1⟩ := trodAll_cons r0
  obtain ⟨v2, vs2, d2, ds2, p2, q2, rfl, rfl, rfl, h2, r2⟩ := trodAll_cons r1
  obtain ⟨rfl, rfl, rfl⟩ := trodAll_nil r2
  obtain rfl : args = #[v0, v1, v2] := by cases args; simp_all
  obtain ⟨A0, n0, c0, l0, rfl, hl0, hr0, hn0, hc0⟩ := exts_open (hval 0 _ v0 rfl rfl) h0 _ (reach_exts hsz (j := 0) rfl rfl)
  obtain ⟨a1, m1, rfl, ha1, hm1⟩ := spot_by_value (hval 1 _ v1 rfl rfl) h1
  obtain ⟨a2, m2, rfl, ha2, hm2⟩ := spot_by_value (hval 2 _ v2 rfl rfl) h2
  exact walk A0 n0 c0 l0 a1 m1 a2 m2 W hl0 hr0 (by omega) ha1 ha2

theorem laid_ok (os : Os) : laidMetH Tryd.prog Rows.sparseTwoRow.laid ((World.laidAll Tryd.prog os Rows.sparseTwoRow.laid).forCall (fun _ _ => 0) ⟨#[], #[.slice none 0 0, .agg #[.int .i64 0, .int .i64 0], .agg #[.int .i64 0, .int .i64 0]], []⟩).memory := by
  rw [MakeChecks.laidMetH_plain _ _ _ (by kernel_rfl)]
  exact laidMet_laidAll _ (by kernel_rfl) (by kernel_rfl)
theorem shaped_ok (os : Os) : ((World.laidAll Tryd.prog os Rows.sparseTwoRow.laid).forCall (fun _ _ => 0) ⟨#[], #[.slice none 0 0, .agg #[.int .i64 0, .int .i64 0], .agg #[.int .i64 0, .int .i64 0]], []⟩).Shaped Tryd.prog := World.shaped_of_ZipB (by kernel_rfl) (by kernel_rfl)
theorem reads (os : Os) {H : Type} (enc : TypeId × Value → H) : ∃ x, DataW.whole enc Tryd.prog ((World.laidAll Tryd.prog os Rows.sparseTwoRow.laid).forCall (fun _ _ => 0) ⟨#[], #[.slice none 0 0, .agg #[.int .i64 0, .int .i64 0], .agg #[.int .i64 0, .int .i64 0]], []⟩).memory Tryd.f7.params.toList Rows.sparseTwoSpec.vars false #[.slice none 0 0, .agg #[.int .i64 0, .int .i64 0], .agg #[.int .i64 0, .int .i64 0]].toList 8 = some x :=
  ⟨([.nil, .agg [.lit (.int .i64 0), .lit (.int .i64 0)], .agg [.lit (.int .i64 0), .lit (.int .i64 0)]], [], []), by kernel_rfl⟩

set_option maxRecDepth 100000 in
theorem said : Rows.SparseTwoSaid :=
  OpenClaim.holds_of_cond 7 Tryd.f7 rfl rfl rfl rfl rfl rfl rfl ⟨rfl, rfl, rfl, rfl, rfl⟩ rfl rfl rfl rfl rfl (by kernel_rfl) Tryd.func7 (by kernel_rfl)
    (of_decide_eq_true (by kernel_rfl)) (by unfold Func.isWrapper; first | (rw [if_pos (by decide +kernel)]; kernel_rfl) | (rw [if_neg (by decide +kernel)]; exact ⟨rfl, rfl⟩))
    (fun os started H enc _ F => by
      rw [OpenClaim.pre_eq_preRow]
      obtain ⟨x, hx⟩ := reads os enc
      exact lifted_row (s := Rows.sparseTwoSpec) walks (by kernel_rfl) rfl rfl (fun H ds hl => by match ds, hl with | [d1, d2, d3], _ => rfl) (by kernel_rfl) Tryd.func7 os started H enc F
        (witness_laid (enc := enc) (C := Tryd.checked) #[.slice none 0 0, .agg #[.int .i64 0, .int .i64 0], .agg #[.int .i64 0, .int .i64 0]] (shaped_ok os) (by kernel_rfl) (OpenSpec.preRow_of_cond 8 hx rfl (fun k hk => by cases hk) (by kernel_rfl) (laid_ok os))))
theorem plain (f : FuncId) (fn : Func) (hf : Tryd.pinned.checked.prog.funcNamed "undercroft/undercroftlaw15.SparseTwo" = some f) (hfn : Tryd.pinned.checked.prog.funcs[f]? = some fn) :
    false = Tryd.pinned.checked.prog.looks [] ∧ ∀ (j : Nat) t, fn.params[j]? = some t → Tryd.pinned.checked.prog.wantsStandIn t = false := by
  obtain rfl : f = 7 := Option.some.inj ((show Tryd.prog.funcNamed "undercroft/undercroftlaw15.SparseTwo" = some 7 by kernel_rfl).symm.trans hf) |>.symm
  obtain rfl : fn = Tryd.f7 := (Option.some.inj (Tryd.func7.symm.trans hfn)).symm
  refine ⟨by kernel_rfl, fun j t ht => ?_⟩
  rw [Tryd.params7] at ht
  have hall : (#[22, 40, 40].all fun u => !Tryd.prog.wantsStandIn u) = true := by kernel_rfl
  have hm := Array.all_eq_true'.1 hall t (Array.mem_of_getElem? ht)
  exact (show Tryd.prog.wantsStandIn t = false by simpa using hm)
theorem proved : Rows.SparseTwoCardSaid :=
  Claim7.holds_tied_plain_at .later [] _ _ _ _ said (fun _ h => by cases h) (by kernel_rfl) (fun _ h => by cases h) sparseTwo_row_tie rfl ⟨rfl, rfl⟩ (by kernel_rfl) rfl plain (by kernel_rfl)
#print axioms proved
end Go.Proofs.YtmbmjdogfjmlpaaDoor.SparseTwo
