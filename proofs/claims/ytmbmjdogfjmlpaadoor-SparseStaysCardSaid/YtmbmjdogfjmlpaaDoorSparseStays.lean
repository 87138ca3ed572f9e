/- SparseStays: for every list of runs, every spot and all bytes: what is put there is read there, all else is read as ahead, the list told is right, a hole made there reads as 0, and putting back what was there gives the list that was; a put that is refused gives nothing. For every list within the reach of memory; the tables that the row lists are laid, and no call reads one. -/
import Derived.Test.YtmbmjdogfjmlpaaDoorSpArg
import Derived.Test.YtmbmjdogfjmlpaaDoorSpLaws
import Derived.ChangeMaps5
namespace Go.Proofs.YtmbmjdogfjmlpaaDoor.SparseStays
set_option maxRecDepth 20000
open Go.ChangeShapes Go.WideShapes Go.ChangeAt Go.RowKit Go.Deep
open Go.Proofs.YtmbmjdogfjmlpaaDoor.Mem Go.Proofs.YtmbmjdogfjmlpaaDoor.Rec Go.Proofs.YtmbmjdogfjmlpaaDoor.Sp Go.Proofs.YtmbmjdogfjmlpaaDoor.Lift Go.Proofs.YtmbmjdogfjmlpaaDoor.Reg
attribute [local go_sem ↓] ldX_eq stX_eq

theorem bytesA_all {l : List Rn} (h : right l = true) : bytesA l 0 65536 = (bytesL l 0 65536, 0) := bytesA_yes (n := 65536) h (by omega) (by omega)
set_option maxRecDepth 100000 in
set_option maxHeartbeats 16000000 in
theorem walk (A : Option Addr) (n c : Nat) (l : List Rn) (sa sn : Int) (d : List UInt8) (w : World) (h : HoldsX w w.heap.size A n l) (hrep : ∀ x ∈ l, x.rep) (hn : n ≤ 5864062014634) (hp : -9223372036854775808 ≤ sa ∧ sa ≤ 9223372036854775807) :
    Calls Tryd.prog 5 #[.slice A n c, .agg #[.int .i64 sa, .int .i64 sn], .string ⟨d.toArray⟩] w fun E w' => E = .returned (.bool true) ∧ Below w.heap.size w w' := by
  obtain ⟨post, hpost⟩ : ∃ post : Ending → World → Prop, post = fun E w' => E = .returned (.bool true) ∧ Below w.heap.size w w' := ⟨_, rfl⟩
  rw [← hpost]
  have HP := Lib.hid hpost; clear hpost
  have hln := h.1
  have hh : ∀ V, Below w.heap.size w V → HoldsX V w.heap.size A n l := fun V hV => h.below hV
  have HH := Lib.hid hh; clear hh
  have HREP := Lib.hid hrep; clear hrep
  have hput := fun (V : World) (hV : Below w.heap.size w V) => Put_any A n c w.heap.size l sa d V (HH.out V hV) hV.size (by omega) HREP.out hp
  have hMr := putA_right l sa d
  have hok := @putA_ok l sa d
  have hno := @putA_no l sa d
  unfold Runs2 at hput
  obtain ⟨y, hy⟩ : ∃ y, y = putA l sa d := ⟨_, rfl⟩
  simp only [← hy] at hput
  rw [← hy] at hMr hok hno
  obtain ⟨M, e⟩ := y
  try dsimp only at hput hMr hok hno
  clear hy h
  have hds : (⟨d.toArray⟩ : ByteArray).size = d.length := text_size d
  obtain ⟨D, hD⟩ : ∃ D : ByteArray, D = ⟨d.toArray⟩ := ⟨_, rfl⟩
  simp only [← hD] at hput hds ⊢
  have HD := Lib.hid hD; clear hD
  have HDS := Lib.hid hds; clear hds
  have HPUT := Lib.hid hput; clear hput
  obtain ⟨W0, hW0⟩ : ∃ W0, W0 = w.alloc (.cells #[.int .i64 sa, .int .i64 sn] 40) := ⟨_, rfl⟩
  have hv0 : VarP W0 w.heap.size sa sn := by rw [hW0]; exact VarP.new w sa sn
  have hb0 : Below w.heap.size w W0 := by rw [hW0]; exact (Below.refl _ w).alloc (Nat.le_refl _) _
  obtain ⟨gx, hgx⟩ : ∃ gx, gx = w.heap.size := ⟨_, rfl⟩
  rw [← hgx] at hv0
  have HGX := Lib.hid hgx; clear hgx
  have HV0 := Lib.hid hv0; clear hv0
  have HB0 := Lib.hid hb0; clear hb0
  have HW0 := Lib.hid hW0; clear hW0
  go_enter Tryd.func5, Tryd.ntmps5
  go_wp2_with fail
  rw [← HW0.out, ← HGX.out]
  with_reducible refine (alive_any W0).mono ?_
  rintro E1 w1 ⟨rfl, hb1⟩
  have HB1 : Hid (Below w.heap.size w w1) := Lib.hid (HB0.out.trans (hb1.mono HB0.out.size))
  have HV1 : Hid (VarP w1 gx sa sn) := Lib.hid (HV0.out.keep hb1 HV0.out.lt)
  clear hb1 HV0 HW0
  obtain ⟨q0, q1⟩ := HV1.out.cells
  go_wp2_with fail
  with_reducible refine (HPUT.out w1 HB1.out).mono ?_
  rintro E2 w2 ⟨A2, c2, rfl, ho2, hb2⟩
  have HB2 : Hid (Below w.heap.size w w2) := Lib.hid (HB1.out.trans (hb2.mono HB1.out.size))
  have HV2 : Hid (VarP w2 gx sa sn) := Lib.hid (HV1.out.keep hb2 HV1.out.lt)
  have HM := Lib.hid ho2; clear ho2 hb2 q0 q1 HV1
  dsimp only at HM ⊢
  rcases Decidable.em (e = 0) with h0 | h0
  rotate_left
  · have hl := hno h0
    subst hl
    have hz : (e == 0) = false := beq_false_of_ne h0
    have hz2 : (e != 0) = true := by unfold bne; rw [hz]; rfl
    clear hok hno
    dsimp only [List.length_nil] at *
    go_wp2
    rw [HP.out]
    exact ⟨rfl, HB2.out⟩
  · subst h0
    obtain ⟨hr, h0p, hpd, hM⟩ := hok rfl
    clear hok hno
    obtain ⟨p, rfl⟩ : ∃ p : Nat, sa = (p : Int) := ⟨sa.toNat, by omega⟩
    obtain ⟨t, ht⟩ : ∃ t : Nat, t = p + d.length := ⟨_, rfl⟩
    have hcM : ∀ i, cont M i = if (p : Int) ≤ i ∧ i < (p : Int) + (d.length : Int) then d.getD (i - (p : Int)).toNat 0 else cont l i := by rw [hM]; exact (put_facts hr h0p hpd).2
    -- the calls
    have hall := fun (V : World) (hV : Below w.heap.size w V) => Bytes_any A n c w.heap.size l 0 65536 V (HH.out V hV) hV.size (by omega) HREP.out (by omega)
    unfold Text2 at hall
    simp only [bytesA_all hr] at hall
    have hRl := right_len hMr
    have hnow := fun (A : Option Addr) (c B : Nat) (V : World) (hV : HoldsX V B A M.length M) (hB : B ≤ V.heap.size) => Bytes_any A M.length c B M 0 65536 V hV hB (by omega) (repL hMr) (by omega)
    unfold Text2 at hnow
    simp only [bytesA_all hMr] at hnow
    have hckM := fun (A : Option Addr) (c B : Nat) (V : World) (hV : HoldsX V B A M.length M) (hB : B ≤ V.heap.size) => check_any A M.length c B M V hV hB (by omega) (repL hMr)
    simp only [hMr, if_true] at hckM
    have hze := fun (A : Option Addr) (c B : Nat) (V : World) (hV : HoldsX V B A M.length M) (hB : B ≤ V.heap.size) => Zero_any A M.length c B M (p : Int) (t : Int) V hV hB (by omega) (repL hMr)
    unfold Runs2 at hze
    simp only [zeroA_yes hMr h0p (show (p : Int) ≤ (t : Int) by omega)] at hze
    obtain ⟨hZr, hZc⟩ := zero_facts (l := M) (f := (p : Int)) (t := (t : Int)) hMr h0p (by omega)
    have hZl := right_len hZr
    obtain ⟨Z, hZ⟩ : ∃ Z, Z = zeroL M (p : Int) (t : Int) := ⟨_, rfl⟩
    simp only [← hZ] at hze
    rw [← hZ] at hZr hZc hZl
    clear hZ
    have hzb := fun (A : Option Addr) (c B : Nat) (V : World) (hV : HoldsX V B A Z.length Z) (hB : B ≤ V.heap.size) => Bytes_any A Z.length c B Z (p : Int) (D.size : Int) V hV hB (by omega) (repL hZr) (by omega)
    unfold Text2 at hzb
    have hdl : D.size = d.length := HDS.out
    simp only [bytesA_yes hZr h0p (show (p : Int) + (D.size : Int) ≤ 65536 by rw [hdl]; exact hpd)] at hzb
    have hzz : bytesL Z (p : Int) D.size = List.replicate D.size 0 := by
      refine list_getD (by rw [bytesL_len, List.length_replicate]) fun i hi => ?_
      rw [bytesL_len] at hi
      rw [bytesL_get _ _ _ _ hi, hZc, if_pos (by omega), getD_rep]
    rw [hzz] at hzb
    have hbl : (((bytesL l 0 65536).drop p).take D.size).length = D.size := by rw [List.length_take, List.length_drop, bytesL_len]; omega
    have hback := fun (A : Option Addr) (c B : Nat) (V : World) (hV : HoldsX V B A Z.length Z) (hB : B ≤ V.heap.size) => Put_any A Z.length c B Z (p : Int) (((bytesL l 0 65536).drop p).take D.size) V hV hB (by omega) (repL hZr) (by omega)
    unfold Runs2 at hback
    have hbk : putL Z (p : Int) (((bytesL l 0 65536).drop p).take D.size) = l := put_back hr (by omega) Z hZr fun i hi => by
      rw [hZc, if_neg (by omega), hcM, if_neg (by omega)]
    simp only [putA_yes hZr h0p (show (p : Int) + ((((bytesL l 0 65536).drop p).take D.size).length : Int) ≤ 65536 by rw [hbl]; omega), hbk] at hback
    try dsimp only at hall hnow hze hzb hback
    -- the texts
    have hSs : (⟨(bytesL l 0 65536).toArray⟩ : ByteArray).size = 65536 := by rw [text_size, bytesL_len]
    have hTs : (⟨(bytesL M 0 65536).toArray⟩ : ByteArray).size = 65536 := by rw [text_size, bytesL_len]
    have hx1 : (⟨(bytesL M 0 65536).toArray⟩ : ByteArray).extract 0 p = ⟨((bytesL l 0 65536).take p).toArray⟩ := by
      rw [ext_front]
      congr 2
      refine list_getD (by simp [bytesL_len]) fun i hi => ?_
      have hip : i < p := by rw [List.length_take] at hi; omega
      show ((bytesL M 0 65536).take p).getD i 0 = _
      rw [getD_take hip, getD_take hip, bytesL_get _ _ _ _ (by omega), bytesL_get _ _ _ _ (by omega), hcM, if_neg (by omega)]
    have hy1 : (⟨(bytesL l 0 65536).toArray⟩ : ByteArray).extract 0 p = ⟨((bytesL l 0 65536).take p).toArray⟩ := ext_front _ _
    have hmid : ∀ b : List UInt8, (⟨b.toArray⟩ : ByteArray).extract p t = ⟨((b.drop p).take d.length).toArray⟩ := fun b => by
      apply ByteArray.ext
      apply Array.ext'
      rw [Lib.extract_data]
      dsimp only
      rw [show t - p = d.length by omega]
    have hx2 : (⟨(bytesL M 0 65536).toArray⟩ : ByteArray).extract p t = D := by
      rw [hmid, HD.out]
      congr 2
      refine list_getD (by rw [List.length_take, List.length_drop, bytesL_len]; omega) fun i hi => ?_
      have hid : i < d.length := by rw [List.length_take] at hi; omega
      rw [getD_take hid, getD_drop, bytesL_get _ _ _ _ (by omega), hcM, if_pos (by omega)]
      congr 1
      omega
    have hx3 : (⟨(bytesL M 0 65536).toArray⟩ : ByteArray).extract t 65536 = ⟨((bytesL l 0 65536).drop t).toArray⟩ := by
      have h1 := ext_back ⟨(bytesL M 0 65536).toArray⟩ t
      rw [hTs] at h1
      rw [h1]
      congr 2
      refine list_getD (by simp [bytesL_len]) fun i hi => ?_
      have hid : t + i < 65536 := by
        have : i < 65536 - t := by simpa [bytesL_len] using hi
        omega
      show ((bytesL M 0 65536).drop t).getD i 0 = _
      rw [getD_drop, getD_drop, bytesL_get _ _ _ _ hid, bytesL_get _ _ _ _ hid, hcM, if_neg (by omega)]
    have hy3 : (⟨(bytesL l 0 65536).toArray⟩ : ByteArray).extract t 65536 = ⟨((bytesL l 0 65536).drop t).toArray⟩ := by
      have h1 := ext_back ⟨(bytesL l 0 65536).toArray⟩ t
      rw [hSs] at h1
      exact h1
    have hy2 : (⟨(bytesL l 0 65536).toArray⟩ : ByteArray).extract p t = ⟨(((bytesL l 0 65536).drop p).take D.size).toArray⟩ := by rw [hmid, hdl]
    obtain ⟨S, hS⟩ : ∃ S : ByteArray, S = ⟨(bytesL l 0 65536).toArray⟩ := ⟨_, rfl⟩
    obtain ⟨N, hN⟩ : ∃ N : ByteArray, N = ⟨(bytesL M 0 65536).toArray⟩ := ⟨_, rfl⟩
    obtain ⟨X1, hX1⟩ : ∃ X : ByteArray, X = ⟨((bytesL l 0 65536).take p).toArray⟩ := ⟨_, rfl⟩
    obtain ⟨X3, hX3⟩ : ∃ X : ByteArray, X = ⟨((bytesL l 0 65536).drop t).toArray⟩ := ⟨_, rfl⟩
    obtain ⟨X2, hX2⟩ : ∃ X : ByteArray, X = ⟨(((bytesL l 0 65536).drop p).take D.size).toArray⟩ := ⟨_, rfl⟩
    obtain ⟨ZB, hZB⟩ : ∃ X : ByteArray, X = ⟨(List.replicate D.size (0 : UInt8)).toArray⟩ := ⟨_, rfl⟩
    rw [← hS] at hSs hy1 hy2 hy3
    rw [← hN] at hTs hx1 hx2 hx3
    rw [← hX1] at hx1 hy1
    rw [← hX3] at hx3 hy3
    rw [← hX2] at hy2
    simp only [← hS] at hall
    simp only [← hN] at hnow
    simp only [← hZB] at hzb
    simp only [← hX2] at hback
    have hb1 : (X1.toList != X1.toList) = false := by unfold bne; rw [beq_self_eq_true]; rfl
    have hb2 : (D.toList != D.toList) = false := by unfold bne; rw [beq_self_eq_true]; rfl
    have hb3 : (X3.toList != X3.toList) = false := by unfold bne; rw [beq_self_eq_true]; rfl
    have hbz : (ZB.toList == ZB.toList) = true := beq_self_eq_true _
    have hmk := fun W => run_makeZ D.size (by omega) W
    have hcv : ∀ W : World, (convert 41 9 (.slice (some ⟨W.heap.size, 0, none⟩) D.size D.size)).run Tryd.prog (W.alloc (.cells ((List.replicate D.size (0 : UInt8)).map byteV).toArray 5)) = .ok (.string ZB) (W.alloc (.cells ((List.replicate D.size (0 : UInt8)).map byteV).toArray 5)) := fun W => by
      have ho := owned_made W (List.replicate D.size 0) W.heap.size (Nat.le_refl _) (by rw [List.length_replicate]; unfold maxLen; omega)
      rw [List.length_replicate] at ho
      rw [hZB]
      exact run_text _ _ _ D.size D.size _ (Owned.reads ho)
    obtain ⟨Zc, hZc2⟩ : ∃ Zc, Zc = ((List.replicate D.size (0 : UInt8)).map byteV).toArray := ⟨_, rfl⟩
    simp only [← hZc2] at hmk hcv
    have hsum : (p : Int) + (D.size : Int) = (t : Int) := by rw [hdl]; omega
    have hp0 : (0 : Int) ≤ (p : Int) := by omega
    have hp6 : (p : Int) ≤ 65536 := by omega
    have ht0 : (0 : Int) ≤ (t : Int) := by omega
    have ht6 : (t : Int) ≤ 65536 := by omega
    have hpt : (p : Int) ≤ (t : Int) := by omega
    have hwp : IntKind.i64.wrap (p : Int) = (p : Int) := by rw [IntKind.wrap_i64]; omega
    have hwt : IntKind.i64.wrap (t : Int) = (t : Int) := by rw [IntKind.wrap_i64]; omega
    have hnl : n = l.length := hln.symm
    have hll := right_len hr
    obtain ⟨m1, hm1⟩ : ∃ m1, m1 = M.length := ⟨_, rfl⟩
    obtain ⟨m2, hm2⟩ : ∃ m2, m2 = Z.length := ⟨_, rfl⟩
    rw [← hm1] at HM ⊢
    simp only [← hm1] at hnow hckM hze
    simp only [← hm2] at hze hzb hback
    rw [← hnl] at hll
    simp only [← hnl] at hback
    have hQ3 : ∀ V, VarP V gx (p : Int) sn → V.cell? ⟨gx, 0, none⟩ = some (.int .i64 (p : Int)) ∧ V.cell? ⟨gx, 1, none⟩ = some (.int .i64 sn) := fun V hV => hV.cells
    have HQ3 := Lib.hid hQ3; clear hQ3
    have HALL := Lib.hid hall; clear hall
    have HNOW := Lib.hid hnow; clear hnow
    have HCKM := Lib.hid hckM; clear hckM
    have HZE := Lib.hid hze; clear hze
    have HZB := Lib.hid hzb; clear hzb
    have HBACK0 := Lib.hid hback; clear hback
    have HMK := Lib.hid hmk; clear hmk
    have HCV := Lib.hid hcv; clear hcv
    clear hmid hZc hcM hM hMr hZr hr hbk hbl hzz ht hpd h0p hm1 hm2 hS hN hX1 hX2 hX3 hZB hZc2 hdl hRl hZl hp hnl hln
    have HDSX := HDS
    clear HDS HDSX HD
    -- the walk
    go_wp2_with fail
    with_reducible refine (HALL.out w2 HB2.out).mono ?_
    rintro E3 w3 ⟨rfl, hb3'⟩
    have HB3 : Hid (Below w.heap.size w w3) := Lib.hid (HB2.out.trans (hb3'.mono HB2.out.size))
    have HV3 : Hid (VarP w3 gx (p : Int) sn) := Lib.hid (HV2.out.keep hb3' HV2.out.lt)
    have HM3 := Lib.hid (HM.out.below hb3')
    clear hb3' HM HV2
    go_wp2_with fail
    with_reducible refine (HNOW.out A2 c2 w3.heap.size w3 HM3.out.reads (Nat.le_refl _)).mono ?_
    rintro E4 w4 ⟨rfl, hb4⟩
    have HB4 : Hid (Below w.heap.size w w4) := Lib.hid (HB3.out.trans (hb4.mono HB3.out.size))
    have HV4 : Hid (VarP w4 gx (p : Int) sn) := Lib.hid (HV3.out.keep hb4 HV3.out.lt)
    have HM4 := Lib.hid (HM3.out.below hb4)
    clear hb4 HM3 HV3
    go_wp2_with fail
    with_reducible refine (HCKM.out A2 c2 w4.heap.size w4 HM4.out.reads (Nat.le_refl _)).mono ?_
    rintro E5 w5 ⟨rfl, hb5⟩
    have HB5 : Hid (Below w.heap.size w w5) := Lib.hid (HB4.out.trans (hb5.mono HB4.out.size))
    have HV5 : Hid (VarP w5 gx (p : Int) sn) := Lib.hid (HV4.out.keep hb5 HV4.out.lt)
    have HM5 := Lib.hid (HM4.out.below hb5)
    clear hb5 HM4 HV4
    have hq5 := fun (V : World) (hV : Below w5.heap.size w5 V) => HQ3.out V (HV5.out.keep hV HV5.out.lt)
    have HQ := Lib.hid hq5; clear hq5
    go_wp2
    refine wp_region_E (fun V => Below w5.heap.size w5 V) 99 rfl ?_
    have hS := (show Below w5.heap.size w5 w5.drew from (Below.refl _ w5).drew)
    refine wpE_takeF 0 ⟨some 65, _, _, _, _, _⟩ (v := ?_) (by decide) rfl (by kernel_rfl) (by kernel_rfl) (by kernel_rfl) (fun _ _ _ h => h) hS (Or.inl ⟨by kernel_rfl, ?_⟩) ?_
    rotate_left
    · (intro V hSw; obtain ⟨q0, q1⟩ := HQ.out V hSw; go_simp; try with_reducible rfl)
    try simp only [Act.put]
    refine wpE_takeF 1 ⟨some 66, _, _, _, _, _⟩ (v := ?_) (by decide) rfl (by kernel_rfl) (by kernel_rfl) (by kernel_rfl) (fun _ _ _ h => h) hS (Or.inl ⟨by kernel_rfl, ?_⟩) ?_
    rotate_left
    · (intro V hSw; obtain ⟨q0, q1⟩ := HQ.out V hSw; go_simp; try with_reducible rfl)
    try simp only [Act.put]
    refine wpE_takeF 2 ⟨some 67, _, _, _, _, _⟩ (v := ?_) (by decide) rfl (by kernel_rfl) (by kernel_rfl) (by kernel_rfl) (fun _ _ _ h => h) hS (Or.inl ⟨by kernel_rfl, ?_⟩) ?_
    rotate_left
    · (intro V hSw; obtain ⟨q0, q1⟩ := HQ.out V hSw; go_simp; try with_reducible rfl)
    try simp only [Act.put]
    refine wpE_takeF 3 ⟨some 68, _, _, _, _, _⟩ (v := ?_) (by decide) rfl (by kernel_rfl) (by kernel_rfl) (by kernel_rfl) (fun _ _ _ h => h) hS (Or.inl ⟨by kernel_rfl, ?_⟩) ?_
    rotate_left
    · (intro V hSw; obtain ⟨q0, q1⟩ := HQ.out V hSw; go_simp; try with_reducible rfl)
    try simp only [Act.put]
    refine wpE_takeF 4 ⟨some 69, _, _, _, _, _⟩ (v := ?_) (by decide) rfl (by kernel_rfl) (by kernel_rfl) (by kernel_rfl) (fun _ _ _ h => h) hS (Or.inl ⟨by kernel_rfl, ?_⟩) ?_
    rotate_left
    · (intro V hSw; obtain ⟨q0, q1⟩ := HQ.out V hSw; go_simp; try with_reducible rfl)
    try simp only [Act.put]
    refine wpE_takeF 5 ⟨some 70, _, _, _, _, _⟩ (v := ?_) (by decide) rfl (by kernel_rfl) (by kernel_rfl) (by kernel_rfl) (fun _ _ _ h => h) hS (Or.inl ⟨by kernel_rfl, ?_⟩) ?_
    rotate_left
    · (intro V hSw; obtain ⟨q0, q1⟩ := HQ.out V hSw; go_simp; try with_reducible rfl)
    try simp only [Act.put]
    refine wpE_takeF 6 ⟨some 71, _, _, _, _, _⟩ (v := ?_) (by decide) rfl (by kernel_rfl) (by kernel_rfl) (by kernel_rfl) (fun _ _ _ h => h) hS (Or.inl ⟨by kernel_rfl, ?_⟩) ?_
    rotate_left
    · (intro V hSw; obtain ⟨q0, q1⟩ := HQ.out V hSw; go_simp; try with_reducible rfl)
    try simp only [Act.put]
    refine wpE_takeF 7 ⟨some 72, _, _, _, _, _⟩ (v := ?_) (by decide) rfl (by kernel_rfl) (by kernel_rfl) (by kernel_rfl) (fun _ _ _ h => h) hS (Or.inl ⟨by kernel_rfl, ?_⟩) ?_
    rotate_left
    · (intro V hSw; obtain ⟨q0, q1⟩ := HQ.out V hSw; go_simp; try with_reducible rfl)
    try simp only [Act.put]
    refine wpE_takeF 8 ⟨some 73, _, _, _, _, _⟩ (v := ?_) (by decide) rfl (by kernel_rfl) (by kernel_rfl) (by kernel_rfl) (fun _ _ _ h => h) hS (Or.inl ⟨by kernel_rfl, ?_⟩) ?_
    rotate_left
    · (intro V hSw; obtain ⟨q0, q1⟩ := HQ.out V hSw; go_simp; try with_reducible rfl)
    try simp only [Act.put]
    refine wpE_takeF 9 ⟨some 74, _, _, _, _, _⟩ (v := ?_) (by decide) rfl (by kernel_rfl) (by kernel_rfl) (by kernel_rfl) (fun _ _ _ h => h) hS (Or.inl ⟨by kernel_rfl, ?_⟩) ?_
    rotate_left
    · (intro V hSw; obtain ⟨q0, q1⟩ := HQ.out V hSw; go_simp; try with_reducible rfl)
    try simp only [Act.put]
    refine wpE_takeF 10 ⟨some 75, _, _, _, _, _⟩ (v := ?_) (by decide) rfl (by kernel_rfl) (by kernel_rfl) (by kernel_rfl) (fun _ _ _ h => h) hS (Or.inl ⟨by kernel_rfl, ?_⟩) ?_
    rotate_left
    · (intro V hSw; obtain ⟨q0, q1⟩ := HQ.out V hSw; go_simp; try with_reducible rfl)
    try simp only [Act.put]
    refine wpE_takeF 11 ⟨some 76, _, _, _, _, _⟩ (v := ?_) (by decide) rfl (by kernel_rfl) (by kernel_rfl) (by kernel_rfl) (fun _ _ _ h => h) hS (Or.inl ⟨by kernel_rfl, ?_⟩) ?_
    rotate_left
    · (intro V hSw; obtain ⟨q0, q1⟩ := HQ.out V hSw; go_simp; try with_reducible rfl)
    try simp only [Act.put]
    refine wpE_takeF 12 ⟨some 77, _, _, _, _, _⟩ (v := ?_) (by decide) rfl (by kernel_rfl) (by kernel_rfl) (by kernel_rfl) (fun _ _ _ h => h) hS (Or.inl ⟨by kernel_rfl, ?_⟩) ?_
    rotate_left
    · (intro V hSw; obtain ⟨q0, q1⟩ := HQ.out V hSw; go_simp; try with_reducible rfl)
    try simp only [Act.put]
    refine wpE_takeF 13 ⟨some 78, _, _, _, _, _⟩ (v := ?_) (by decide) rfl (by kernel_rfl) (by kernel_rfl) (by kernel_rfl) (fun _ _ _ h => h) hS (Or.inl ⟨by kernel_rfl, ?_⟩) ?_
    rotate_left
    · (intro V hSw; obtain ⟨q0, q1⟩ := HQ.out V hSw; go_simp; try with_reducible rfl)
    try simp only [Act.put]
    refine wpE_takeF 14 ⟨some 79, _, _, _, _, _⟩ (v := ?_) (by decide) rfl (by kernel_rfl) (by kernel_rfl) (by kernel_rfl) (fun _ _ _ h => h) hS (Or.inl ⟨by kernel_rfl, ?_⟩) ?_
    rotate_left
    · (intro V hSw; obtain ⟨q0, q1⟩ := HQ.out V hSw; go_simp; try with_reducible rfl)
    try simp only [Act.put]
    refine wpE_takeF 15 ⟨some 80, _, _, _, _, _⟩ (v := ?_) (by decide) rfl (by kernel_rfl) (by kernel_rfl) (by kernel_rfl) (fun _ _ _ h => h) hS (Or.inl ⟨by kernel_rfl, ?_⟩) ?_
    rotate_left
    · (intro V hSw; obtain ⟨q0, q1⟩ := HQ.out V hSw; go_simp; try with_reducible rfl)
    try simp only [Act.put]
    refine wpE_takeF 16 ⟨some 81, _, _, _, _, _⟩ (v := ?_) (by decide) rfl (by kernel_rfl) (by kernel_rfl) (by kernel_rfl) (fun _ _ _ h => h) hS (Or.inl ⟨by kernel_rfl, ?_⟩) ?_
    rotate_left
    · (intro V hSw; obtain ⟨q0, q1⟩ := HQ.out V hSw; go_simp; try with_reducible rfl)
    try simp only [Act.put]
    refine wpE_takeF 17 ⟨some 82, _, _, _, _, _⟩ (v := ?_) (by decide) rfl (by kernel_rfl) (by kernel_rfl) (by kernel_rfl) (fun _ _ _ h => h) hS (Or.inl ⟨by kernel_rfl, ?_⟩) ?_
    rotate_left
    · (intro V hSw; obtain ⟨q0, q1⟩ := HQ.out V hSw; go_simp; try with_reducible rfl)
    try simp only [Act.put]
    refine wpE_takeF 18 ⟨some 83, _, _, _, _, _⟩ (v := ?_) (by decide) rfl (by kernel_rfl) (by kernel_rfl) (by kernel_rfl) (fun _ _ _ h => h) hS (Or.inl ⟨by kernel_rfl, ?_⟩) ?_
    rotate_left
    · (intro V hSw; obtain ⟨q0, q1⟩ := HQ.out V hSw; go_simp; try with_reducible rfl)
    try simp only [Act.put]
    refine wpE_takeF 19 ⟨some 84, _, _, _, _, _⟩ (v := ?_) (by decide) rfl (by kernel_rfl) (by kernel_rfl) (by kernel_rfl) (fun _ _ _ h => h) hS (Or.inl ⟨by kernel_rfl, ?_⟩) ?_
    rotate_left
    · (intro V hSw; obtain ⟨q0, q1⟩ := HQ.out V hSw; go_simp; try with_reducible rfl)
    try simp only [Act.put]
    refine wpE_takeF 20 ⟨some 85, _, _, _, _, _⟩ (v := ?_) (by decide) rfl (by kernel_rfl) (by kernel_rfl) (by kernel_rfl) (fun _ _ _ h => h) hS (Or.inl ⟨by kernel_rfl, ?_⟩) ?_
    rotate_left
    · (intro V hSw; obtain ⟨q0, q1⟩ := HQ.out V hSw; go_simp; try with_reducible rfl)
    try simp only [Act.put]
    refine wpE_takeF 21 ⟨some 86, _, _, _, _, _⟩ (v := ?_) (by decide) rfl (by kernel_rfl) (by kernel_rfl) (by kernel_rfl) (fun _ _ _ h => h) hS (Or.inl ⟨by kernel_rfl, ?_⟩) ?_
    rotate_left
    · (intro V hSw; obtain ⟨q0, q1⟩ := HQ.out V hSw; go_simp; try with_reducible rfl)
    try simp only [Act.put]
    refine wpE_takeF 22 ⟨some 87, _, _, _, _, _⟩ (v := ?_) (by decide) rfl (by kernel_rfl) (by kernel_rfl) (by kernel_rfl) (fun _ _ _ h => h) hS (Or.inl ⟨by kernel_rfl, ?_⟩) ?_
    rotate_left
    · (intro V hSw; obtain ⟨q0, q1⟩ := HQ.out V hSw; go_simp; try with_reducible rfl)
    try simp only [Act.put]
    refine wpE_takeF 23 ⟨some 88, _, _, _, _, _⟩ (v := ?_) (by decide) rfl (by kernel_rfl) (by kernel_rfl) (by kernel_rfl) (fun _ _ _ h => h) hS (Or.inl ⟨by kernel_rfl, ?_⟩) ?_
    rotate_left
    · (intro V hSw; obtain ⟨q0, q1⟩ := HQ.out V hSw; go_simp; try with_reducible rfl)
    try simp only [Act.put]
    refine wpE_takeF 24 ⟨some 89, _, _, _, _, _⟩ (v := ?_) (by decide) rfl (by kernel_rfl) (by kernel_rfl) (by kernel_rfl) (fun _ _ _ h => h) hS (Or.inl ⟨by kernel_rfl, ?_⟩) ?_
    rotate_left
    · (intro V hSw; obtain ⟨q0, q1⟩ := HQ.out V hSw; go_simp; try with_reducible rfl)
    try simp only [Act.put]
    refine wpE_takeF 25 ⟨some 90, _, _, _, _, _⟩ (v := ?_) (by decide) rfl (by kernel_rfl) (by kernel_rfl) (by kernel_rfl) (fun _ _ _ h => h) hS (Or.inl ⟨by kernel_rfl, ?_⟩) ?_
    rotate_left
    · (intro V hSw; obtain ⟨q0, q1⟩ := HQ.out V hSw; go_simp; try with_reducible rfl)
    try simp only [Act.put]
    refine wpE_takeF 26 ⟨some 91, _, _, _, _, _⟩ (v := ?_) (by decide) rfl (by kernel_rfl) (by kernel_rfl) (by kernel_rfl) (fun _ _ _ h => h) hS (Or.inl ⟨by kernel_rfl, ?_⟩) ?_
    rotate_left
    · (intro V hSw; obtain ⟨q0, q1⟩ := HQ.out V hSw; go_simp; try with_reducible rfl)
    try simp only [Act.put]
    refine wpE_takeF 27 ⟨some 92, _, _, _, _, _⟩ (v := ?_) (by decide) rfl (by kernel_rfl) (by kernel_rfl) (by kernel_rfl) (fun _ _ _ h => h) hS (Or.inl ⟨by kernel_rfl, ?_⟩) ?_
    rotate_left
    · (intro V hSw; obtain ⟨q0, q1⟩ := HQ.out V hSw; go_simp; try with_reducible rfl)
    try simp only [Act.put]
    refine wpE_takeF 28 ⟨some 93, _, _, _, _, _⟩ (v := ?_) (by decide) rfl (by kernel_rfl) (by kernel_rfl) (by kernel_rfl) (fun _ _ _ h => h) hS (Or.inl ⟨by kernel_rfl, ?_⟩) ?_
    rotate_left
    · (intro V hSw; obtain ⟨q0, q1⟩ := HQ.out V hSw; go_simp; try with_reducible rfl)
    try simp only [Act.put]
    refine wpE_takeF 29 ⟨some 94, _, _, _, _, _⟩ (v := ?_) (by decide) rfl (by kernel_rfl) (by kernel_rfl) (by kernel_rfl) (fun _ _ _ h => h) hS (Or.inl ⟨by kernel_rfl, ?_⟩) ?_
    rotate_left
    · (intro V hSw; obtain ⟨q0, q1⟩ := HQ.out V hSw; go_simp; try with_reducible rfl)
    try simp only [Act.put]
    refine wpE_takeF 30 ⟨some 95, _, _, _, _, _⟩ (v := ?_) (by decide) rfl (by kernel_rfl) (by kernel_rfl) (by kernel_rfl) (fun _ _ _ h => h) hS (Or.inl ⟨by kernel_rfl, ?_⟩) ?_
    rotate_left
    · (intro V hSw; obtain ⟨q0, q1⟩ := HQ.out V hSw; go_simp; try with_reducible rfl)
    try simp only [Act.put]
    refine wpE_takeF 31 ⟨some 96, _, _, _, _, _⟩ (v := ?_) (by decide) rfl (by kernel_rfl) (by kernel_rfl) (by kernel_rfl) (fun _ _ _ h => h) hS (Or.inl ⟨by kernel_rfl, ?_⟩) ?_
    rotate_left
    · (intro V hSw; obtain ⟨q0, q1⟩ := HQ.out V hSw; go_simp; try with_reducible rfl)
    try simp only [Act.put]
    refine wpE_takeF 32 ⟨some 97, _, _, _, _, _⟩ (v := ?_) (by decide) rfl (by kernel_rfl) (by kernel_rfl) (by kernel_rfl) (fun _ _ _ h => h) hS (Or.inl ⟨by kernel_rfl, ?_⟩) ?_
    rotate_left
    · (intro V hSw; obtain ⟨q0, q1⟩ := HQ.out V hSw; go_simp; try with_reducible rfl)
    try simp only [Act.put]
    refine wpE_takeF 33 ⟨some 98, _, _, _, _, _⟩ (v := ?_) (by decide) rfl (by kernel_rfl) (by kernel_rfl) (by kernel_rfl) (fun _ _ _ h => h) hS (Or.inl ⟨by kernel_rfl, ?_⟩) ?_
    rotate_left
    · (intro V hSw; obtain ⟨q0, q1⟩ := HQ.out V hSw; go_simp; try with_reducible rfl)
    try simp only [Act.put]
    refine wpE_takeF 34 ⟨some 99, _, _, _, _, _⟩ (v := ?_) (by decide) rfl (by kernel_rfl) (by kernel_rfl) (by kernel_rfl) (fun _ _ _ h => h) hS (Or.inl ⟨by kernel_rfl, ?_⟩) ?_
    rotate_left
    · (intro V hSw; obtain ⟨q0, q1⟩ := HQ.out V hSw; go_simp; try with_reducible rfl)
    try simp only [Act.put]
    refine wpE_takeF 35 ⟨some 100, _, _, _, _, _⟩ (v := ?_) (by decide) rfl (by kernel_rfl) (by kernel_rfl) (by kernel_rfl) (fun _ _ _ h => h) hS (Or.inl ⟨by kernel_rfl, ?_⟩) ?_
    rotate_left
    · (intro V hSw; obtain ⟨q0, q1⟩ := HQ.out V hSw; go_simp; try with_reducible rfl)
    try simp only [Act.put]
    refine wpE_takeF 36 ⟨some 101, _, _, _, _, _⟩ (v := ?_) (by decide) rfl (by kernel_rfl) (by kernel_rfl) (by kernel_rfl) (fun _ _ _ h => h) hS (Or.inl ⟨by kernel_rfl, ?_⟩) ?_
    rotate_left
    · (intro V hSw; obtain ⟨q0, q1⟩ := HQ.out V hSw; go_simp; try with_reducible rfl)
    try simp only [Act.put]
    refine wpE_takeF 37 ⟨some 102, _, _, _, _, _⟩ (v := ?_) (by decide) rfl (by kernel_rfl) (by kernel_rfl) (by kernel_rfl) (fun _ _ _ h => h) hS (Or.inl ⟨by kernel_rfl, ?_⟩) ?_
    rotate_left
    · (intro V hSw; obtain ⟨q0, q1⟩ := HQ.out V hSw; go_simp; try with_reducible rfl)
    try simp only [Act.put]
    refine wpE_takeF 38 ⟨some 103, _, _, _, _, _⟩ (v := ?_) (by decide) rfl (by kernel_rfl) (by kernel_rfl) (by kernel_rfl) (fun _ _ _ h => h) hS (Or.inl ⟨by kernel_rfl, ?_⟩) ?_
    rotate_left
    · (intro V hSw; obtain ⟨q0, q1⟩ := HQ.out V hSw; go_simp; try with_reducible rfl)
    try simp only [Act.put]
    refine wpE_done (by kernel_rfl) ?_ _
    try simp only [List.setIfInBounds_toArray, List.set_cons_succ, List.set_cons_zero]
    clear HQ
    obtain ⟨W5, hW5⟩ : ∃ W5, W5 = w5.drew := ⟨_, rfl⟩
    have HB5 : Hid (Below w.heap.size w W5) := Lib.hid (by rw [hW5]; exact HB5.out.trans (hS.mono HB5.out.size))
    have HV5 : Hid (VarP W5 gx (p : Int) sn) := Lib.hid (by rw [hW5]; exact HV5.out.keep hS HV5.out.lt)
    have HM5 := Lib.hid (HM5.out.below hS)
    rw [← hW5] at HM5 ⊢
    clear hW5 hS
    obtain ⟨q0, q1⟩ := HQ3.out W5 HV5.out
    go_wp2_with fail
    with_reducible refine (HZE.out A2 c2 W5.heap.size W5 HM5.out.reads (Nat.le_refl _)).mono ?_
    rintro E6 w6 ⟨A6, c6, rfl, ho6, hb6⟩
    have HB6 : Hid (Below w.heap.size w w6) := Lib.hid (HB5.out.trans (hb6.mono HB5.out.size))
    have HV6 : Hid (VarP w6 gx (p : Int) sn) := Lib.hid (HV5.out.keep hb6 HV5.out.lt)
    have HZ6 := Lib.hid ho6
    clear hb6 HM5 HV5 ho6 q0 q1
    obtain ⟨q0, q1⟩ := HQ3.out w6 HV6.out
    go_wp2_with fail
    with_reducible refine (HZB.out A6 c6 w6.heap.size w6 HZ6.out.reads (Nat.le_refl _)).mono ?_
    rintro E7 w7 ⟨rfl, hb7⟩
    have HB7 : Hid (Below w.heap.size w w7) := Lib.hid (HB6.out.trans (hb7.mono HB6.out.size))
    have HV7 : Hid (VarP w7 gx (p : Int) sn) := Lib.hid (HV6.out.keep hb7 HV6.out.lt)
    have HZ7 := Lib.hid (HZ6.out.below hb7)
    clear hb7 HZ6 HV6 q0 q1
    have hq7 := fun (V : World) (hV : Below w7.heap.size w7 V) => HQ3.out V (HV7.out.keep hV HV7.out.lt)
    have HQ := Lib.hid hq7; clear hq7
    have hback7 := fun (V : World) (hx : True) (hV : Below w7.heap.size w7 V) => HBACK0.out A6 c6 V.heap.size V (HZ7.out.below hV).reads (Nat.le_refl _)
    have HBACK := Lib.hid hback7; clear hback7
    go_wp2
    refine wp_region_E (fun V => Below w7.heap.size w7 V) 99 rfl ?_
    have hS := (show Below w7.heap.size w7 w7.drew from (Below.refl _ w7).drew)
    refine wpE_takeF 0 ⟨some 126, _, _, _, _, _⟩ (v := ?_) (by decide) rfl (by kernel_rfl) (by kernel_rfl) (by kernel_rfl) (fun _ _ _ h => h) hS (Or.inl ⟨by kernel_rfl, ?_⟩) ?_
    rotate_left
    · (intro V hSw; obtain ⟨q0, q1⟩ := HQ.out V hSw; go_simp; try with_reducible rfl)
    try simp only [Act.put]
    refine wpE_takeF 1 ⟨some 127, _, _, _, _, _⟩ (v := ?_) (by decide) rfl (by kernel_rfl) (by kernel_rfl) (by kernel_rfl) (fun _ _ _ h => h) hS (Or.inl ⟨by kernel_rfl, ?_⟩) ?_
    rotate_left
    · (intro V hSw; obtain ⟨q0, q1⟩ := HQ.out V hSw; go_simp; try with_reducible rfl)
    try simp only [Act.put]
    refine wpE_takeF 2 ⟨some 128, _, _, _, _, _⟩ (v := ?_) (by decide) rfl (by kernel_rfl) (by kernel_rfl) (by kernel_rfl) (fun _ _ _ h => h) hS (Or.inl ⟨by kernel_rfl, ?_⟩) ?_
    rotate_left
    · (intro V hSw; obtain ⟨q0, q1⟩ := HQ.out V hSw; go_simp; try with_reducible rfl)
    try simp only [Act.put]
    refine wpE_takeF 3 ⟨some 129, _, _, _, _, _⟩ (v := ?_) (by decide) rfl (by kernel_rfl) (by kernel_rfl) (by kernel_rfl) (fun _ _ _ h => h) hS (Or.inl ⟨by kernel_rfl, ?_⟩) ?_
    rotate_left
    · (intro V hSw; obtain ⟨q0, q1⟩ := HQ.out V hSw; go_simp; try with_reducible rfl)
    try simp only [Act.put]
    refine wpE_takeF 4 ⟨some 130, _, _, _, _, _⟩ (v := ?_) (by decide) rfl (by kernel_rfl) (by kernel_rfl) (by kernel_rfl) (fun _ _ _ h => h) hS (Or.inl ⟨by kernel_rfl, ?_⟩) ?_
    rotate_left
    · (intro V hSw; obtain ⟨q0, q1⟩ := HQ.out V hSw; go_simp; try with_reducible rfl)
    try simp only [Act.put]
    refine wpE_takeF 5 ⟨some 131, _, _, _, _, _⟩ (v := ?_) (by decide) rfl (by kernel_rfl) (by kernel_rfl) (by kernel_rfl) (fun _ _ _ h => h) hS (Or.inl ⟨by kernel_rfl, ?_⟩) ?_
    rotate_left
    · (intro V hSw; obtain ⟨q0, q1⟩ := HQ.out V hSw; go_simp; try with_reducible rfl)
    try simp only [Act.put]
    refine wpE_takeF 6 ⟨some 132, _, _, _, _, _⟩ (v := ?_) (by decide) rfl (by kernel_rfl) (by kernel_rfl) (by kernel_rfl) (fun _ _ _ h => h) hS (Or.inl ⟨by kernel_rfl, ?_⟩) ?_
    rotate_left
    · (intro V hSw; obtain ⟨q0, q1⟩ := HQ.out V hSw; go_simp; try with_reducible rfl)
    try simp only [Act.put]
    refine wpE_takeF 7 ⟨some 133, _, _, _, _, _⟩ (v := ?_) (by decide) rfl (by kernel_rfl) (by kernel_rfl) (by kernel_rfl) (fun _ _ _ h => h) hS (Or.inl ⟨by kernel_rfl, ?_⟩) ?_
    rotate_left
    · (intro V hSw; obtain ⟨q0, q1⟩ := HQ.out V hSw; go_simp; try with_reducible rfl)
    try simp only [Act.put]
    refine wpE_takeF 8 ⟨some 134, _, _, _, _, _⟩ (v := ?_) (by decide) rfl (by kernel_rfl) (by kernel_rfl) (by kernel_rfl) (fun _ _ _ h => h) hS (Or.inl ⟨by kernel_rfl, ?_⟩) ?_
    rotate_left
    · (intro V hSw; obtain ⟨q0, q1⟩ := HQ.out V hSw; go_simp; try with_reducible rfl)
    try simp only [Act.put]
    refine wpE_takeF 9 ⟨some 135, _, _, _, _, _⟩ (v := ?_) (by decide) rfl (by kernel_rfl) (by kernel_rfl) (by kernel_rfl) (fun _ _ _ h => h) hS (Or.inl ⟨by kernel_rfl, ?_⟩) ?_
    rotate_left
    · (intro V hSw; obtain ⟨q0, q1⟩ := HQ.out V hSw; go_simp; try with_reducible rfl)
    try simp only [Act.put]
    refine wpE_takeF 10 ⟨some 136, _, _, _, _, _⟩ (v := ?_) (by decide) rfl (by kernel_rfl) (by kernel_rfl) (by kernel_rfl) (fun _ _ _ h => h) hS (Or.inl ⟨by kernel_rfl, ?_⟩) ?_
    rotate_left
    · (intro V hSw; obtain ⟨q0, q1⟩ := HQ.out V hSw; go_simp; try with_reducible rfl)
    try simp only [Act.put]
    refine wpE_takeF 11 ⟨some 137, _, _, _, _, _⟩ (v := ?_) (by decide) rfl (by kernel_rfl) (by kernel_rfl) (by kernel_rfl) (fun _ _ _ h => h) hS (Or.inl ⟨by kernel_rfl, ?_⟩) ?_
    rotate_left
    · (intro V hSw; obtain ⟨q0, q1⟩ := HQ.out V hSw; go_simp; try with_reducible rfl)
    try simp only [Act.put]
    refine wpE_one 12 (o := ⟨some 138, _, _, _, _, _⟩) (by kernel_rfl) rfl (fun K' hK' => ?_)
    rw [if_pos (by kernel_rfl)]
    refine call_wp 11 _ _ _ _ rfl Tryd.func11 (by kernel_rfl) rfl _ ?hv _ (HBACK.out _ trivial hS) ?_
    case hv => simp only [List.map_toArray, List.map_cons, List.map_nil]; go_simp
    rintro E V8 ⟨A8, c8, rfl, ho8, hb8⟩
    have hb8' : Below w7.heap.size w7 V8 := hS.trans (hb8.mono hS.size)
    refine ⟨_, rfl, hK'.out _ _ hb8' (fun hS => ?_)⟩
    clear hK' K'
    try simp only [Act.put]
    refine wpE_takeF 13 ⟨some 125, _, _, _, _, _⟩ (v := ?_) (by decide) rfl (by kernel_rfl) (by kernel_rfl) (by kernel_rfl) (fun _ _ _ h => h) hS (Or.inl ⟨by kernel_rfl, ?_⟩) ?_
    rotate_left
    · (intro V hSw; obtain ⟨q0, q1⟩ := HQ.out V hSw; go_simp; try with_reducible rfl)
    try simp only [Act.put]
    refine wpE_takeF 14 ⟨some 139, _, _, _, _, _⟩ (v := ?_) (by decide) rfl (by kernel_rfl) (by kernel_rfl) (by kernel_rfl) (fun _ _ _ h => h) hS (Or.inl ⟨by kernel_rfl, ?_⟩) ?_
    rotate_left
    · (intro V hSw; obtain ⟨q0, q1⟩ := HQ.out V hSw; go_simp; try with_reducible rfl)
    try simp only [Act.put]
    refine wpE_takeF 15 ⟨some 140, _, _, _, _, _⟩ (v := ?_) (by decide) rfl (by kernel_rfl) (by kernel_rfl) (by kernel_rfl) (fun _ _ _ h => h) hS (Or.inl ⟨by kernel_rfl, ?_⟩) ?_
    rotate_left
    · (intro V hSw; obtain ⟨q0, q1⟩ := HQ.out V hSw; go_simp; try with_reducible rfl)
    try simp only [Act.put]
    refine wpE_takeF 16 ⟨some 17, _, _, _, _, _⟩ (v := ?_) (by decide) rfl (by kernel_rfl) (by kernel_rfl) (by kernel_rfl) (fun _ _ _ h => h) hS (Or.inl ⟨by kernel_rfl, ?_⟩) ?_
    rotate_left
    · (intro V hSw; obtain ⟨q0, q1⟩ := HQ.out V hSw; go_simp; try with_reducible rfl)
    try simp only [Act.put]
    refine wpE_takeF 17 ⟨some 18, _, _, _, _, _⟩ (v := ?_) (by decide) rfl (by kernel_rfl) (by kernel_rfl) (by kernel_rfl) (fun _ _ _ h => h) hS (Or.inl ⟨by kernel_rfl, ?_⟩) ?_
    rotate_left
    · (intro V hSw; obtain ⟨q0, q1⟩ := HQ.out V hSw; go_simp; try with_reducible rfl)
    try simp only [Act.put]
    refine wpE_done (by kernel_rfl) ?_ _
    try simp only [List.setIfInBounds_toArray, List.set_cons_succ, List.set_cons_zero]
    clear HQ
    obtain ⟨W8, hW8⟩ : ∃ W8, W8 = V8 := ⟨_, rfl⟩
    have HB8 : Hid (Below w.heap.size w W8) := Lib.hid (by rw [hW8]; exact HB7.out.trans (hS.mono HB7.out.size))
    have HK8 := Lib.hid ho8
    rw [← hW8] at HK8 ⊢
    clear hW8 hS hb8 hb8' ho8
    have hmk8 := HMK.out W8
    have hcv8 := HCV.out W8
    have hb9 : Below w.heap.size w (W8.alloc (.cells Zc 5)) := HB8.out.alloc HB8.out.size _
    have hk9 := HK8.out.below ((Below.refl W8.heap.size W8).alloc (Nat.le_refl _) (.cells Zc 5))
    have hs := same_any A8 A n n c8 c (W8.alloc (.cells Zc 5)).heap.size w.heap.size l l (W8.alloc (.cells Zc 5)) hk9.reads (HH.out _ hb9) (Nat.le_refl _) hb9.size (by omega)
    rw [decide_eq_true rfl] at hs
    have HSL := Lib.hid hs; clear hs hk9
    have HB9 := Lib.hid hb9; clear hb9
    go_wp2_with fail
    with_reducible refine HSL.out.mono ?_
    rintro E10 w10 ⟨rfl, hb10⟩
    have HB10 : Hid (Below w.heap.size w w10) := Lib.hid (HB9.out.trans (hb10.mono HB9.out.size))
    clear hb10 hmk8 hcv8
    go_wp2
    rw [HP.out]
    exact ⟨rfl, HB10.out⟩

theorem walks : Walks 5 Tryd.f5 All := by
  intro H enc W base args ds p hval hA hsz _
  rw [Tryd.params5] at hA hval hsz
  obtain ⟨v0, vs0, d0, ds0, p0, q0, hargs, rfl, rfl, h0, r0⟩ := trodAll_cons hA
  obtain ⟨v1, vs1, d1, ds1, p1, q1, rfl, rfl, rfl, h1, r1⟩ := trodAll_cons r0
  obtain ⟨v2, vs2, d2, ds2, p2, q2, rfl, rfl, rfl, h2, r2⟩ := trodAll_cons r1
  obtain ⟨rfl, rfl, rfl⟩ := trodAll_nil r2
  obtain rfl : args = #[v0, v1, v2] := by cases args; simp_all
  obtain ⟨A0, n0, c0, l0, rfl, hl0, hr0, hn0, hc0⟩ := exts_open (hval 0 _ v0 rfl rfl) h0 _ (reach_exts hsz (j := 0) rfl rfl)
  obtain ⟨a1, m1, rfl, ha1, hm1⟩ := spot_by_value (hval 1 _ v1 rfl rfl) h1
  obtain ⟨s2, rfl, rfl, rfl, hs2⟩ := Go.ChangeMaps.open_string Tryd.underlying9 (hval 2 _ v2 rfl rfl) h2
  have hz2 := sized_string hsz (j := 2) rfl rfl
  have hw := walk A0 n0 c0 l0 a1 m1 s2.data.toList W hl0 hr0 (by omega) ha1
  rw [text_back] at hw
  exact hw

theorem laid_ok (os : Os) : laidMetH Tryd.prog Rows.sparseStaysRow.laid ((World.laidAll Tryd.prog os Rows.sparseStaysRow.laid).forCall (fun _ _ => 0) ⟨#[], #[.slice none 0 0, .agg #[.int .i64 0, .int .i64 0], .string ⟨#[]⟩], []⟩).memory := by
  rw [MakeChecks.laidMetH_plain _ _ _ (by kernel_rfl)]
  exact laidMet_laidAll _ (by kernel_rfl) (by kernel_rfl)
theorem shaped_ok (os : Os) : ((World.laidAll Tryd.prog os Rows.sparseStaysRow.laid).forCall (fun _ _ => 0) ⟨#[], #[.slice none 0 0, .agg #[.int .i64 0, .int .i64 0], .string ⟨#[]⟩], []⟩).Shaped Tryd.prog := World.shaped_of_ZipB (by kernel_rfl) (by kernel_rfl)
theorem reads (os : Os) {H : Type} (enc : TypeId × Value → H) : ∃ x, DataW.whole enc Tryd.prog ((World.laidAll Tryd.prog os Rows.sparseStaysRow.laid).forCall (fun _ _ => 0) ⟨#[], #[.slice none 0 0, .agg #[.int .i64 0, .int .i64 0], .string ⟨#[]⟩], []⟩).memory Tryd.f5.params.toList Rows.sparseStaysSpec.vars false #[.slice none 0 0, .agg #[.int .i64 0, .int .i64 0], .string ⟨#[]⟩].toList 8 = some x :=
  ⟨([.nil, .agg [.lit (.int .i64 0), .lit (.int .i64 0)], .lit (.string [])], [], []), by kernel_rfl⟩

set_option maxRecDepth 100000 in
theorem said : Rows.SparseStaysSaid :=
  OpenClaim.holds_of_cond 5 Tryd.f5 rfl rfl rfl rfl rfl rfl rfl ⟨rfl, rfl, rfl, rfl, rfl⟩ rfl rfl rfl rfl rfl (by kernel_rfl) Tryd.func5 (by kernel_rfl)
    (of_decide_eq_true (by kernel_rfl)) (by unfold Func.isWrapper; first | (rw [if_pos (by decide +kernel)]; kernel_rfl) | (rw [if_neg (by decide +kernel)]; exact ⟨rfl, rfl⟩))
    (fun os started H enc _ F => by
      rw [OpenClaim.pre_eq_preRow]
      obtain ⟨x, hx⟩ := reads os enc
      exact lifted_row (s := Rows.sparseStaysSpec) walks (by kernel_rfl) rfl rfl (fun H ds hl => by match ds, hl with | [d1, d2, d3], _ => rfl) (by kernel_rfl) Tryd.func5 os started H enc F
        (witness_laid (enc := enc) (C := Tryd.checked) #[.slice none 0 0, .agg #[.int .i64 0, .int .i64 0], .string ⟨#[]⟩] (shaped_ok os) (by kernel_rfl) (OpenSpec.preRow_of_cond 8 hx rfl (fun k hk => by cases hk) (by kernel_rfl) (laid_ok os))))
theorem plain (f : FuncId) (fn : Func) (hf : Tryd.pinned.checked.prog.funcNamed "undercroft/undercroftlaw15.SparseStays" = some f) (hfn : Tryd.pinned.checked.prog.funcs[f]? = some fn) :
    false = Tryd.pinned.checked.prog.looks [] ∧ ∀ (j : Nat) t, fn.params[j]? = some t → Tryd.pinned.checked.prog.wantsStandIn t = false := by
  obtain rfl : f = 5 := Option.some.inj ((show Tryd.prog.funcNamed "undercroft/undercroftlaw15.SparseStays" = some 5 by kernel_rfl).symm.trans hf) |>.symm
  obtain rfl : fn = Tryd.f5 := (Option.some.inj (Tryd.func5.symm.trans hfn)).symm
  refine ⟨by kernel_rfl, fun j t ht => ?_⟩
  rw [Tryd.params5] at ht
  have hall : (#[22, 40, 9].all fun u => !Tryd.prog.wantsStandIn u) = true := by kernel_rfl
  have hm := Array.all_eq_true'.1 hall t (Array.mem_of_getElem? ht)
  exact (show Tryd.prog.wantsStandIn t = false by simpa using hm)
theorem proved : Rows.SparseStaysCardSaid :=
  Claim7.holds_tied_plain_at .later [] _ _ _ _ said (fun _ h => by cases h) (by kernel_rfl) (fun _ h => by cases h) sparseStays_row_tie rfl ⟨rfl, rfl⟩ (by kernel_rfl) rfl plain (by kernel_rfl)
#print axioms proved
end Go.Proofs.YtmbmjdogfjmlpaaDoor.SparseStays
