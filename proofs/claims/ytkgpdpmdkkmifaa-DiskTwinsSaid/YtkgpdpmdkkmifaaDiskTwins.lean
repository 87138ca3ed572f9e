/- A copy of a disk goes on just as the disk would have: proved for every two lists of deeds. -/
import Derived.Test.YtkgpdpmdkkmifaaDkTwin
import Derived.Deep.RegionHeld
namespace Go.Proofs.Ytkgpdpmdkkmifaa.DiskTwins
set_option maxRecDepth 20000
open Go.ChangeShapes Go.WideShapes Go.ChangeAt Go.RowKit
open Go.Proofs.Ytkgpdpmdkkmifaa.Mem Go.Proofs.Ytkgpdpmdkkmifaa.Disk Go.Proofs.Ytkgpdpmdkkmifaa.Lift
attribute [local go_sem ↓] Go.wp_at_zero Go.wp_at_succ

set_option maxRecDepth 100000 in
set_option maxHeartbeats 40000000 in
theorem walk (A : Option Addr) (n c : Nat) (xs : List DeedR) (A2 : Option Addr) (n2 c2 : Nat) (ys : List DeedR) (w : World) (h : Deeds w w.heap.size A n xs) (hc : n ≤ c) (hm : c ≤ maxLen) (hx : ∀ x ∈ xs, x.n ≤ 140737488351232)
    (h2 : Deeds w w.heap.size A2 n2 ys) (hc2 : n2 ≤ c2) (hm2 : c2 ≤ maxLen) (hy : ∀ x ∈ ys, x.n ≤ 140737488351232) :
    Calls Try.prog 4 #[.slice A n c, .slice A2 n2 c2] w fun e w' => e = .returned (.bool true) ∧ Below w.heap.size w w' := by
  have hfew : fewN n ≤ 40 ∧ fewN n ≤ n := by unfold fewN; split <;> omega
  have hfew2 : fewN n2 ≤ 40 ∧ fewN n2 ≤ n2 := by unfold fewN; split <;> omega
  have HA := Lib.hid h; clear h
  have HA2 := Lib.hid h2; clear h2
  go_enter Try.func4, Try.ntmps4
  go_wp2_with fail
  refine (alive_any _).mono ?_
  rintro e w1 ⟨rfl, hb1⟩
  go_wp2_with fail
  refine (new_d 3 3 0 _ rfl (by omega) (by omega)).mono ?_
  rintro e w2 ⟨p, F0, rfl, hD, hF, hb2⟩
  have HD := Lib.hid hD; clear hD
  have HF := Lib.hid hF; clear hF
  have HB1 := Lib.hid hb1; clear hb1
  have HB2 := Lib.hid hb2; clear hb2
  go_wp2_with fail
  refine (rnew_d 3 _ (by omega) (by omega)).mono ?_
  rintro e w3 ⟨r, G0, rfl, hR, hG, hb3⟩
  have HP0 : Hid (Duo w w3 p r (Dk.Dk.new 3) 0 F0 G0) := Lib.hid (duo_new HD.out (fun k hk => by have := HF.out k hk; have := HB1.out.size; omega) (HB1.out.trans (HB2.out.mono HB1.out.size)) hR hG hb3)
  clear hR hG hb3 HD HF HB1 HB2
  go_wp2_with fail
  refine (few_any A n c _ hc hm (fun hn => by obtain ⟨b, off, e, _⟩ := HA.out.2.1 hn; exact ⟨b, off, e⟩)).mono ?_
  rintro e w' ⟨rfl, rfl⟩
  obtain ⟨m, hmd⟩ : ∃ m, fewN n = m := ⟨_, rfl⟩
  rw [hmd] at hfew ⊢
  have HDS : Hid (Deeds w w.heap.size A m (xs.take m)) := Lib.hid (HA.out.take (by omega))
  have HDX : Hid (∀ x ∈ xs.take m, x.n ≤ 140737488351232) := Lib.hid (fun x h => hx x (List.mem_of_mem_take h))
  generalize xs.take m = zs at HDS HDX
  have hzl : zs.length = m := HDS.out.1
  clear hmd HA hx
  go_wp2
  go_loopw [10] (fun i wr => ∃ (k : Nat) (d : Dk.Dk) (F G : Nat → Prop), k ≤ m ∧ i = .int .i64 k ∧ Duo w wr p r d k F G) (fun i _ => m - (intOf i).toNat)
  case atStart => exact ⟨0, _, F0, G0, by omega, rfl, HP0.out⟩
  case round =>
    obtain ⟨k, d, F, G, hk, rfl, hP⟩ := hrel
    obtain ⟨wk, hwk⟩ : ∃ wk, wk = wr := ⟨_, rfl⟩
    subst hwk
    have HP := Lib.hid hP; clear hP
    by_cases hlt : k < m
    · obtain ⟨b, off, rfl, hbB, hcell⟩ := (HDS.out.below HP.out.below).2.1 (by omega)
      have hkl : k < zs.length := by omega
      replace hcell := hcell k hkl
      have HIS := Lib.hid (HDS.out.2.2 zs[k] (List.getElem_mem hkl))
      have HIN := Lib.hid (HDX.out zs[k] (List.getElem_mem hkl))
      generalize zs[k]'hkl = x at hcell HIS HIN
      have e0 : wk.cell? ⟨b, off + k * 5, none⟩ = some (.int .i64 x.op) := hcell 0 (by omega)
      have e1 : wk.cell? ⟨b, off + k * 5 + 1, none⟩ = some (.int .i64 x.blk) := hcell 1 (by omega)
      have e2 : wk.cell? ⟨b, off + k * 5 + 2, none⟩ = some (.int .u8 (x.fill.toNat : Int)) := hcell 2 (by omega)
      have e3 : wk.cell? ⟨b, off + k * 5 + 3, none⟩ = some (.bool x.short) := hcell 3 (by omega)
      have e4 : wk.cell? ⟨b, off + k * 5 + 4, none⟩ = some (.slice x.A x.n x.c) := hcell 4 (by omega)
      clear hcell hbB
      have HC := Lib.hid (duo_both x HP.out HIS.out HIN.out (by omega))
      have hi1 : (0 : Int) ≤ (k : Int) := by omega
      have hi2 : (k : Int) < (m : Int) := by omega
      go_wp2_with fail
      with_reducible refine HC.out.mono ?_
      clear HC e0 e1 e2 e3 e4
      rintro e U ⟨rfl, d', F', G', hP'⟩
      have HP' := Lib.hid hP'; clear hP'
      go_wp2
      go_roundw
      case rel => exact ⟨k + 1, d', F', G', by omega, by go_num, HP'.out⟩
      case measure => simp [intOf]; omega
    · obtain rfl : k = m := by omega
      clear HDS HDX hzl
      have hmm : (k : Int) ≤ (k : Int) := by omega
      go_wp2_with fail
      refine (copy_d d p k F wk HP.out.one (by omega)).mono ?_
      rintro e w4 ⟨q, F1, rfl, hD1, hF1, hb4⟩
      have HQ := Lib.hid (duo_copy HP.out hD1 hF1 hb4)
      unfold ptr
      clear hD1 hF1 hb4 HP
      go_wp2_with fail
      refine (few_any A2 n2 c2 _ hc2 hm2 (fun hn => by obtain ⟨b, off, e, _⟩ := HA2.out.2.1 hn; exact ⟨b, off, e⟩)).mono ?_
      rintro e w' ⟨rfl, rfl⟩
      obtain ⟨m2, hmd⟩ : ∃ m2, fewN n2 = m2 := ⟨_, rfl⟩
      rw [hmd] at hfew2 ⊢
      have HDS : Hid (Deeds w w.heap.size A2 m2 (ys.take m2)) := Lib.hid (HA2.out.take (by omega))
      have HDX : Hid (∀ x ∈ ys.take m2, x.n ≤ 140737488351232) := Lib.hid (fun x h => hy x (List.mem_of_mem_take h))
      generalize ys.take m2 = zs at HDS HDX
      have hzl : zs.length = m2 := HDS.out.1
      clear hmd HA2 hy
      go_wp2
      go_loopw [13] (fun i wr => ∃ (j : Nat) (d : Dk.Dk) (F G : Nat → Prop), j ≤ m2 ∧ i = .int .i64 j ∧ Duo w wr q r d (k + j) F G) (fun i _ => m2 - (intOf i).toNat)
      case atStart => exact ⟨0, _, F1, G, by omega, rfl, HQ.out⟩
      case round =>
        obtain ⟨j, d, F, G, hj, rfl, hP⟩ := hrel
        obtain ⟨wk, hwk⟩ : ∃ wk, wk = wr := ⟨_, rfl⟩
        subst hwk
        have HP := Lib.hid hP; clear hP
        by_cases hlt : j < m2
        · obtain ⟨b, off, rfl, hbB, hcell⟩ := (HDS.out.below HP.out.below).2.1 (by omega)
          have hkl : j < zs.length := by omega
          replace hcell := hcell j hkl
          have HIS := Lib.hid (HDS.out.2.2 zs[j] (List.getElem_mem hkl))
          have HIN := Lib.hid (HDX.out zs[j] (List.getElem_mem hkl))
          generalize zs[j]'hkl = x at hcell HIS HIN
          have e0 : wk.cell? ⟨b, off + j * 5, none⟩ = some (.int .i64 x.op) := hcell 0 (by omega)
          have e1 : wk.cell? ⟨b, off + j * 5 + 1, none⟩ = some (.int .i64 x.blk) := hcell 1 (by omega)
          have e2 : wk.cell? ⟨b, off + j * 5 + 2, none⟩ = some (.int .u8 (x.fill.toNat : Int)) := hcell 2 (by omega)
          have e3 : wk.cell? ⟨b, off + j * 5 + 3, none⟩ = some (.bool x.short) := hcell 3 (by omega)
          have e4 : wk.cell? ⟨b, off + j * 5 + 4, none⟩ = some (.slice x.A x.n x.c) := hcell 4 (by omega)
          clear hcell hbB
          have hC := duo_both x HP.out HIS.out HIN.out (by omega)
          unfold ptr at hC
          have HC := Lib.hid hC; clear hC
          have hi1 : (0 : Int) ≤ (j : Int) := by omega
          have hi2 : (j : Int) < (m2 : Int) := by omega
          go_wp2_with fail
          with_reducible refine HC.out.mono ?_
          clear HC e0 e1 e2 e3 e4
          rintro e U ⟨rfl, d', F', G', hP'⟩
          have HP' := Lib.hid hP'; clear hP'
          go_wp2
          go_roundw
          case rel => exact ⟨j + 1, d', F', G', by omega, by go_num, HP'.out⟩
          case measure => simp [intOf]; omega
        · obtain rfl : j = m2 := by omega
          clear HDS HDX hzl HQ
          obtain ⟨IM, hIM⟩ : ∃ IM, IM = d.image.flatten := ⟨_, rfl⟩
          obtain ⟨ST, hST⟩ : ∃ ST, ST = d.stable.flatten := ⟨_, rfl⟩
          obtain ⟨PN, hPN⟩ : ∃ PN, PN = d.pend.length := ⟨_, rfl⟩
          obtain ⟨A0, n0, c0, hy0, hh0⟩ := HP.out.two.bytes
          obtain ⟨A1, c1, hy1⟩ := HP.out.two.count
          rw [← hST] at hh0
          rw [← hPN] at hy1
          obtain ⟨SI, hSI⟩ : ∃ s : ByteArray, s = ⟨IM.toArray⟩ := ⟨_, rfl⟩
          obtain ⟨SS, hSS⟩ : ∃ s : ByteArray, s = ⟨ST.toArray⟩ := ⟨_, rfl⟩
          have HKEEP : Hid (∀ V, Below wk.heap.size wk V → (V.cell? ⟨r, 0, none⟩ = some (.slice A0 n0 c0) ∧ V.cell? ⟨r, 1, none⟩ = some (.slice A1 PN c1) ∧ (convert 33 9 (.slice A0 n0 c0)).run Try.prog V = .ok (.string SS) V)) := Lib.hid (fun V hV => by
            have hr : r < wk.heap.size := block_lt_of_cell hy0
            have t := run_text V wk.heap.size A0 n0 c0 _ (hh0.below hV)
            rw [← hSS] at t
            exact ⟨(hV.cell (p := ⟨r, 0, none⟩) hr).trans hy0, (hV.cell (p := ⟨r, 1, none⟩) hr).trans hy1, t⟩)
          have HI : Hid (∀ V, Below wk.heap.size wk V → Calls Try.prog 14 #[.pointer (some ⟨q, 0, none⟩)] V fun e V' => ∃ A n c, e = .returned (.slice A n c) ∧ Below V.heap.size V V' ∧ ∀ V2, Below V'.heap.size V' V2 → (convert 33 9 (.slice A n c)).run Try.prog V2 = .ok (.string SI) V2) := Lib.hid (fun V hV => by
            refine (image_d d q (k + j) F V (HP.out.one.turns (Turns.of_below (F := fun _ => False) hV) (fun _ _ e => e)) (by omega)).mono ?_
            rintro e V' ⟨A, c, rfl, ho, hb⟩
            refine ⟨A, _, c, rfl, hb, fun V2 h2 => ?_⟩
            rw [hSI, hIM]
            exact run_text V2 _ A _ c _ ((owned_holds ho).below h2))
          have HRI : Hid (∀ V, Below wk.heap.size wk V → Calls Try.prog 15 #[.pointer (some ⟨r, 0, none⟩)] V fun e V' => ∃ A n c, e = .returned (.slice A n c) ∧ Below V.heap.size V V' ∧ ∀ V2, Below V'.heap.size V' V2 → (convert 33 9 (.slice A n c)).run Try.prog V2 = .ok (.string SI) V2) := Lib.hid (fun V hV => by
            refine (rimage_d d r (k + j) G V (HP.out.two.turns (Turns.of_below (F := fun _ => False) hV) (fun _ _ e => e)) (by omega)).mono ?_
            rintro e V' ⟨v, rfl, ho, hb⟩
            obtain ⟨A, c, rfl, hh⟩ := ho.holds
            refine ⟨A, _, c, rfl, hb, fun V2 h2 => ?_⟩
            rw [hSI, hIM]
            exact run_text V2 _ A _ c _ (hh.below h2))
          have HSB : Hid (∀ V, Below wk.heap.size wk V → Calls Try.prog 16 #[.pointer (some ⟨q, 0, none⟩)] V fun e V' => ∃ A n c, e = .returned (.slice A n c) ∧ Below V.heap.size V V' ∧ ∀ V2, Below V'.heap.size V' V2 → (convert 33 9 (.slice A n c)).run Try.prog V2 = .ok (.string SS) V2) := Lib.hid (fun V hV => by
            refine (stable_d d q (k + j) F V (HP.out.one.turns (Turns.of_below (F := fun _ => False) hV) (fun _ _ e => e))).mono ?_
            rintro e V' ⟨A, c, rfl, ho, hb⟩
            refine ⟨A, _, c, rfl, hb, fun V2 h2 => ?_⟩
            rw [hSS, hST]
            exact run_text V2 _ A _ c _ ((owned_holds ho).below h2))
          have HPD : Hid (∀ V, Below wk.heap.size wk V → Calls Try.prog 10 #[.pointer (some ⟨q, 0, none⟩)] V fun e V' => e = .returned (.int .i64 (PN : Int)) ∧ V = V') := Lib.hid (fun V hV => by
            rw [hPN]
            exact pending_d d q (k + j) F V (HP.out.one.turns (Turns.of_below (F := fun _ => False) hV) (fun _ _ e => e)))
          have HBW : Hid (Below w.heap.size w wk) := Lib.hid HP.out.below
          have hwz := HP.out.below.size
          clear HP hIM hST hPN hSI hSS hy0 hy1 hh0
          go_wp2_with fail
          have hS := HKEEP.out wk.drew (Below.refl _ wk).drew
          have HV0 : Hid (Below wk.heap.size wk wk.drew) := Lib.hid (Below.refl _ wk).drew
          go_region_held (fun V => V.cell? ⟨r, 0, none⟩ = some (.slice A0 n0 c0) ∧ V.cell? ⟨r, 1, none⟩ = some (.slice A1 PN c1) ∧ (convert 33 9 (.slice A0 n0 c0)).run Try.prog V = .ok (.string SS) V) (assumption)
            (first
              | (go_at_call 14
                 have hcall := HI.out _ HV0.out
                 with_reducible refine hcall.mono ?_
                 rintro e V1 ⟨AA, nA, cA, rfl, hV1, tA⟩
                 clear hcall hS
                 have hS1 := HKEEP.out V1 (HV0.out.trans (hV1.mono HV0.out.size))
                 have tA1 := tA V1 (Below.refl _ _)
                 have HV1 := Lib.hid (HV0.out.trans (hV1.mono HV0.out.size))
                 have HTA := Lib.hid tA
                 clear hV1 tA)
              | (go_at_call 15
                 have hcall := HRI.out _ HV1.out
                 with_reducible refine hcall.mono ?_
                 rintro e V2 ⟨AB, nB, cB, rfl, hV2, tB⟩
                 clear hcall hS1
                 have hS2 := HKEEP.out V2 (HV1.out.trans (hV2.mono HV1.out.size))
                 have tA2 := HTA.out V2 hV2
                 have tB2 := tB V2 (Below.refl _ _)
                 have HV2 := Lib.hid (HV1.out.trans (hV2.mono HV1.out.size))
                 clear hV2 tB)
              | (go_at_call 16
                 have hcall := HSB.out _ HV2.out
                 with_reducible refine hcall.mono ?_
                 rintro e V3 ⟨AC, nC, cC, rfl, hV3, tC⟩
                 clear hcall hS2
                 have hS3 := HKEEP.out V3 (HV2.out.trans (hV3.mono HV2.out.size))
                 have tC3 := tC V3 (Below.refl _ _)
                 have HV3 := Lib.hid (HV2.out.trans (hV3.mono HV2.out.size))
                 clear hV3 tC)
              | (go_at_call 10
                 have hcall := HPD.out _ HV3.out
                 with_reducible refine hcall.mono ?_
                 rintro e V4 ⟨rfl, rfl⟩
                 clear hcall))
          all_goals
            go_wp2
            go_ret
            exact ⟨rfl, HBW.out.trans (HV3.out.mono hwz)⟩

theorem walks : Walks 4 Try.f4 All := by
  intro H enc W base args ds p hval hA hsz _
  rw [Try.params4] at hA hval hsz
  obtain ⟨v0, vs0, d0, ds0, p0, q0, hargs, rfl, rfl, h0, r0⟩ := trodAll_cons hA
  obtain ⟨v1, vs1, d1, ds1, p1, q1, rfl, rfl, rfl, h1, r1⟩ := trodAll_cons r0
  obtain ⟨rfl, rfl, rfl⟩ := trodAll_nil r1
  obtain rfl : args = #[v0, v1] := by cases args; simp_all
  obtain ⟨A, n, c, xs, rfl, hd, hn, hc⟩ := deeds_of (hval 0 _ v0 rfl rfl) h0
  obtain ⟨A2, n2, c2, ys, rfl, hd2, hn2, hc2⟩ := deeds_of (hval 1 _ v1 rfl rfl) h1
  exact walk A n c xs A2 n2 c2 ys W hd hn hc (deeds_wide h0 (deeds_weights hsz (j := 0) rfl rfl) rfl hd) hd2 hn2 hc2 (deeds_wide h1 (deeds_weights hsz (j := 1) rfl rfl) rfl hd2)

set_option maxRecDepth 100000 in
theorem proved : Rows.DiskTwinsSaid :=
  OpenClaim.holds_of_wide 4 Try.f4 rfl rfl rfl rfl rfl rfl rfl ⟨rfl, rfl, rfl, rfl, rfl⟩ rfl rfl rfl rfl rfl (by kernel_rfl) Try.func4 (by kernel_rfl)
    (of_decide_eq_true (by kernel_rfl)) (by unfold Func.isWrapper; first | (rw [if_pos (by decide +kernel)]; kernel_rfl) | (rw [if_neg (by decide +kernel)]; exact ⟨rfl, rfl⟩))
    (fun os started H enc _ => lifted (s := Rows.diskTwinsSpec) walks (by kernel_rfl) rfl rfl (fun H ds hl => by match ds, hl with | [d1, d2], _ => rfl) (by kernel_rfl) Try.func4 os started H enc
      (ChangeSpec.witness6 (enc := enc) (C := Try.checked) false ⟨#[], #[.slice none 0 0, .slice none 0 0], []⟩ 8 (by kernel_rfl) (by kernel_rfl) (by kernel_rfl) (by kernel_rfl)))
#print axioms proved
end Go.Proofs.Ytkgpdpmdkkmifaa.DiskTwins
