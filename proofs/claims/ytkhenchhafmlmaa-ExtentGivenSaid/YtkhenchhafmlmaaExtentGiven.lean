/- ExtentGiven: for every list of extents and all bounds, a cut gives just the device's blocks that the blocks it takes had, in their order, in spans that aren't empty; and where it is refused it gives none. -/
import Derived.Test.YtkhenchhafmlmaaExAlive
import Derived.Test.YtkhenchhafmlmaaExCalls
import Derived.Test.YtkhenchhafmlmaaExLaws
namespace Go.Proofs.Ytkhenchhafmlmaa.ExtentGiven
set_option maxRecDepth 20000
open Go.ChangeShapes Go.WideShapes Go.ChangeAt Go.RowKit
open Go.Proofs.Ytkhenchhafmlmaa.Mem Go.Proofs.Ytkhenchhafmlmaa.Crc Go.Proofs.Ytkhenchhafmlmaa.Rec Go.Proofs.Ytkhenchhafmlmaa.Ex Go.Proofs.Ytkhenchhafmlmaa.Lift Go.Proofs.Ytkhenchhafmlmaa.Reg
attribute [local go_sem ↓] ldX_eq stX_eq eqX_eq neqX_eq ldS_eq eqS_eq neqS_eq

theorem devs_snoc (l : List X) (f : Int) (n : Nat) : devs l f (n + 1) = devs l f n ++ hd l (f + n) := by
  rw [devs_add]
  show devs l f n ++ (hd l (f + n) ++ []) = _
  rw [List.append_nil]
theorem told_find {l : List X} (h : right l = true) {b : Int} : (∃ d u, at_ l b = some (d, u) ∧ findL l b = (d, !u, true) ∧ hd l b = [d]) ∨ (at_ l b = none ∧ findL l b = (0, false, false) ∧ hd l b = []) := by
  unfold findL
  rw [if_pos h]
  cases hv : at_ l b with
  | none => exact .inr ⟨rfl, rfl, hd_none hv⟩
  | some v => exact .inl ⟨v.1, v.2, rfl, rfl, hd_some hv⟩

set_option maxRecDepth 100000 in
set_option maxHeartbeats 4000000 in
theorem walk (A : Option Addr) (n c : Nat) (l : List X) (f t : Int) (w : World) (h : HoldsX w w.heap.size A n l) (hr : ∀ x ∈ l, x.rep) (hc : n ≤ c) :
    Calls Try.prog 6 #[.slice A n c, .int .i64 f, .int .i64 t] w fun E w' => E = .returned (.bool true) ∧ Below w.heap.size w w' := by
  have hcut := fun V (hV : Below w.heap.size w V) => cut_any A n c w.heap.size l f t V (h.below hV) hV.size hr hc
  have hfind := fun b V (hV : Below w.heap.size w V) => find_any A n c w.heap.size l b V (h.below hV) hV.size hr hc
  obtain ⟨S, hS⟩ : ∃ S, S = (cutL l f t).2.1 := ⟨_, rfl⟩
  obtain ⟨er, her⟩ : ∃ er, er = (cutL l f t).2.2 := ⟨_, rfl⟩
  rw [← hS, ← her] at hcut
  have HFIND := Lib.hid hfind; clear hfind
  have HCUT := Lib.hid hcut; clear hcut h hr
  have hE : er ≠ 0 → S = [] := fun h => by rw [hS]; exact (cut_err (her ▸ h)).2
  have hO : er = 0 → right l = true ∧ 0 ≤ f ∧ f ≤ t ∧ (∀ m : Nat, t = f + m → flatS S = devs l f m) ∧ (∀ p ∈ S, 1 ≤ p.2) ∧ S.length ≤ 180 ∧ (∀ p ∈ S, 0 ≤ p.1 ∧ p.1 ≤ 1024 ∧ p.2 ≤ 1024) := fun h => by
    have h0 : (cutL l f t).2.2 = 0 := her ▸ h
    obtain ⟨h1, h2, h3, _, _⟩ := cut_is h0
    have hft := of_decide_eq_true h2
    obtain ⟨l1, _, _, _, l5⟩ := right_lin h1
    have hSg : S = gone (cuts l f t) := by rw [hS, h3]
    rw [hSg]
    refine ⟨h1, hft.1, hft.2, fun m hm => flat_gone l1 f t m hm, gone_pos l1 hft.2, ?_, fun p hp => ?_⟩
    · have h2 : (gone (cuts l f t)).length ≤ (cuts l f t).length := by unfold gone; rw [List.length_map]; exact List.length_filter_le _ _
      have := cuts_len l f t
      omega
    · unfold gone at hp
      obtain ⟨q, hq, rfl⟩ := List.mem_map.1 hp
      have := cuts_small h1 f t hft.2 q (List.mem_filter.1 hq).1
      dsimp only
      omega
  have HE := Lib.hid hE; clear hE
  have HO := Lib.hid hO; clear hO hS her
  go_enter Try.func6, Try.ntmps6
  go_wp2_with fail
  with_reducible refine (alive_any w).mono ?_
  rintro E w1 ⟨rfl, hb1⟩
  have HB1 := Lib.hid hb1; clear hb1
  go_wp2_with fail
  with_reducible refine (HCUT.out w1 HB1.out).mono ?_
  rintro E w2 ⟨A1, c1, A2, c2, rfl, ho1, ho2, hb2⟩
  have HB2 : Hid (Below w.heap.size w w2) := Lib.hid (HB1.out.trans (hb2.mono HB1.out.size))
  have HS2 := Lib.hid ho2.reads
  obtain ⟨n1, hn1⟩ : ∃ n1, n1 = (cutL l f t).1.length := ⟨_, rfl⟩
  rw [← hn1]
  obtain ⟨ns, hns⟩ : ∃ ns, ns = S.length := ⟨_, rfl⟩
  rw [← hns] at HS2 ⊢
  have HNS := Lib.hid hns; clear hns
  clear ho1 ho2 hb2 HCUT hn1
  by_cases her : er = 0
  · subst her
    obtain ⟨hright, hf0, hft, hflat, hpos, hsl, hsm⟩ := HO.out rfl
    obtain ⟨m, hm⟩ : ∃ m : Nat, t = f + m := ⟨(t - f).toNat, by omega⟩
    have hfl := hflat m hm
    have HRT := Lib.hid hright
    have HPOS := Lib.hid hpos; clear hpos
    have HSM := Lib.hid hsm; clear hsm
    have hns180 : ns ≤ 180 := by rw [HNS.out]; exact hsl
    have HFL := Lib.hid hfl; clear hfl hflat hsl HO HE
    have hout : ∀ b, 256 ≤ b → at_ l b = none := fun b hb => by
      cases hv : at_ l b with
      | none => rfl
      | some v => have := at_range (right_lin hright).1 hv; omega
    have HOUT := Lib.hid hout; clear hout hright
    have hmx : ∀ (ts : Array TypeId) (ty : TypeId) (W : World), (Builtin.max_ ts ty #[.int .i64 f, .int .i64 0]).run Try.prog W = .ok (.int .i64 f) W := fun ts ty W => by
      rw [clamp_max f 0 ts ty W, show max f 0 = f by omega]
    go_wp2
    go_loopw [10, 11, 12] (fun kv lv i wr => ∃ (q k : Nat) (left : Int), q ≤ m ∧ k ≤ ns ∧ i = .int .i64 (f + (q : Int)) ∧ kv = .int .i64 (k : Int) ∧ lv = .int .i64 left ∧ Go.Proofs.Ytkhenchhafmlmaa.Ex.Told S (devs l f q) k left ∧ left ≤ 1024 ∧ (q = 0 ∨ f + (q : Int) ≤ 256) ∧ Below w2.heap.size w2 wr) (fun _ _ i _ => (256 - intOf i).toNat)
    case atStart => exact ⟨0, 0, 0, Nat.zero_le _, Nat.zero_le _, by simp, rfl, rfl, told_zero S, by omega, .inl rfl, Below.refl _ _⟩
    case round =>
      clear hmx
      obtain ⟨q, k, left, hq, hk, rfl, rfl, rfl, htold, hl24, hq256, hbr⟩ := hrel
      obtain ⟨at0, hat0⟩ : ∃ at0 : Int, at0 = f + (q : Int) := ⟨_, rfl⟩
      rw [← hat0]
      rw [← hat0] at hq256
      have HT := Lib.hid htold; clear htold
      have HBR := Lib.hid hbr; clear hbr
      have hBW : Below w.heap.size w wr := HB2.out.trans (HBR.out.mono HB2.out.size)
      have HBW := Lib.hid hBW; clear hBW
      by_cases hin : at0 < t ∧ at0 < 256
      · obtain ⟨g1, g2⟩ := hin
        have hq1 : q + 1 ≤ m := by omega
        have hcont := devs_snoc l f q
        rw [← hat0] at hcont
        obtain ⟨r, hr⟩ : ∃ r : Nat, m = q + 1 + r := ⟨m - (q + 1), by omega⟩
        have hall : flatS S = devs l f q ++ (hd l at0 ++ devs l (f + ((q + 1 : Nat) : Int)) r) := by
          rw [HFL.out, hr, devs_add, hcont, List.append_assoc]
        have hfd := HFIND.out at0 wr HBW.out
        have hstep : IntKind.i64.wrap (at0 + 1) = at0 + 1 := by rw [IntKind.wrap_i64]; omega
        have HCONT := Lib.hid hcont; clear hcont
        have HALL := Lib.hid hall; clear hall
        have HR' := Lib.hid hr; clear hr
        have hnx : at0 + 1 = f + ((q + 1 : Nat) : Int) := by omega
        have HNX := Lib.hid hnx; clear hnx
        have HAT := Lib.hid hat0; clear hat0
        have hmeas : (256 - (at0 + 1)).toNat < (256 - at0).toNat := by omega
        have HME := Lib.hid hmeas; clear hmeas
        rcases told_find HRT.out (b := at0) with ⟨d, u, hv, hfv, hhd⟩ | ⟨hv, hfv, hhd⟩
        · rw [hfv] at hfd
          unfold findV at hfd
          dsimp only at hfd
          rw [hhd] at HALL HCONT
          have HFD := Lib.hid hfd; clear hfd hfv hhd
          have hdr : -1000000 ≤ d ∧ d ≤ 1000000 := by
            have := (right_lin HRT.out).2.2.1 at0 d u hv
            omega
          have HDR := Lib.hid hdr; clear hdr hv
          go_wp2_with fail
          with_reducible refine HFD.out.mono ?_
          rintro E w4 ⟨rfl, hb4⟩
          have HB4 : Hid (Below w2.heap.size w2 w4) := Lib.hid (HBR.out.trans (hb4.mono HBR.out.size))
          clear hb4 HFD
          have hh4 := HS2.out.below HB4.out
          by_cases hz : left = 0
          · have ht0 := HT.out
            rw [hz] at ht0
            obtain ⟨p, hpk, hp1, hp2, htn⟩ := told_new (S := S) (D := devs l f q) (R := devs l (f + ((q + 1 : Nat) : Int)) r) (k := k) (x := d) HPOS.out ht0 (by have := HALL.out; simpa using this)
            have hkS : k < S.length := (List.getElem?_eq_some_iff.1 hpk).1
            have hkn : k < ns := by rw [HNS.out]; exact hkS
            have hpe : S[k] = p := by
              have := List.getElem?_eq_getElem hkS
              rw [hpk] at this
              exact (Option.some.inj this).symm
            obtain ⟨b, off, rfl, -⟩ := hh4.addr (by omega)
            obtain ⟨b', off', e', _, hcell⟩ := hh4.2 (by omega)
            injection e' with e'
            injection e' with e1 e2
            subst e1 e2
            obtain ⟨z1, z2⟩ := hcell k hkS
            rw [hpe] at z1 z2
            have hsm := HSM.out p (by rw [← hpe]; exact List.getElem_mem hkS)
            have hp1b : (p.1 != d) = false := by rw [hp1]; simp
            rw [hp1] at z1
            obtain ⟨p2, hp2e⟩ : ∃ p2, p2 = p.2 := ⟨_, rfl⟩
            rw [← hp2e] at z2 hp2 htn hsm
            rw [← HCONT.out] at htn
            have HTN := Lib.hid htn; clear htn ht0 hpk hp1 hpe hcell hp1b hp2e
            have hk0 : (0 : Int) ≤ (k : Int) := by omega
            have hkn' : (k : Int) < (ns : Int) := by omega
            have hw1 : IntKind.i64.wrap ((k : Int) + 1) = (k : Int) + 1 := by rw [IntKind.wrap_i64]; omega
            have hw2 : IntKind.i64.wrap (p2 - 1) = p2 - 1 := by rw [IntKind.wrap_i64]; omega
            subst hz
            go_wp2
            go_roundw
            case rel => exact ⟨q + 1, k + 1, p2 - 1, by omega, by omega, by rw [← HNX.out], by go_num, by go_num, HTN.out, by omega, .inr (by have := HNX.out; omega), HB4.out⟩
            case measure => simp [intOf]; have := HME.out; omega
          · obtain ⟨j, p, hj, hpj, hxp, hlp, htn⟩ := told_old (S := S) (D := devs l f q) (R := devs l (f + ((q + 1 : Nat) : Int)) r) (k := k) (x := d) (left := left) HT.out hz (by have := HALL.out; simpa using this)
            have hjS : j < S.length := (List.getElem?_eq_some_iff.1 hpj).1
            have hjn : j < ns := by rw [HNS.out]; exact hjS
            have hpe : S[j] = p := by
              have := List.getElem?_eq_getElem hjS
              rw [hpj] at this
              exact (Option.some.inj this).symm
            obtain ⟨b, off, rfl, -⟩ := hh4.addr (by omega)
            obtain ⟨b', off', e', _, hcell⟩ := hh4.2 (by omega)
            injection e' with e'
            injection e' with e1 e2
            subst e1 e2
            obtain ⟨z1, z2⟩ := hcell j hjS
            rw [hpe] at z1 z2
            have hsm := HSM.out p (by rw [← hpe]; exact List.getElem_mem hjS)
            have hpp := HPOS.out p (by rw [← hpe]; exact List.getElem_mem hjS)
            have hl0 : 0 ≤ left := HT.out.2.1
            obtain ⟨p1, hp1e⟩ : ∃ p1, p1 = p.1 := ⟨_, rfl⟩
            obtain ⟨p2, hp2e⟩ : ∃ p2, p2 = p.2 := ⟨_, rfl⟩
            rw [← hp1e] at z1 hxp hsm
            rw [← hp2e] at z2 hxp hsm hlp hpp
            rw [← HCONT.out] at htn
            have HTN := Lib.hid htn; clear htn hpj hpe hcell hp1e hp2e
            have hzb : (left == 0) = false := beq_false_of_ne hz
            have hkj : (k : Int) - 1 = (j : Int) := by rw [hj]; omega
            have hwj : IntKind.i64.wrap (j : Int) = (j : Int) := by rw [IntKind.wrap_i64]; omega
            have hj0 : (0 : Int) ≤ (j : Int) := by omega
            have hjn' : (j : Int) < (ns : Int) := by omega
            have hw1 : IntKind.i64.wrap (p1 + p2) = p1 + p2 := by rw [IntKind.wrap_i64]; omega
            have hw2 : IntKind.i64.wrap (p1 + p2 - left) = p1 + p2 - left := by rw [IntKind.wrap_i64]; omega
            have hw3 : IntKind.i64.wrap (left - 1) = left - 1 := by rw [IntKind.wrap_i64]; omega
            have hcmp : (d != p1 + p2 - left) = false := by rw [hxp]; simp
            have hS5 : ∀ V, Below w4.heap.size w4 V → V.cell? ⟨b, off + j * 2, none⟩ = some (.int .i64 p1) ∧ V.cell? ⟨b, off + j * 2 + 1, none⟩ = some (.int .i64 p2) := fun V hV => by
              have hb5 : b < w4.heap.size := block_lt_of_cell z1
              exact ⟨(hV.cell (p := ⟨b, off + j * 2, none⟩) hb5).trans z1, (hV.cell (p := ⟨b, off + j * 2 + 1, none⟩) hb5).trans z2⟩
            have HS5 := Lib.hid hS5; clear hS5 z1 z2
            have HXP := Lib.hid hxp; clear hxp
            go_wp2_with fail
            refine wp_region_E (fun V => Below w4.heap.size w4 V) 99 rfl ?_
            have hS := (show Below w4.heap.size w4 w4.drew from (Below.refl _ w4).drew)
            refine wpE_takeF 0 ⟨some 81, _, _, _, _, _⟩ (v := ?_) (by decide) rfl (by kernel_rfl) (by kernel_rfl) (by kernel_rfl) (fun _ _ _ h => h) hS (Or.inl ⟨by kernel_rfl, ?_⟩) ?_
            rotate_left
            · (intro V hSw; obtain ⟨hq1, hq2⟩ := HS5.out V hSw; go_simp; try with_reducible rfl)
            try simp only [Act.put]
            refine wpE_takeF 1 ⟨some 82, _, _, _, _, _⟩ (v := ?_) (by decide) rfl (by kernel_rfl) (by kernel_rfl) (by kernel_rfl) (fun _ _ _ h => h) hS (Or.inl ⟨by kernel_rfl, ?_⟩) ?_
            rotate_left
            · (intro V hSw; obtain ⟨hq1, hq2⟩ := HS5.out V hSw; go_simp; try with_reducible rfl)
            try simp only [Act.put]
            refine wpE_takeF 2 ⟨some 83, _, _, _, _, _⟩ (v := ?_) (by decide) rfl (by kernel_rfl) (by kernel_rfl) (by kernel_rfl) (fun _ _ _ h => h) hS (Or.inl ⟨by kernel_rfl, ?_⟩) ?_
            rotate_left
            · (intro V hSw; obtain ⟨hq1, hq2⟩ := HS5.out V hSw; go_simp; try with_reducible rfl)
            try simp only [Act.put]
            refine wpE_takeF 3 ⟨some 84, _, _, _, _, _⟩ (v := ?_) (by decide) rfl (by kernel_rfl) (by kernel_rfl) (by kernel_rfl) (fun _ _ _ h => h) hS (Or.inl ⟨by kernel_rfl, ?_⟩) ?_
            rotate_left
            · (intro V hSw; obtain ⟨hq1, hq2⟩ := HS5.out V hSw; go_simp; try with_reducible rfl)
            try simp only [Act.put]
            refine wpE_takeF 4 ⟨some 85, _, _, _, _, _⟩ (v := ?_) (by decide) rfl (by kernel_rfl) (by kernel_rfl) (by kernel_rfl) (fun _ _ _ h => h) hS (Or.inl ⟨by kernel_rfl, ?_⟩) ?_
            rotate_left
            · (intro V hSw; obtain ⟨hq1, hq2⟩ := HS5.out V hSw; go_simp; try with_reducible rfl)
            try simp only [Act.put]
            refine wpE_takeF 5 ⟨some 86, _, _, _, _, _⟩ (v := ?_) (by decide) rfl (by kernel_rfl) (by kernel_rfl) (by kernel_rfl) (fun _ _ _ h => h) hS (Or.inl ⟨by kernel_rfl, ?_⟩) ?_
            rotate_left
            · (intro V hSw; obtain ⟨hq1, hq2⟩ := HS5.out V hSw; go_simp; try with_reducible rfl)
            try simp only [Act.put]
            refine wpE_takeF 6 ⟨some 87, _, _, _, _, _⟩ (v := ?_) (by decide) rfl (by kernel_rfl) (by kernel_rfl) (by kernel_rfl) (fun _ _ _ h => h) hS (Or.inl ⟨by kernel_rfl, ?_⟩) ?_
            rotate_left
            · (intro V hSw; obtain ⟨hq1, hq2⟩ := HS5.out V hSw; go_simp; try with_reducible rfl)
            try simp only [Act.put]
            refine wpE_takeF 7 ⟨some 88, _, _, _, _, _⟩ (v := ?_) (by decide) rfl (by kernel_rfl) (by kernel_rfl) (by kernel_rfl) (fun _ _ _ h => h) hS (Or.inl ⟨by kernel_rfl, ?_⟩) ?_
            rotate_left
            · (intro V hSw; obtain ⟨hq1, hq2⟩ := HS5.out V hSw; go_simp; try with_reducible rfl)
            try simp only [Act.put]
            refine wpE_takeF 8 ⟨some 89, _, _, _, _, _⟩ (v := ?_) (by decide) rfl (by kernel_rfl) (by kernel_rfl) (by kernel_rfl) (fun _ _ _ h => h) hS (Or.inl ⟨by kernel_rfl, ?_⟩) ?_
            rotate_left
            · (intro V hSw; obtain ⟨hq1, hq2⟩ := HS5.out V hSw; go_simp; try with_reducible rfl)
            try simp only [Act.put]
            refine wpE_takeF 9 ⟨some 90, _, _, _, _, _⟩ (v := ?_) (by decide) rfl (by kernel_rfl) (by kernel_rfl) (by kernel_rfl) (fun _ _ _ h => h) hS (Or.inl ⟨by kernel_rfl, ?_⟩) ?_
            rotate_left
            · (intro V hSw; obtain ⟨hq1, hq2⟩ := HS5.out V hSw; go_simp; try with_reducible rfl)
            try simp only [Act.put]
            refine wpE_takeF 10 ⟨some 91, _, _, _, _, _⟩ (v := ?_) (by decide) rfl (by kernel_rfl) (by kernel_rfl) (by kernel_rfl) (fun _ _ _ h => h) hS (Or.inl ⟨by kernel_rfl, ?_⟩) ?_
            rotate_left
            · (intro V hSw; obtain ⟨hq1, hq2⟩ := HS5.out V hSw; go_simp; try with_reducible rfl)
            try simp only [Act.put]
            refine wpE_takeF 11 ⟨some 92, _, _, _, _, _⟩ (v := ?_) (by decide) rfl (by kernel_rfl) (by kernel_rfl) (by kernel_rfl) (fun _ _ _ h => h) hS (Or.inl ⟨by kernel_rfl, ?_⟩) ?_
            rotate_left
            · (intro V hSw; obtain ⟨hq1, hq2⟩ := HS5.out V hSw; go_simp; try with_reducible rfl)
            try simp only [Act.put]
            refine wpE_takeF 12 ⟨some 93, _, _, _, _, _⟩ (v := ?_) (by decide) rfl (by kernel_rfl) (by kernel_rfl) (by kernel_rfl) (fun _ _ _ h => h) hS (Or.inl ⟨by kernel_rfl, ?_⟩) ?_
            rotate_left
            · (intro V hSw; obtain ⟨hq1, hq2⟩ := HS5.out V hSw; go_simp; try with_reducible rfl)
            try simp only [Act.put]
            refine wpE_takeF 13 ⟨some 94, _, _, _, _, _⟩ (v := ?_) (by decide) rfl (by kernel_rfl) (by kernel_rfl) (by kernel_rfl) (fun _ _ _ h => h) hS (Or.inl ⟨by kernel_rfl, ?_⟩) ?_
            rotate_left
            · (intro V hSw; obtain ⟨hq1, hq2⟩ := HS5.out V hSw; go_simp; try with_reducible rfl)
            try simp only [Act.put]
            refine wpE_takeF 14 ⟨some 95, _, _, _, _, _⟩ (v := ?_) (by decide) rfl (by kernel_rfl) (by kernel_rfl) (by kernel_rfl) (fun _ _ _ h => h) hS (Or.inl ⟨by kernel_rfl, ?_⟩) ?_
            rotate_left
            · (intro V hSw; obtain ⟨hq1, hq2⟩ := HS5.out V hSw; go_simp; try with_reducible rfl)
            try simp only [Act.put]
            refine wpE_takeF 15 ⟨some 96, _, _, _, _, _⟩ (v := ?_) (by decide) rfl (by kernel_rfl) (by kernel_rfl) (by kernel_rfl) (fun _ _ _ h => h) hS (Or.inl ⟨by kernel_rfl, ?_⟩) ?_
            rotate_left
            · (intro V hSw; obtain ⟨hq1, hq2⟩ := HS5.out V hSw; go_simp; try with_reducible rfl)
            try simp only [Act.put]
            refine wpE_takeF 16 ⟨some 97, _, _, _, _, _⟩ (v := ?_) (by decide) rfl (by kernel_rfl) (by kernel_rfl) (by kernel_rfl) (fun _ _ _ h => h) hS (Or.inl ⟨by kernel_rfl, ?_⟩) ?_
            rotate_left
            · (intro V hSw; obtain ⟨hq1, hq2⟩ := HS5.out V hSw; go_simp; try with_reducible rfl)
            try simp only [Act.put]
            refine wpE_done (by kernel_rfl) ?_ _
            try simp only [List.setIfInBounds_toArray, List.set_cons_succ, List.set_cons_zero]
            go_wp2
            go_roundw
            case rel => exact ⟨q + 1, k, left - 1, by omega, by omega, by rw [← HNX.out], (by first | rfl | (congr 1; omega)), by go_num, HTN.out, by omega, .inr (by have := HNX.out; omega), HB4.out.drew⟩
            case measure => simp [intOf]; have := HME.out; omega
        · rw [hfv] at hfd
          unfold findV at hfd
          dsimp only at hfd
          rw [hhd] at HCONT
          have HFD := Lib.hid hfd; clear hfd hfv hhd hv
          go_wp2_with fail
          with_reducible refine HFD.out.mono ?_
          rintro E w4 ⟨rfl, hb4⟩
          have HB4 : Hid (Below w2.heap.size w2 w4) := Lib.hid (HBR.out.trans (hb4.mono HBR.out.size))
          have HTN : Hid (Go.Proofs.Ytkhenchhafmlmaa.Ex.Told S (devs l f (q + 1)) k left) := Lib.hid (by rw [HCONT.out, List.append_nil]; exact HT.out)
          clear hb4 HFD
          go_wp2
          go_roundw
          case rel => exact ⟨q + 1, k, left, by omega, by omega, by rw [← HNX.out], rfl, rfl, HTN.out, by omega, .inr (by have := HNX.out; omega), HB4.out⟩
          case measure => simp [intOf]; have := HME.out; omega
      · have hend : flatS S = devs l f q := by
          obtain ⟨r, hr⟩ : ∃ r : Nat, m = q + r := ⟨m - q, by omega⟩
          rw [HFL.out, hr, devs_add]
          rw [devs_none l (f + q) r (fun c h1 h2 => HOUT.out c (by omega)), List.append_nil]
        have ht0 := HT.out
        rw [← hend] at ht0
        obtain ⟨hl0, hkS⟩ := told_end HPOS.out ht0
        have hkn : k = ns := by rw [hkS, HNS.out]
        subst hl0
        subst hkn
        clear ht0 hend hkS HFL
        have HAT := Lib.hid hat0; clear hat0
        by_cases g1 : at0 < t
        · have g2 : ¬ at0 < 256 := fun h => hin ⟨g1, h⟩
          clear hin
          go_wp2
          go_ret
          exact ⟨rfl, HBW.out⟩
        · clear hin
          go_wp2
          go_ret
          exact ⟨rfl, HBW.out⟩
  · have hae := HE.out her
    have hne : (er != 0) = true := bne_iff_ne.2 her
    have hn0 : ns = 0 := by rw [HNS.out, hae]; rfl
    subst hn0
    go_wp2
    go_ret
    exact ⟨rfl, HB2.out⟩

theorem walks : Walks 6 Try.f6 All := by
  intro H enc W base args ds p hval hA hsz _
  rw [Try.params6] at hA hval hsz
  obtain ⟨v0, vs0, d0, ds0, p0, q0, hargs, rfl, rfl, h0, r0⟩ := trodAll_cons hA
  obtain ⟨v1, vs1, d1, ds1, p1, q1, rfl, rfl, rfl, h1, r1⟩ := trodAll_cons r0
  obtain ⟨v2, vs2, d2, ds2, p2, q2, rfl, rfl, rfl, h2, r2⟩ := trodAll_cons r1
  obtain ⟨rfl, rfl, rfl⟩ := trodAll_nil r2
  obtain rfl : args = #[v0, v1, v2] := by cases args; simp_all
  obtain ⟨A, n, c, l, rfl, hl, hr, hn, hc⟩ := exts_open (hval 0 _ v0 rfl rfl) h0 _ (reach_exts hsz (j := 0) rfl rfl)
  obtain ⟨x1, rfl, rfl, rfl, hx1⟩ := open_int Try.underlying3 (hval 1 _ v1 rfl rfl) h1
  have bx1 := bounds_i64 hx1
  obtain ⟨x2, rfl, rfl, rfl, hx2⟩ := open_int Try.underlying3 (hval 2 _ v2 rfl rfl) h2
  have bx2 := bounds_i64 hx2
  exact walk A n c l x1 x2 W hl hr hn

set_option maxRecDepth 100000 in
theorem proved : Rows.ExtentGivenSaid :=
  OpenClaim.holds_of_wide 6 Try.f6 rfl rfl rfl rfl rfl rfl rfl ⟨rfl, rfl, rfl, rfl, rfl⟩ rfl rfl rfl rfl rfl (by kernel_rfl) Try.func6 (by kernel_rfl)
    (of_decide_eq_true (by kernel_rfl)) (by unfold Func.isWrapper; first | (rw [if_pos (by decide +kernel)]; kernel_rfl) | (rw [if_neg (by decide +kernel)]; exact ⟨rfl, rfl⟩))
    (fun os started H enc _ => lifted (s := Rows.extentGivenSpec) walks (by kernel_rfl) rfl rfl (fun H ds hl => by match ds, hl with | [d1, d2, d3], _ => rfl) (by kernel_rfl) Try.func6 os started H enc
      (ChangeSpec.witness6 (enc := enc) (C := Try.checked) false ⟨#[], #[.slice none 0 0, .int .i64 0, .int .i64 0], []⟩ 8 (by kernel_rfl) (by kernel_rfl) (by kernel_rfl) (by kernel_rfl)))
#print axioms proved
end Go.Proofs.Ytkhenchhafmlmaa.ExtentGiven
