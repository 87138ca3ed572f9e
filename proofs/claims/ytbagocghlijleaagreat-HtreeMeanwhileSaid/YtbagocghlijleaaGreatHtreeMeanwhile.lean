/- HtreeMeanwhile: for every list of blocks, every place among its entries and every deed: where all is told and the deed is done, what is told behind the entry at that place, of the directory that the deed leaves, is what was told behind it, but for the deed's own name. For all blocks within the reach of memory. -/
import Derived.Test.YtbagocghlijleaaGreatHtDv
import Derived.Test.YtbagocghlijleaaGreatHtAf
namespace Go.Proofs.YtbagocghlijleaaGreat.HtreeMeanwhile
set_option maxRecDepth 20000
open Go.ChangeShapes Go.WideShapes Go.ChangeAt Go.RowKit
open Go.Proofs.YtbagocghlijleaaGreat.Mem Go.Proofs.YtbagocghlijleaaGreat.Crc Go.Proofs.YtbagocghlijleaaGreat.Rec Go.Proofs.YtbagocghlijleaaGreat.Lift Go.Proofs.YtbagocghlijleaaGreat.Reg Go.Proofs.YtbagocghlijleaaGreat.Lf Go.Proofs.YtbagocghlijleaaGreat.Ht
attribute [local go_sem ↓] ldX_eq stX_eq eqX_eq neqX_eq ldD_eq stD_eq

def notT (t : List UInt8) (x : Nm) : Bool := decide (x.t ≠ t)
theorem filt_same {R : List Nm} {t : List UInt8} {m : Nat} (hm : m < R.length) (h : (R[m]).t = t) : (R.drop m).filter (notT t) = (R.drop (m + 1)).filter (notT t) := by
  rw [List.drop_eq_getElem_cons hm, List.filter_cons_of_neg (by unfold notT; simp [h])]
theorem filt_other {R : List Nm} {t : List UInt8} {m : Nat} (hm : m < R.length) (h : (R[m]).t ≠ t) : (R.drop m).filter (notT t) = R[m] :: (R.drop (m + 1)).filter (notT t) := by
  rw [List.drop_eq_getElem_cons hm, List.filter_cons_of_pos (by unfold notT; simp [h])]
theorem filt_end {R : List Nm} {t : List UInt8} {m : Nat} (hm : R.length ≤ m) : (R.drop m).filter (notT t) = [] := by
  rw [List.drop_of_length_le hm]; rfl

set_option maxRecDepth 100000 in
set_option maxHeartbeats 8000000 in
theorem walk (A : Option Addr) (n c : Nat) (d : List (List UInt8)) (ci : Int) (x : Dd) (hx : x.e.rep) (w : World) (h : HoldsN w w.heap.size A n d) (hn : n ≤ 5864062014634) (hsz : ∀ b ∈ d, b.length ≤ 140737488355328) :
    Calls Tryz.prog 7 #[.slice A n c, .int .i64 ci, .agg x.c] w fun E w' => E = .returned (.bool true) ∧ Below w.heap.size w w' := by
  obtain ⟨W0, hW0⟩ : ∃ W0, W0 = w.alloc (.cells x.c 33) := ⟨_, rfl⟩
  have hv0 : VarD W0 w.heap.size x := by rw [hW0]; exact VarD.new w x
  have hb0 : Below w.heap.size w W0 := by rw [hW0]; exact (Below.refl _ w).alloc (Nat.le_refl _) _
  have hz0 : W0.heap.size = w.heap.size + 1 := by rw [hW0]; simp
  have haft := fun V (hV : Below w.heap.size w V) => After_any A n c w.heap.size d [] (by decide) 5000 V (h.below hV) hV.size hn hsz
  have hdo := fun V (hV : Below w.heap.size w V) => do_any A n c w.heap.size d x.op x.e hx V (h.below hV) hV.size hn hsz
  have hxc : x.c = #[.int .i64 x.op, .string ⟨x.e.t.toArray⟩, .int .i64 x.e.i] := rfl
  simp only [← hxc] at hdo
  obtain ⟨post, hpost⟩ : ∃ post : Ending → World → Prop, post = fun E w' => E = .returned (.bool true) ∧ Below w.heap.size w w' := ⟨_, rfl⟩
  rw [← hpost]
  have HP := Lib.hid hpost; clear hpost
  obtain ⟨X, hX⟩ : ∃ X, X = x.c := ⟨_, rfl⟩
  rw [← hX] at hW0 ⊢
  simp only [← hX] at hdo
  have HX := Lib.hid hX; clear hX hxc
  have HAFT := Lib.hid haft; clear haft
  have HDO := Lib.hid hdo; clear hdo h
  have HV0 := Lib.hid hv0; clear hv0
  have HB0 := Lib.hid hb0; clear hb0
  have HZ0 := Lib.hid hz0; clear hz0
  have HW0 := Lib.hid hW0; clear hW0
  have HSZ := Lib.hid hsz; clear hsz
  obtain ⟨gx, hgx⟩ : ∃ gx, gx = w.heap.size := ⟨_, rfl⟩
  have HGX := Lib.hid hgx; clear hgx
  go_enter Tryz.func7, Tryz.ntmps7
  go_wp2_with fail
  rw [← HW0.out, ← HGX.out]
  with_reducible refine (alive_any W0).mono ?_
  rintro E1 w1 ⟨rfl, hb1⟩
  have HV1 : Hid (VarD w1 gx x) := Lib.hid (by rw [HGX.out]; exact HV0.out.keep hb1 (by rw [HZ0.out]; omega))
  have HB1 : Hid (Below w.heap.size w w1) := Lib.hid (HB0.out.trans (hb1.mono HB0.out.size))
  have HG1 : Hid (gx < w1.heap.size) := Lib.hid HV1.out.lt
  clear hb1 HV0 HW0
  go_wp2_with fail
  with_reducible refine (HAFT.out w1 HB1.out).mono ?_
  rintro E2 w2 ⟨A2, c2, rfl, ho2, hb2⟩
  have HB2 : Hid (Below w.heap.size w w2) := Lib.hid (HB1.out.trans (hb2.mono HB1.out.size))
  have HV2 : Hid (VarD w2 gx x) := Lib.hid (HV1.out.keep hb2 HG1.out)
  clear HAFT HV1 hb2
  cases hrd : readD d with
  | none =>
    have ha : afterD d [] 5000 = ([], 13) := by unfold afterD; rw [hrd]
    rw [ha] at ho2 ⊢
    clear ho2 hrd ha
    dsimp only
    go_wp2
    rw [HP.out]
    exact ⟨rfl, HB2.out⟩
  | some T =>
    have hto := (readD_iff d T).1 hrd
    have ha : afterD d [] 5000 = (inOrder T, 0) := by unfold afterD; rw [hrd]; dsimp only; rw [afterT_all hto 5000 (by omega)]
    rw [ha] at ho2 ⊢
    have hmost := hto.most
    have HTO := Lib.hid hto; clear hto
    have HRD := Lib.hid hrd; clear hrd ha
    dsimp only at ho2 ⊢
    obtain ⟨L, hL⟩ : ∃ L, L = inOrder T := ⟨_, rfl⟩
    rw [← hL] at ho2 hmost ⊢
    have HL := Lib.hid hL; clear hL
    obtain ⟨N, hN⟩ : ∃ N, N = L.length := ⟨_, rfl⟩
    rw [← hN] at ho2 hmost ⊢
    have HN := Lib.hid hN; clear hN
    have hr2 := ho2.reads
    have HR2 := Lib.hid hr2; clear hr2 ho2
    rcases Nat.eq_zero_or_pos N with rfl | hNp
    · go_wp2
      rw [HP.out]
      exact ⟨rfl, HB2.out⟩
    · obtain ⟨b2, off2, rfl, hb2B⟩ := HR2.out.addr hNp
      obtain ⟨k, hk, hK⟩ := Bst.place ci (N : Int) (by omega) (by omega)
      have hkN : k < N := by omega
      have hkl : k < L.length := by have := HN.out; omega
      have hwn : IntKind.u64.wrap (N : Int) = (N : Int) := by rw [IntKind.wrap_u64]; omega
      have hn0 : ((N : Int) == 0) = false := beq_false_of_ne (by omega)
      have hN0 : ¬ (N : Int) = 0 := by omega
      have hldD := HV2.out.load
      rw [← HX.out] at hldD
      go_wp2_with fail
      with_reducible refine (HDO.out w2 HB2.out).mono ?_
      clear hldD
      rintro E3 w3 ⟨v3, rfl, ho3, hb3⟩
      have HB3 : Hid (Below w.heap.size w w3) := Lib.hid (HB2.out.trans (hb3.mono HB2.out.size))
      have HV3 : Hid (VarD w3 gx x) := Lib.hid (HV2.out.keep hb3 HV2.out.lt)
      have HR3 : Hid (HoldsX w3 w2.heap.size (some ⟨b2, off2, none⟩) N L) := Lib.hid (HR2.out.below hb3)
      have HS3 : Hid (w2.heap.size ≤ w3.heap.size) := Lib.hid hb3.size
      clear HDO hb3
      rcases Decidable.em ((doD d x.op x.e).2 = 0) with hz3 | hz3
      rotate_left
      · have hz3b : ((doD d x.op x.e).2 == 0) = false := beq_false_of_ne hz3
        generalize (doD d x.op x.e).2 = e3 at hz3 hz3b ⊢
        clear ho3
        go_wp2
        rw [HP.out]
        exact ⟨rfl, HB3.out⟩
      obtain ⟨r, hr⟩ : ∃ r, r = (doD d x.op x.e).1 := ⟨_, rfl⟩
      have hdr : doD d x.op x.e = (r, 0) := by rw [hr, ← hz3]
      rw [hdr] at ho3 ⊢
      dsimp only at ho3 ⊢
      obtain ⟨U, hU, hkeep⟩ := doD_keeps HRD.out x.op x.e hdr
      have htu := (readD_iff r U).1 hU
      obtain ⟨hs1, hs2, hs3⟩ := htu.sizes
      have hmean := afterT_meanwhile HTO.out htu x.e.t hkeep k (by rw [← HL.out]; exact hkl) 5000 (by omega)
      have hname : (L[k]).t.length ≤ maxLen := by
        have h1 := HTO.out.ok ((has_mem T L[k]).2 (by rw [← HL.out]; exact List.getElem_mem hkl))
        have := may_len (okN_may h1).1
        unfold maxLen; omega
      have hLk : (inOrder T)[k]'(by rw [← HL.out]; exact hkl) = L[k] := by simp only [HL.out]
      rw [hLk] at hmean
      have hRl : (afterT U (L[k]).t 5000).length ≤ 1230 := by
        unfold afterT
        rw [List.length_take]
        have h1 := List.length_filter_le (fun y => decide ((L[k]).t = []) || bel (L[k]).t y.t) (inOrder U)
        have := htu.most
        omega
      have had : afterD r (L[k]).t 5000 = (afterT U (L[k]).t 5000, 0) := by unfold afterD; rw [hU]
      obtain ⟨A3, c3, rfl⟩ := ho3.shape
      have haft := After_any A3 r.length c3 w3.heap.size r (L[k]).t hname 5000 w3 ho3.reads (Nat.le_refl _) (by omega) (fun b hb => by rw [hs1 b hb]; omega)
      rw [had] at haft
      rw [← HL.out] at hmean
      obtain ⟨R, hR⟩ : ∃ R, R = afterT U (L[k]).t 5000 := ⟨_, rfl⟩
      rw [← hR] at haft hmean hRl
      obtain ⟨N4, hN4⟩ : ∃ N4, N4 = R.length := ⟨_, rfl⟩
      unfold Names2 at haft
      dsimp only at haft
      rw [← hN4] at haft hRl
      have qk := (HR3.out.cell k hkl).1
      have HAFT := Lib.hid haft; clear haft
      have HM : Hid ((R.drop 0).filter (notT x.e.t) = (L.drop (k + 1)).filter (notT x.e.t)) := Lib.hid (by rw [List.drop_zero]; exact hmean)
      have HN4 := Lib.hid hN4; clear hN4
      clear hmean hR had hLk hname hs1 hs2 hs3 htu hkeep hU hdr hr hz3 ho3 HTO HRD HL HSZ
      obtain ⟨K, hKe⟩ : ∃ K, K = (L[k]).t := ⟨_, rfl⟩
      rw [← hKe] at HAFT qk
      clear hKe
      obtain ⟨m3, hm3⟩ : ∃ m3, m3 = r.length := ⟨_, rfl⟩
      rw [← hm3] at HAFT ⊢
      clear hm3
      have hk0 : (0 : Int) ≤ (k : Int) := by omega
      have hkN2 : (k : Int) < (N : Int) := hk
      rw [hK]
      clear hK
      go_wp2_with fail
      with_reducible refine HAFT.out.mono ?_
      rintro E4 w4 ⟨A4, c4, rfl, ho4, hb4⟩
      have HB4 : Hid (Below w.heap.size w w4) := Lib.hid (HB3.out.trans (hb4.mono HB3.out.size))
      have hall : ∀ V, Below w4.heap.size w4 V → VarD V gx x ∧ HoldsX V w2.heap.size (some ⟨b2, off2, none⟩) N L ∧ HoldsX V w4.heap.size A4 N4 R := fun V hV =>
        ⟨(HV3.out.keep hb4 HV3.out.lt).keep hV (Nat.lt_of_lt_of_le HV3.out.lt hb4.size), (HR3.out.below (hb4.mono HS3.out)).below (hV.mono (Nat.le_trans HS3.out hb4.size)), ho4.reads.below hV⟩
      have HALL := Lib.hid hall; clear hall ho4 hb4 HAFT qk
      obtain ⟨SX, hSX⟩ : ∃ SX : ByteArray, SX = ⟨x.e.t.toArray⟩ := ⟨_, rfl⟩
      have hsx : SX.toList = x.e.t := by rw [hSX, text_list]
      have hgx : ∀ V, Below w4.heap.size w4 V → V.cell? ⟨gx, 1, none⟩ = some (.string SX) := fun V hV => by rw [hSX]; exact (HALL.out V hV).1.cells.2.1
      have HGXC := Lib.hid hgx; clear hgx
      have HSX := Lib.hid hsx; clear hsx hSX
      have hwk1 : IntKind.i64.wrap ((k : Int) + 1) = ((k + 1 : Nat) : Int) := by rw [IntKind.wrap_i64]; omega
      go_wp2
      go_loopw [13, 14] (fun mv iv wr => ∃ mm ii : Nat, mv = .int .i64 (mm : Int) ∧ iv = .int .i64 (ii : Int) ∧ ii ≤ N ∧ mm ≤ N4 ∧ (R.drop mm).filter (notT x.e.t) = (L.drop ii).filter (notT x.e.t) ∧ Below w4.heap.size w4 wr) (fun _ iv _ => N - (intOf iv).toNat)
      case atStart => exact ⟨0, k + 1, rfl, by rfl, by omega, by omega, HM.out, Below.refl _ _⟩
      case round =>
        clear HM
        obtain ⟨mm, ii, rfl, rfl, hii, hmm, hfil, hbr⟩ := hrel
        have HFIL := Lib.hid hfil; clear hfil
        have HBR := Lib.hid hbr; clear hbr
        rcases Nat.lt_or_ge ii N with hiN | hiN
        · have hil : ii < L.length := by have := HN.out; omega
          obtain ⟨SL, hSL⟩ : ∃ SL : ByteArray, SL = ⟨(L[ii]).t.toArray⟩ := ⟨_, rfl⟩
          have hsl : SL.toList = (L[ii]).t := by rw [hSL, text_list]
          have hld : ∀ V, Below wr.heap.size wr V → V.cell? ⟨b2, off2 + ii * 2, none⟩ = some (.string SL) ∧ V.cell? ⟨gx, 1, none⟩ = some (.string SX) := fun V hV => by
            have hV4 : Below w4.heap.size w4 V := HBR.out.trans (hV.mono HBR.out.size)
            exact ⟨by rw [hSL]; exact ((HALL.out V hV4).2.1.cell ii hil).1, HGXC.out V hV4⟩
          have HLD := Lib.hid hld; clear hld hSL
          have hii0 : (0 : Int) ≤ (ii : Int) := by omega
          have hiN2 : (ii : Int) < (N : Int) := by omega
          obtain ⟨q, hq⟩ : ∃ q, (SL.toList == SX.toList) = q := ⟨_, rfl⟩
          have hqt : q = true ↔ (L[ii]).t = x.e.t := by rw [← hq, beq_iff_eq, hsl, HSX.out]
          have HQ := Lib.hid hqt; clear hqt hsl
          go_wp2
          refine wp_region_E (fun V => Below wr.heap.size wr V) 99 rfl ?_
          have hS := (show Below wr.heap.size wr wr.drew from (Below.refl _ wr).drew)
          refine wpE_takeF 0 ⟨some 64, _, _, _, _, _⟩ (v := ?_) (by decide) rfl (by kernel_rfl) (by kernel_rfl) (by kernel_rfl) (fun _ _ _ h => h) hS (Or.inl ⟨by kernel_rfl, ?_⟩) ?_
          rotate_left
          · (intro V hSw; obtain ⟨q0, q1⟩ := HLD.out V hSw; go_simp; try with_reducible rfl)
          try simp only [Act.put]
          refine wpE_takeF 1 ⟨some 65, _, _, _, _, _⟩ (v := ?_) (by decide) rfl (by kernel_rfl) (by kernel_rfl) (by kernel_rfl) (fun _ _ _ h => h) hS (Or.inl ⟨by kernel_rfl, ?_⟩) ?_
          rotate_left
          · (intro V hSw; obtain ⟨q0, q1⟩ := HLD.out V hSw; go_simp; try with_reducible rfl)
          try simp only [Act.put]
          refine wpE_takeF 2 ⟨some 66, _, _, _, _, _⟩ (v := ?_) (by decide) rfl (by kernel_rfl) (by kernel_rfl) (by kernel_rfl) (fun _ _ _ h => h) hS (Or.inl ⟨by kernel_rfl, ?_⟩) ?_
          rotate_left
          · (intro V hSw; obtain ⟨q0, q1⟩ := HLD.out V hSw; go_simp; try with_reducible rfl)
          try simp only [Act.put]
          refine wpE_takeF 3 ⟨some 67, _, _, _, _, _⟩ (v := ?_) (by decide) rfl (by kernel_rfl) (by kernel_rfl) (by kernel_rfl) (fun _ _ _ h => h) hS (Or.inl ⟨by kernel_rfl, ?_⟩) ?_
          rotate_left
          · (intro V hSw; obtain ⟨q0, q1⟩ := HLD.out V hSw; go_simp; try with_reducible rfl)
          try simp only [Act.put]
          refine wpE_takeF 4 ⟨some 68, _, _, _, _, _⟩ (v := ?_) (by decide) rfl (by kernel_rfl) (by kernel_rfl) (by kernel_rfl) (fun _ _ _ h => h) hS (Or.inl ⟨by kernel_rfl, ?_⟩) ?_
          rotate_left
          · (intro V hSw; obtain ⟨q0, q1⟩ := HLD.out V hSw; go_simp; try with_reducible rfl)
          try simp only [Act.put]
          refine wpE_takeF 5 ⟨some 69, _, _, _, _, _⟩ (v := ?_) (by decide) rfl (by kernel_rfl) (by kernel_rfl) (by kernel_rfl) (fun _ _ _ h => h) hS (Or.inl ⟨by kernel_rfl, ?_⟩) ?_
          rotate_left
          · (intro V hSw; obtain ⟨q0, q1⟩ := HLD.out V hSw; go_simp; try with_reducible rfl)
          try simp only [Act.put]
          refine wpE_takeF 6 ⟨some 70, _, _, _, _, _⟩ (v := ?_) (by decide) rfl (by kernel_rfl) (by kernel_rfl) (by kernel_rfl) (fun _ _ _ h => h) hS (Or.inl ⟨by kernel_rfl, ?_⟩) ?_
          rotate_left
          · (intro V hSw; obtain ⟨q0, q1⟩ := HLD.out V hSw; go_simp; try with_reducible rfl)
          try simp only [Act.put]
          refine wpE_takeF 7 ⟨some 71, _, _, _, _, _⟩ (v := ?_) (by decide) rfl (by kernel_rfl) (by kernel_rfl) (by kernel_rfl) (fun _ _ _ h => h) hS (Or.inl ⟨by kernel_rfl, ?_⟩) ?_
          rotate_left
          · (intro V hSw; obtain ⟨q0, q1⟩ := HLD.out V hSw; go_simp; try with_reducible rfl)
          try simp only [Act.put]
          refine wpE_done (by kernel_rfl) ?_ _
          try simp only [List.setIfInBounds_toArray, List.set_cons_succ, List.set_cons_zero]
          have HBR2 : Hid (Below w4.heap.size w4 wr.drew) := Lib.hid (HBR.out.trans (hS.mono HBR.out.size))
          clear hS
          cases q with
          | true =>
            have hte := HQ.out.1 rfl
            have HN2 : Hid ((R.drop mm).filter (notT x.e.t) = (L.drop (ii + 1)).filter (notT x.e.t)) := Lib.hid (by rw [HFIL.out]; exact filt_same hil hte)
            clear hte hq
            go_wp2
            go_roundw
            case rel => exact ⟨mm, ii + 1, rfl, by go_num, by omega, hmm, HN2.out, HBR2.out⟩
            case measure => simp [intOf]; omega
          | false =>
            have hne : (L[ii]).t ≠ x.e.t := fun e => by have := HQ.out.2 e; cases this
            have HF2 : Hid ((L.drop ii).filter (notT x.e.t) = L[ii] :: (L.drop (ii + 1)).filter (notT x.e.t)) := Lib.hid (filt_other hil hne)
            clear hne hq HLD
            go_wp2
            go_loopw [13] (fun mv wr => ∃ m2 : Nat, mv = .int .i64 (m2 : Int) ∧ m2 ≤ N4 ∧ (R.drop m2).filter (notT x.e.t) = (L.drop ii).filter (notT x.e.t) ∧ Below w4.heap.size w4 wr) (fun mv _ => N4 - (intOf mv).toNat)
            case atStart => exact ⟨mm, rfl, hmm, HFIL.out, HBR2.out⟩
            case round =>
              obtain ⟨V0, hV0⟩ : ∃ V0, V0 = wr := ⟨_, rfl⟩
              subst hV0
              obtain ⟨m2, rfl, hm2, hfil2, hbr⟩ := hrel
              have HBV := Lib.hid hbr; clear hbr
              have hml : m2 < R.length := by
                rcases Nat.lt_or_ge m2 R.length with c | c
                · exact c
                · exfalso
                  rw [filt_end c, HF2.out] at hfil2
                  cases hfil2
              have HFIL2 := Lib.hid hfil2; clear hfil2
              have hm2N : m2 < N4 := by have := HN4.out; omega
              obtain ⟨b4, off4, rfl, hb4B⟩ := (HALL.out V0 HBV.out).2.2.addr (by omega)
              obtain ⟨SR, hSR⟩ : ∃ SR : ByteArray, SR = ⟨(R[m2]).t.toArray⟩ := ⟨_, rfl⟩
              have hsr : SR.toList = (R[m2]).t := by rw [hSR, text_list]
              have hld : ∀ V, Below V0.heap.size V0 V → V.cell? ⟨b4, off4 + m2 * 2, none⟩ = some (.string SR) ∧ V.cell? ⟨gx, 1, none⟩ = some (.string SX) := fun V hV => by
                have hV4 : Below w4.heap.size w4 V := HBV.out.trans (hV.mono HBV.out.size)
                exact ⟨by rw [hSR]; exact ((HALL.out V hV4).2.2.cell m2 hml).1, HGXC.out V hV4⟩
              have HLD2 := Lib.hid hld; clear hld hSR
              have hm20 : (0 : Int) ≤ (m2 : Int) := by omega
              have hm2N2 : (m2 : Int) < (N4 : Int) := by omega
              have hm2N3 : ¬ (N4 : Int) ≤ (m2 : Int) := by omega
              have hm2N4 : decide ((m2 : Int) ≥ (N4 : Int)) = false := decide_eq_false (by omega)
              have hm2N6 : decide (N4 ≤ m2) = false := decide_eq_false (by omega)
              have hm2N7 : ¬ N4 ≤ m2 := by omega
              have hm2N5 : decide ((N4 : Int) ≤ (m2 : Int)) = false := decide_eq_false (by omega)
              obtain ⟨q2, hq2⟩ : ∃ q2, (SR.toList == SX.toList) = q2 := ⟨_, rfl⟩
              have hqt : q2 = true ↔ (R[m2]).t = x.e.t := by rw [← hq2, beq_iff_eq, hsr, HSX.out]
              have HQ2 := Lib.hid hqt; clear hqt hsr
              go_wp2
              refine wp_region_E (fun V => Below V0.heap.size V0 V) 99 rfl ?_
              have hS := (show Below V0.heap.size V0 V0.drew from (Below.refl _ V0).drew)
              refine wpE_takeF 0 ⟨some 72, _, _, _, _, _⟩ (v := ?_) (by decide) rfl (by kernel_rfl) (by kernel_rfl) (by kernel_rfl) (fun _ _ _ h => h) hS (Or.inl ⟨by kernel_rfl, ?_⟩) ?_
              rotate_left
              · (intro V hSw; obtain ⟨q0, q1⟩ := HLD2.out V hSw; go_simp; try with_reducible rfl)
              try simp only [Act.put]
              refine wpE_takeF 1 ⟨some 73, _, _, _, _, _⟩ (v := ?_) (by decide) rfl (by kernel_rfl) (by kernel_rfl) (by kernel_rfl) (fun _ _ _ h => h) hS (Or.inl ⟨by kernel_rfl, ?_⟩) ?_
              rotate_left
              · (intro V hSw; obtain ⟨q0, q1⟩ := HLD2.out V hSw; go_simp; try with_reducible rfl)
              try simp only [Act.put]
              refine wpE_takeF 2 ⟨some 74, _, _, _, _, _⟩ (v := ?_) (by decide) rfl (by kernel_rfl) (by kernel_rfl) (by kernel_rfl) (fun _ _ _ h => h) hS (Or.inl ⟨by kernel_rfl, ?_⟩) ?_
              rotate_left
              · (intro V hSw; obtain ⟨q0, q1⟩ := HLD2.out V hSw; go_simp; try with_reducible rfl)
              try simp only [Act.put]
              refine wpE_takeF 3 ⟨some 75, _, _, _, _, _⟩ (v := ?_) (by decide) rfl (by kernel_rfl) (by kernel_rfl) (by kernel_rfl) (fun _ _ _ h => h) hS (Or.inl ⟨by kernel_rfl, ?_⟩) ?_
              rotate_left
              · (intro V hSw; obtain ⟨q0, q1⟩ := HLD2.out V hSw; go_simp; try with_reducible rfl)
              try simp only [Act.put]
              refine wpE_takeF 4 ⟨some 76, _, _, _, _, _⟩ (v := ?_) (by decide) rfl (by kernel_rfl) (by kernel_rfl) (by kernel_rfl) (fun _ _ _ h => h) hS (Or.inl ⟨by kernel_rfl, ?_⟩) ?_
              rotate_left
              · (intro V hSw; obtain ⟨q0, q1⟩ := HLD2.out V hSw; go_simp; try with_reducible rfl)
              try simp only [Act.put]
              refine wpE_takeF 5 ⟨some 77, _, _, _, _, _⟩ (v := ?_) (by decide) rfl (by kernel_rfl) (by kernel_rfl) (by kernel_rfl) (fun _ _ _ h => h) hS (Or.inl ⟨by kernel_rfl, ?_⟩) ?_
              rotate_left
              · (intro V hSw; obtain ⟨q0, q1⟩ := HLD2.out V hSw; go_simp; try with_reducible rfl)
              try simp only [Act.put]
              refine wpE_takeF 6 ⟨some 78, _, _, _, _, _⟩ (v := ?_) (by decide) rfl (by kernel_rfl) (by kernel_rfl) (by kernel_rfl) (fun _ _ _ h => h) hS (Or.inl ⟨by kernel_rfl, ?_⟩) ?_
              rotate_left
              · (intro V hSw; obtain ⟨q0, q1⟩ := HLD2.out V hSw; go_simp; try with_reducible rfl)
              try simp only [Act.put]
              refine wpE_takeF 7 ⟨some 79, _, _, _, _, _⟩ (v := ?_) (by decide) rfl (by kernel_rfl) (by kernel_rfl) (by kernel_rfl) (fun _ _ _ h => h) hS (Or.inl ⟨by kernel_rfl, ?_⟩) ?_
              rotate_left
              · (intro V hSw; obtain ⟨q0, q1⟩ := HLD2.out V hSw; go_simp; try with_reducible rfl)
              try simp only [Act.put]
              refine wpE_takeF 8 ⟨some 80, _, _, _, _, _⟩ (v := ?_) (by decide) rfl (by kernel_rfl) (by kernel_rfl) (by kernel_rfl) (fun _ _ _ h => h) hS (Or.inl ⟨by kernel_rfl, ?_⟩) ?_
              rotate_left
              · (intro V hSw; obtain ⟨q0, q1⟩ := HLD2.out V hSw; go_simp; try with_reducible rfl)
              try simp only [Act.put]
              refine wpE_takeF 9 ⟨some 81, _, _, _, _, _⟩ (v := ?_) (by decide) rfl (by kernel_rfl) (by kernel_rfl) (by kernel_rfl) (fun _ _ _ h => h) hS (Or.inl ⟨by kernel_rfl, ?_⟩) ?_
              rotate_left
              · (intro V hSw; obtain ⟨q0, q1⟩ := HLD2.out V hSw; go_simp; try with_reducible rfl)
              try simp only [Act.put]
              refine wpE_takeF 10 ⟨some 82, _, _, _, _, _⟩ (v := ?_) (by decide) rfl (by kernel_rfl) (by kernel_rfl) (by kernel_rfl) (fun _ _ _ h => h) hS (Or.inl ⟨by kernel_rfl, ?_⟩) ?_
              rotate_left
              · (intro V hSw; obtain ⟨q0, q1⟩ := HLD2.out V hSw; go_simp; try with_reducible rfl)
              try simp only [Act.put]
              refine wpE_takeF 11 ⟨some 83, _, _, _, _, _⟩ (v := ?_) (by decide) rfl (by kernel_rfl) (by kernel_rfl) (by kernel_rfl) (fun _ _ _ h => h) hS (Or.inl ⟨by kernel_rfl, ?_⟩) ?_
              rotate_left
              · (intro V hSw; obtain ⟨q0, q1⟩ := HLD2.out V hSw; go_simp; try with_reducible rfl)
              try simp only [Act.put]
              refine wpE_takeF 12 ⟨some 84, _, _, _, _, _⟩ (v := ?_) (by decide) rfl (by kernel_rfl) (by kernel_rfl) (by kernel_rfl) (fun _ _ _ h => h) hS (Or.inl ⟨by kernel_rfl, ?_⟩) ?_
              rotate_left
              · (intro V hSw; obtain ⟨q0, q1⟩ := HLD2.out V hSw; go_simp; try with_reducible rfl)
              try simp only [Act.put]
              refine wpE_takeF 13 ⟨some 85, _, _, _, _, _⟩ (v := ?_) (by decide) rfl (by kernel_rfl) (by kernel_rfl) (by kernel_rfl) (fun _ _ _ h => h) hS (Or.inl ⟨by kernel_rfl, ?_⟩) ?_
              rotate_left
              · (intro V hSw; obtain ⟨q0, q1⟩ := HLD2.out V hSw; go_simp; try with_reducible rfl)
              try simp only [Act.put]
              refine wpE_done (by kernel_rfl) ?_ _
              try simp only [List.setIfInBounds_toArray, List.set_cons_succ, List.set_cons_zero]
              have HBV2 : Hid (Below w4.heap.size w4 V0.drew) := Lib.hid (HBV.out.trans (hS.mono HBV.out.size))
              clear hS
              cases q2 with
              | true =>
                have hte := HQ2.out.1 rfl
                have HN2 : Hid ((R.drop (m2 + 1)).filter (notT x.e.t) = (L.drop ii).filter (notT x.e.t)) := Lib.hid (by rw [← HFIL2.out]; exact (filt_same hml hte).symm)
                clear hte hq2
                go_wp2
                go_roundw
                case rel => exact ⟨m2 + 1, by go_num, by omega, HN2.out, HBV2.out⟩
                case measure => simp [intOf]; omega
              | false =>
                have hne : (R[m2]).t ≠ x.e.t := fun e => by have := HQ2.out.2 e; cases this
                have hfo := filt_other hml hne
                rw [HFIL2.out, HF2.out] at hfo
                injection hfo with hsame hrest
                have HREST := Lib.hid hrest; clear hrest hne hq2
                obtain ⟨y, hy⟩ : ∃ y, y = R[m2] := ⟨_, rfl⟩
                have hld : ∀ V, Below V0.heap.size V0 V → (ldX (.pointer (some ⟨b4, off4 + m2 * 2, none⟩))).run Tryz.prog V = .ok (.agg y.c) V ∧ (ldX (.pointer (some ⟨b2, off2 + ii * 2, none⟩))).run Tryz.prog V = .ok (.agg y.c) V := fun V hV => by
                  have hV4 : Below w4.heap.size w4 V := HBV.out.trans (hV.mono HBV.out.size)
                  refine ⟨by rw [hy]; exact run_ldX_at (HALL.out V hV4).2.2 m2 hml _ rfl, ?_⟩
                  have := run_ldX_at (HALL.out V hV4).2.1 ii hil (off2 + ii * 2) rfl
                  rw [hsame, ← hy] at this
                  exact this
                have hcmp : ∀ V, (neqX (.agg y.c) (.agg y.c)).run Tryz.prog V = .ok (.bool false) V := fun V => by
                  have := run_neqX V y y
                  rwa [decide_eq_true rfl] at this
                have HLD3 := Lib.hid hld; clear hld hy hsame
                generalize y.c = Y at HLD3 hcmp
                go_wp2
                have hS0 : Below V0.heap.size V0 V0.drew := (Below.refl _ V0).drew
                refine wp_region_E (fun V => Below V0.drew.heap.size V0.drew V) 99 rfl ?_
                have hS := (show Below V0.drew.heap.size V0.drew V0.drew.drew from (Below.refl _ V0.drew).drew)
                refine wpE_takeF 0 ⟨some 88, _, _, _, _, _⟩ (v := ?_) (by decide) rfl (by kernel_rfl) (by kernel_rfl) (by kernel_rfl) (fun _ _ _ h => h) hS (Or.inl ⟨by kernel_rfl, ?_⟩) ?_
                rotate_left
                · (intro V hSw; obtain ⟨q0, q1⟩ := HLD3.out V (hS0.trans (hSw.mono hS0.size)); go_simp; try with_reducible rfl)
                try simp only [Act.put]
                refine wpE_takeF 1 ⟨some 89, _, _, _, _, _⟩ (v := ?_) (by decide) rfl (by kernel_rfl) (by kernel_rfl) (by kernel_rfl) (fun _ _ _ h => h) hS (Or.inl ⟨by kernel_rfl, ?_⟩) ?_
                rotate_left
                · (intro V hSw; obtain ⟨q0, q1⟩ := HLD3.out V (hS0.trans (hSw.mono hS0.size)); go_simp; try with_reducible rfl)
                try simp only [Act.put]
                refine wpE_takeF 2 ⟨some 90, _, _, _, _, _⟩ (v := ?_) (by decide) rfl (by kernel_rfl) (by kernel_rfl) (by kernel_rfl) (fun _ _ _ h => h) hS (Or.inl ⟨by kernel_rfl, ?_⟩) ?_
                rotate_left
                · (intro V hSw; obtain ⟨q0, q1⟩ := HLD3.out V (hS0.trans (hSw.mono hS0.size)); go_simp; try with_reducible rfl)
                try simp only [Act.put]
                refine wpE_takeF 3 ⟨some 91, _, _, _, _, _⟩ (v := ?_) (by decide) rfl (by kernel_rfl) (by kernel_rfl) (by kernel_rfl) (fun _ _ _ h => h) hS (Or.inl ⟨by kernel_rfl, ?_⟩) ?_
                rotate_left
                · (intro V hSw; obtain ⟨q0, q1⟩ := HLD3.out V (hS0.trans (hSw.mono hS0.size)); go_simp; try with_reducible rfl)
                try simp only [Act.put]
                refine wpE_takeF 4 ⟨some 92, _, _, _, _, _⟩ (v := ?_) (by decide) rfl (by kernel_rfl) (by kernel_rfl) (by kernel_rfl) (fun _ _ _ h => h) hS (Or.inl ⟨by kernel_rfl, ?_⟩) ?_
                rotate_left
                · (intro V hSw; obtain ⟨q0, q1⟩ := HLD3.out V (hS0.trans (hSw.mono hS0.size)); go_simp; try with_reducible rfl)
                try simp only [Act.put]
                refine wpE_takeF 5 ⟨some 93, _, _, _, _, _⟩ (v := ?_) (by decide) rfl (by kernel_rfl) (by kernel_rfl) (by kernel_rfl) (fun _ _ _ h => h) hS (Or.inl ⟨by kernel_rfl, ?_⟩) ?_
                rotate_left
                · (intro V hSw; obtain ⟨q0, q1⟩ := HLD3.out V (hS0.trans (hSw.mono hS0.size)); go_simp; try with_reducible rfl)
                try simp only [Act.put]
                refine wpE_takeF 6 ⟨some 94, _, _, _, _, _⟩ (v := ?_) (by decide) rfl (by kernel_rfl) (by kernel_rfl) (by kernel_rfl) (fun _ _ _ h => h) hS (Or.inl ⟨by kernel_rfl, ?_⟩) ?_
                rotate_left
                · (intro V hSw; obtain ⟨q0, q1⟩ := HLD3.out V (hS0.trans (hSw.mono hS0.size)); go_simp; try with_reducible rfl)
                try simp only [Act.put]
                refine wpE_takeF 7 ⟨some 95, _, _, _, _, _⟩ (v := ?_) (by decide) rfl (by kernel_rfl) (by kernel_rfl) (by kernel_rfl) (fun _ _ _ h => h) hS (Or.inl ⟨by kernel_rfl, ?_⟩) ?_
                rotate_left
                · (intro V hSw; obtain ⟨q0, q1⟩ := HLD3.out V (hS0.trans (hSw.mono hS0.size)); go_simp; try with_reducible rfl)
                try simp only [Act.put]
                refine wpE_takeF 8 ⟨some 96, _, _, _, _, _⟩ (v := ?_) (by decide) rfl (by kernel_rfl) (by kernel_rfl) (by kernel_rfl) (fun _ _ _ h => h) hS (Or.inl ⟨by kernel_rfl, ?_⟩) ?_
                rotate_left
                · (intro V hSw; obtain ⟨q0, q1⟩ := HLD3.out V (hS0.trans (hSw.mono hS0.size)); go_simp; try with_reducible rfl)
                try simp only [Act.put]
                refine wpE_takeF 9 ⟨some 97, _, _, _, _, _⟩ (v := ?_) (by decide) rfl (by kernel_rfl) (by kernel_rfl) (by kernel_rfl) (fun _ _ _ h => h) hS (Or.inl ⟨by kernel_rfl, ?_⟩) ?_
                rotate_left
                · (intro V hSw; obtain ⟨q0, q1⟩ := HLD3.out V (hS0.trans (hSw.mono hS0.size)); go_simp; try with_reducible rfl)
                try simp only [Act.put]
                refine wpE_takeF 10 ⟨some 98, _, _, _, _, _⟩ (v := ?_) (by decide) rfl (by kernel_rfl) (by kernel_rfl) (by kernel_rfl) (fun _ _ _ h => h) hS (Or.inl ⟨by kernel_rfl, ?_⟩) ?_
                rotate_left
                · (intro V hSw; obtain ⟨q0, q1⟩ := HLD3.out V (hS0.trans (hSw.mono hS0.size)); go_simp; try with_reducible rfl)
                try simp only [Act.put]
                refine wpE_takeF 11 ⟨some 99, _, _, _, _, _⟩ (v := ?_) (by decide) rfl (by kernel_rfl) (by kernel_rfl) (by kernel_rfl) (fun _ _ _ h => h) hS (Or.inl ⟨by kernel_rfl, ?_⟩) ?_
                rotate_left
                · (intro V hSw; obtain ⟨q0, q1⟩ := HLD3.out V (hS0.trans (hSw.mono hS0.size)); go_simp; try with_reducible rfl)
                try simp only [Act.put]
                refine wpE_takeF 12 ⟨some 100, _, _, _, _, _⟩ (v := ?_) (by decide) rfl (by kernel_rfl) (by kernel_rfl) (by kernel_rfl) (fun _ _ _ h => h) hS (Or.inl ⟨by kernel_rfl, ?_⟩) ?_
                rotate_left
                · (intro V hSw; obtain ⟨q0, q1⟩ := HLD3.out V (hS0.trans (hSw.mono hS0.size)); go_simp; try with_reducible rfl)
                try simp only [Act.put]
                refine wpE_takeF 13 ⟨some 101, _, _, _, _, _⟩ (v := ?_) (by decide) rfl (by kernel_rfl) (by kernel_rfl) (by kernel_rfl) (fun _ _ _ h => h) hS (Or.inl ⟨by kernel_rfl, ?_⟩) ?_
                rotate_left
                · (intro V hSw; obtain ⟨q0, q1⟩ := HLD3.out V (hS0.trans (hSw.mono hS0.size)); go_simp; try with_reducible rfl)
                try simp only [Act.put]
                refine wpE_takeF 14 ⟨some 102, _, _, _, _, _⟩ (v := ?_) (by decide) rfl (by kernel_rfl) (by kernel_rfl) (by kernel_rfl) (fun _ _ _ h => h) hS (Or.inl ⟨by kernel_rfl, ?_⟩) ?_
                rotate_left
                · (intro V hSw; obtain ⟨q0, q1⟩ := HLD3.out V (hS0.trans (hSw.mono hS0.size)); go_simp; try with_reducible rfl)
                try simp only [Act.put]
                refine wpE_done (by kernel_rfl) ?_ _
                try simp only [List.setIfInBounds_toArray, List.set_cons_succ, List.set_cons_zero]
                have HBV3 : Hid (Below w4.heap.size w4 V0.drew.drew) := Lib.hid (HBV2.out.trans (hS.mono HBV2.out.size))
                clear hS
                go_wp2
                go_roundw
                case rel => exact ⟨m2 + 1, ii + 1, by go_num, by go_num, by omega, by omega, HREST.out.symm, HBV3.out⟩
                case measure => simp [intOf]; omega
        · have hfe : (R.drop mm).filter (notT x.e.t) = [] := by rw [HFIL.out]; exact filt_end (by have := HN.out; omega)
          have HFE := Lib.hid hfe; clear hfe
          have hiN2 : ¬ (ii : Int) < (N : Int) := by omega
          clear HFIL
          go_wp2
          go_loopw [13] (fun mv wr => ∃ m2 : Nat, mv = .int .i64 (m2 : Int) ∧ m2 ≤ N4 ∧ (R.drop m2).filter (notT x.e.t) = [] ∧ Below w4.heap.size w4 wr) (fun mv _ => N4 - (intOf mv).toNat)
          case atStart => exact ⟨mm, rfl, hmm, HFE.out, HBR.out⟩
          case round =>
            obtain ⟨V0, hV0⟩ : ∃ V0, V0 = wr := ⟨_, rfl⟩
            subst hV0
            obtain ⟨m2, rfl, hm2, hfil2, hbr⟩ := hrel
            have HBV := Lib.hid hbr; clear hbr
            have HFIL2 := Lib.hid hfil2; clear hfil2
            rcases Nat.lt_or_ge m2 N4 with hm2N | hm2N
            · have hml : m2 < R.length := by have := HN4.out; omega
              obtain ⟨b4, off4, rfl, hb4B⟩ := (HALL.out V0 HBV.out).2.2.addr (by omega)
              obtain ⟨SR, hSR⟩ : ∃ SR : ByteArray, SR = ⟨(R[m2]).t.toArray⟩ := ⟨_, rfl⟩
              have hsr : SR.toList = (R[m2]).t := by rw [hSR, text_list]
              have hte : (R[m2]).t = x.e.t := by
                by_cases e : (R[m2]).t = x.e.t
                · exact e
                · exfalso
                  have := filt_other hml e
                  rw [HFIL2.out] at this
                  cases this
              have HN2 : Hid ((R.drop (m2 + 1)).filter (notT x.e.t) = []) := Lib.hid (by rw [← HFIL2.out]; exact (filt_same hml hte).symm)
              have hq2 : (SR.toList == SX.toList) = true := by rw [beq_iff_eq, hsr, HSX.out, hte]
              have hld : ∀ V, Below V0.heap.size V0 V → V.cell? ⟨b4, off4 + m2 * 2, none⟩ = some (.string SR) ∧ V.cell? ⟨gx, 1, none⟩ = some (.string SX) := fun V hV => by
                have hV4 : Below w4.heap.size w4 V := HBV.out.trans (hV.mono HBV.out.size)
                exact ⟨by rw [hSR]; exact ((HALL.out V hV4).2.2.cell m2 hml).1, HGXC.out V hV4⟩
              have HLD2 := Lib.hid hld; clear hld hSR hte hsr
              have hm20 : (0 : Int) ≤ (m2 : Int) := by omega
              have hm2N2 : (m2 : Int) < (N4 : Int) := by omega
              go_wp2
              refine wp_region_E (fun V => Below V0.heap.size V0 V) 99 rfl ?_
              have hS := (show Below V0.heap.size V0 V0.drew from (Below.refl _ V0).drew)
              refine wpE_takeF 0 ⟨some 105, _, _, _, _, _⟩ (v := ?_) (by decide) rfl (by kernel_rfl) (by kernel_rfl) (by kernel_rfl) (fun _ _ _ h => h) hS (Or.inl ⟨by kernel_rfl, ?_⟩) ?_
              rotate_left
              · (intro V hSw; obtain ⟨q0, q1⟩ := HLD2.out V hSw; go_simp; try with_reducible rfl)
              try simp only [Act.put]
              refine wpE_takeF 1 ⟨some 106, _, _, _, _, _⟩ (v := ?_) (by decide) rfl (by kernel_rfl) (by kernel_rfl) (by kernel_rfl) (fun _ _ _ h => h) hS (Or.inl ⟨by kernel_rfl, ?_⟩) ?_
              rotate_left
              · (intro V hSw; obtain ⟨q0, q1⟩ := HLD2.out V hSw; go_simp; try with_reducible rfl)
              try simp only [Act.put]
              refine wpE_takeF 2 ⟨some 107, _, _, _, _, _⟩ (v := ?_) (by decide) rfl (by kernel_rfl) (by kernel_rfl) (by kernel_rfl) (fun _ _ _ h => h) hS (Or.inl ⟨by kernel_rfl, ?_⟩) ?_
              rotate_left
              · (intro V hSw; obtain ⟨q0, q1⟩ := HLD2.out V hSw; go_simp; try with_reducible rfl)
              try simp only [Act.put]
              refine wpE_takeF 3 ⟨some 108, _, _, _, _, _⟩ (v := ?_) (by decide) rfl (by kernel_rfl) (by kernel_rfl) (by kernel_rfl) (fun _ _ _ h => h) hS (Or.inl ⟨by kernel_rfl, ?_⟩) ?_
              rotate_left
              · (intro V hSw; obtain ⟨q0, q1⟩ := HLD2.out V hSw; go_simp; try with_reducible rfl)
              try simp only [Act.put]
              refine wpE_takeF 4 ⟨some 109, _, _, _, _, _⟩ (v := ?_) (by decide) rfl (by kernel_rfl) (by kernel_rfl) (by kernel_rfl) (fun _ _ _ h => h) hS (Or.inl ⟨by kernel_rfl, ?_⟩) ?_
              rotate_left
              · (intro V hSw; obtain ⟨q0, q1⟩ := HLD2.out V hSw; go_simp; try with_reducible rfl)
              try simp only [Act.put]
              refine wpE_takeF 5 ⟨some 110, _, _, _, _, _⟩ (v := ?_) (by decide) rfl (by kernel_rfl) (by kernel_rfl) (by kernel_rfl) (fun _ _ _ h => h) hS (Or.inl ⟨by kernel_rfl, ?_⟩) ?_
              rotate_left
              · (intro V hSw; obtain ⟨q0, q1⟩ := HLD2.out V hSw; go_simp; try with_reducible rfl)
              try simp only [Act.put]
              refine wpE_takeF 6 ⟨some 111, _, _, _, _, _⟩ (v := ?_) (by decide) rfl (by kernel_rfl) (by kernel_rfl) (by kernel_rfl) (fun _ _ _ h => h) hS (Or.inl ⟨by kernel_rfl, ?_⟩) ?_
              rotate_left
              · (intro V hSw; obtain ⟨q0, q1⟩ := HLD2.out V hSw; go_simp; try with_reducible rfl)
              try simp only [Act.put]
              refine wpE_takeF 7 ⟨some 112, _, _, _, _, _⟩ (v := ?_) (by decide) rfl (by kernel_rfl) (by kernel_rfl) (by kernel_rfl) (fun _ _ _ h => h) hS (Or.inl ⟨by kernel_rfl, ?_⟩) ?_
              rotate_left
              · (intro V hSw; obtain ⟨q0, q1⟩ := HLD2.out V hSw; go_simp; try with_reducible rfl)
              try simp only [Act.put]
              refine wpE_takeF 8 ⟨some 113, _, _, _, _, _⟩ (v := ?_) (by decide) rfl (by kernel_rfl) (by kernel_rfl) (by kernel_rfl) (fun _ _ _ h => h) hS (Or.inl ⟨by kernel_rfl, ?_⟩) ?_
              rotate_left
              · (intro V hSw; obtain ⟨q0, q1⟩ := HLD2.out V hSw; go_simp; try with_reducible rfl)
              try simp only [Act.put]
              refine wpE_takeF 9 ⟨some 114, _, _, _, _, _⟩ (v := ?_) (by decide) rfl (by kernel_rfl) (by kernel_rfl) (by kernel_rfl) (fun _ _ _ h => h) hS (Or.inl ⟨by kernel_rfl, ?_⟩) ?_
              rotate_left
              · (intro V hSw; obtain ⟨q0, q1⟩ := HLD2.out V hSw; go_simp; try with_reducible rfl)
              try simp only [Act.put]
              refine wpE_takeF 10 ⟨some 115, _, _, _, _, _⟩ (v := ?_) (by decide) rfl (by kernel_rfl) (by kernel_rfl) (by kernel_rfl) (fun _ _ _ h => h) hS (Or.inl ⟨by kernel_rfl, ?_⟩) ?_
              rotate_left
              · (intro V hSw; obtain ⟨q0, q1⟩ := HLD2.out V hSw; go_simp; try with_reducible rfl)
              try simp only [Act.put]
              refine wpE_takeF 11 ⟨some 116, _, _, _, _, _⟩ (v := ?_) (by decide) rfl (by kernel_rfl) (by kernel_rfl) (by kernel_rfl) (fun _ _ _ h => h) hS (Or.inl ⟨by kernel_rfl, ?_⟩) ?_
              rotate_left
              · (intro V hSw; obtain ⟨q0, q1⟩ := HLD2.out V hSw; go_simp; try with_reducible rfl)
              try simp only [Act.put]
              refine wpE_takeF 12 ⟨some 117, _, _, _, _, _⟩ (v := ?_) (by decide) rfl (by kernel_rfl) (by kernel_rfl) (by kernel_rfl) (fun _ _ _ h => h) hS (Or.inl ⟨by kernel_rfl, ?_⟩) ?_
              rotate_left
              · (intro V hSw; obtain ⟨q0, q1⟩ := HLD2.out V hSw; go_simp; try with_reducible rfl)
              try simp only [Act.put]
              refine wpE_takeF 13 ⟨some 118, _, _, _, _, _⟩ (v := ?_) (by decide) rfl (by kernel_rfl) (by kernel_rfl) (by kernel_rfl) (fun _ _ _ h => h) hS (Or.inl ⟨by kernel_rfl, ?_⟩) ?_
              rotate_left
              · (intro V hSw; obtain ⟨q0, q1⟩ := HLD2.out V hSw; go_simp; try with_reducible rfl)
              try simp only [Act.put]
              refine wpE_done (by kernel_rfl) ?_ _
              try simp only [List.setIfInBounds_toArray, List.set_cons_succ, List.set_cons_zero]
              have HBV2 : Hid (Below w4.heap.size w4 V0.drew) := Lib.hid (HBV.out.trans (hS.mono HBV.out.size))
              clear hS
              go_wp2
              go_roundw
              case rel => exact ⟨m2 + 1, by go_num, by omega, HN2.out, HBV2.out⟩
              case measure => simp [intOf]; omega
            · obtain rfl : m2 = N4 := by omega
              have hm2N2 : ¬ (m2 : Int) < (m2 : Int) := by omega
              go_wp2
              refine wp_region_E (fun V => Below V0.heap.size V0 V) 99 rfl ?_
              have hS := (show Below V0.heap.size V0 V0.drew from (Below.refl _ V0).drew)
              refine wpE_takeF 0 ⟨some 105, _, _, _, _, _⟩ (v := ?_) (by decide) rfl (by kernel_rfl) (by kernel_rfl) (by kernel_rfl) (fun _ _ _ h => h) hS (Or.inl ⟨by kernel_rfl, ?_⟩) ?_
              rotate_left
              · (intro V hSw; go_simp; try with_reducible rfl)
              try simp only [Act.put]
              refine wpE_takeF 1 ⟨some 106, _, _, _, _, _⟩ (v := ?_) (by decide) rfl (by kernel_rfl) (by kernel_rfl) (by kernel_rfl) (fun _ _ _ h => h) hS (Or.inl ⟨by kernel_rfl, ?_⟩) ?_
              rotate_left
              · (intro V hSw; go_simp; try with_reducible rfl)
              try simp only [Act.put]
              refine wpE_takeF 2 ⟨some 107, _, _, _, _, _⟩ (v := ?_) (by decide) rfl (by kernel_rfl) (by kernel_rfl) (by kernel_rfl) (fun _ _ _ h => h) hS (Or.inl ⟨by kernel_rfl, ?_⟩) ?_
              rotate_left
              · (intro V hSw; go_simp; try with_reducible rfl)
              try simp only [Act.put]
              refine wpE_takeF 3 ⟨some 108, _, _, _, _, _⟩ (v := ?_) (by decide) rfl (by kernel_rfl) (by kernel_rfl) (by kernel_rfl) (fun _ _ _ h => h) hS (Or.inl ⟨by kernel_rfl, ?_⟩) ?_
              rotate_left
              · (intro V hSw; go_simp; try with_reducible rfl)
              try simp only [Act.put]
              refine wpE_takeF 4 ⟨some 109, _, _, _, _, _⟩ (v := ?_) (by decide) rfl (by kernel_rfl) (by kernel_rfl) (by kernel_rfl) (fun _ _ _ h => h) hS (Or.inl ⟨by kernel_rfl, ?_⟩) ?_
              rotate_left
              · (intro V hSw; go_simp; try with_reducible rfl)
              try simp only [Act.put]
              refine wpE_takeF 5 ⟨some 110, _, _, _, _, _⟩ (v := undef) (by decide) rfl (by kernel_rfl) (by kernel_rfl) (by kernel_rfl) (fun _ _ _ h => h) hS (Or.inr ⟨by kernel_rfl, rfl⟩) ?_
              try simp only [Act.put]
              refine wpE_takeF 6 ⟨some 111, _, _, _, _, _⟩ (v := undef) (by decide) rfl (by kernel_rfl) (by kernel_rfl) (by kernel_rfl) (fun _ _ _ h => h) hS (Or.inr ⟨by kernel_rfl, rfl⟩) ?_
              try simp only [Act.put]
              refine wpE_takeF 7 ⟨some 112, _, _, _, _, _⟩ (v := undef) (by decide) rfl (by kernel_rfl) (by kernel_rfl) (by kernel_rfl) (fun _ _ _ h => h) hS (Or.inr ⟨by kernel_rfl, rfl⟩) ?_
              try simp only [Act.put]
              refine wpE_takeF 8 ⟨some 113, _, _, _, _, _⟩ (v := undef) (by decide) rfl (by kernel_rfl) (by kernel_rfl) (by kernel_rfl) (fun _ _ _ h => h) hS (Or.inr ⟨by kernel_rfl, rfl⟩) ?_
              try simp only [Act.put]
              refine wpE_takeF 9 ⟨some 114, _, _, _, _, _⟩ (v := undef) (by decide) rfl (by kernel_rfl) (by kernel_rfl) (by kernel_rfl) (fun _ _ _ h => h) hS (Or.inr ⟨by kernel_rfl, rfl⟩) ?_
              try simp only [Act.put]
              refine wpE_takeF 10 ⟨some 115, _, _, _, _, _⟩ (v := undef) (by decide) rfl (by kernel_rfl) (by kernel_rfl) (by kernel_rfl) (fun _ _ _ h => h) hS (Or.inr ⟨by kernel_rfl, rfl⟩) ?_
              try simp only [Act.put]
              refine wpE_takeF 11 ⟨some 116, _, _, _, _, _⟩ (v := undef) (by decide) rfl (by kernel_rfl) (by kernel_rfl) (by kernel_rfl) (fun _ _ _ h => h) hS (Or.inr ⟨by kernel_rfl, rfl⟩) ?_
              try simp only [Act.put]
              refine wpE_takeF 12 ⟨some 117, _, _, _, _, _⟩ (v := undef) (by decide) rfl (by kernel_rfl) (by kernel_rfl) (by kernel_rfl) (fun _ _ _ h => h) hS (Or.inr ⟨by kernel_rfl, rfl⟩) ?_
              try simp only [Act.put]
              refine wpE_takeF 13 ⟨some 118, _, _, _, _, _⟩ (v := ?_) (by decide) rfl (by kernel_rfl) (by kernel_rfl) (by kernel_rfl) (fun _ _ _ h => h) hS (Or.inl ⟨by kernel_rfl, ?_⟩) ?_
              rotate_left
              · (intro V hSw; go_simp; try with_reducible rfl)
              try simp only [Act.put]
              refine wpE_done (by kernel_rfl) ?_ _
              try simp only [List.setIfInBounds_toArray, List.set_cons_succ, List.set_cons_zero]
              have HBV2 : Hid (Below w4.heap.size w4 V0.drew) := Lib.hid (HBV.out.trans (hS.mono HBV.out.size))
              clear hS
              go_wp2
              rw [HP.out]
              exact ⟨rfl, HB4.out.trans (HBV2.out.mono HB4.out.size)⟩

theorem walks : Walks 7 Tryz.f7 All := by
  intro H enc W base args ds p hval hA hsz _
  rw [Tryz.params7] at hA hval hsz
  obtain ⟨v0, vs0, d0, ds0, p0, q0, hargs, rfl, rfl, h0, r0⟩ := trodAll_cons hA
  obtain ⟨v1, vs1, d1, ds1, p1, q1, rfl, rfl, rfl, h1, r1⟩ := trodAll_cons r0
  obtain ⟨v2, vs2, d2, ds2, p2, q2, rfl, rfl, rfl, h2, r2⟩ := trodAll_cons r1
  obtain ⟨rfl, rfl, rfl⟩ := trodAll_nil r2
  obtain rfl : args = #[v0, v1, v2] := by cases args; simp_all
  obtain ⟨A0, n0, c0, N0, rfl, hN0, hn0, hc0, hz0⟩ := nodes_openS (hval 0 _ v0 rfl rfl) h0 _ (reach_nodes hsz (j := 0) rfl rfl) (weights_nodes hsz (j := 0) rfl rfl)
  obtain ⟨x1, rfl, rfl, rfl, hx1⟩ := open_int Tryz.underlying3 (hval 1 _ v1 rfl rfl) h1
  have bx1 := bounds_i64 hx1
  obtain ⟨x2, rfl, hx2⟩ := deed_by_value (hval 2 _ v2 rfl rfl) h2
  exact walk A0 n0 c0 N0 x1 x2 hx2 W hN0 (by omega) (fun b hb => by have := hz0 b hb; omega)

set_option maxRecDepth 100000 in
theorem proved : Rows.HtreeMeanwhileSaid :=
  OpenClaim.holds_of_wide 7 Tryz.f7 rfl rfl rfl rfl rfl rfl rfl ⟨rfl, rfl, rfl, rfl, rfl⟩ rfl rfl rfl rfl rfl (by kernel_rfl) Tryz.func7 (by kernel_rfl)
    (of_decide_eq_true (by kernel_rfl)) (by unfold Func.isWrapper; first | (rw [if_pos (by decide +kernel)]; kernel_rfl) | (rw [if_neg (by decide +kernel)]; exact ⟨rfl, rfl⟩))
    (fun os started H enc _ => lifted (s := Rows.htreeMeanwhileSpec) walks (by kernel_rfl) rfl rfl (fun H ds hl => by match ds, hl with | [d1, d2, d3], _ => rfl) (by kernel_rfl) Tryz.func7 os started H enc
      (ChangeSpec.witness6 (enc := enc) (C := Tryz.checked) false ⟨#[], #[.slice none 0 0, .int .i64 0, .agg #[.int .i64 0, .string ⟨#[]⟩, .int .i64 0]], []⟩ 8 (by kernel_rfl) (by kernel_rfl) (by kernel_rfl) (by kernel_rfl)))
#print axioms proved

end Go.Proofs.YtbagocghlijleaaGreat.HtreeMeanwhile
