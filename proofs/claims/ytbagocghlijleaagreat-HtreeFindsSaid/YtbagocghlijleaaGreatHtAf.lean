/- After: the program's call. -/
import Derived.Test.YtbagocghlijleaaGreatHtFd
namespace Go.Proofs.YtbagocghlijleaaGreat.Ht
set_option maxRecDepth 20000
open Go.RowKit
open Go.Proofs.YtbagocghlijleaaGreat.Mem Go.Proofs.YtbagocghlijleaaGreat.Crc Go.Proofs.YtbagocghlijleaaGreat.Rec Go.Proofs.YtbagocghlijleaaGreat.Reg Go.Proofs.YtbagocghlijleaaGreat.Lf
attribute [local go_sem ↓] ldE_eq stE_eq ldX_eq stX_eq ldR_eq stR_eq ldQ_eq stQ_eq

theorem cmpE_pos (x y : Nm) : 0 < cmpE x y ↔ bel y.t x.t = true := by
  constructor
  · intro h
    cases hb : bel y.t x.t with
    | true => rfl
    | false =>
      exfalso
      cases hc : bel x.t y.t with
      | true => have := (cmpE_neg x y).2 hc; omega
      | false =>
        have := (cmpE_zero x y).2 (bel_total hc hb)
        omega
  · intro h
    have h1 : ¬ cmpE x y < 0 := fun hn => by
      have := (cmpE_neg x y).1 hn
      rw [bel_asym h] at this
      cases this
    have h2 : cmpE x y ≠ 0 := fun h0 => by
      have := (cmpE_zero x y).1 h0
      rw [this, bel_irrefl] at h
      cases h
    omega
theorem sum_nil : Crc.sum [] = 0 := by decide +kernel
theorem bel_nil {t : List UInt8} (h : t ≠ []) : bel [] t = true := by
  rw [bel_iff, sum_nil]
  rcases Nat.eq_zero_or_pos (Crc.sum t) with h0 | h0
  · right
    refine ⟨h0.symm, ?_⟩
    cases t with
    | nil => exact absurd rfl h
    | cons a l => rfl
  · exact .inl h0
theorem after_plain {d : List (List UInt8)} {T : Leaves} (h : TreeOk d T) (t : List UInt8) (n : Int) : afterT T t n = ((inOrder T).filter fun x => bel t x.t).take n.toNat := by
  unfold afterT
  congr 1
  apply List.filter_congr
  intro x hx
  by_cases ht : t = []
  · rw [ht, bel_nil (h.named hx)]; simp
  · rw [decide_eq_false ht, Bool.false_or]
theorem take_more {α : Type} (p : α → Bool) (L : List α) (x : α) (N : Nat) : ((L ++ [x]).filter p).take N = if ((L.filter p).take N).length < N ∧ p x = true then ((L.filter p).take N) ++ [x] else (L.filter p).take N := by
  rw [List.filter_append]
  cases hp : p x with
  | false => simp [hp]
  | true =>
    have hf : [x].filter p = [x] := by simp [hp]
    rw [hf, List.length_take]
    by_cases h : (L.filter p).length < N
    · rw [if_pos ⟨by omega, rfl⟩, List.take_of_length_le (by rw [List.length_append, List.length_singleton]; omega), List.take_of_length_le (by omega)]
    · rw [if_neg (by omega), List.take_append_of_le_length (by omega)]
def flatE (E : List (List Nm)) : List Nm := E.flatMap id
theorem inOrder_flat (T : Leaves) : inOrder T = flatE (T.map fun p => sortR ordB p.2) := by
  unfold inOrder flatE
  rw [List.flatMap_map]
  rfl
theorem flat_more (E : List (List Nm)) (k : Nat) (hk : k < E.length) : flatE (E.take (k + 1)) = flatE (E.take k) ++ E[k] := by
  unfold flatE
  rw [List.take_succ_eq_append_getElem hk, List.flatMap_append]
  simp

set_option maxRecDepth 100000 in
set_option maxHeartbeats 8000000 in
theorem After_any (A : Option Addr) (n c B : Nat) (d : List (List UInt8)) (t : List UInt8) (ht : t.length ≤ maxLen) (num : Int) (w : World) (h : HoldsN w B A n d) (hB : B ≤ w.heap.size) (hn : n ≤ 5864062014634) (hsz : ∀ b ∈ d, b.length ≤ 140737488355328) :
    Calls Tryz.prog 19 #[.slice A n c, .string ⟨t.toArray⟩, .int .i64 num] w (Names2 w (afterD d t num)) := by
  have hop := opened_any A n c B d w h hB hn hsz
  have HOP := Lib.hid hop; clear hop h hsz
  obtain ⟨post, hpost⟩ : ∃ post, post = Names2 w (afterD d t num) := ⟨_, rfl⟩
  rw [← hpost]
  have HP := Lib.hid hpost; clear hpost
  go_enter Tryz.func19, Tryz.ntmps19
  go_wp2_with fail
  with_reducible refine HOP.out.mono ?_
  rintro E w1 hres
  unfold Opened2 at hres
  clear HOP
  have had : afterD d t num = match readD d with | none => ([], 13) | some T => (afterT T t num, 0) := rfl
  cases hrd : readD d with
  | none =>
    rw [hrd] at hres had
    obtain ⟨rfl, hb⟩ := hres
    have HB := Lib.hid hb; clear hb
    have HAD := Lib.hid had; clear had hrd
    go_wp2
    rw [HP.out]
    unfold Names2
    rw [HAD.out]
    exact ⟨none, 0, rfl, OwnX.nil _ _, HB.out⟩
  | some T =>
    rw [hrd] at hres had
    have HTO := Lib.hid ((readD_iff d T).1 hrd)
    clear hrd
    obtain ⟨g, c1, l, rfl, hra, hb1⟩ := hres
    dsimp only at had
    have HAD := Lib.hid had; clear had
    have HB1 := Lib.hid hb1; clear hb1
    have HRA := Lib.hid hra; clear hra
    obtain ⟨m, hm⟩ : ∃ m, m = T.length := ⟨_, rfl⟩
    rw [← hm] at HRA ⊢
    have hm30 : m ≤ 30 := by rw [hm]; exact HTO.out.few
    have HM := Lib.hid hm; clear hm
    obtain ⟨f, hf⟩ : ∃ f : Nm, f = ⟨t, 0⟩ := ⟨_, rfl⟩
    have hfr : f.rep := by rw [hf]; exact ⟨⟨by show (-9223372036854775808 : Int) ≤ 0; omega, by show (0 : Int) ≤ 9223372036854775807; omega⟩, ht⟩
    have hent := entryOf_any f hfr w1
    have hfc : f.c = #[.string ⟨t.toArray⟩, .int .i64 0] := by rw [hf]; rfl
    have hft : f.t = t := by rw [hf]
    rw [hfc] at hent
    have HENT := Lib.hid hent; clear hent hfc hf hfr
    have HFT := Lib.hid hft; clear hft
    go_wp2_with fail
    with_reducible refine HENT.out.mono ?_
    rintro E w2 ⟨rfl, hb2⟩
    clear HENT
    have hst := run_stE_new w2 f
    unfold zeroE at hst
    obtain ⟨w3, hw3⟩ : ∃ w3, w3 = w2.alloc (.cells (eC f) 68) := ⟨_, rfl⟩
    have hvf : VarE w3 w2.heap.size f := by rw [hw3]; exact VarE.new w2 f
    have hb3 : Below w1.heap.size w1 w3 := by rw [hw3]; exact hb2.alloc hb2.size _
    have hz3 : w3.heap.size = w2.heap.size + 1 := by rw [hw3]; simp
    rw [← hw3] at hst
    obtain ⟨B2, hB2⟩ : ∃ B2, B2 = w3.heap.size := ⟨_, rfl⟩
    have hra3 := HRA.out.below hb3
    have HRA3 := Lib.hid hra3; clear hra3
    have HB3 : Hid (Below w.heap.size w w3) := Lib.hid (HB1.out.trans (hb3.mono HB1.out.size))
    have HVF := Lib.hid hvf; clear hvf hb3 hb2
    have HB2 := Lib.hid hB2
    have HZ3 := Lib.hid hz3; clear hz3
    have HW3 := Lib.hid hw3; clear hw3 hB2
    have hll := HRA3.out.len
    rw [List.length_map] at hll
    have hlm : l.length = m := by have := HM.out; omega
    have HLM := Lib.hid hlm; clear hlm hll
    obtain ⟨EE, hEE⟩ : ∃ EE, EE = T.map fun p => sortR ordB p.2 := ⟨_, rfl⟩
    rw [← hEE] at HRA3
    have hEl : EE.length = m := by rw [hEE, List.length_map]; exact HM.out.symm
    have hE41 : ∀ L ∈ EE, L.length ≤ 41 := fun L hL => by
      rw [hEE] at hL
      obtain ⟨p, hp, rfl⟩ := List.mem_map.1 hL
      rw [sortR_len]
      obtain ⟨h2, h3, _⟩ := leaf_right (HTO.out.leaf p hp)
      have := sizeL_ge _ ((right_iff _).1 h2).1
      omega
    have HEE := Lib.hid hEE; clear hEE
    have HEL := Lib.hid hEl; clear hEl
    have HE41 := Lib.hid hE41; clear hE41
    have HBW : Hid (w.heap.size ≤ B2) := Lib.hid (by have := HB2.out; have := HB3.out.size; omega)
    -- what is told so far
    obtain ⟨told, htold⟩ : ∃ told : List Nm → List Nm, told = fun L => (L.filter fun x => bel t x.t).take num.toNat := ⟨_, rfl⟩
    have htl : ∀ L, (told L).length ≤ L.length := fun L => by rw [htold]; simp only [List.length_take]; have := List.length_filter_le (fun x => bel t x.t) L; omega
    have htm : ∀ L x, told (L ++ [x]) = if ((told L).length : Int) < num ∧ bel t x.t = true then told L ++ [x] else told L := fun L x => by
      rw [htold]
      simp only
      rw [take_more]
      have e : (((L.filter fun x => bel t x.t).take num.toNat).length < num.toNat ∧ bel t x.t = true) ↔ (((((L.filter fun x => bel t x.t).take num.toNat).length : Int)) < num ∧ bel t x.t = true) := by
        constructor
        · rintro ⟨h1, h2⟩; exact ⟨by omega, h2⟩
        · rintro ⟨h1, h2⟩; exact ⟨by omega, h2⟩
      by_cases hc : (((L.filter fun x => bel t x.t).take num.toNat).length < num.toNat ∧ bel t x.t = true)
      · rw [if_pos hc, if_pos (e.1 hc)]
      · rw [if_neg hc, if_neg (fun h => hc (e.2 h))]
    have htn : told [] = [] := by rw [htold]; simp
    have hta : told (flatE EE) = afterT T t num := by rw [after_plain HTO.out, inOrder_flat, htold, HEE.out]
    have HTL := Lib.hid htl; clear htl
    have HTM := Lib.hid htm; clear htm
    have HTN := Lib.hid htn; clear htn
    have HTA := Lib.hid hta; clear hta htold
    go_wp2
    go_loopw [11, 29] (fun s i wr => ∃ (k : Nat) (Av : Option Addr) (cv : Nat), k ≤ m ∧ s = .slice Av (told (flatE (EE.take k))).length cv ∧ i = .int .i64 (k : Int) ∧ OwnX wr B2 (.slice Av (told (flatE (EE.take k))).length cv) (told (flatE (EE.take k))) ∧ (flatE (EE.take k)).length ≤ 41 * k ∧ Below B2 w3 wr) (fun _ i _ => m - (intOf i).toNat)
    case atStart =>
      refine ⟨0, none, 0, Nat.zero_le _, ?_, rfl, ?_, ?_, Below.refl _ _⟩
      · rw [List.take_zero, show flatE [] = [] from rfl, HTN.out]; rfl
      · rw [List.take_zero, show flatE [] = [] from rfl, HTN.out]; exact OwnX.nil _ _
      · rw [List.take_zero]; exact Nat.le_refl _
    case round =>
      obtain ⟨wk, hwk⟩ : ∃ wk, wk = wr := ⟨_, rfl⟩
      subst hwk
      obtain ⟨k, Av, cv, hk, rfl, rfl, hown, hfl, hb⟩ := hrel
      have HB := Lib.hid hb; clear hb
      have HOW := Lib.hid hown; clear hown
      rcases Nat.lt_or_ge k m with hlt | hge
      · have hkl : k < l.length := by have := HLM.out; omega
        have hkE : k < EE.length := by have := HEL.out; omega
        have hb2 := HB2.out
        have hbk : Below w3.heap.size w3 wk := by rw [← hb2]; exact HB.out
        have hrk := HRA3.out.below hbk
        have hld := run_ldR_at (hrk.own.reads RK_ok) k hkl (k * 3) (by omega)
        have hst2 := run_stR_new wk l[k]
        obtain ⟨hen, -⟩ := hrk.ents k hkl hkE
        obtain ⟨x, hx⟩ : ∃ x, x = l[k] := ⟨_, rfl⟩
        rw [← hx] at hld hst2 hen
        obtain ⟨L, hL⟩ : ∃ L, L = EE[k] := ⟨_, rfl⟩
        rw [← hL] at hen
        have hL41 : L.length ≤ 41 := by rw [hL]; exact HE41.out _ (List.getElem_mem _)
        obtain ⟨W1, hW1⟩ : ∃ W1, W1 = wk.alloc (.cells (rC x) 64) := ⟨_, rfl⟩
        have hv1 : VarR W1 wk.heap.size x := by rw [hW1]; exact VarR.new wk x
        have hb1 : Below B2 w3 W1 := by rw [hW1]; exact HB.out.alloc (by have := HB.out.size; omega) _
        have hbW : Below wk.heap.size wk W1 := by rw [hW1]; exact (Below.refl _ wk).alloc (Nat.le_refl _) _
        rw [← hW1] at hst2
        unfold zeroR at hst2
        obtain ⟨-, -, q2⟩ := hv1.cells
        obtain ⟨A5, c5, hyv⟩ := hen.shape
        rw [hyv] at q2 hen
        obtain ⟨q, hq⟩ : ∃ q, q = L.length := ⟨_, rfl⟩
        rw [← hq] at q2 hen hL41
        have hown1 : OwnX W1 B2 (.slice Av (told (flatE (EE.take k))).length cv) (told (flatE (EE.take k))) := HOW.out.below hbW
        have henl : ∀ i, (Value.slice A5 q c5).ownBlock = some i → i < B2 := fun i hi => by
          have h0 := (HRA3.out.ents k hkl hkE).1
          rw [← hx, hyv] at h0
          have := (h0.lt i (by rw [← hq]; exact hi)).2
          omega
        have hen1 : OwnC EN W1 w.heap.size (.slice A5 q c5) L := hen.below hbW
        have hnext : flatE (EE.take (k + 1)) = flatE (EE.take k) ++ L := by rw [flat_more EE k hkE, hL]
        obtain ⟨FL, hFL⟩ : ∃ FL, FL = flatE (EE.take k) := ⟨_, rfl⟩
        rw [← hFL] at hown1 hnext hfl HOW ⊢
        obtain ⟨C, hC⟩ : ∃ C, C = rC x := ⟨_, rfl⟩
        rw [← hC] at hld hst2 hW1
        have HCC := Lib.hid hC; clear hC
        have HQ := Lib.hid hq; clear hq
        have HN := Lib.hid hnext; clear hnext hL hFL
        have HB1' := Lib.hid hb1; clear hb1
        have HOW1 := Lib.hid hown1; clear hown1
        have HEN1 := Lib.hid hen1; clear hen1 hen hrk hbk hbW hv1 hyv
        have HENL := Lib.hid henl; clear henl
        have HW1 := Lib.hid hW1; clear hW1 hx
        have hk2 : (k : Int) < (m : Int) := by omega
        clear hb2
        go_wp2
        go_loopw [11, 36] (fun s i wr => ∃ (j : Nat) (Av : Option Addr) (cv : Nat), j ≤ q ∧ s = .slice Av (told (FL ++ L.take j)).length cv ∧ i = .int .i64 (j : Int) ∧ OwnX wr B2 (.slice Av (told (FL ++ L.take j)).length cv) (told (FL ++ L.take j)) ∧ Below B2 w3 wr ∧ OwnC EN wr w.heap.size (.slice A5 q c5) L) (fun _ i _ => q - (intOf i).toNat)
        case atStart =>
          refine ⟨0, Av, cv, Nat.zero_le _, ?_, rfl, ?_, HB1'.out, HEN1.out⟩
          · rw [List.take_zero, List.append_nil]
          · rw [List.take_zero, List.append_nil]; exact HOW1.out
        case round =>
          obtain ⟨V, hVw⟩ : ∃ V, V = wr := ⟨_, rfl⟩
          subst hVw
          obtain ⟨j, Aj, cj, hj, rfl, rfl, hown, hbV, henV⟩ := hrel
          have HBV := Lib.hid hbV; clear hbV
          have HOV := Lib.hid hown; clear hown
          have HEV := Lib.hid henV; clear henV
          rcases Nat.lt_or_ge j q with hjl | hjg
          · have hjL : j < L.length := by have := HQ.out; omega
            have hev := HEV.out
            obtain ⟨g5, rfl, -, -, -⟩ := hev.form (by have := HQ.out; omega)
            have hld := run_ldE_at (hev.reads EN_ok) j hjL (j * 3) (by omega)
            have hst3 := run_stE_new V L[j]
            obtain ⟨e, he⟩ : ∃ e, e = L[j] := ⟨_, rfl⟩
            rw [← he] at hld hst3
            obtain ⟨V1, hV1⟩ : ∃ V1, V1 = V.alloc (.cells (eC e) 68) := ⟨_, rfl⟩
            have hve : VarE V1 V.heap.size e := by rw [hV1]; exact VarE.new V e
            have hVb : Below V.heap.size V V1 := by rw [hV1]; exact (Below.refl _ V).alloc (Nat.le_refl _) _
            have hbV1 : Below B2 w3 V1 := HBV.out.trans (hVb.mono (by have := HBV.out.size; have := HB2.out; omega))
            have hown1 := HOV.out.below hVb
            have hev1 := hev.below hVb
            rw [← hV1] at hst3
            unfold zeroE at hst3
            have hle := hve.load
            have hlf : (ldE (.pointer (some ⟨w2.heap.size, 0, none⟩))).run Tryz.prog V1 = .ok (.agg (eC f)) V1 := VarE.load ((hbV1.block _ (by have := HB2.out; have := HZ3.out; omega)).trans HVF.out)
            have hord := order_b e f V1
            have hcm : 0 < cmpE e f ↔ bel t e.t = true := by rw [cmpE_pos, HFT.out]
            obtain ⟨cm, hcme⟩ : ∃ cm, cm = cmpE e f := ⟨_, rfl⟩
            rw [← hcme] at hord hcm
            have hnx : FL ++ L.take (j + 1) = (FL ++ L.take j) ++ [e] := by rw [List.take_succ_eq_append_getElem hjL, ← he, List.append_assoc]
            have htm := HTM.out (FL ++ L.take j) e
            rw [← hnx] at htm
            have htl := HTL.out (FL ++ L.take j)
            have htl2 : (FL ++ L.take j).length ≤ 1300 := by rw [List.length_append, List.length_take]; omega
            obtain ⟨TT, hTT⟩ : ∃ TT, TT = told (FL ++ L.take j) := ⟨_, rfl⟩
            rw [← hTT] at htm htl hown1 HOV ⊢
            obtain ⟨tl, htl3⟩ : ∃ tl, tl = TT.length := ⟨_, rfl⟩
            rw [← htl3] at htm htl hown1 HOV ⊢
            have hev1' := hev1
            obtain ⟨Ee, hEe⟩ : ∃ Ee, Ee = eC e := ⟨_, rfl⟩
            rw [← hEe] at hld hst3 hle hord hV1
            have HEE2 := Lib.hid hEe; clear hEe
            have HV1 := Lib.hid hV1; clear hV1 he hnx hTT
            have HVE := Lib.hid hve; clear hve
            have HTL3 := Lib.hid htl3; clear htl3
            have HO1 := Lib.hid hown1; clear hown1
            have HEV1 := Lib.hid hev1; clear hev1 hev hev1'
            have HBV1 := Lib.hid hbV1; clear hbV1 hVb
            have HORD := Lib.hid hord; clear hord
            have HCM := Lib.hid hcm; clear hcm hcme
            have HTMM := Lib.hid htm; clear htm
            have hj2 : (j : Int) < (q : Int) := by omega
            have htl4 : tl ≤ 1300 := by omega
            clear htl htl2
            by_cases hln : (tl : Int) < num
            · go_wp2_with fail
              with_reducible refine HORD.out.mono ?_
              rintro E V2 ⟨rfl, hb2⟩
              have HBV2 : Hid (Below B2 w3 V2) := Lib.hid (HBV1.out.trans (hb2.mono (by have := HBV1.out.size; have := HB2.out; omega)))
              have HO2 := Lib.hid (HO1.out.below hb2)
              have HEV2 := Lib.hid (HEV1.out.below hb2)
              have hle2 : (ldE (.pointer (some ⟨V.heap.size, 0, none⟩))).run Tryz.prog V2 = .ok (.agg (eC e)) V2 := VarE.load ((hb2.block _ HVE.out.lt).trans HVE.out)
              clear hb2 hle hlf hld hst3
              by_cases hcm0 : 0 < cm
              · have hT := HTMM.out
                rw [if_pos ⟨hln, HCM.out.1 hcm0⟩] at hT
                have HT := Lib.hid hT; clear hT
                have htd := told_e e V2
                have hec : e.c = #[.string ⟨e.t.toArray⟩, .int .i64 e.i] := rfl
                rw [hec] at htd
                have HTD := Lib.hid htd; clear htd hec
                obtain ⟨Ee2, hEe2⟩ : ∃ Ee2, Ee2 = eC e := ⟨_, rfl⟩
                rw [← hEe2] at hle2 HTD
                clear hEe2
                go_wp2_with fail
                with_reducible refine HTD.out.mono ?_
                rintro E V3 ⟨rfl, hb3⟩
                have HBV3 : Hid (Below B2 w3 V3) := Lib.hid (HBV2.out.trans (hb3.mono (by have := HBV2.out.size; have := HB2.out; omega)))
                obtain ⟨v4, V4, hrun, ho4, hg4⟩ := run_appX V3 B2 (.slice Aj tl cj) TT (HO2.out.below hb3) e 38 (by have := HTL3.out; omega) (by have := HBV3.out.size; have := HB2.out; omega)
                obtain ⟨A4, c4, rfl⟩ := ho4.shape
                have hlen4 : (TT ++ [e]).length = tl + 1 := by rw [List.length_append, HTL3.out]; rfl
                have HBV4 : Hid (Below B2 w3 V4) := Lib.hid (HBV3.out.trans (hg4.below (by have := HBV3.out.size; have := HB2.out; omega) (fun i hi => (HO2.out.lt i hi).1)))
                have HEV4 : Hid (OwnC EN V4 w.heap.size (.slice (some ⟨g5, 0, none⟩) q c5) L) := Lib.hid ((HEV2.out.below hb3).kept (fun i hi => hg4.1.block i (((HEV2.out.below hb3).lt i hi).2) (fun e2 => by have := HENL.out i hi; have := (HO2.out.lt i e2.symm).1; omega)))
                rw [← HT.out] at ho4 hlen4 hrun
                have HO4 := Lib.hid ho4; clear ho4 hg4 hb3 hle2
                rw [hlen4] at hrun
                have HL4 := Lib.hid hlen4; clear hlen4
                go_wp2_with (at_builtin; refine wpList_apprun rfl _ _ _ _ (by rfl) _ _ (by rfl) (by rfl) _ _ hrun ?_)
                clear hrun
                go_wp2
                go_roundw
                case rel => exact ⟨j + 1, A4, c4, by omega, by rw [HL4.out], by go_num, HO4.out, HBV4.out, HEV4.out⟩
                case measure => simp [intOf]; omega
              · have hT := HTMM.out
                rw [if_neg (fun h => hcm0 (HCM.out.2 h.2))] at hT
                have HT := Lib.hid hT; clear hT
                go_wp2
                go_roundw
                case rel => exact ⟨j + 1, Aj, cj, by omega, by rw [HT.out, HTL3.out], by go_num, by rw [HT.out, ← HTL3.out]; exact HO2.out, HBV2.out, HEV2.out⟩
                case measure => simp [intOf]; omega
            · have hT := HTMM.out
              rw [if_neg (fun h => hln h.1)] at hT
              have HT := Lib.hid hT; clear hT
              go_wp2
              go_roundw
              case rel => exact ⟨j + 1, Aj, cj, by omega, by rw [HT.out, HTL3.out], by go_num, by rw [HT.out, ← HTL3.out]; exact HO1.out, HBV1.out, HEV1.out⟩
              case measure => simp [intOf]; omega
          · obtain rfl : j = q := by omega
            have htk : FL ++ L.take j = FL ++ L := by rw [List.take_of_length_le (by have := HQ.out; omega)]
            have hov := HOV.out
            rw [htk] at hov ⊢
            rw [← HN.out] at hov ⊢
            have HOVV := Lib.hid hov; clear hov
            have hjj : ¬ (j : Int) < (j : Int) := by omega
            have HFL2 : Hid ((flatE (EE.take (k + 1))).length ≤ 41 * (k + 1)) := Lib.hid (by rw [HN.out, List.length_append]; have := HQ.out; omega)
            go_wp2
            go_roundw
            case rel => exact ⟨k + 1, Aj, cj, by omega, rfl, by go_num, HOVV.out, HFL2.out, HBV.out⟩
            case measure => simp [intOf]; omega
      · obtain rfl : k = m := by omega
        have htk : EE.take k = EE := List.take_of_length_le (by have := HEL.out; omega)
        have hov := HOW.out
        rw [htk, HTA.out] at hov ⊢
        have HOVV : Hid (OwnX wk w.heap.size (.slice Av (afterT T t num).length cv) (afterT T t num)) := Lib.hid (hov.mono HBW.out)
        have HBF : Hid (Below w.heap.size w wk) := Lib.hid (HB3.out.trans (HB.out.mono HBW.out))
        clear hov htk
        have hkk : ¬ (k : Int) < (k : Int) := by omega
        obtain ⟨LL, hLL⟩ : ∃ LL, LL = (afterT T t num).length := ⟨_, rfl⟩
        rw [← hLL] at HOVV ⊢
        have HLL := Lib.hid hLL; clear hLL
        go_wp2
        rw [HP.out]
        unfold Names2
        rw [HAD.out]
        exact ⟨Av, cv, by rw [← HLL.out], by rw [← HLL.out]; exact HOVV.out, HBF.out⟩
end Go.Proofs.YtbagocghlijleaaGreat.Ht
