/- The document's Set: a list without the name, the attribute carried down into its place. -/
import Derived.Test.YtbagocghlijleaaAtRDo
namespace Go.Proofs.Ytbagocghlijleaa.Reg
open Go
section
variable {P : Program} {ops : Array Oper} {Q : Exit → Act → World → Prop} {md : Region.Mode} {S : World → Prop} {st : Nat}
/-- Two may come up, each of which is taken first. -/
theorem wpE_two (i j : Nat) {oi oj : Oper} {fuel : Nat} {listed : Array Bool} {a : Act} {w : World} (hr : Region.ready md ops listed = [i, j]) (hoi : ops[i]? = some oi) (hoj : ops[j]? = some oj)
    (h1 : ∀ K' : Act → World → Prop, Shut (∀ a w, S w → (S w → wpAnyE P md ops Q S st fuel (listed.setIfInBounds i true) a w) → K' a w) → if Region.wanted oi (yielded ops a.tmps) = true then Oper.wp P oi a w K' Q else K' (a.put oi.dst undef) w)
    (h2 : ∀ K' : Act → World → Prop, Shut (∀ a w, S w → (S w → wpAnyE P md ops Q S st fuel (listed.setIfInBounds j true) a w) → K' a w) → if Region.wanted oj (yielded ops a.tmps) = true then Oper.wp P oj a w K' Q else K' (a.put oj.dst undef) w) :
    wpAnyE P md ops Q S st (fuel + 1) listed a w :=
  ⟨fun e => (by rw [hr] at e; cases e), fun k hk => by
    rw [hr] at hk
    simp only [List.mem_cons, List.not_mem_nil, or_false] at hk
    rcases hk with rfl | rfl
    · exact wpOp_step hoi (fun K' hK => h1 K' (fun a w hS hW => hK a w ⟨.inr hS, hW hS⟩))
    · exact wpOp_step hoj (fun K' hK => h2 K' (fun a w hS hW => hK a w ⟨.inr hS, hW hS⟩))⟩
end
end Go.Proofs.Ytbagocghlijleaa.Reg
namespace Go.Proofs.Ytbagocghlijleaa.At
set_option maxRecDepth 20000
set_option linter.unusedSimpArgs false
open Go.RowKit
open Go.Proofs.Ytbagocghlijleaa.Mem Go.Proofs.Ytbagocghlijleaa.Crc Go.Proofs.Ytbagocghlijleaa.Rec Go.Proofs.Ytbagocghlijleaa.Reg
open Go.Proofs.Ytbagocghlijleaa.Lf (less)
attribute [local go_sem ↓] ldX_eq stX_eq

theorem run_lss (P S : ByteArray) (V : World) : (binOp .lss 9 (.string P) (.string S)).run Try.prog V = .ok (.bool (Op.bytesLess P.toList S.toList)) V := by simp [binOp, Op.stringOp]
/-- Two neighbours of an own row change places. -/
theorem swap_own {w : World} {base g n cap : Nat} {W : List Pr} {p : Pr} (j : Nat) (hj : j < W.length) (h : OwnX w base (.slice (some ⟨g, 0, none⟩) n cap) (bubL W p (j + 1))) :
    ∃ w1 w2, (stX (.pointer (some ⟨g, (j + 1) * 2, none⟩)) (.agg (W[j]).c)).run Try.prog w = .ok () w1 ∧ (stX (.pointer (some ⟨g, j * 2, none⟩)) (.agg p.c)).run Try.prog w1 = .ok () w2 ∧ OwnX w2 base (.slice (some ⟨g, 0, none⟩) n cap) (bubL W p j) ∧ w.grownBy w1 (some g) ∧ w1.grownBy w2 (some g) := by
  obtain ⟨w1, s1, o1, g1, z1⟩ := put_own PK_ok (ownPK.2 h) (j + 1) (by rw [bubL_len]; omega) W[j] (W[j]).c rfl ((j + 1) * 2) rfl
  obtain ⟨w2, s2, o2, g2, z2⟩ := put_own PK_ok o1 j (by rw [List.length_set, bubL_len]; omega) p p.c rfl (j * 2) rfl
  rw [bubL_swap W p j hj] at o2
  exact ⟨w1, w2, s1, s2, o2, g1, g2⟩

set_option maxRecDepth 100000 in
set_option maxHeartbeats 16000000 in
theorem rSet_any (A : Option Addr) (n c B : Nat) (l : List Pr) (p : Pr) (w : World) (h : HoldsX w B A n l) (hB : B ≤ w.heap.size) (hn : n ≤ 4398046510976) :
    Calls Try.prog 10 #[.slice A n c, .agg p.c] w (Pairs2 w (setL l p)) := by
  have hln := h.1
  obtain ⟨post, hpost⟩ : ∃ post, post = Pairs2 w (setL l p) := ⟨_, rfl⟩
  rw [← hpost]
  have HP := Lib.hid hpost; clear hpost
  obtain ⟨W0, hW0⟩ : ∃ W0, W0 = w.alloc (.cells p.c 24) := ⟨_, rfl⟩
  have hv0 : VarX W0 w.heap.size p := by rw [hW0]; exact VarX.new w p
  have hb0 : Below w.heap.size w W0 := by rw [hW0]; exact (Below.refl _ w).alloc (Nat.le_refl _) _
  have hh : ∀ V, Below w.heap.size w V → HoldsX V B A n l ∧ B ≤ V.heap.size := fun V hV => ⟨h.below (hV.mono hB), Nat.le_trans hB hV.size⟩
  have HH := Lib.hid hh; clear hh h
  have HLN := Lib.hid hln; clear hln
  obtain ⟨S, hS⟩ : ∃ S : ByteArray, S = ⟨p.t.toArray⟩ := ⟨_, rfl⟩
  obtain ⟨U, hU⟩ : ∃ U : ByteArray, U = ⟨p.v.toArray⟩ := ⟨_, rfl⟩
  have hSd : S.data.toList = p.t := by rw [hS]
  have hSl : S.toList = p.t := by rw [hS, text_list]
  have hX : p.c = #[.string S, .string U] := by rw [hS, hU]; rfl
  have hvar : ∀ V, VarX V w.heap.size p → (ldX (.pointer (some ⟨w.heap.size, 0, none⟩))).run Try.prog V = .ok (.agg #[.string S, .string U]) V ∧ V.cell? ⟨w.heap.size, 0, none⟩ = some (.string S) := fun V hV => ⟨by rw [← hX]; exact hV.load, by rw [hS]; exact hV.cells.1⟩
  have hmay := fun V => rmay_any p V
  have happ := fun (W : World) (base : Nat) (v : Value) (L : List Pr) (ho : OwnX W base v L) (h1 : L.length + 1 ≤ 4398046511104) (h2 : base ≤ W.heap.size) => run_appX W base v L ho p 22 h1 h2
  simp only [← hS, ← hU] at happ
  have hwo := fun V (hV : Below w.heap.size w V) => rwithout_any A n c B l S V (HH.out V hV).1 (HH.out V hV).2 hn
  simp only [hSd] at hwo
  have hright := rright_any A n c B l W0 (HH.out W0 hb0).1 (HH.out W0 hb0).2 (by omega)
  rw [hX] at hW0 ⊢
  simp only [hX] at hmay
  have HXE := Lib.hid hX; clear hX
  have HAPP := Lib.hid happ; clear happ
  have HWO := Lib.hid hwo; clear hwo
  have HVAR := Lib.hid hvar; clear hvar
  have HMAY := Lib.hid hmay; clear hmay
  have HSE := Lib.hid hS; clear hS
  have HUE := Lib.hid hU; clear hU
  have HSD := Lib.hid hSd; clear hSd
  have HSL := Lib.hid hSl; clear hSl
  have HV0 := Lib.hid hv0; clear hv0
  have HB0 := Lib.hid hb0; clear hb0
  have HW0 := Lib.hid hW0; clear hW0
  obtain ⟨gx, hgx⟩ : ∃ gx, gx = w.heap.size := ⟨_, rfl⟩
  have HGX := Lib.hid hgx; clear hgx
  rw [← HGX.out] at HVAR HV0
  have HRIGHT := Lib.hid hright; clear hright
  go_enter Try.func10, Try.ntmps10
  go_wp2_with fail
  rw [← HW0.out, ← HGX.out]
  with_reducible refine HRIGHT.out.mono ?_
  rintro E1 w1 ⟨rfl, hb1⟩
  have HB1 : Hid (Below w.heap.size w w1) := Lib.hid (HB0.out.trans (hb1.mono HB0.out.size))
  have HV1 : Hid (VarX w1 gx p) := Lib.hid (HV0.out.keep hb1 HV0.out.lt)
  clear hb1 HV0 HRIGHT HW0
  obtain ⟨rt, hrt⟩ : ∃ rt, rt = right l := ⟨_, rfl⟩
  rw [← hrt]
  cases rt with
  | false =>
    have HE := Lib.hid (set_one p hrt.symm)
    clear hrt
    go_wp2
    rw [HP.out, HE.out]
    exact ⟨none, 0, rfl, OwnX.nil _ _, HB1.out⟩
  | true =>
  have HR : Hid (right l = true) := Lib.hid hrt.symm
  clear hrt
  obtain ⟨q0, -⟩ := HVAR.out w1 HV1.out
  go_wp2_with fail
  with_reducible refine (HMAY.out w1).mono ?_
  rintro E2 w2 ⟨rfl, hb2⟩
  have HB2 : Hid (Below w.heap.size w w2) := Lib.hid (HB1.out.trans (hb2.mono HB1.out.size))
  have HV2 : Hid (VarX w2 gx p) := Lib.hid (HV1.out.keep hb2 HV1.out.lt)
  clear hb2 HV1 q0
  obtain ⟨ok, hok⟩ : ∃ ok, ok = okP p := ⟨_, rfl⟩
  rw [← hok]
  cases ok with
  | false =>
    have HE := Lib.hid (set_two (l := l) hok.symm)
    clear hok
    go_wp2
    rw [HP.out, HE.out]
    exact ⟨none, 0, rfl, OwnX.nil _ _, HB2.out⟩
  | true =>
  have HOK : Hid (okP p = true) := Lib.hid hok.symm
  clear hok
  obtain ⟨-, q1⟩ := HVAR.out w2 HV2.out
  go_wp2_with fail
  with_reducible refine (HWO.out w2 HB2.out).mono ?_
  rintro E3 w3 ⟨A3, c3, rfl, ho3, hb3⟩
  have HB3 : Hid (Below w.heap.size w w3) := Lib.hid (HB2.out.trans (hb3.mono HB2.out.size))
  have HV3 : Hid (VarX w3 gx p) := Lib.hid (HV2.out.keep hb3 HV2.out.lt)
  have hz23 := hb3.size
  have hwl := woL_len l p.t
  have hbub := fun k hk h2 h1 => bubL_put HR.out HOK.out k hk h2 h1
  have hne : ∀ x ∈ woL l p.t, x.t ≠ p.t := fun x hx => ((woL_mem l p.t x).1 hx).2
  have HRP : Hid (right (putA l p) = true) := Lib.hid (right_put HR.out HOK.out)
  clear hb3 HV2 q1 HWO
  generalize woL l p.t = W at ho3 hwl hbub hne ⊢
  have HBUB := Lib.hid hbub; clear hbub
  have hll := HLN.out
  generalize decide (W.length < l.length) = dd
  obtain ⟨v4, w4, hrun, ho4, hgr⟩ := HAPP.out w3 w2.heap.size _ W ho3 (by omega) hz23
  rw [← bubL_end] at ho4
  obtain ⟨A4, c5, rfl⟩ := ho4.shape
  rw [bubL_len] at ho4 hrun hgr
  obtain ⟨N, hN⟩ : ∃ N, N = W.length + 1 := ⟨_, rfl⟩
  rw [← hN] at ho4 hrun hgr
  obtain ⟨g, rfl, hg1, hg2, -⟩ := OwnC.form (ownPK.2 ho4) (by omega)
  have HB4 : Hid (Below w.heap.size w w4) := Lib.hid (HB3.out.trans (hgr.below HB3.out.size (fun i hi => Nat.le_trans HB2.out.size (ho3.lt i hi).1)))
  have HO4 : Hid (OwnX w4 w.heap.size (.slice (some ⟨g, 0, none⟩) N c5) (bubL W p W.length)) := Lib.hid (ho4.mono HB2.out.size)
  have hgw : w.heap.size ≤ g := Nat.le_trans HB2.out.size hg1
  obtain ⟨q0, -⟩ := HVAR.out w3 HV3.out
  obtain ⟨wl, hwl2⟩ : ∃ wl, wl = W.length := ⟨_, rfl⟩
  rw [← hwl2] at hrun HO4 hN hwl ⊢
  have hNl : N ≤ 4398046511104 := by omega
  have HWL := Lib.hid hwl2
  have hwN : IntKind.i64.wrap ((N : Int) - 1) = (wl : Int) := by rw [IntKind.wrap_i64]; omega
  have HN2 := Lib.hid hN
  clear ho3 ho4 hgr hg1 hg2 hll hwl hN hwl2 hz23
  go_wp2_with (at_builtin; refine wpList_apprun rfl _ _ _ _ (by rfl) _ _ (by rfl) (by rfl) _ _ hrun ?_)
  clear hrun q0
  go_wp2
  go_loopw [8] (fun i wr => ∃ k : Nat, k ≤ wl ∧ i = .int .i64 (k : Int) ∧ OwnX wr w.heap.size (.slice (some ⟨g, 0, none⟩) N c5) (bubL W p k) ∧ (∀ y ∈ W.drop k, less p.t y.t = true) ∧ Below w.heap.size w wr) (fun i _ => (intOf i).toNat)
  case atStart => exact ⟨wl, Nat.le_refl _, by go_num, HO4.out, fun y hy => (by rw [HWL.out, List.drop_length] at hy; cases hy), HB4.out⟩
  case round =>
    obtain ⟨U0, hU0⟩ : ∃ U0, U0 = wr := ⟨_, rfl⟩
    subst hU0
    obtain ⟨k, hk, hik, hown, hless, hbr⟩ := hrel
    have HO := Lib.hid hown; clear hown
    have HBR := Lib.hid hbr; clear hbr
    have HLESS := Lib.hid hless; clear hless
    rcases k with _ | j
    · obtain rfl : _ = Value.int .i64 0 := hik
      go_wp2
      refine wp_region_E (fun V => Below U0.heap.size U0 V) 99 rfl ?_
      have hS := (show Below U0.heap.size U0 U0.drew from (Below.refl _ U0).drew)
      refine wpE_takeF 0 ⟨some 31, _, _, _, _, _⟩ (v := ?_) (by decide) rfl (by kernel_rfl) (by kernel_rfl) (by kernel_rfl) (fun _ _ _ h => h) hS (Or.inl ⟨by kernel_rfl, ?_⟩) ?_
      rotate_left
      · (intro V hSw; go_simp; try with_reducible rfl)
      try simp only [Act.put]
      refine wpE_takeF 1 ⟨some 32, _, _, _, _, _⟩ (v := ?_) (by decide) rfl (by kernel_rfl) (by kernel_rfl) (by kernel_rfl) (fun _ _ _ h => h) hS (Or.inl ⟨by kernel_rfl, ?_⟩) ?_
      rotate_left
      · (intro V hSw; go_simp; try with_reducible rfl)
      try simp only [Act.put]
      refine wpE_takeF 2 ⟨some 33, _, _, _, _, _⟩ (v := ?_) (by decide) rfl (by kernel_rfl) (by kernel_rfl) (by kernel_rfl) (fun _ _ _ h => h) hS (Or.inl ⟨by kernel_rfl, ?_⟩) ?_
      rotate_left
      · (intro V hSw; go_simp; try with_reducible rfl)
      try simp only [Act.put]
      refine wpE_takeF 3 ⟨some 34, _, _, _, _, _⟩ (v := undef) (by decide) rfl (by kernel_rfl) (by kernel_rfl) (by kernel_rfl) (fun _ _ _ h => h) hS (Or.inr ⟨by kernel_rfl, rfl⟩) ?_
      try simp only [Act.put]
      refine wpE_takeF 4 ⟨some 35, _, _, _, _, _⟩ (v := undef) (by decide) rfl (by kernel_rfl) (by kernel_rfl) (by kernel_rfl) (fun _ _ _ h => h) hS (Or.inr ⟨by kernel_rfl, rfl⟩) ?_
      try simp only [Act.put]
      refine wpE_takeF 5 ⟨some 36, _, _, _, _, _⟩ (v := undef) (by decide) rfl (by kernel_rfl) (by kernel_rfl) (by kernel_rfl) (fun _ _ _ h => h) hS (Or.inr ⟨by kernel_rfl, rfl⟩) ?_
      try simp only [Act.put]
      refine wpE_takeF 6 ⟨some 37, _, _, _, _, _⟩ (v := undef) (by decide) rfl (by kernel_rfl) (by kernel_rfl) (by kernel_rfl) (fun _ _ _ h => h) hS (Or.inr ⟨by kernel_rfl, rfl⟩) ?_
      try simp only [Act.put]
      refine wpE_takeF 7 ⟨some 38, _, _, _, _, _⟩ (v := undef) (by decide) rfl (by kernel_rfl) (by kernel_rfl) (by kernel_rfl) (fun _ _ _ h => h) hS (Or.inr ⟨by kernel_rfl, rfl⟩) ?_
      try simp only [Act.put]
      refine wpE_takeF 8 ⟨some 39, _, _, _, _, _⟩ (v := undef) (by decide) rfl (by kernel_rfl) (by kernel_rfl) (by kernel_rfl) (fun _ _ _ h => h) hS (Or.inr ⟨by kernel_rfl, rfl⟩) ?_
      try simp only [Act.put]
      refine wpE_takeF 9 ⟨some 40, _, _, _, _, _⟩ (v := undef) (by decide) rfl (by kernel_rfl) (by kernel_rfl) (by kernel_rfl) (fun _ _ _ h => h) hS (Or.inr ⟨by kernel_rfl, rfl⟩) ?_
      try simp only [Act.put]
      refine wpE_takeF 10 ⟨some 41, _, _, _, _, _⟩ (v := undef) (by decide) rfl (by kernel_rfl) (by kernel_rfl) (by kernel_rfl) (fun _ _ _ h => h) hS (Or.inr ⟨by kernel_rfl, rfl⟩) ?_
      try simp only [Act.put]
      refine wpE_takeF 11 ⟨some 42, _, _, _, _, _⟩ (v := undef) (by decide) rfl (by kernel_rfl) (by kernel_rfl) (by kernel_rfl) (fun _ _ _ h => h) hS (Or.inr ⟨by kernel_rfl, rfl⟩) ?_
      try simp only [Act.put]
      refine wpE_takeF 12 ⟨some 43, _, _, _, _, _⟩ (v := undef) (by decide) rfl (by kernel_rfl) (by kernel_rfl) (by kernel_rfl) (fun _ _ _ h => h) hS (Or.inr ⟨by kernel_rfl, rfl⟩) ?_
      try simp only [Act.put]
      refine wpE_takeF 13 ⟨some 44, _, _, _, _, _⟩ (v := undef) (by decide) rfl (by kernel_rfl) (by kernel_rfl) (by kernel_rfl) (fun _ _ _ h => h) hS (Or.inr ⟨by kernel_rfl, rfl⟩) ?_
      try simp only [Act.put]
      refine wpE_takeF 14 ⟨some 45, _, _, _, _, _⟩ (v := undef) (by decide) rfl (by kernel_rfl) (by kernel_rfl) (by kernel_rfl) (fun _ _ _ h => h) hS (Or.inr ⟨by kernel_rfl, rfl⟩) ?_
      try simp only [Act.put]
      refine wpE_takeF 15 ⟨some 46, _, _, _, _, _⟩ (v := ?_) (by decide) rfl (by kernel_rfl) (by kernel_rfl) (by kernel_rfl) (fun _ _ _ h => h) hS (Or.inl ⟨by kernel_rfl, ?_⟩) ?_
      rotate_left
      · (intro V hSw; go_simp; try with_reducible rfl)
      try simp only [Act.put]
      refine wpE_done (by kernel_rfl) ?_ _
      try simp only [List.setIfInBounds_toArray, List.set_cons_succ, List.set_cons_zero]
      have hNk := HN2.out
      have hWk := HWL.out
      have HB5 : Hid (Below w.heap.size w U0.drew) := Lib.hid (HBR.out.drew)
      have HO5 : Hid (OwnX U0.drew w.heap.size (.slice (some ⟨g, 0, none⟩) N c5) (bubL W p 0)) := Lib.hid (HO.out.below (below_drew (Below.refl _ _)))
      generalize U0.drew = w5 at HB5 HO5 ⊢
      have HMP : Hid (bubL W p 0 = putA l p) := Lib.hid (HBUB.out 0 (by omega) HLESS.out (by exact .inl rfl))
      have HML : Hid (N = (bubL W p 0).length) := Lib.hid (by rw [bubL_len]; omega)
      generalize bubL W p 0 = M at HO5 HMP HML
      clear hNk hWk
      have HRM : Hid (right M = true) := Lib.hid (by rw [HMP.out]; exact HRP.out)
      have hfit := rfits_any (some ⟨g, 0, none⟩) N c5 w5.heap.size M w5 HO5.out.reads (Nat.le_refl _) (((right_iff M).1 HRM.out).1) (by omega)
      have HFIT := Lib.hid hfit; clear hfit
      go_wp2_with fail
      with_reducible refine HFIT.out.mono ?_
      rintro E6 w6 ⟨rfl, hb6⟩
      have HB6 : Hid (Below w.heap.size w w6) := Lib.hid (HB5.out.trans (hb6.mono HB5.out.size))
      have HO6 := Lib.hid (HO5.out.below hb6)
      clear hb6 HFIT
      by_cases hz : sizeL M ≤ 250
      · rw [decide_eq_true hz]
        have HE : Hid (setL l p = (M, 0)) := Lib.hid (by rw [HMP.out] at hz ⊢; exact set_yes HR.out HOK.out hz)
        clear hz
        go_wp2
        rw [HP.out, HE.out]
        unfold Pairs2
        dsimp only
        rw [← HML.out]
        exact ⟨(some ⟨g, 0, none⟩), c5, rfl, HO6.out, HB6.out⟩
      · rw [decide_eq_false hz]
        have HE : Hid (setL l p = ([], 15)) := Lib.hid (by rw [HMP.out] at hz; exact set_far HR.out HOK.out hz)
        clear hz
        go_wp2
        rw [HP.out, HE.out]
        exact ⟨none, 0, rfl, OwnX.nil _ _, HB6.out⟩
    · subst hik
      have hNk := HN2.out
      have hWk := HWL.out
      have hjl : j < W.length := by omega
      have hreads := HO.out.reads
      obtain ⟨e, he⟩ : ∃ e, e = W[j] := ⟨_, rfl⟩
      have hle : (bubL W p (j + 1)).length = N := by rw [bubL_len]; omega
      have hgj : (bubL W p (j + 1))[j]'(by omega) = e := by
        have := bubL_ahead W p j hjl
        rw [List.getElem?_eq_getElem (by omega)] at this
        rw [he]; injection this
      have hgk : (bubL W p (j + 1))[j + 1]'(by omega) = p := by
        have := bubL_at W p (j + 1) (by omega)
        rw [List.getElem?_eq_getElem (by omega)] at this
        injection this
      obtain ⟨P, hP⟩ : ∃ P : ByteArray, P = ⟨e.t.toArray⟩ := ⟨_, rfl⟩
      obtain ⟨Y, hY⟩ : ∃ Y, Y = e.c := ⟨_, rfl⟩
      have hPl : P.toList = e.t := by rw [hP, text_list]
      have hcells : ∀ V, Below U0.heap.size U0 V → V.cell? ⟨g, (j + 1) * 2, none⟩ = some (.string S) ∧ V.cell? ⟨g, j * 2, none⟩ = some (.string P) := fun V hV => by
        have h1 := ((hreads.below hV).cell j (by omega)).1
        have h2 := ((hreads.below hV).cell (j + 1) (by omega)).1
        rw [hgj, Nat.zero_add] at h1
        rw [hgk, Nat.zero_add] at h2
        rw [hP, HSE.out]
        exact ⟨h2, h1⟩
      have qq0 : (ldX (.pointer (some ⟨g, j * 2, none⟩))).run Try.prog U0.drew.drew = .ok (.agg Y) U0.drew.drew := by
        have := run_ldX_at (hreads.below (below_drew (below_drew (Below.refl _ _)))) j (by omega) (j * 2) (by omega)
        rw [hgj, ← hY] at this
        exact this
      have qq1 : (ldX (.pointer (some ⟨g, (j + 1) * 2, none⟩))).run Try.prog U0.drew.drew = .ok (.agg #[.string S, .string U]) U0.drew.drew := by
        have := run_ldX_at (hreads.below (below_drew (below_drew (Below.refl _ _)))) (j + 1) (by omega) ((j + 1) * 2) (by omega)
        rw [hgk, HXE.out] at this
        exact this
      have HS := Lib.hid hcells; clear hcells
      have HQ0 := Lib.hid qq0; clear qq0
      have HQ1 := Lib.hid qq1; clear qq1
      obtain ⟨w6, w7, hst1, hst2, ho7, hg6, hg7⟩ := swap_own j hjl (HO.out.below (below_drew (below_drew (Below.refl _ _))))
      rw [← he, ← hY] at hst1
      rw [HXE.out] at hst2
      have HB7 : Hid (Below w.heap.size w w7) := Lib.hid ((HBR.out.drew.drew.grown hg6 HBR.out.drew.drew.size (fun i hi => by injection hi with hi; omega)).grown hg7 (HBR.out.drew.drew.grown hg6 HBR.out.drew.drew.size (fun i hi => by injection hi with hi; omega)).size (fun i hi => by injection hi with hi; omega))
      have HO7 := Lib.hid ho7; clear ho7 hg6 hg7
      have HST1 := Lib.hid hst1; clear hst1
      have HST2 := Lib.hid hst2; clear hst2
      have hwj : IntKind.i64.wrap (j : Int) = (j : Int) := by rw [IntKind.wrap_i64]; omega
      have hj0 : (0 : Int) ≤ (j : Int) := by omega
      have hjn : (j : Int) < (N : Int) := by omega
      have hj1 : (0 : Int) ≤ (j : Int) + 1 := by omega
      have hjn1 : (j : Int) + 1 < (N : Int) := by omega
      have hjp : (0 : Int) < (j : Int) + 1 := by omega
      obtain ⟨q, hq⟩ : ∃ q, Op.bytesLess S.toList P.toList = q := ⟨_, rfl⟩
      have HQ : Hid (less p.t e.t = q) := Lib.hid (by rw [← hq, HSL.out, hPl]; rfl)
      have HEW : Hid (W.getD j p0 = e) := Lib.hid (by rw [getD_at hjl, he])
      have hdrop : W.drop j = e :: W.drop (j + 1) := by rw [he]; exact List.drop_eq_getElem_cons hjl
      have HDROP := Lib.hid hdrop
      clear hPl hP hY he hreads hgj hgk hle hdrop hNk hWk
      go_wp2
      cases q with
      | false =>
        refine wp_region_E (fun V => Below U0.heap.size U0 V) 99 rfl ?_
        have hS := (show Below U0.heap.size U0 U0.drew from (Below.refl _ U0).drew)
        refine wpE_takeF 0 ⟨some 31, _, _, _, _, _⟩ (v := ?_) (by decide) rfl (by kernel_rfl) (by kernel_rfl) (by kernel_rfl) (fun _ _ _ h => h) hS (Or.inl ⟨by kernel_rfl, ?_⟩) ?_
        rotate_left
        · (intro V hSw; obtain ⟨hq0, hq1⟩ := HS.out V hSw; go_simp; try with_reducible rfl)
        try simp only [Act.put]
        refine wpE_takeF 1 ⟨some 32, _, _, _, _, _⟩ (v := ?_) (by decide) rfl (by kernel_rfl) (by kernel_rfl) (by kernel_rfl) (fun _ _ _ h => h) hS (Or.inl ⟨by kernel_rfl, ?_⟩) ?_
        rotate_left
        · (intro V hSw; obtain ⟨hq0, hq1⟩ := HS.out V hSw; go_simp; try with_reducible rfl)
        try simp only [Act.put]
        refine wpE_takeF 2 ⟨some 33, _, _, _, _, _⟩ (v := ?_) (by decide) rfl (by kernel_rfl) (by kernel_rfl) (by kernel_rfl) (fun _ _ _ h => h) hS (Or.inl ⟨by kernel_rfl, ?_⟩) ?_
        rotate_left
        · (intro V hSw; obtain ⟨hq0, hq1⟩ := HS.out V hSw; go_simp; try with_reducible rfl)
        try simp only [Act.put]
        refine wpE_takeF 3 ⟨some 34, _, _, _, _, _⟩ (v := ?_) (by decide) rfl (by kernel_rfl) (by kernel_rfl) (by kernel_rfl) (fun _ _ _ h => h) hS (Or.inl ⟨by kernel_rfl, ?_⟩) ?_
        rotate_left
        · (intro V hSw; obtain ⟨hq0, hq1⟩ := HS.out V hSw; go_simp; try with_reducible rfl)
        try simp only [Act.put]
        refine wpE_takeF 4 ⟨some 35, _, _, _, _, _⟩ (v := ?_) (by decide) rfl (by kernel_rfl) (by kernel_rfl) (by kernel_rfl) (fun _ _ _ h => h) hS (Or.inl ⟨by kernel_rfl, ?_⟩) ?_
        rotate_left
        · (intro V hSw; obtain ⟨hq0, hq1⟩ := HS.out V hSw; go_simp; try with_reducible rfl)
        try simp only [Act.put]
        refine wpE_takeF 5 ⟨some 36, _, _, _, _, _⟩ (v := ?_) (by decide) rfl (by kernel_rfl) (by kernel_rfl) (by kernel_rfl) (fun _ _ _ h => h) hS (Or.inl ⟨by kernel_rfl, ?_⟩) ?_
        rotate_left
        · (intro V hSw; obtain ⟨hq0, hq1⟩ := HS.out V hSw; go_simp; try with_reducible rfl)
        try simp only [Act.put]
        refine wpE_takeF 6 ⟨some 37, _, _, _, _, _⟩ (v := ?_) (by decide) rfl (by kernel_rfl) (by kernel_rfl) (by kernel_rfl) (fun _ _ _ h => h) hS (Or.inl ⟨by kernel_rfl, ?_⟩) ?_
        rotate_left
        · (intro V hSw; obtain ⟨hq0, hq1⟩ := HS.out V hSw; go_simp; try with_reducible rfl)
        try simp only [Act.put]
        refine wpE_takeF 7 ⟨some 38, _, _, _, _, _⟩ (v := ?_) (by decide) rfl (by kernel_rfl) (by kernel_rfl) (by kernel_rfl) (fun _ _ _ h => h) hS (Or.inl ⟨by kernel_rfl, ?_⟩) ?_
        rotate_left
        · (intro V hSw; obtain ⟨hq0, hq1⟩ := HS.out V hSw; go_simp; try with_reducible rfl)
        try simp only [Act.put]
        refine wpE_takeF 8 ⟨some 39, _, _, _, _, _⟩ (v := ?_) (by decide) rfl (by kernel_rfl) (by kernel_rfl) (by kernel_rfl) (fun _ _ _ h => h) hS (Or.inl ⟨by kernel_rfl, ?_⟩) ?_
        rotate_left
        · (intro V hSw; obtain ⟨hq0, hq1⟩ := HS.out V hSw; go_simp; try with_reducible rfl)
        try simp only [Act.put]
        refine wpE_takeF 9 ⟨some 40, _, _, _, _, _⟩ (v := ?_) (by decide) rfl (by kernel_rfl) (by kernel_rfl) (by kernel_rfl) (fun _ _ _ h => h) hS (Or.inl ⟨by kernel_rfl, ?_⟩) ?_
        rotate_left
        · (intro V hSw; obtain ⟨hq0, hq1⟩ := HS.out V hSw; go_simp; try with_reducible rfl)
        try simp only [Act.put]
        refine wpE_takeF 10 ⟨some 41, _, _, _, _, _⟩ (v := ?_) (by decide) rfl (by kernel_rfl) (by kernel_rfl) (by kernel_rfl) (fun _ _ _ h => h) hS (Or.inl ⟨by kernel_rfl, ?_⟩) ?_
        rotate_left
        · (intro V hSw; obtain ⟨hq0, hq1⟩ := HS.out V hSw; go_simp; try with_reducible rfl)
        try simp only [Act.put]
        refine wpE_takeF 11 ⟨some 42, _, _, _, _, _⟩ (v := ?_) (by decide) rfl (by kernel_rfl) (by kernel_rfl) (by kernel_rfl) (fun _ _ _ h => h) hS (Or.inl ⟨by kernel_rfl, ?_⟩) ?_
        rotate_left
        · (intro V hSw; obtain ⟨hq0, hq1⟩ := HS.out V hSw; go_simp; try with_reducible rfl)
        try simp only [Act.put]
        refine wpE_takeF 12 ⟨some 43, _, _, _, _, _⟩ (v := ?_) (by decide) rfl (by kernel_rfl) (by kernel_rfl) (by kernel_rfl) (fun _ _ _ h => h) hS (Or.inl ⟨by kernel_rfl, ?_⟩) ?_
        rotate_left
        · (intro V hSw; obtain ⟨hq0, hq1⟩ := HS.out V hSw; go_simp; try with_reducible rfl)
        try simp only [Act.put]
        refine wpE_takeF 13 ⟨some 44, _, _, _, _, _⟩ (v := ?_) (by decide) rfl (by kernel_rfl) (by kernel_rfl) (by kernel_rfl) (fun _ _ _ h => h) hS (Or.inl ⟨by kernel_rfl, ?_⟩) ?_
        rotate_left
        · (intro V hSw; obtain ⟨hq0, hq1⟩ := HS.out V hSw; go_simp; try with_reducible rfl)
        try simp only [Act.put]
        refine wpE_takeF 14 ⟨some 45, _, _, _, _, _⟩ (v := ?_) (by decide) rfl (by kernel_rfl) (by kernel_rfl) (by kernel_rfl) (fun _ _ _ h => h) hS (Or.inl ⟨by kernel_rfl, ?_⟩) ?_
        rotate_left
        · (intro V hSw; obtain ⟨hq0, hq1⟩ := HS.out V hSw; go_simp; try with_reducible rfl)
        try simp only [Act.put]
        refine wpE_takeF 15 ⟨some 46, _, _, _, _, _⟩ (v := ?_) (by decide) rfl (by kernel_rfl) (by kernel_rfl) (by kernel_rfl) (fun _ _ _ h => h) hS (Or.inl ⟨by kernel_rfl, ?_⟩) ?_
        rotate_left
        · (intro V hSw; obtain ⟨hq0, hq1⟩ := HS.out V hSw; go_simp; try with_reducible rfl)
        try simp only [Act.put]
        refine wpE_done (by kernel_rfl) ?_ _
        try simp only [List.setIfInBounds_toArray, List.set_cons_succ, List.set_cons_zero]
        have hNk := HN2.out
        have hWk := HWL.out
        have HB5 : Hid (Below w.heap.size w U0.drew) := Lib.hid (HBR.out.drew)
        have HO5 : Hid (OwnX U0.drew w.heap.size (.slice (some ⟨g, 0, none⟩) N c5) (bubL W p (j + 1))) := Lib.hid (HO.out.below (below_drew (Below.refl _ _)))
        generalize U0.drew = w5 at HB5 HO5 ⊢
        have HMP : Hid (bubL W p (j + 1) = putA l p) := Lib.hid (HBUB.out (j + 1) (by omega) HLESS.out (by refine .inr ?_; rw [Nat.add_sub_cancel, HEW.out]; exact HQ.out))
        have HML : Hid (N = (bubL W p (j + 1)).length) := Lib.hid (by rw [bubL_len]; omega)
        generalize bubL W p (j + 1) = M at HO5 HMP HML
        clear hNk hWk
        have HRM : Hid (right M = true) := Lib.hid (by rw [HMP.out]; exact HRP.out)
        have hfit := rfits_any (some ⟨g, 0, none⟩) N c5 w5.heap.size M w5 HO5.out.reads (Nat.le_refl _) (((right_iff M).1 HRM.out).1) (by omega)
        have HFIT := Lib.hid hfit; clear hfit
        go_wp2_with fail
        with_reducible refine HFIT.out.mono ?_
        rintro E6 w6 ⟨rfl, hb6⟩
        have HB6 : Hid (Below w.heap.size w w6) := Lib.hid (HB5.out.trans (hb6.mono HB5.out.size))
        have HO6 := Lib.hid (HO5.out.below hb6)
        clear hb6 HFIT
        by_cases hz : sizeL M ≤ 250
        · rw [decide_eq_true hz]
          have HE : Hid (setL l p = (M, 0)) := Lib.hid (by rw [HMP.out] at hz ⊢; exact set_yes HR.out HOK.out hz)
          clear hz
          go_wp2
          rw [HP.out, HE.out]
          unfold Pairs2
          dsimp only
          rw [← HML.out]
          exact ⟨(some ⟨g, 0, none⟩), c5, rfl, HO6.out, HB6.out⟩
        · rw [decide_eq_false hz]
          have HE : Hid (setL l p = ([], 15)) := Lib.hid (by rw [HMP.out] at hz; exact set_far HR.out HOK.out hz)
          clear hz
          go_wp2
          rw [HP.out, HE.out]
          exact ⟨none, 0, rfl, OwnX.nil _ _, HB6.out⟩
      | true =>
        refine wp_region_E (fun V => Below U0.heap.size U0 V) 99 rfl ?_
        have hS := (show Below U0.heap.size U0 U0.drew from (Below.refl _ U0).drew)
        refine wpE_takeF 0 ⟨some 31, _, _, _, _, _⟩ (v := ?_) (by decide) rfl (by kernel_rfl) (by kernel_rfl) (by kernel_rfl) (fun _ _ _ h => h) hS (Or.inl ⟨by kernel_rfl, ?_⟩) ?_
        rotate_left
        · (intro V hSw; obtain ⟨hq0, hq1⟩ := HS.out V hSw; go_simp; try with_reducible rfl)
        try simp only [Act.put]
        refine wpE_takeF 1 ⟨some 32, _, _, _, _, _⟩ (v := ?_) (by decide) rfl (by kernel_rfl) (by kernel_rfl) (by kernel_rfl) (fun _ _ _ h => h) hS (Or.inl ⟨by kernel_rfl, ?_⟩) ?_
        rotate_left
        · (intro V hSw; obtain ⟨hq0, hq1⟩ := HS.out V hSw; go_simp; try with_reducible rfl)
        try simp only [Act.put]
        refine wpE_takeF 2 ⟨some 33, _, _, _, _, _⟩ (v := ?_) (by decide) rfl (by kernel_rfl) (by kernel_rfl) (by kernel_rfl) (fun _ _ _ h => h) hS (Or.inl ⟨by kernel_rfl, ?_⟩) ?_
        rotate_left
        · (intro V hSw; obtain ⟨hq0, hq1⟩ := HS.out V hSw; go_simp; try with_reducible rfl)
        try simp only [Act.put]
        refine wpE_takeF 3 ⟨some 34, _, _, _, _, _⟩ (v := ?_) (by decide) rfl (by kernel_rfl) (by kernel_rfl) (by kernel_rfl) (fun _ _ _ h => h) hS (Or.inl ⟨by kernel_rfl, ?_⟩) ?_
        rotate_left
        · (intro V hSw; obtain ⟨hq0, hq1⟩ := HS.out V hSw; go_simp; try with_reducible rfl)
        try simp only [Act.put]
        refine wpE_takeF 4 ⟨some 35, _, _, _, _, _⟩ (v := ?_) (by decide) rfl (by kernel_rfl) (by kernel_rfl) (by kernel_rfl) (fun _ _ _ h => h) hS (Or.inl ⟨by kernel_rfl, ?_⟩) ?_
        rotate_left
        · (intro V hSw; obtain ⟨hq0, hq1⟩ := HS.out V hSw; go_simp; try with_reducible rfl)
        try simp only [Act.put]
        refine wpE_takeF 5 ⟨some 36, _, _, _, _, _⟩ (v := ?_) (by decide) rfl (by kernel_rfl) (by kernel_rfl) (by kernel_rfl) (fun _ _ _ h => h) hS (Or.inl ⟨by kernel_rfl, ?_⟩) ?_
        rotate_left
        · (intro V hSw; obtain ⟨hq0, hq1⟩ := HS.out V hSw; go_simp; try with_reducible rfl)
        try simp only [Act.put]
        refine wpE_takeF 6 ⟨some 37, _, _, _, _, _⟩ (v := ?_) (by decide) rfl (by kernel_rfl) (by kernel_rfl) (by kernel_rfl) (fun _ _ _ h => h) hS (Or.inl ⟨by kernel_rfl, ?_⟩) ?_
        rotate_left
        · (intro V hSw; obtain ⟨hq0, hq1⟩ := HS.out V hSw; go_simp; try with_reducible rfl)
        try simp only [Act.put]
        refine wpE_takeF 7 ⟨some 38, _, _, _, _, _⟩ (v := ?_) (by decide) rfl (by kernel_rfl) (by kernel_rfl) (by kernel_rfl) (fun _ _ _ h => h) hS (Or.inl ⟨by kernel_rfl, ?_⟩) ?_
        rotate_left
        · (intro V hSw; obtain ⟨hq0, hq1⟩ := HS.out V hSw; go_simp; try with_reducible rfl)
        try simp only [Act.put]
        refine wpE_takeF 8 ⟨some 39, _, _, _, _, _⟩ (v := ?_) (by decide) rfl (by kernel_rfl) (by kernel_rfl) (by kernel_rfl) (fun _ _ _ h => h) hS (Or.inl ⟨by kernel_rfl, ?_⟩) ?_
        rotate_left
        · (intro V hSw; obtain ⟨hq0, hq1⟩ := HS.out V hSw; go_simp; try with_reducible rfl)
        try simp only [Act.put]
        refine wpE_takeF 9 ⟨some 40, _, _, _, _, _⟩ (v := ?_) (by decide) rfl (by kernel_rfl) (by kernel_rfl) (by kernel_rfl) (fun _ _ _ h => h) hS (Or.inl ⟨by kernel_rfl, ?_⟩) ?_
        rotate_left
        · (intro V hSw; obtain ⟨hq0, hq1⟩ := HS.out V hSw; go_simp; try with_reducible rfl)
        try simp only [Act.put]
        refine wpE_takeF 10 ⟨some 41, _, _, _, _, _⟩ (v := ?_) (by decide) rfl (by kernel_rfl) (by kernel_rfl) (by kernel_rfl) (fun _ _ _ h => h) hS (Or.inl ⟨by kernel_rfl, ?_⟩) ?_
        rotate_left
        · (intro V hSw; obtain ⟨hq0, hq1⟩ := HS.out V hSw; go_simp; try with_reducible rfl)
        try simp only [Act.put]
        refine wpE_takeF 11 ⟨some 42, _, _, _, _, _⟩ (v := ?_) (by decide) rfl (by kernel_rfl) (by kernel_rfl) (by kernel_rfl) (fun _ _ _ h => h) hS (Or.inl ⟨by kernel_rfl, ?_⟩) ?_
        rotate_left
        · (intro V hSw; obtain ⟨hq0, hq1⟩ := HS.out V hSw; go_simp; try with_reducible rfl)
        try simp only [Act.put]
        refine wpE_takeF 12 ⟨some 43, _, _, _, _, _⟩ (v := ?_) (by decide) rfl (by kernel_rfl) (by kernel_rfl) (by kernel_rfl) (fun _ _ _ h => h) hS (Or.inl ⟨by kernel_rfl, ?_⟩) ?_
        rotate_left
        · (intro V hSw; obtain ⟨hq0, hq1⟩ := HS.out V hSw; go_simp; try with_reducible rfl)
        try simp only [Act.put]
        refine wpE_takeF 13 ⟨some 44, _, _, _, _, _⟩ (v := ?_) (by decide) rfl (by kernel_rfl) (by kernel_rfl) (by kernel_rfl) (fun _ _ _ h => h) hS (Or.inl ⟨by kernel_rfl, ?_⟩) ?_
        rotate_left
        · (intro V hSw; obtain ⟨hq0, hq1⟩ := HS.out V hSw; go_simp; try with_reducible rfl)
        try simp only [Act.put]
        refine wpE_takeF 14 ⟨some 45, _, _, _, _, _⟩ (v := ?_) (by decide) rfl (by kernel_rfl) (by kernel_rfl) (by kernel_rfl) (fun _ _ _ h => h) hS (Or.inl ⟨by kernel_rfl, ?_⟩) ?_
        rotate_left
        · (intro V hSw; obtain ⟨hq0, hq1⟩ := HS.out V hSw; go_simp; try with_reducible rfl)
        try simp only [Act.put]
        refine wpE_takeF 15 ⟨some 46, _, _, _, _, _⟩ (v := ?_) (by decide) rfl (by kernel_rfl) (by kernel_rfl) (by kernel_rfl) (fun _ _ _ h => h) hS (Or.inl ⟨by kernel_rfl, ?_⟩) ?_
        rotate_left
        · (intro V hSw; obtain ⟨hq0, hq1⟩ := HS.out V hSw; go_simp; try with_reducible rfl)
        try simp only [Act.put]
        refine wpE_done (by kernel_rfl) ?_ _
        try simp only [List.setIfInBounds_toArray, List.set_cons_succ, List.set_cons_zero]
        have hn : ∀ y ∈ W.drop j, less p.t y.t = true := fun y hy => by
          rw [HDROP.out] at hy
          rcases List.mem_cons.1 hy with rfl | hy
          · exact HQ.out
          · exact HLESS.out y hy
        have HN := Lib.hid hn
        have qq0 := HQ0.out
        have qq1 := HQ1.out
        have hst1 := HST1.out
        have hst2 := HST2.out
        clear hn HQ HEW HDROP HLESS HS hq HQ0 HQ1 HST1 HST2
        go_wp2
        refine wp_region_E (fun _ => True) 99 rfl ?_
        have hS := True.intro
        refine wpE_takeF 0 ⟨some 49, _, _, _, _, _⟩ (v := ?_) (by decide) rfl (by kernel_rfl) (by kernel_rfl) (by kernel_rfl) (fun _ _ _ h => h) hS (Or.inl ⟨by kernel_rfl, ?_⟩) ?_
        rotate_left
        · (intro V hSw; go_simp; try with_reducible rfl)
        try simp only [Act.put]
        refine wpE_takeF 1 ⟨some 50, _, _, _, _, _⟩ (v := ?_) (by decide) rfl (by kernel_rfl) (by kernel_rfl) (by kernel_rfl) (fun _ _ _ h => h) hS (Or.inl ⟨by kernel_rfl, ?_⟩) ?_
        rotate_left
        · (intro V hSw; go_simp; try with_reducible rfl)
        try simp only [Act.put]
        refine wpE_takeF 2 ⟨some 51, _, _, _, _, _⟩ (v := ?_) (by decide) rfl (by kernel_rfl) (by kernel_rfl) (by kernel_rfl) (fun _ _ _ h => h) hS (Or.inl ⟨by kernel_rfl, ?_⟩) ?_
        rotate_left
        · (intro V hSw; go_simp; try with_reducible rfl)
        try simp only [Act.put]
        refine wpE_takeF 3 ⟨some 52, _, _, _, _, _⟩ (v := ?_) (by decide) rfl (by kernel_rfl) (by kernel_rfl) (by kernel_rfl) (fun _ _ _ h => h) hS (Or.inl ⟨by kernel_rfl, ?_⟩) ?_
        rotate_left
        · (intro V hSw; go_simp; try with_reducible rfl)
        try simp only [Act.put]
        refine wpE_takeF 4 ⟨some 53, _, _, _, _, _⟩ (v := ?_) (by decide) rfl (by kernel_rfl) (by kernel_rfl) (by kernel_rfl) (fun _ _ _ h => h) hS (Or.inl ⟨by kernel_rfl, ?_⟩) ?_
        rotate_left
        · (intro V hSw; go_simp; try with_reducible rfl)
        try simp only [Act.put]
        refine wpE_takeF 5 ⟨some 54, _, _, _, _, _⟩ (v := ?_) (by decide) rfl (by kernel_rfl) (by kernel_rfl) (by kernel_rfl) (fun _ _ _ h => h) hS (Or.inl ⟨by kernel_rfl, ?_⟩) ?_
        rotate_left
        · (intro V hSw; go_simp; try with_reducible rfl)
        try simp only [Act.put]
        refine wpE_takeF 6 ⟨some 55, _, _, _, _, _⟩ (v := ?_) (by decide) rfl (by kernel_rfl) (by kernel_rfl) (by kernel_rfl) (fun _ _ _ h => h) hS (Or.inl ⟨by kernel_rfl, ?_⟩) ?_
        rotate_left
        · (intro V hSw; go_simp; try with_reducible rfl)
        try simp only [Act.put]
        refine wpE_takeF 7 ⟨some 56, _, _, _, _, _⟩ (v := ?_) (by decide) rfl (by kernel_rfl) (by kernel_rfl) (by kernel_rfl) (fun _ _ _ h => h) hS (Or.inl ⟨by kernel_rfl, ?_⟩) ?_
        rotate_left
        · (intro V hSw; go_simp; try with_reducible rfl)
        try simp only [Act.put]
        refine wpE_takeF 8 ⟨some 57, _, _, _, _, _⟩ (v := ?_) (by decide) rfl (by kernel_rfl) (by kernel_rfl) (by kernel_rfl) (fun _ _ _ h => h) hS (Or.inl ⟨by kernel_rfl, ?_⟩) ?_
        rotate_left
        · (intro V hSw; go_simp; try with_reducible rfl)
        try simp only [Act.put]
        refine wpE_takeF 10 ⟨some 59, _, _, _, _, _⟩ (v := ?_) (by decide) rfl (by kernel_rfl) (by kernel_rfl) (by kernel_rfl) (fun _ _ _ h => h) hS (Or.inl ⟨by kernel_rfl, ?_⟩) ?_
        rotate_left
        · (intro V hSw; go_simp; try with_reducible rfl)
        try simp only [Act.put]
        refine wpE_takeF 11 ⟨some 60, _, _, _, _, _⟩ (v := ?_) (by decide) rfl (by kernel_rfl) (by kernel_rfl) (by kernel_rfl) (fun _ _ _ h => h) hS (Or.inl ⟨by kernel_rfl, ?_⟩) ?_
        rotate_left
        · (intro V hSw; go_simp; try with_reducible rfl)
        try simp only [Act.put]
        refine wpE_takeF 12 ⟨some 61, _, _, _, _, _⟩ (v := ?_) (by decide) rfl (by kernel_rfl) (by kernel_rfl) (by kernel_rfl) (fun _ _ _ h => h) hS (Or.inl ⟨by kernel_rfl, ?_⟩) ?_
        rotate_left
        · (intro V hSw; go_simp; try with_reducible rfl)
        try simp only [Act.put]
        refine wpE_two 9 13 (by kernel_rfl) rfl rfl (fun K' hK' => ?_) (fun K' hK' => ?_)
        · go_simp
          refine hK'.out _ _ True.intro (fun hS => ?_)
          clear hK' K'
          try simp only [Act.put]
          refine wpE_one 13 (by kernel_rfl) rfl (fun K' hK' => ?_)
          go_simp
          refine hK'.out _ _ True.intro (fun hS => ?_)
          clear hK' K'
          try simp only [Act.put]
          clear qq0 qq1
          refine wpE_takeF 14 ⟨some 63, _, _, _, _, _⟩ (v := ?_) (by decide) rfl (by kernel_rfl) (by kernel_rfl) (by kernel_rfl) (fun _ _ _ h => h) hS (Or.inl ⟨by kernel_rfl, ?_⟩) ?_
          rotate_left
          · (intro V hSw; go_simp; try with_reducible rfl)
          try simp only [Act.put]
          refine wpE_one 15 (by kernel_rfl) rfl (fun K' hK' => ?_)
          go_simp
          refine hK'.out _ _ True.intro (fun hS => ?_)
          clear hK' K'
          try simp only [Act.put]
          refine wpE_takeF 16 ⟨some 64, _, _, _, _, _⟩ (v := ?_) (by decide) rfl (by kernel_rfl) (by kernel_rfl) (by kernel_rfl) (fun _ _ _ h => h) hS (Or.inl ⟨by kernel_rfl, ?_⟩) ?_
          rotate_left
          · (intro V hSw; go_simp; try with_reducible rfl)
          try simp only [Act.put]
          refine wpE_one 17 (by kernel_rfl) rfl (fun K' hK' => ?_)
          go_simp
          refine hK'.out _ _ True.intro (fun hS => ?_)
          clear hK' K'
          try simp only [Act.put]
          refine wpE_done (by kernel_rfl) ?_ _
          try simp only [List.setIfInBounds_toArray, List.set_cons_succ, List.set_cons_zero]
          clear hst1 hst2
          go_wp2
          go_roundw
          case rel => exact ⟨j, by omega, by go_num, HO7.out, HN.out, HB7.out⟩
          case measure => simp [intOf]
        · go_simp
          refine hK'.out _ _ True.intro (fun hS => ?_)
          clear hK' K'
          try simp only [Act.put]
          refine wpE_one 9 (by kernel_rfl) rfl (fun K' hK' => ?_)
          go_simp
          refine hK'.out _ _ True.intro (fun hS => ?_)
          clear hK' K'
          try simp only [Act.put]
          clear qq0 qq1
          refine wpE_takeF 14 ⟨some 63, _, _, _, _, _⟩ (v := ?_) (by decide) rfl (by kernel_rfl) (by kernel_rfl) (by kernel_rfl) (fun _ _ _ h => h) hS (Or.inl ⟨by kernel_rfl, ?_⟩) ?_
          rotate_left
          · (intro V hSw; go_simp; try with_reducible rfl)
          try simp only [Act.put]
          refine wpE_one 15 (by kernel_rfl) rfl (fun K' hK' => ?_)
          go_simp
          refine hK'.out _ _ True.intro (fun hS => ?_)
          clear hK' K'
          try simp only [Act.put]
          refine wpE_takeF 16 ⟨some 64, _, _, _, _, _⟩ (v := ?_) (by decide) rfl (by kernel_rfl) (by kernel_rfl) (by kernel_rfl) (fun _ _ _ h => h) hS (Or.inl ⟨by kernel_rfl, ?_⟩) ?_
          rotate_left
          · (intro V hSw; go_simp; try with_reducible rfl)
          try simp only [Act.put]
          refine wpE_one 17 (by kernel_rfl) rfl (fun K' hK' => ?_)
          go_simp
          refine hK'.out _ _ True.intro (fun hS => ?_)
          clear hK' K'
          try simp only [Act.put]
          refine wpE_done (by kernel_rfl) ?_ _
          try simp only [List.setIfInBounds_toArray, List.set_cons_succ, List.set_cons_zero]
          clear hst1 hst2
          go_wp2
          go_roundw
          case rel => exact ⟨j, by omega, by go_num, HO7.out, HN.out, HB7.out⟩
          case measure => simp [intOf]
end Go.Proofs.Ytbagocghlijleaa.At
