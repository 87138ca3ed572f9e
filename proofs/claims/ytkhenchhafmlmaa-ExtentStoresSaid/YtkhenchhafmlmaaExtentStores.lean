/- ExtentStores: for every list of extents and every list of blocks, roots and nodes are what the document says, and are read again as the list; what is given is left as it was. -/
import Derived.Test.YtkhenchhafmlmaaExAlive
import Derived.Test.YtkhenchhafmlmaaExRStore
import Derived.Test.YtkhenchhafmlmaaExJoined
import Derived.Test.YtkhenchhafmlmaaExSameI
namespace Go.Proofs.Ytkhenchhafmlmaa.ExtentStores
set_option maxRecDepth 20000
open Go.ChangeShapes Go.WideShapes Go.ChangeAt Go.RowKit
open Go.Proofs.Ytkhenchhafmlmaa.Mem Go.Proofs.Ytkhenchhafmlmaa.Crc Go.Proofs.Ytkhenchhafmlmaa.Rec Go.Proofs.Ytkhenchhafmlmaa.Ex Go.Proofs.Ytkhenchhafmlmaa.Lift Go.Proofs.Ytkhenchhafmlmaa.Reg
attribute [local go_sem ↓] ldX_eq stX_eq eqX_eq neqX_eq ldS_eq eqS_eq neqS_eq

/-- What is told, and what is read of it. -/
theorem store_case (l : List X) (bs : List Int) : ((storeL l bs).2.2 = 1 ∧ (storeL l bs).1 = [] ∧ (storeL l bs).2.1 = []) ∨
    ((storeL l bs).2.2 = 0 ∧ (storeL l bs).2.1 = [] ∧ rootL (storeL l bs).1 = (l, [], 0)) ∨
    ((storeL l bs).2.2 = 0 ∧ 0 < (storeL l bs).2.1.length ∧ rootL (storeL l bs).1 = ([], bs, 0) ∧ joinL (storeL l bs).2.1 = (l, 0) ∧ needL l = ((storeL l bs).2.1.length : Int)) := by
  unfold storeL
  split
  · rename_i h
    simp only [Bool.and_eq_true, decide_eq_true_eq] at h
    obtain ⟨h1, h2⟩ := h
    obtain ⟨hr, hn⟩ := needL_right h1
    have h60 := (right_lin hr).2.2.2.2
    split
    · rename_i h0
      refine .inr (.inl ⟨rfl, rfl, ?_⟩)
      refine (root_hold hr ?_).1
      rw [h0] at hn
      unfold needN at hn
      split at hn
      · assumption
      · omega
    · rename_i h0
      have hlen : 4 < l.length := by
        unfold needN at hn
        split at hn
        · omega
        · omega
      have hnl : (nodesB l).length = bs.length := by
        rw [nodesB_len, ← hn]
        unfold manyX needN
        rw [if_neg (by omega)]
      refine .inr (.inr ⟨rfl, by show 0 < (nodesB l).length; omega, (root_name h2 (by omega) ?_).1, (join_nodes hr hlen).1, by rw [h1]; show _ = ((nodesB l).length : Int); omega⟩)
      rw [← hn]
      unfold needN
      split <;> omega
  · exact .inl ⟨rfl, rfl, rfl⟩

set_option maxRecDepth 100000 in
set_option maxHeartbeats 8000000 in
theorem walk (A A' : Option Addr) (n c n' c' : Nat) (l : List X) (bs : List Int) (w : World) (h : HoldsX w w.heap.size A n l) (hr : ∀ x ∈ l, x.rep) (hnc : n ≤ c) (hn : n ≤ 4398046511104) (h' : HoldsI w w.heap.size A' n' bs) (hn' : n' ≤ 17592186043904) :
    Calls Try.prog 7 #[.slice A n c, .slice A' n' c'] w fun E w' => E = .returned (.bool true) ∧ Below w.heap.size w w' := by
  have hh : ∀ V, Below w.heap.size w V → HoldsX V w.heap.size A n l ∧ w.heap.size ≤ V.heap.size ∧ HoldsI V w.heap.size A' n' bs := fun V hV => ⟨h.below hV, hV.size, h'.below hV⟩
  have hcopy := fun V (hV : Below w.heap.size w V) => copied_any A n c w.heap.size l V (hh V hV).1 (hh V hV).2.1 hn
  have hcpI := fun V (hV : Below w.heap.size w V) => run_copyI V A' n' c' w.heap.size bs (hh V hV).2.2 (hh V hV).2.1 hn'
  have hsto := fun (A1 A2 : Option Addr) (c1 c2 B1 B2 : Nat) V (hX : HoldsX V B1 A1 n l) (hB1 : B1 ≤ V.heap.size) (hc1 : n ≤ c1) (hI : HoldsI V B2 A2 n' bs) (hB2 : B2 ≤ V.heap.size) (hc2 : n' ≤ c2) => store_any A1 A2 n c1 n' c2 B1 B2 l bs V hX hB1 hr hc1 hI hB2 hc2 (by omega)
  have hrsto := fun V (hV : Below w.heap.size w V) => rstore_any A A' n c n' c' w.heap.size w.heap.size l bs V (hh V hV).1 (hh V hV).2.1 hr hnc hn (hh V hV).2.2 (hh V hV).2.1 (by omega)
  have hsame := fun (A1 : Option Addr) (n1 c1 B1 : Nat) V (hX : HoldsX V B1 A1 n1 l) (hB1 : B1 ≤ V.heap.size) (hV : Below w.heap.size w V) (hn1 : n1 ≤ 4398046511104) => same_any A1 A n1 n c1 c B1 w.heap.size l l V hX (hh V hV).1 hB1 (hh V hV).2.1 hn1
  have hsameI := fun (A1 : Option Addr) (n1 c1 B1 : Nat) V (hX : HoldsI V B1 A1 n1 bs) (hV : Below w.heap.size w V) (hn1 : n1 ≤ 9223372036854775806) => sameI_any A1 A' n1 n' c1 c' B1 w.heap.size bs bs V hX (hh V hV).2.2 hn1
  simp only [decide_true] at hsame hsameI
  have hneed := fun V (hV : Below w.heap.size w V) => need_any A n c w.heap.size l V (hh V hV).1 (hh V hV).2.1 hr hnc
  have hcase := store_case l bs
  obtain ⟨R, hR⟩ : ∃ R, R = (storeL l bs).1 := ⟨_, rfl⟩
  obtain ⟨N, hN⟩ : ∃ N, N = (storeL l bs).2.1 := ⟨_, rfl⟩
  obtain ⟨er, her⟩ : ∃ er, er = (storeL l bs).2.2 := ⟨_, rfl⟩
  have hNl : N.length ≤ 3 := by
    rw [hN]
    rcases hcase with ⟨_, _, e⟩ | ⟨_, e, _⟩ | ⟨e0, _, e, e2, e3⟩
    · rw [e]; simp
    · rw [e]; simp
    · unfold needL needN at e3
      split at e3
      · rename_i hrl
        have := (right_lin hrl).2.2.2.2
        split at e3 <;> omega
      · omega
  unfold StoreOut at hsto hrsto
  rw [← hR, ← hN, ← her] at hsto hrsto hcase
  have hln := h.1
  have hln' := h'.1
  have HH := Lib.hid hh; clear hh
  have HCOPY := Lib.hid hcopy; clear hcopy
  have HCPI := Lib.hid hcpI; clear hcpI
  have HSTO := Lib.hid hsto; clear hsto
  have HRSTO := Lib.hid hrsto; clear hrsto
  have HSAME := Lib.hid hsame; clear hsame
  have HSAMEI := Lib.hid hsameI; clear hsameI
  have HNEED := Lib.hid hneed; clear hneed
  have HCASE := Lib.hid hcase; clear hcase
  have HLN := Lib.hid hln; clear hln
  have HLN' := Lib.hid hln'; clear hln'
  clear h h' hr hR hN her
  go_enter Try.func7, Try.ntmps7
  go_wp2_with fail
  with_reducible refine (alive_any w).mono ?_
  rintro E w1 ⟨rfl, hb1⟩
  have HB1 := Lib.hid hb1; clear hb1
  obtain ⟨Ag, cg, w2, hrunI, hog, hb2⟩ := HCPI.out w1 HB1.out
  have HB2 : Hid (Below w.heap.size w w2) := Lib.hid (HB1.out.trans (hb2.mono HB1.out.size))
  have hgi := hog.reads
  have hgc := hog.fits.2
  have HG : Hid (∀ V, Below w2.heap.size w2 V → HoldsI V w2.heap.size Ag n' bs ∧ w2.heap.size ≤ V.heap.size) := Lib.hid fun V hV => ⟨hgi.below hV, hV.size⟩
  have HGC := Lib.hid hgc
  clear hog hb2 hgi hgc
  go_wp2_with (at_builtin; refine wpList_apprun rfl (.tmp 20) (.tmp 21) 45 45 rfl _ _ rfl rfl _ w2 hrunI ?_)
  clear hrunI
  go_wp2_with fail
  with_reducible refine (HCOPY.out w2 HB2.out).mono ?_
  rintro E w3 ⟨Ac, cc, rfl, hoc, hb3⟩
  have HB23 := Lib.hid hb3
  have HB3 : Hid (Below w.heap.size w w3) := Lib.hid (HB2.out.trans (hb3.mono HB2.out.size))
  have HOC := Lib.hid hoc
  clear hoc hb3
  go_wp2_with fail
  with_reducible refine (HSTO.out Ac Ag cc cg w3.heap.size w2.heap.size w3 HOC.out.reads (Nat.le_refl _) HOC.out.fits.2.1 (HG.out w3 HB23.out).1 (HG.out w3 HB23.out).2 HGC.out).mono ?_
  rintro E w4 ⟨A4, c4, A5, c5, rfl, hor, hon, hb4⟩
  have HB24 : Hid (Below w2.heap.size w2 w4) := Lib.hid (HB23.out.trans (hb4.mono HB23.out.size))
  have HB4 : Hid (Below w.heap.size w w4) := Lib.hid (HB3.out.trans (hb4.mono HB3.out.size))
  have hrR : ∀ V, Below w4.heap.size w4 V → Holds V w4.heap.size A4 R.length R := fun V hV => (Owned.reads hor).below hV
  have hrN : ∀ V, Below w4.heap.size w4 V → HoldsN V w4.heap.size A5 N.length N := fun V hV => hon.reads.below hV
  have hrc := (Owned.fits hor).1
  have HRR := Lib.hid hrR; clear hrR
  have HRN := Lib.hid hrN; clear hrN
  have HRC := Lib.hid hrc; clear hrc hor hon hb4 HOC
  go_wp2_with fail
  with_reducible refine (HRSTO.out w4 HB4.out).mono ?_
  rintro E w5 ⟨A6, c6, A7, c7, rfl, hor, hon, hb5⟩
  have HB45 := Lib.hid hb5
  have HB25 : Hid (Below w2.heap.size w2 w5) := Lib.hid (HB24.out.trans (hb5.mono HB24.out.size))
  have HB5 : Hid (Below w.heap.size w w5) := Lib.hid (HB4.out.trans (hb5.mono HB4.out.size))
  have hrQ : ∀ V, Below w5.heap.size w5 V → Holds V w5.heap.size A6 R.length R := fun V hV => (Owned.reads hor).below hV
  have hrM : ∀ V, Below w5.heap.size w5 V → HoldsN V w5.heap.size A7 N.length N := fun V hV => hon.reads.below hV
  have HRQ := Lib.hid hrQ; clear hrQ
  have HRM := Lib.hid hrM; clear hrM hor hon hb5
  have t1 := run_text w5 _ A4 R.length c4 R (HRR.out w5 HB45.out)
  have t2 := run_text w5 _ A6 R.length c6 R (HRQ.out w5 (Below.refl _ _))
  obtain ⟨rl, hrl⟩ : ∃ rl, rl = R.length := ⟨_, rfl⟩
  obtain ⟨nl, hnl⟩ : ∃ nl, nl = N.length := ⟨_, rfl⟩
  rw [← hrl] at t1 t2 HRR HRQ HRC ⊢
  rw [← hnl] at hNl HRN HRM ⊢
  have HRL := Lib.hid hrl; clear hrl
  have HNL := Lib.hid hnl; clear hnl
  go_wp2_with fail
  with_reducible refine (HSAMEI.out Ag n' cg w2.heap.size w5 (HG.out w5 HB25.out).1 HB5.out (by omega)).mono ?_
  rintro E w6 ⟨rfl, hb6⟩
  have HB56 := Lib.hid hb6
  have HB6 : Hid (Below w.heap.size w w6) := Lib.hid (HB5.out.trans (hb6.mono HB5.out.size))
  clear hb6 t1 t2
  go_wp2
  go_loopw [12] (fun i wr => ∃ k : Nat, k ≤ nl ∧ i = .int .i64 (k : Int) ∧ Below w5.heap.size w5 wr) (fun i _ => nl - (intOf i).toNat)
  case atStart => exact ⟨0, Nat.zero_le _, rfl, HB56.out⟩
  case round =>
    obtain ⟨k, hk, rfl, hbr⟩ := hrel
    have HBR := Lib.hid hbr; clear hbr
    rcases Nat.lt_or_ge k nl with hlt | hge
    · have hkN : k < N.length := by have := HNL.out; omega
      obtain ⟨b, off, rfl, hbB, hcl⟩ := (HRN.out wr (HB45.out.trans (HBR.out.mono HB45.out.size))).2 (by omega)
      obtain ⟨b', off', rfl, hbB', hcl'⟩ := (HRM.out wr HBR.out).2 (by omega)
      obtain ⟨Ak, ck, y1, y2, y3, y4⟩ := hcl k hkN
      obtain ⟨Ak', ck', z1, z2, z3, z4⟩ := hcl' k hkN
      have hb45 := HB45.out.size
      have hSB : ∀ V, Below wr.heap.size wr V → V.cell? ⟨b, off + k, none⟩ = some (.slice Ak (N[k]).length ck) ∧ V.cell? ⟨b', off' + k, none⟩ = some (.slice Ak' (N[k]).length ck') ∧ (convert 46 9 (.slice Ak (N[k]).length ck)).run Try.prog V = .ok (.string ⟨(N[k]).toArray⟩) V ∧ (convert 46 9 (.slice Ak' (N[k]).length ck')).run Try.prog V = .ok (.string ⟨(N[k]).toArray⟩) V := fun V hV => by
        have hs := HBR.out.size
        have hV5 : Below w5.heap.size wr V := hV.mono hs
        refine ⟨(hV5.cell (p := ⟨b, off + k, none⟩) (by show b < _; omega)).trans y1, (hV5.cell (p := ⟨b', off' + k, none⟩) hbB').trans z1, run_text V w4.heap.size Ak _ ck _ (y2.below (hV5.mono hb45)), run_text V w5.heap.size Ak' _ ck' _ (z2.below hV5)⟩
      obtain ⟨m, hm⟩ : ∃ m, m = (N[k]).length := ⟨_, rfl⟩
      obtain ⟨T, hT⟩ : ∃ T : ByteArray, T = ⟨(N[k]).toArray⟩ := ⟨_, rfl⟩
      rw [← hm, ← hT] at hSB
      have HSB := Lib.hid hSB; clear hSB hcl hcl' y1 y2 y3 y4 z1 z2 z3 z4 hm hT
      have hk0 : (0 : Int) ≤ (k : Int) := by omega
      have hkn : (k : Int) < (nl : Int) := by omega
      go_wp2_with fail
      refine wp_region_E (fun V => Below wr.heap.size wr V) 99 rfl ?_
      have hS := (show Below wr.heap.size wr wr.drew from (Below.refl _ wr).drew)
      refine wpE_takeF 0 ⟨some 67, _, _, _, _, _⟩ (v := ?_) (by decide) rfl (by kernel_rfl) (by kernel_rfl) (by kernel_rfl) (fun _ _ _ h => h) hS (Or.inl ⟨by kernel_rfl, ?_⟩) ?_
      rotate_left
      · (intro V hSw; obtain ⟨s0, s1, s2, s3⟩ := HSB.out V hSw; go_simp; try with_reducible rfl)
      try simp only [Act.put]
      refine wpE_takeF 1 ⟨some 68, _, _, _, _, _⟩ (v := ?_) (by decide) rfl (by kernel_rfl) (by kernel_rfl) (by kernel_rfl) (fun _ _ _ h => h) hS (Or.inl ⟨by kernel_rfl, ?_⟩) ?_
      rotate_left
      · (intro V hSw; obtain ⟨s0, s1, s2, s3⟩ := HSB.out V hSw; go_simp; try with_reducible rfl)
      try simp only [Act.put]
      refine wpE_takeF 2 ⟨some 69, _, _, _, _, _⟩ (v := ?_) (by decide) rfl (by kernel_rfl) (by kernel_rfl) (by kernel_rfl) (fun _ _ _ h => h) hS (Or.inl ⟨by kernel_rfl, ?_⟩) ?_
      rotate_left
      · (intro V hSw; obtain ⟨s0, s1, s2, s3⟩ := HSB.out V hSw; go_simp; try with_reducible rfl)
      try simp only [Act.put]
      refine wpE_takeF 3 ⟨some 70, _, _, _, _, _⟩ (v := ?_) (by decide) rfl (by kernel_rfl) (by kernel_rfl) (by kernel_rfl) (fun _ _ _ h => h) hS (Or.inl ⟨by kernel_rfl, ?_⟩) ?_
      rotate_left
      · (intro V hSw; obtain ⟨s0, s1, s2, s3⟩ := HSB.out V hSw; go_simp; try with_reducible rfl)
      try simp only [Act.put]
      refine wpE_takeF 4 ⟨some 71, _, _, _, _, _⟩ (v := ?_) (by decide) rfl (by kernel_rfl) (by kernel_rfl) (by kernel_rfl) (fun _ _ _ h => h) hS (Or.inl ⟨by kernel_rfl, ?_⟩) ?_
      rotate_left
      · (intro V hSw; obtain ⟨s0, s1, s2, s3⟩ := HSB.out V hSw; go_simp; try with_reducible rfl)
      try simp only [Act.put]
      refine wpE_takeF 5 ⟨some 72, _, _, _, _, _⟩ (v := ?_) (by decide) rfl (by kernel_rfl) (by kernel_rfl) (by kernel_rfl) (fun _ _ _ h => h) hS (Or.inl ⟨by kernel_rfl, ?_⟩) ?_
      rotate_left
      · (intro V hSw; obtain ⟨s0, s1, s2, s3⟩ := HSB.out V hSw; go_simp; try with_reducible rfl)
      try simp only [Act.put]
      refine wpE_takeF 6 ⟨some 73, _, _, _, _, _⟩ (v := ?_) (by decide) rfl (by kernel_rfl) (by kernel_rfl) (by kernel_rfl) (fun _ _ _ h => h) hS (Or.inl ⟨by kernel_rfl, ?_⟩) ?_
      rotate_left
      · (intro V hSw; obtain ⟨s0, s1, s2, s3⟩ := HSB.out V hSw; go_simp; try with_reducible rfl)
      try simp only [Act.put]
      refine wpE_takeF 7 ⟨some 74, _, _, _, _, _⟩ (v := ?_) (by decide) rfl (by kernel_rfl) (by kernel_rfl) (by kernel_rfl) (fun _ _ _ h => h) hS (Or.inl ⟨by kernel_rfl, ?_⟩) ?_
      rotate_left
      · (intro V hSw; obtain ⟨s0, s1, s2, s3⟩ := HSB.out V hSw; go_simp; try with_reducible rfl)
      try simp only [Act.put]
      refine wpE_takeF 8 ⟨some 75, _, _, _, _, _⟩ (v := ?_) (by decide) rfl (by kernel_rfl) (by kernel_rfl) (by kernel_rfl) (fun _ _ _ h => h) hS (Or.inl ⟨by kernel_rfl, ?_⟩) ?_
      rotate_left
      · (intro V hSw; obtain ⟨s0, s1, s2, s3⟩ := HSB.out V hSw; go_simp; try with_reducible rfl)
      try simp only [Act.put]
      refine wpE_takeF 9 ⟨some 76, _, _, _, _, _⟩ (v := ?_) (by decide) rfl (by kernel_rfl) (by kernel_rfl) (by kernel_rfl) (fun _ _ _ h => h) hS (Or.inl ⟨by kernel_rfl, ?_⟩) ?_
      rotate_left
      · (intro V hSw; obtain ⟨s0, s1, s2, s3⟩ := HSB.out V hSw; go_simp; try with_reducible rfl)
      try simp only [Act.put]
      refine wpE_takeF 10 ⟨some 77, _, _, _, _, _⟩ (v := ?_) (by decide) rfl (by kernel_rfl) (by kernel_rfl) (by kernel_rfl) (fun _ _ _ h => h) hS (Or.inl ⟨by kernel_rfl, ?_⟩) ?_
      rotate_left
      · (intro V hSw; obtain ⟨s0, s1, s2, s3⟩ := HSB.out V hSw; go_simp; try with_reducible rfl)
      try simp only [Act.put]
      refine wpE_done (by kernel_rfl) ?_ _
      try simp only [List.setIfInBounds_toArray, List.set_cons_succ, List.set_cons_zero]
      have HB7 : Hid (Below w5.heap.size w5 wr.drew) := Lib.hid HBR.out.drew
      go_wp2
      go_roundw
      case rel => exact ⟨k + 1, by omega, by go_num, HB7.out⟩
      case measure => simp [intOf]; omega
    · have hkn : k = nl := by omega
      subst hkn
      have hge3 : ¬ (k : Int) < (k : Int) := by omega
      have HB4r : Hid (Below w4.heap.size w4 wr) := Lib.hid (HB45.out.trans (HBR.out.mono HB45.out.size))
      have HBW : Hid (Below w.heap.size w wr) := Lib.hid (HB4.out.trans (HB4r.out.mono HB4.out.size))
      rcases HCASE.out with ⟨e0, e1, e2⟩ | ⟨e0, e1, e2⟩ | ⟨e0, e1, e2, e3, e4⟩
      · subst e0
        have h1 : rl = 0 := by rw [HRL.out, e1]; rfl
        have h2 : k = 0 := by rw [HNL.out, e2]; rfl
        subst h1 h2
        clear e1 e2
        go_wp2
        go_ret
        exact ⟨rfl, HBW.out⟩
      · subst e0
        have h2 : k = 0 := by rw [HNL.out, e1]; rfl
        subst h2
        have hroot := root_any A4 rl c4 w4.heap.size R wr (HRR.out wr HB4r.out) HB4r.out.size HRC.out
        rw [e2] at hroot
        unfold RootOut at hroot
        have HROOT := Lib.hid hroot; clear hroot e1 e2
        go_wp2_with fail
        with_reducible refine HROOT.out.mono ?_
        rintro E w7 ⟨A8, c8, A9, c9, rfl, hox, hoi, hb7⟩
        have HB7 : Hid (Below w.heap.size w w7) := Lib.hid (HBW.out.trans (hb7.mono HBW.out.size))
        have hsm := HSAME.out A8 l.length c8 w7.heap.size w7 hox.reads (Nat.le_refl _) HB7.out (by have := HLN.out; omega)
        rw [HLN.out] at hsm
        have HSM := Lib.hid hsm; clear hsm hox hoi hb7
        have HLL := HLN.out
        generalize l.length = ll at HLL ⊢
        subst HLL
        go_wp2_with fail
        with_reducible refine HSM.out.mono ?_
        rintro E w8 ⟨rfl, hb8⟩
        have HB8 : Hid (Below w.heap.size w w8) := Lib.hid (HB7.out.trans (hb8.mono HB7.out.size))
        clear hb8
        go_wp2
        go_ret
        exact ⟨rfl, HB8.out⟩
      · subst e0
        have h2 : 0 < k := by rw [HNL.out]; exact e1
        have h2' : ¬ (k : Int) = 0 := by omega
        have hroot := root_any A4 rl c4 w4.heap.size R wr (HRR.out wr HB4r.out) HB4r.out.size HRC.out
        rw [e2] at hroot
        unfold RootOut at hroot
        have hjoin := fun V (hV : Below wr.heap.size wr V) => join_any A5 k c5 w4.heap.size N V (HRN.out V (HB4r.out.trans (hV.mono HB4r.out.size))) (by have := HB4r.out.size; have := hV.size; omega)
        rw [e3] at hjoin
        unfold MarkOut at hjoin
        have e5 : needL l = (k : Int) := by rw [e4, ← HNL.out]
        have HROOT := Lib.hid hroot; clear hroot e1 e2
        have HJOIN := Lib.hid hjoin; clear hjoin
        rw [e5] at HNEED
        clear e3 e4 e5
        go_wp2_with fail
        with_reducible refine HROOT.out.mono ?_
        rintro E w7 ⟨A8, c8, A9, c9, rfl, hox, hoi, hb7⟩
        have HB7r := Lib.hid hb7
        have HB7 : Hid (Below w.heap.size w w7) := Lib.hid (HBW.out.trans (hb7.mono HBW.out.size))
        have HOI := Lib.hid hoi; clear hox hoi hb7
        have hbl := HLN'.out
        rw [hbl] at HOI ⊢
        clear hbl
        go_wp2_with fail
        with_reducible refine (HJOIN.out w7 HB7r.out).mono ?_
        rintro E w8 ⟨A10, c10, rfl, hox, hb8⟩
        have HB8 : Hid (Below w.heap.size w w8) := Lib.hid (HB7.out.trans (hb8.mono HB7.out.size))
        have hsmI := HSAMEI.out A9 n' c9 w7.heap.size w8 (HOI.out.reads.below hb8) HB8.out (by omega)
        have hll := HLN.out
        dsimp only at hox ⊢
        rw [hll] at hox ⊢
        have HOX := Lib.hid hox; clear hox hb8 hll
        have HSMI := Lib.hid hsmI; clear hsmI
        go_wp2_with fail
        with_reducible refine HSMI.out.mono ?_
        rintro E w9 ⟨rfl, hb9⟩
        have HB9 : Hid (Below w.heap.size w w9) := Lib.hid (HB8.out.trans (hb9.mono HB8.out.size))
        have hsm := HSAME.out A10 n c10 w8.heap.size w9 (HOX.out.reads.below hb9) hb9.size HB9.out hn
        have HSM := Lib.hid hsm; clear hsm hb9
        go_wp2_with fail
        with_reducible refine HSM.out.mono ?_
        rintro E w10 ⟨rfl, hb10⟩
        have HB10 : Hid (Below w.heap.size w w10) := Lib.hid (HB9.out.trans (hb10.mono HB9.out.size))
        clear hb10
        go_wp2_with fail
        with_reducible refine (HNEED.out w10 HB10.out).mono ?_
        rintro E w11 ⟨rfl, hb11⟩
        have HB11 : Hid (Below w.heap.size w w11) := Lib.hid (HB10.out.trans (hb11.mono HB10.out.size))
        clear hb11
        go_wp2
        go_ret
        exact ⟨rfl, HB11.out⟩

theorem walks : Walks 7 Try.f7 All := by
  intro H enc W base args ds p hval hA hsz _
  rw [Try.params7] at hA hval hsz
  obtain ⟨v0, vs0, d0, ds0, p0, q0, hargs, rfl, rfl, h0, r0⟩ := trodAll_cons hA
  obtain ⟨v1, vs1, d1, ds1, p1, q1, rfl, rfl, rfl, h1, r1⟩ := trodAll_cons r0
  obtain ⟨rfl, rfl, rfl⟩ := trodAll_nil r1
  obtain rfl : args = #[v0, v1] := by cases args; simp_all
  obtain ⟨A0, n0, c0, l0, rfl, hl0, hr0, hn0, hc0⟩ := exts_open (hval 0 _ v0 rfl rfl) h0 _ (reach_exts hsz (j := 0) rfl rfl)
  obtain ⟨A1, n1, c1, r1s, rfl, hI1, hJ1, hn1, hc1⟩ := ints_open (hval 1 _ v1 rfl rfl) h1 _ (reach_ints hsz (j := 1) rfl rfl)
  exact walk A0 A1 n0 c0 n1 c1 l0 r1s W hl0 hr0 hn0 (by omega) hI1 (by omega)

set_option maxRecDepth 100000 in
theorem proved : Rows.ExtentStoresSaid :=
  OpenClaim.holds_of_wide 7 Try.f7 rfl rfl rfl rfl rfl rfl rfl ⟨rfl, rfl, rfl, rfl, rfl⟩ rfl rfl rfl rfl rfl (by kernel_rfl) Try.func7 (by kernel_rfl)
    (of_decide_eq_true (by kernel_rfl)) (by unfold Func.isWrapper; first | (rw [if_pos (by decide +kernel)]; kernel_rfl) | (rw [if_neg (by decide +kernel)]; exact ⟨rfl, rfl⟩))
    (fun os started H enc _ => lifted (s := Rows.extentStoresSpec) walks (by kernel_rfl) rfl rfl (fun H ds hl => by match ds, hl with | [d1, d2], _ => rfl) (by kernel_rfl) Try.func7 os started H enc
      (ChangeSpec.witness6 (enc := enc) (C := Try.checked) false ⟨#[], #[.slice none 0 0, .slice none 0 0], []⟩ 8 (by kernel_rfl) (by kernel_rfl) (by kernel_rfl) (by kernel_rfl)))
#print axioms proved
end Go.Proofs.Ytkhenchhafmlmaa.ExtentStores
