/- Whether a list is right, and its size: the program's calls. -/
import Derived.Test.YtbagocghlijleaaGreatLfMay
import Derived.Test.YtbagocghlijleaaGreatRegF
namespace Go.Proofs.YtbagocghlijleaaGreat.Lf
set_option maxRecDepth 20000
open Go.RowKit
open Go.Proofs.YtbagocghlijleaaGreat.Mem Go.Proofs.YtbagocghlijleaaGreat.Crc Go.Proofs.YtbagocghlijleaaGreat.Rec Go.Proofs.YtbagocghlijleaaGreat.Reg
attribute [local go_sem ↓] ldX_eq stX_eq

theorem run_geq (P S : ByteArray) (V : World) : (binOp .geq 9 (.string P) (.string S)).run Tryz.prog V = .ok (.bool (!Op.bytesLess P.toList S.toList)) V := by simp [binOp, Op.stringOp]
theorem run_gtr (P S : ByteArray) (V : World) : (binOp .gtr 9 (.string P) (.string S)).run Tryz.prog V = .ok (.bool (!(Op.bytesLess P.toList S.toList || P.toList == S.toList))) V := by simp [binOp, Op.stringOp]
theorem okAt_get {l : List Nm} {k : Nat} (hk : k < l.length) : okAt l k = (okN l[k] && (decide (k = 0) || less (l.getD (k - 1) n0).t (l[k]).t)) := by
  unfold okAt
  rw [show l.getD k n0 = l[k] by rw [List.getD_eq_getElem?_getD, List.getElem?_eq_getElem hk]; rfl]
theorem okN_no_may {x : Nm} (h : may x.t = false) : okN x = false := by unfold okN; rw [h]; rfl
theorem okN_no_int {x : Nm} (h : ¬ (0 ≤ x.i ∧ x.i ≤ 1048576)) : okN x = false := by unfold okN; rw [decide_eq_false h, Bool.and_false]
theorem okN_yes {x : Nm} (h : may x.t = true) (h2 : 0 ≤ x.i ∧ x.i ≤ 1048576) : okN x = true := by unfold okN; rw [h, decide_eq_true h2]; rfl
theorem may_text (t : List UInt8) (ht : t.length ≤ maxLen) (V : World) : Calls Tryz.prog 125 #[.string ⟨t.toArray⟩] V fun E w' => E = .returned (.bool (may t)) ∧ w' = V := by
  have h := may_any ⟨t.toArray⟩ (by rw [text_size]; exact ht) V
  simpa using h

set_option maxRecDepth 100000 in
set_option maxHeartbeats 4000000 in
theorem right_any (A : Option Addr) (n c B : Nat) (l : List Nm) (w : World) (h : HoldsX w B A n l) (hB : B ≤ w.heap.size) (hr : ∀ x ∈ l, x.rep) (hn : n ≤ 5864062014805) :
    Calls Tryz.prog 93 #[.slice A n c] w fun e w' => e = .returned (.bool (right l)) ∧ Below w.heap.size w w' := by
  have hln := h.1
  have H := Lib.hid h; clear h
  have HLN := Lib.hid hln; clear hln
  have HR := Lib.hid hr; clear hr
  obtain ⟨r, hr⟩ : ∃ r, r = right l := ⟨_, rfl⟩
  rw [← hr]
  have HRT := Lib.hid hr; clear hr
  go_enter Tryz.func93, Tryz.ntmps93
  go_wp2
  go_loopw [7] (fun i wr => ∃ k : Nat, k ≤ n ∧ i = .int .i64 (k : Int) ∧ (∀ j, j < k → okAt l j = true) ∧ Below w.heap.size w wr) (fun i _ => n - (intOf i).toNat)
  case atStart => exact ⟨0, Nat.zero_le _, rfl, fun j h => absurd h (by omega), Below.refl _ _⟩
  case round =>
    obtain ⟨k, hk, rfl, hok, hbr⟩ := hrel
    have HOK := Lib.hid hok; clear hok
    rcases Nat.lt_or_ge k n with hlt | hge
    rotate_left
    · have hf : r = true := by rw [HRT.out, right_at]; exact fun j hj => HOK.out j (by have := HLN.out; omega)
      have HF := Lib.hid hf; clear hf
      have HBR := Lib.hid hbr; clear hbr
      have hkn : ¬ (k : Int) < (n : Int) := by omega
      go_wp2
      go_ret
      exact ⟨by rw [HF.out]; rfl, HBR.out⟩
    · obtain ⟨b, off, rfl, hbB⟩ := H.out.addr (by omega)
      have hkl : k < l.length := by have := HLN.out; omega
      obtain ⟨e, he⟩ : ∃ e, e = l[k] := ⟨_, rfl⟩
      have hrep : e.rep := HR.out e (he ▸ List.getElem_mem hkl)
      have hh := H.out.below (hbr.mono hB)
      have hld := run_ldX_at hh k hkl (off + k * 2) rfl
      rw [← he] at hld
      have hst := run_stX_new wr e
      have hvar : VarX (wr.alloc (.cells e.c 48)) wr.heap.size e := VarX.new wr e
      have hb1 : Below w.heap.size w (wr.alloc (.cells e.c 48)) := hbr.alloc hbr.size _
      have hmay : ∀ V, Calls Tryz.prog 125 #[.string ⟨e.t.toArray⟩] V fun E w' => E = .returned (.bool (may e.t)) ∧ w' = V := may_text e.t hrep.t
      have hk0 : (0 : Int) ≤ (k : Int) := by omega
      have hkn : (k : Int) < (n : Int) := by omega
      have hwg : w.heap.size ≤ wr.heap.size := hbr.size
      have hsz1 : (wr.alloc (.cells e.c 48)).heap.size = wr.heap.size + 1 := by simp
      have HBR := Lib.hid hbr; clear hbr
      have HREP := Lib.hid hrep.i; clear hrep
      have hokk := okAt_get hkl
      rw [← he] at hokk
      have HOKK := Lib.hid hokk; clear hokk
      -- the two names, read in any world behind
      have hlds : ∀ V, Below (wr.alloc (.cells e.c 48)).heap.size (wr.alloc (.cells e.c 48)) V → V.cell? ⟨wr.heap.size, 0, none⟩ = some (.string ⟨e.t.toArray⟩) ∧ V.cell? ⟨wr.heap.size, 1, none⟩ = some (.int .i64 e.i) := fun V hV => (hvar.keep hV (by rw [hsz1]; omega)).cells
      have hprev : 0 < k → ∀ V, Below (wr.alloc (.cells e.c 48)).heap.size (wr.alloc (.cells e.c 48)) V → V.cell? ⟨b, off + (k - 1) * 2, none⟩ = some (.string ⟨(l.getD (k - 1) n0).t.toArray⟩) := fun h0 V hV => by
        have hb2 : Below wr.heap.size wr V := ((Below.refl _ wr).alloc (Nat.le_refl _) _).trans (hV.mono (by rw [hsz1]; omega))
        have h1 := ((hh.below (hb2.mono (Nat.le_trans hB hwg))).cell (k - 1) (by omega)).1
        rw [h1, List.getD_eq_getElem?_getD, List.getElem?_eq_getElem (show k - 1 < l.length by omega), Option.getD_some]
      have HLDS := Lib.hid hlds; clear hlds
      have HPREV := Lib.hid hprev; clear hprev hh
      have hv0 := HLDS.out _ (Below.refl _ _)
      obtain ⟨q0, q1⟩ := hv0
      obtain ⟨C, hC⟩ : ∃ C, C = e.c := ⟨_, rfl⟩
      rw [← hC] at hld hst hb1 hsz1 q0 q1 hvar HLDS HPREV
      clear hvar
      have HC := Lib.hid hC; clear hC
      have HMAY := Lib.hid hmay; clear hmay
      have HB1 := Lib.hid hb1; clear hb1
      have HSZ := Lib.hid hsz1; clear hsz1
      have HE := Lib.hid he; clear he
      obtain ⟨S, hS⟩ : ∃ S : ByteArray, S = ⟨e.t.toArray⟩ := ⟨_, rfl⟩
      have hSl : S.toList = e.t := by rw [hS, text_list]
      rw [← hS] at q0 HMAY HLDS
      have HSL := Lib.hid hSl; clear hSl hS
      obtain ⟨ei, hei⟩ : ∃ ei, ei = e.i := ⟨_, rfl⟩
      rw [← hei] at q1 HREP HLDS
      have HEI := Lib.hid hei; clear hei
      obtain ⟨bei1, bei2⟩ := HREP.out
      clear HREP
      obtain ⟨m, hm⟩ : ∃ m, m = may e.t := ⟨_, rfl⟩
      rw [← hm] at HMAY
      have HM := Lib.hid hm; clear hm
      cases m with
      | false =>
        have hf : r = false := by rw [HRT.out]; exact right_no hkl (by rw [HOKK.out, okN_no_may HM.out.symm]; rfl)
        have HF := Lib.hid hf; clear hf
        go_wp2_with (with_reducible refine (HMAY.out _).mono ?_; rintro E w1 ⟨rfl, rfl⟩)
        go_ret
        exact ⟨by rw [HF.out]; rfl, HB1.out⟩
      | true =>
      rcases Decidable.em (ei < 0) with hi0 | hi0
      · have hf : r = false := by rw [HRT.out]; exact right_no hkl (by rw [HOKK.out, okN_no_int (by have := HEI.out; omega)]; rfl)
        have HF := Lib.hid hf; clear hf
        go_wp2_with (with_reducible refine (HMAY.out _).mono ?_; rintro E w1 ⟨rfl, rfl⟩)
        go_ret
        exact ⟨by rw [HF.out]; rfl, HB1.out⟩
      rcases Decidable.em (1048576 < ei) with hi1 | hi1
      · have hf : r = false := by rw [HRT.out]; exact right_no hkl (by rw [HOKK.out, okN_no_int (by have := HEI.out; omega)]; rfl)
        have HF := Lib.hid hf; clear hf
        go_wp2_with (with_reducible refine (HMAY.out _).mono ?_; rintro E w1 ⟨rfl, rfl⟩)
        go_ret
        exact ⟨by rw [HF.out]; rfl, HB1.out⟩
      have HOK2 : Hid (okAt l k = (decide (k = 0) || less (l.getD (k - 1) n0).t e.t)) := Lib.hid (by rw [HOKK.out, okN_yes HM.out.symm (by have := HEI.out; omega)]; rfl)
      clear HOKK
      go_wp2_with (with_reducible refine (HMAY.out _).mono ?_; rintro E w1 ⟨rfl, rfl⟩)
      clear hst hld
      generalize wr.alloc (.cells C 48) = W1 at HB1 HLDS HPREV HSZ q0 q1 ⊢
      have hS0 : ∀ V, Below W1.heap.size W1 V → V.cell? ⟨wr.heap.size, 0, none⟩ = some (.string S) := fun V hV => (HLDS.out V hV).1
      have HS0 := Lib.hid hS0; clear hS0
      rcases Nat.eq_zero_or_pos k with hkz | hkp
      · have hokk : okAt l k = true := by rw [HOK2.out, decide_eq_true hkz]; rfl
        have hnext : ∀ j, j < k + 1 → okAt l j = true := fun j hj => by
          rcases Nat.lt_or_ge j k with h | h
          · exact HOK.out j h
          · rwa [show j = k by omega]
        have HN := Lib.hid hnext; clear hnext hokk
        have hkd : decide ((0 : Int) < (k : Int)) = false := decide_eq_false (by omega)
        have hkd2 : decide ((k : Int) > 0) = false := decide_eq_false (by omega)
        have hkp2 : ¬ (0 : Int) < (k : Int) := by omega
        have hkp3 : ¬ 0 < k := by omega
        refine wp_region_E (fun V => Below W1.heap.size W1 V) 99 rfl ?_
        have hS := (show Below W1.heap.size W1 W1.drew from (Below.refl _ W1).drew)
        refine wpE_takeF 0 ⟨some 26, _, _, _, _, _⟩ (v := ?_) (by decide) rfl (by kernel_rfl) (by kernel_rfl) (by kernel_rfl) (fun _ _ _ h => h) hS (Or.inl ⟨by kernel_rfl, ?_⟩) ?_
        rotate_left
        · (intro V hSw; obtain hq2 := HS0.out V hSw; go_simp; try with_reducible rfl)
        try simp only [Act.put]
        refine wpE_takeF 1 ⟨some 27, _, _, _, _, _⟩ (v := ?_) (by decide) rfl (by kernel_rfl) (by kernel_rfl) (by kernel_rfl) (fun _ _ _ h => h) hS (Or.inl ⟨by kernel_rfl, ?_⟩) ?_
        rotate_left
        · (intro V hSw; obtain hq2 := HS0.out V hSw; go_simp; try with_reducible rfl)
        try simp only [Act.put]
        refine wpE_takeF 2 ⟨some 28, _, _, _, _, _⟩ (v := ?_) (by decide) rfl (by kernel_rfl) (by kernel_rfl) (by kernel_rfl) (fun _ _ _ h => h) hS (Or.inl ⟨by kernel_rfl, ?_⟩) ?_
        rotate_left
        · (intro V hSw; obtain hq2 := HS0.out V hSw; go_simp; try with_reducible rfl)
        try simp only [Act.put]
        refine wpE_takeF 3 ⟨some 29, _, _, _, _, _⟩ (v := undef) (by decide) rfl (by kernel_rfl) (by kernel_rfl) (by kernel_rfl) (fun _ _ _ h => h) hS (Or.inr ⟨by kernel_rfl, rfl⟩) ?_
        try simp only [Act.put]
        refine wpE_takeF 4 ⟨some 30, _, _, _, _, _⟩ (v := undef) (by decide) rfl (by kernel_rfl) (by kernel_rfl) (by kernel_rfl) (fun _ _ _ h => h) hS (Or.inr ⟨by kernel_rfl, rfl⟩) ?_
        try simp only [Act.put]
        refine wpE_takeF 5 ⟨some 31, _, _, _, _, _⟩ (v := undef) (by decide) rfl (by kernel_rfl) (by kernel_rfl) (by kernel_rfl) (fun _ _ _ h => h) hS (Or.inr ⟨by kernel_rfl, rfl⟩) ?_
        try simp only [Act.put]
        refine wpE_takeF 6 ⟨some 32, _, _, _, _, _⟩ (v := undef) (by decide) rfl (by kernel_rfl) (by kernel_rfl) (by kernel_rfl) (fun _ _ _ h => h) hS (Or.inr ⟨by kernel_rfl, rfl⟩) ?_
        try simp only [Act.put]
        refine wpE_takeF 7 ⟨some 33, _, _, _, _, _⟩ (v := undef) (by decide) rfl (by kernel_rfl) (by kernel_rfl) (by kernel_rfl) (fun _ _ _ h => h) hS (Or.inr ⟨by kernel_rfl, rfl⟩) ?_
        try simp only [Act.put]
        refine wpE_takeF 8 ⟨some 34, _, _, _, _, _⟩ (v := undef) (by decide) rfl (by kernel_rfl) (by kernel_rfl) (by kernel_rfl) (fun _ _ _ h => h) hS (Or.inr ⟨by kernel_rfl, rfl⟩) ?_
        try simp only [Act.put]
        refine wpE_takeF 9 ⟨some 35, _, _, _, _, _⟩ (v := undef) (by decide) rfl (by kernel_rfl) (by kernel_rfl) (by kernel_rfl) (fun _ _ _ h => h) hS (Or.inr ⟨by kernel_rfl, rfl⟩) ?_
        try simp only [Act.put]
        refine wpE_takeF 10 ⟨some 36, _, _, _, _, _⟩ (v := undef) (by decide) rfl (by kernel_rfl) (by kernel_rfl) (by kernel_rfl) (fun _ _ _ h => h) hS (Or.inr ⟨by kernel_rfl, rfl⟩) ?_
        try simp only [Act.put]
        refine wpE_takeF 11 ⟨some 37, _, _, _, _, _⟩ (v := undef) (by decide) rfl (by kernel_rfl) (by kernel_rfl) (by kernel_rfl) (fun _ _ _ h => h) hS (Or.inr ⟨by kernel_rfl, rfl⟩) ?_
        try simp only [Act.put]
        refine wpE_takeF 12 ⟨some 38, _, _, _, _, _⟩ (v := ?_) (by decide) rfl (by kernel_rfl) (by kernel_rfl) (by kernel_rfl) (fun _ _ _ h => h) hS (Or.inl ⟨by kernel_rfl, ?_⟩) ?_
        rotate_left
        · (intro V hSw; obtain hq2 := HS0.out V hSw; go_simp; try with_reducible rfl)
        try simp only [Act.put]
        refine wpE_done (by kernel_rfl) ?_ _
        try simp only [List.setIfInBounds_toArray, List.set_cons_succ, List.set_cons_zero]
        go_wp2
        go_roundw
        case rel => exact ⟨k + 1, by omega, by go_num, HN.out, HB1.out.drew⟩
        case measure => simp [intOf]; omega
      · obtain ⟨j, rfl⟩ : ∃ j, k = j + 1 := ⟨k - 1, by omega⟩
        have hprev := HPREV.out (by omega)
        rw [Nat.add_sub_cancel] at hprev
        have hq0 : okAt l (j + 1) = less (l.getD j n0).t e.t := by rw [HOK2.out, decide_eq_false (by omega), Bool.false_or, Nat.add_sub_cancel]
        obtain ⟨P, hP⟩ : ∃ P : ByteArray, P = ⟨(l.getD j n0).t.toArray⟩ := ⟨_, rfl⟩
        have hPl : P.toList = (l.getD j n0).t := by rw [hP, text_list]
        rw [← hP] at hprev
        clear hP
        have hboth : ∀ V, Below W1.heap.size W1 V → V.cell? ⟨wr.heap.size, 0, none⟩ = some (.string S) ∧ V.cell? ⟨b, off + j * 2, none⟩ = some (.string P) := fun V hV => ⟨HS0.out V hV, hprev V hV⟩
        have HS := Lib.hid hboth; clear hboth hprev HPREV
        have hwj : IntKind.i64.wrap (j : Int) = (j : Int) := by rw [IntKind.wrap_i64]; omega
        have hj0 : (0 : Int) ≤ (j : Int) := by omega
        have hjn : (j : Int) < (n : Int) := by omega
        have hjb : 0 ≤ (j : Int) ∧ (j : Int) < (n : Int) := ⟨hj0, hjn⟩
        obtain ⟨q, hq⟩ : ∃ q, Op.bytesLess P.toList S.toList = q := ⟨_, rfl⟩
        have HQ : Hid (okAt l (j + 1) = q) := Lib.hid (by rw [hq0, ← hq, HSL.out, hPl]; rfl)
        have hgeq : ∀ V, (binOp .geq 9 (.string P) (.string S)).run Tryz.prog V = .ok (.bool (!q)) V := fun V => by rw [← hq]; exact run_geq P S V
        clear hq0 hPl HSL HOK2 hq
        cases q with
        | false =>
          have hf : r = false := by rw [HRT.out]; exact right_no hkl HQ.out
          have HF := Lib.hid hf; clear hf
          refine wp_region_E (fun V => Below W1.heap.size W1 V) 99 rfl ?_
          have hS := (show Below W1.heap.size W1 W1.drew from (Below.refl _ W1).drew)
          refine wpE_takeF 0 ⟨some 26, _, _, _, _, _⟩ (v := ?_) (by decide) rfl (by kernel_rfl) (by kernel_rfl) (by kernel_rfl) (fun _ _ _ h => h) hS (Or.inl ⟨by kernel_rfl, ?_⟩) ?_
          rotate_left
          · (intro V hSw; obtain ⟨hq1, hq2⟩ := HS.out V hSw; go_simp; try with_reducible rfl)
          try simp only [Act.put]
          refine wpE_takeF 1 ⟨some 27, _, _, _, _, _⟩ (v := ?_) (by decide) rfl (by kernel_rfl) (by kernel_rfl) (by kernel_rfl) (fun _ _ _ h => h) hS (Or.inl ⟨by kernel_rfl, ?_⟩) ?_
          rotate_left
          · (intro V hSw; obtain ⟨hq1, hq2⟩ := HS.out V hSw; go_simp; try with_reducible rfl)
          try simp only [Act.put]
          refine wpE_takeF 2 ⟨some 28, _, _, _, _, _⟩ (v := ?_) (by decide) rfl (by kernel_rfl) (by kernel_rfl) (by kernel_rfl) (fun _ _ _ h => h) hS (Or.inl ⟨by kernel_rfl, ?_⟩) ?_
          rotate_left
          · (intro V hSw; obtain ⟨hq1, hq2⟩ := HS.out V hSw; go_simp; try with_reducible rfl)
          try simp only [Act.put]
          refine wpE_takeF 3 ⟨some 29, _, _, _, _, _⟩ (v := ?_) (by decide) rfl (by kernel_rfl) (by kernel_rfl) (by kernel_rfl) (fun _ _ _ h => h) hS (Or.inl ⟨by kernel_rfl, ?_⟩) ?_
          rotate_left
          · (intro V hSw; obtain ⟨hq1, hq2⟩ := HS.out V hSw; go_simp; try with_reducible rfl)
          try simp only [Act.put]
          refine wpE_takeF 4 ⟨some 30, _, _, _, _, _⟩ (v := ?_) (by decide) rfl (by kernel_rfl) (by kernel_rfl) (by kernel_rfl) (fun _ _ _ h => h) hS (Or.inl ⟨by kernel_rfl, ?_⟩) ?_
          rotate_left
          · (intro V hSw; obtain ⟨hq1, hq2⟩ := HS.out V hSw; go_simp; try with_reducible rfl)
          try simp only [Act.put]
          refine wpE_takeF 5 ⟨some 31, _, _, _, _, _⟩ (v := ?_) (by decide) rfl (by kernel_rfl) (by kernel_rfl) (by kernel_rfl) (fun _ _ _ h => h) hS (Or.inl ⟨by kernel_rfl, ?_⟩) ?_
          rotate_left
          · (intro V hSw; obtain ⟨hq1, hq2⟩ := HS.out V hSw; go_simp; try with_reducible rfl)
          try simp only [Act.put]
          refine wpE_takeF 6 ⟨some 32, _, _, _, _, _⟩ (v := ?_) (by decide) rfl (by kernel_rfl) (by kernel_rfl) (by kernel_rfl) (fun _ _ _ h => h) hS (Or.inl ⟨by kernel_rfl, ?_⟩) ?_
          rotate_left
          · (intro V hSw; obtain ⟨hq1, hq2⟩ := HS.out V hSw; go_simp; try with_reducible rfl)
          try simp only [Act.put]
          refine wpE_takeF 7 ⟨some 33, _, _, _, _, _⟩ (v := ?_) (by decide) rfl (by kernel_rfl) (by kernel_rfl) (by kernel_rfl) (fun _ _ _ h => h) hS (Or.inl ⟨by kernel_rfl, ?_⟩) ?_
          rotate_left
          · (intro V hSw; obtain ⟨hq1, hq2⟩ := HS.out V hSw; go_simp; try with_reducible rfl)
          try simp only [Act.put]
          refine wpE_takeF 8 ⟨some 34, _, _, _, _, _⟩ (v := ?_) (by decide) rfl (by kernel_rfl) (by kernel_rfl) (by kernel_rfl) (fun _ _ _ h => h) hS (Or.inl ⟨by kernel_rfl, ?_⟩) ?_
          rotate_left
          · (intro V hSw; obtain ⟨hq1, hq2⟩ := HS.out V hSw; go_simp; try with_reducible rfl)
          try simp only [Act.put]
          refine wpE_takeF 9 ⟨some 35, _, _, _, _, _⟩ (v := ?_) (by decide) rfl (by kernel_rfl) (by kernel_rfl) (by kernel_rfl) (fun _ _ _ h => h) hS (Or.inl ⟨by kernel_rfl, ?_⟩) ?_
          rotate_left
          · (intro V hSw; obtain ⟨hq1, hq2⟩ := HS.out V hSw; go_simp; try with_reducible rfl)
          try simp only [Act.put]
          refine wpE_takeF 10 ⟨some 36, _, _, _, _, _⟩ (v := ?_) (by decide) rfl (by kernel_rfl) (by kernel_rfl) (by kernel_rfl) (fun _ _ _ h => h) hS (Or.inl ⟨by kernel_rfl, ?_⟩) ?_
          rotate_left
          · (intro V hSw; obtain ⟨hq1, hq2⟩ := HS.out V hSw; go_simp; try with_reducible rfl)
          try simp only [Act.put]
          refine wpE_takeF 11 ⟨some 37, _, _, _, _, _⟩ (v := ?_) (by decide) rfl (by kernel_rfl) (by kernel_rfl) (by kernel_rfl) (fun _ _ _ h => h) hS (Or.inl ⟨by kernel_rfl, ?_⟩) ?_
          rotate_left
          · (intro V hSw; obtain ⟨hq1, hq2⟩ := HS.out V hSw; go_simp; try with_reducible rfl)
          try simp only [Act.put]
          refine wpE_takeF 12 ⟨some 38, _, _, _, _, _⟩ (v := ?_) (by decide) rfl (by kernel_rfl) (by kernel_rfl) (by kernel_rfl) (fun _ _ _ h => h) hS (Or.inl ⟨by kernel_rfl, ?_⟩) ?_
          rotate_left
          · (intro V hSw; obtain ⟨hq1, hq2⟩ := HS.out V hSw; go_simp; try with_reducible rfl)
          try simp only [Act.put]
          refine wpE_done (by kernel_rfl) ?_ _
          try simp only [List.setIfInBounds_toArray, List.set_cons_succ, List.set_cons_zero]
          go_wp2
          go_ret
          exact ⟨by rw [HF.out]; rfl, HB1.out.drew⟩
        | true =>
          have hnext : ∀ i, i < j + 1 + 1 → okAt l i = true := fun i hi => by
            rcases Nat.lt_or_ge i (j + 1) with h | h
            · exact HOK.out i h
            · rw [show i = j + 1 by omega]; exact HQ.out
          have HN := Lib.hid hnext; clear hnext
          refine wp_region_E (fun V => Below W1.heap.size W1 V) 99 rfl ?_
          have hS := (show Below W1.heap.size W1 W1.drew from (Below.refl _ W1).drew)
          refine wpE_takeF 0 ⟨some 26, _, _, _, _, _⟩ (v := ?_) (by decide) rfl (by kernel_rfl) (by kernel_rfl) (by kernel_rfl) (fun _ _ _ h => h) hS (Or.inl ⟨by kernel_rfl, ?_⟩) ?_
          rotate_left
          · (intro V hSw; obtain ⟨hq1, hq2⟩ := HS.out V hSw; go_simp; try with_reducible rfl)
          try simp only [Act.put]
          refine wpE_takeF 1 ⟨some 27, _, _, _, _, _⟩ (v := ?_) (by decide) rfl (by kernel_rfl) (by kernel_rfl) (by kernel_rfl) (fun _ _ _ h => h) hS (Or.inl ⟨by kernel_rfl, ?_⟩) ?_
          rotate_left
          · (intro V hSw; obtain ⟨hq1, hq2⟩ := HS.out V hSw; go_simp; try with_reducible rfl)
          try simp only [Act.put]
          refine wpE_takeF 2 ⟨some 28, _, _, _, _, _⟩ (v := ?_) (by decide) rfl (by kernel_rfl) (by kernel_rfl) (by kernel_rfl) (fun _ _ _ h => h) hS (Or.inl ⟨by kernel_rfl, ?_⟩) ?_
          rotate_left
          · (intro V hSw; obtain ⟨hq1, hq2⟩ := HS.out V hSw; go_simp; try with_reducible rfl)
          try simp only [Act.put]
          refine wpE_takeF 3 ⟨some 29, _, _, _, _, _⟩ (v := ?_) (by decide) rfl (by kernel_rfl) (by kernel_rfl) (by kernel_rfl) (fun _ _ _ h => h) hS (Or.inl ⟨by kernel_rfl, ?_⟩) ?_
          rotate_left
          · (intro V hSw; obtain ⟨hq1, hq2⟩ := HS.out V hSw; go_simp; try with_reducible rfl)
          try simp only [Act.put]
          refine wpE_takeF 4 ⟨some 30, _, _, _, _, _⟩ (v := ?_) (by decide) rfl (by kernel_rfl) (by kernel_rfl) (by kernel_rfl) (fun _ _ _ h => h) hS (Or.inl ⟨by kernel_rfl, ?_⟩) ?_
          rotate_left
          · (intro V hSw; obtain ⟨hq1, hq2⟩ := HS.out V hSw; go_simp; try with_reducible rfl)
          try simp only [Act.put]
          refine wpE_takeF 5 ⟨some 31, _, _, _, _, _⟩ (v := ?_) (by decide) rfl (by kernel_rfl) (by kernel_rfl) (by kernel_rfl) (fun _ _ _ h => h) hS (Or.inl ⟨by kernel_rfl, ?_⟩) ?_
          rotate_left
          · (intro V hSw; obtain ⟨hq1, hq2⟩ := HS.out V hSw; go_simp; try with_reducible rfl)
          try simp only [Act.put]
          refine wpE_takeF 6 ⟨some 32, _, _, _, _, _⟩ (v := ?_) (by decide) rfl (by kernel_rfl) (by kernel_rfl) (by kernel_rfl) (fun _ _ _ h => h) hS (Or.inl ⟨by kernel_rfl, ?_⟩) ?_
          rotate_left
          · (intro V hSw; obtain ⟨hq1, hq2⟩ := HS.out V hSw; go_simp; try with_reducible rfl)
          try simp only [Act.put]
          refine wpE_takeF 7 ⟨some 33, _, _, _, _, _⟩ (v := ?_) (by decide) rfl (by kernel_rfl) (by kernel_rfl) (by kernel_rfl) (fun _ _ _ h => h) hS (Or.inl ⟨by kernel_rfl, ?_⟩) ?_
          rotate_left
          · (intro V hSw; obtain ⟨hq1, hq2⟩ := HS.out V hSw; go_simp; try with_reducible rfl)
          try simp only [Act.put]
          refine wpE_takeF 8 ⟨some 34, _, _, _, _, _⟩ (v := ?_) (by decide) rfl (by kernel_rfl) (by kernel_rfl) (by kernel_rfl) (fun _ _ _ h => h) hS (Or.inl ⟨by kernel_rfl, ?_⟩) ?_
          rotate_left
          · (intro V hSw; obtain ⟨hq1, hq2⟩ := HS.out V hSw; go_simp; try with_reducible rfl)
          try simp only [Act.put]
          refine wpE_takeF 9 ⟨some 35, _, _, _, _, _⟩ (v := ?_) (by decide) rfl (by kernel_rfl) (by kernel_rfl) (by kernel_rfl) (fun _ _ _ h => h) hS (Or.inl ⟨by kernel_rfl, ?_⟩) ?_
          rotate_left
          · (intro V hSw; obtain ⟨hq1, hq2⟩ := HS.out V hSw; go_simp; try with_reducible rfl)
          try simp only [Act.put]
          refine wpE_takeF 10 ⟨some 36, _, _, _, _, _⟩ (v := ?_) (by decide) rfl (by kernel_rfl) (by kernel_rfl) (by kernel_rfl) (fun _ _ _ h => h) hS (Or.inl ⟨by kernel_rfl, ?_⟩) ?_
          rotate_left
          · (intro V hSw; obtain ⟨hq1, hq2⟩ := HS.out V hSw; go_simp; try with_reducible rfl)
          try simp only [Act.put]
          refine wpE_takeF 11 ⟨some 37, _, _, _, _, _⟩ (v := ?_) (by decide) rfl (by kernel_rfl) (by kernel_rfl) (by kernel_rfl) (fun _ _ _ h => h) hS (Or.inl ⟨by kernel_rfl, ?_⟩) ?_
          rotate_left
          · (intro V hSw; obtain ⟨hq1, hq2⟩ := HS.out V hSw; go_simp; try with_reducible rfl)
          try simp only [Act.put]
          refine wpE_takeF 12 ⟨some 38, _, _, _, _, _⟩ (v := ?_) (by decide) rfl (by kernel_rfl) (by kernel_rfl) (by kernel_rfl) (fun _ _ _ h => h) hS (Or.inl ⟨by kernel_rfl, ?_⟩) ?_
          rotate_left
          · (intro V hSw; obtain ⟨hq1, hq2⟩ := HS.out V hSw; go_simp; try with_reducible rfl)
          try simp only [Act.put]
          refine wpE_done (by kernel_rfl) ?_ _
          try simp only [List.setIfInBounds_toArray, List.set_cons_succ, List.set_cons_zero]
          go_wp2
          go_roundw
          case rel => exact ⟨j + 1 + 1, by omega, by go_num, HN.out, HB1.out.drew⟩
          case measure => simp [intOf]; omega

theorem right_may {l : List Nm} (h : right l = true) {k : Nat} (hk : k < l.length) : okN l[k] = true := ((right_iff l).1 h).1 _ (List.getElem_mem hk)
theorem sizeL_far {l : List Nm} (h : right l = true) (k : Nat) : sizeL (l.take k) ≤ 37 * l.length := by
  have h1 := sizeL_le (l.take k) (fun x hx => ((right_iff l).1 h).1 x (List.mem_of_mem_take hx))
  rw [List.length_take] at h1
  omega
set_option maxRecDepth 100000 in
set_option maxHeartbeats 4000000 in
theorem size_any (A : Option Addr) (n c B : Nat) (l : List Nm) (w : World) (h : HoldsX w B A n l) (hB : B ≤ w.heap.size) (hr : ∀ x ∈ l, x.rep) (hn : n ≤ 5864062014805) :
    Calls Tryz.prog 68 #[.slice A n c] w fun e w' => e = .returned (.tuple #[.int .i64 (size l).1, .int .i64 (size l).2]) ∧ Below w.heap.size w w' := by
  have hln := h.1
  have hright := right_any A n c B l w h hB hr hn
  obtain ⟨q, hq⟩ : ∃ q, right l = q := ⟨_, rfl⟩
  rw [hq] at hright
  obtain ⟨y1, hy1⟩ : ∃ y1, y1 = (size l).1 := ⟨_, rfl⟩
  obtain ⟨y2, hy2⟩ : ∃ y2, y2 = (size l).2 := ⟨_, rfl⟩
  rw [← hy1, ← hy2]
  have H := Lib.hid h; clear h
  have HLN := Lib.hid hln; clear hln
  have HRIGHT := Lib.hid hright; clear hright
  cases q with
  | false =>
    have HY : Hid (y1 = 0 ∧ y2 = 1) := Lib.hid (by rw [hy1, hy2, size_not hq]; exact ⟨rfl, rfl⟩)
    clear hy1 hy2 hq
    go_enter Tryz.func68, Tryz.ntmps68
    go_wp2_with (with_reducible refine HRIGHT.out.mono ?_; rintro E w1 ⟨rfl, hb⟩)
    go_ret2
    exact ⟨by rw [HY.out.1, HY.out.2]; rfl, hb⟩
  | true =>
    have HY : Hid (y1 = (sizeL l : Int) ∧ y2 = 0) := Lib.hid (by rw [hy1, hy2, size_yes hq]; exact ⟨rfl, rfl⟩)
    clear hy1 hy2
    have HQ := Lib.hid hq; clear hq
    go_enter Tryz.func68, Tryz.ntmps68
    go_wp2_with (with_reducible refine HRIGHT.out.mono ?_; rintro E w1 ⟨rfl, hb0⟩)
    have HB0 := Lib.hid hb0; clear hb0
    go_loopw [4, 12] (fun s i wr => ∃ k : Nat, k ≤ n ∧ i = .int .i64 (k : Int) ∧ s = .int .i64 (sizeL (l.take k) : Int) ∧ Below w.heap.size w wr) (fun _ i _ => n - (intOf i).toNat)
    case atStart => exact ⟨0, Nat.zero_le _, rfl, rfl, HB0.out⟩
    case round =>
      obtain ⟨k, hk, rfl, rfl, hbr⟩ := hrel
      rcases Nat.lt_or_ge k n with hlt | hge
      rotate_left
      · have hkn : ¬ (k : Int) < (n : Int) := by omega
        have HBR := Lib.hid hbr; clear hbr
        have HS : Hid (sizeL (l.take k) = sizeL l) := Lib.hid (by rw [List.take_of_length_le (by have := HLN.out; omega)])
        generalize sizeL (l.take k) = z at HS ⊢
        go_wp2
        go_ret2
        exact ⟨by rw [HY.out.1, HY.out.2, ← HS.out]; rfl, HBR.out⟩
      · obtain ⟨b, off, rfl, hbB⟩ := H.out.addr (by omega)
        have hkl : k < l.length := by have := HLN.out; omega
        obtain ⟨e, he⟩ : ∃ e, e = l[k] := ⟨_, rfl⟩
        have hh := H.out.below (hbr.mono hB)
        have hld := run_ldX_at hh k hkl (off + k * 2) rfl
        rw [← he] at hld
        have hst := run_stX_new wr e
        have hvar : VarX (wr.alloc (.cells e.c 48)) wr.heap.size e := VarX.new wr e
        have hb1 : Below w.heap.size w (wr.alloc (.cells e.c 48)) := hbr.alloc hbr.size _
        have q0 := hvar.cells.1
        have hlen := may_len (okN_may (he ▸ right_may HQ.out hkl)).1
        have hnext := sizeL_take l k hkl
        rw [← he] at hnext
        have hfar := sizeL_far HQ.out (k + 1)
        rw [HLN.out] at hfar
        rw [hnext] at hfar
        obtain ⟨S, hS⟩ : ∃ S : ByteArray, S = ⟨e.t.toArray⟩ := ⟨_, rfl⟩
        have hSs : S.size = e.t.length := by rw [hS, text_size]
        rw [← hS] at q0
        rw [← hSs] at hlen hnext hfar
        clear hS hSs hvar hh
        generalize sizeL (l.take k) = z at hnext hfar ⊢
        have HN := Lib.hid hnext; clear hnext
        have HB1 := Lib.hid hb1; clear hb1 hbr
        obtain ⟨C, hC⟩ : ∃ C, C = e.c := ⟨_, rfl⟩
        rw [← hC] at hld hst q0 HB1
        clear hC he
        have hk0 : (0 : Int) ≤ (k : Int) := by omega
        have hkn : (k : Int) < (n : Int) := by omega
        obtain ⟨z', hz'⟩ : ∃ z', z' = z + (5 + S.size) := ⟨_, rfl⟩
        have HZ := Lib.hid hz'; clear hz'
        go_wp2
        go_roundw
        case rel => exact ⟨k + 1, by omega, by go_num, by rw [HN.out]; go_num, HB1.out⟩
        case measure => simp [intOf]; omega
end Go.Proofs.YtbagocghlijleaaGreat.Lf
