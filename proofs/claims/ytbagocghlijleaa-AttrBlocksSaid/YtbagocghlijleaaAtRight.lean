/- Whether an attribute may be, whether a list is right, whether it fits: the program's calls. -/
import Derived.Test.YtbagocghlijleaaAtIns
namespace Go.Proofs.Ytbagocghlijleaa.At
set_option maxRecDepth 20000
set_option linter.unusedSimpArgs false
open Go.RowKit
open Go.Proofs.Ytbagocghlijleaa.Mem Go.Proofs.Ytbagocghlijleaa.Crc Go.Proofs.Ytbagocghlijleaa.Rec Go.Proofs.Ytbagocghlijleaa.Reg
open Go.Proofs.Ytbagocghlijleaa.Lf (less)
attribute [local go_sem ↓] ldX_eq stX_eq

theorem run_geq (P S : ByteArray) (V : World) : (binOp .geq 9 (.string P) (.string S)).run Try.prog V = .ok (.bool (!Op.bytesLess P.toList S.toList)) V := by simp [binOp, Op.stringOp]
theorem okAt_get {l : List Pr} {k : Nat} (hk : k < l.length) : okAt l k = (okP l[k] && (decide (k = 0) || less (l.getD (k - 1) p0).t (l[k]).t)) := by
  unfold okAt
  rw [getD_at hk]

theorem may_any (x : Pr) (w : World) : Calls Try.prog 21 #[.agg x.c] w fun e w' => e = .returned (.bool (okP x)) ∧ Below w.heap.size w w' := by
  obtain ⟨w0, hw0⟩ : ∃ w0, w0 = w.alloc (.cells x.c 24) := ⟨_, rfl⟩
  have hv : VarX w0 w.heap.size x := by rw [hw0]; exact VarX.new w x
  have hb : Below w.heap.size w w0 := by rw [hw0]; exact (Below.refl _ w).alloc (Nat.le_refl _) _
  obtain ⟨q0, q1⟩ := hv.cells
  obtain ⟨S, hS⟩ : ∃ S : ByteArray, S = ⟨x.t.toArray⟩ := ⟨_, rfl⟩
  obtain ⟨U, hU⟩ : ∃ U : ByteArray, U = ⟨x.v.toArray⟩ := ⟨_, rfl⟩
  have hs : S.size = x.t.length := by rw [hS, text_size]
  have hu : U.size = x.v.length := by rw [hU, text_size]
  rw [← hS] at q0
  rw [← hU] at q1
  have hok : okP x = (decide (1 ≤ S.size) && (decide (S.size ≤ 16) && decide (U.size ≤ 64))) := by unfold okP; rw [hs, hu]
  rw [hok]
  obtain ⟨C, hC⟩ : ∃ C, C = x.c := ⟨_, rfl⟩
  rw [← hC] at hw0 ⊢
  have HB := Lib.hid hb; clear hb hC hv hok hs hu hS hU
  have HW0 := Lib.hid hw0
  rw [hw0] at q0 q1
  clear hw0
  by_cases h1 : 1 ≤ S.size
  · have h1i : (1 : Int) ≤ (S.size : Int) := by omega
    by_cases h2 : S.size ≤ 16
    · have h2i : (S.size : Int) ≤ 16 := by omega
      go_enter Try.func21, Try.ntmps21
      go_wp2
      go_ret
      exact ⟨by simp [h1, h2] <;> omega, HW0.out ▸ HB.out⟩
    · have h2i : ¬ (S.size : Int) ≤ 16 := by omega
      go_enter Try.func21, Try.ntmps21
      go_wp2
      go_ret
      exact ⟨by simp [h1, h2], HW0.out ▸ HB.out⟩
  · have h1i : ¬ (1 : Int) ≤ (S.size : Int) := by omega
    go_enter Try.func21, Try.ntmps21
    go_wp2
    go_ret
    exact ⟨by simp [h1], HW0.out ▸ HB.out⟩

set_option maxRecDepth 100000 in
set_option maxHeartbeats 4000000 in
theorem right_any (A : Option Addr) (n c B : Nat) (l : List Pr) (w : World) (h : HoldsX w B A n l) (hB : B ≤ w.heap.size) (hn : n ≤ 4398046511104) :
    Calls Try.prog 20 #[.slice A n c] w fun e w' => e = .returned (.bool (right l)) ∧ Below w.heap.size w w' := by
  have hln := h.1
  have H := Lib.hid h; clear h
  have HLN := Lib.hid hln; clear hln
  obtain ⟨r, hr⟩ : ∃ r, r = right l := ⟨_, rfl⟩
  rw [← hr]
  have HRT := Lib.hid hr; clear hr
  go_enter Try.func20, Try.ntmps20
  go_wp2
  go_loopw [7] (fun i wr => ∃ k : Nat, k ≤ n ∧ i = .int .i64 (k : Int) ∧ (∀ j, j < k → okAt l j = true) ∧ Below w.heap.size w wr) (fun i _ => n - (intOf i).toNat)
  case atStart => exact ⟨0, Nat.zero_le _, rfl, fun j h => absurd h (by omega), Below.refl _ _⟩
  case round =>
    obtain ⟨k, hk, rfl, hok, hbr⟩ := hrel
    have HOK := Lib.hid hok; clear hok
    rcases Nat.lt_or_ge k n with hlt | hge
    rotate_left
    · have hf : r = true := by rw [HRT.out, right_at]; exact fun j hj => HOK.out j (by have := HLN.out; omega)
      have HF := Lib.hid hf; clear hf
      have HBR := Lib.hid hbr; clear hbr
      have hkn : ¬ (k : Int) < (n : Int) := by omega
      go_wp2
      go_ret
      exact ⟨by rw [HF.out]; rfl, HBR.out⟩
    · obtain ⟨b, off, rfl, hbB⟩ := H.out.addr (by omega)
      have hkl : k < l.length := by have := HLN.out; omega
      obtain ⟨e, he⟩ : ∃ e, e = l[k] := ⟨_, rfl⟩
      have hh := H.out.below (hbr.mono hB)
      have hld := run_ldX_at hh k hkl (off + k * 2) rfl
      rw [← he] at hld
      have hst := run_stX_new wr e
      have hvar : VarX (wr.alloc (.cells e.c 24)) wr.heap.size e := VarX.new wr e
      have hb1 : Below w.heap.size w (wr.alloc (.cells e.c 24)) := hbr.alloc hbr.size _
      have hmay := fun V => may_any e V
      have hk0 : (0 : Int) ≤ (k : Int) := by omega
      have hkn : (k : Int) < (n : Int) := by omega
      have hwg : w.heap.size ≤ wr.heap.size := hbr.size
      have hsz1 : (wr.alloc (.cells e.c 24)).heap.size = wr.heap.size + 1 := by simp
      have HBR := Lib.hid hbr; clear hbr
      have hokk := okAt_get hkl
      rw [← he] at hokk
      have HOKK := Lib.hid hokk; clear hokk
      -- the attribute, read in any world behind
      have hlds : ∀ V, Below (wr.alloc (.cells e.c 24)).heap.size (wr.alloc (.cells e.c 24)) V → V.cell? ⟨wr.heap.size, 0, none⟩ = some (.string ⟨e.t.toArray⟩) ∧ (ldX (.pointer (some ⟨wr.heap.size, 0, none⟩))).run Try.prog V = .ok (.agg e.c) V := fun V hV =>
        ⟨(hvar.keep hV (by rw [hsz1]; omega)).cells.1, (hvar.keep hV (by rw [hsz1]; omega)).load⟩
      have hprev : 0 < k → ∀ V, Below (wr.alloc (.cells e.c 24)).heap.size (wr.alloc (.cells e.c 24)) V → V.cell? ⟨b, off + (k - 1) * 2, none⟩ = some (.string ⟨(l.getD (k - 1) p0).t.toArray⟩) := fun h0 V hV => by
        have hb2 : Below wr.heap.size wr V := ((Below.refl _ wr).alloc (Nat.le_refl _) _).trans (hV.mono (by rw [hsz1]; omega))
        have h1 := ((hh.below (hb2.mono (Nat.le_trans hB hwg))).cell (k - 1) (by omega)).1
        rw [h1, getD_at (show k - 1 < l.length by omega)]
      have HLDS := Lib.hid hlds; clear hlds
      have HPREV := Lib.hid hprev; clear hprev hh
      obtain ⟨C, hC⟩ : ∃ C, C = e.c := ⟨_, rfl⟩
      rw [← hC] at hld hst hb1 hsz1 hvar HLDS HPREV
      simp only [← hC] at hmay
      clear hvar
      have HC := Lib.hid hC; clear hC
      have HMAY := Lib.hid hmay; clear hmay
      have HB1 := Lib.hid hb1; clear hb1
      have HSZ := Lib.hid hsz1; clear hsz1
      have HE := Lib.hid he; clear he
      obtain ⟨S, hS⟩ : ∃ S : ByteArray, S = ⟨e.t.toArray⟩ := ⟨_, rfl⟩
      have hSl : S.toList = e.t := by rw [hS, text_list]
      rw [← hS] at HLDS
      have HSL := Lib.hid hSl; clear hSl hS
      obtain ⟨m, hm⟩ : ∃ m, m = okP e := ⟨_, rfl⟩
      simp only [← hm] at HMAY
      have HM := Lib.hid hm; clear hm
      go_wp2
      clear hst hld
      generalize wr.alloc (.cells C 24) = W1 at HB1 HLDS HPREV HSZ ⊢
      cases m with
      | false =>
        have hf : r = false := by rw [HRT.out]; exact right_no hkl (by rw [HOKK.out, ← HM.out]; rfl)
        have HF := Lib.hid hf; clear hf
        have HS := HLDS
        refine wp_region_E (fun V => Below W1.heap.size W1 V) 99 rfl ?_
        have hS := (show Below W1.heap.size W1 W1.drew from (Below.refl _ W1).drew)
        refine wpE_takeF 0 ⟨some 12, _, _, _, _, _⟩ (v := ?_) (by decide) rfl (by kernel_rfl) (by kernel_rfl) (by kernel_rfl) (fun _ _ _ h => h) hS (Or.inl ⟨by kernel_rfl, ?_⟩) ?_
        rotate_left
        · (intro V hSw; obtain ⟨hq0, hq1⟩ := HS.out V hSw; go_simp; try with_reducible rfl)
        try simp only [Act.put]
        refine wpE_one 1 (o := ⟨some 13, _, _, _, _, _⟩) (by kernel_rfl) rfl (fun K' hK' => ?_)
        rw [if_pos (by kernel_rfl)]
        refine call_wp 21 _ _ _ _ rfl Try.func21 (by kernel_rfl) rfl _ ?hv _ (HMAY.out _) ?_
        case hv => simp only [List.map_toArray, List.map_cons, List.map_nil]; go_simp
        rintro E V2 ⟨rfl, hb2⟩
        have hb2' : Below W1.heap.size W1 V2 := hS.trans (hb2.mono hS.size)
        refine ⟨_, rfl, hK'.out _ _ hb2' (fun hS => ?_)⟩
        clear hK' K'
        try simp only [Act.put]
        refine wpE_takeF 2 ⟨some 14, _, _, _, _, _⟩ (v := ?_) (by decide) rfl (by kernel_rfl) (by kernel_rfl) (by kernel_rfl) (fun _ _ _ h => h) hS (Or.inl ⟨by kernel_rfl, ?_⟩) ?_
        rotate_left
        · (intro V hSw; obtain ⟨hq0, hq1⟩ := HS.out V hSw; go_simp; try with_reducible rfl)
        try simp only [Act.put]
        refine wpE_takeF 3 ⟨some 15, _, _, _, _, _⟩ (v := ?_) (by decide) rfl (by kernel_rfl) (by kernel_rfl) (by kernel_rfl) (fun _ _ _ h => h) hS (Or.inl ⟨by kernel_rfl, ?_⟩) ?_
        rotate_left
        · (intro V hSw; obtain ⟨hq0, hq1⟩ := HS.out V hSw; go_simp; try with_reducible rfl)
        try simp only [Act.put]
        refine wpE_takeF 4 ⟨some 16, _, _, _, _, _⟩ (v := undef) (by decide) rfl (by kernel_rfl) (by kernel_rfl) (by kernel_rfl) (fun _ _ _ h => h) hS (Or.inr ⟨by kernel_rfl, rfl⟩) ?_
        try simp only [Act.put]
        refine wpE_takeF 5 ⟨some 17, _, _, _, _, _⟩ (v := undef) (by decide) rfl (by kernel_rfl) (by kernel_rfl) (by kernel_rfl) (fun _ _ _ h => h) hS (Or.inr ⟨by kernel_rfl, rfl⟩) ?_
        try simp only [Act.put]
        refine wpE_takeF 6 ⟨some 18, _, _, _, _, _⟩ (v := undef) (by decide) rfl (by kernel_rfl) (by kernel_rfl) (by kernel_rfl) (fun _ _ _ h => h) hS (Or.inr ⟨by kernel_rfl, rfl⟩) ?_
        try simp only [Act.put]
        refine wpE_takeF 7 ⟨some 19, _, _, _, _, _⟩ (v := undef) (by decide) rfl (by kernel_rfl) (by kernel_rfl) (by kernel_rfl) (fun _ _ _ h => h) hS (Or.inr ⟨by kernel_rfl, rfl⟩) ?_
        try simp only [Act.put]
        refine wpE_takeF 8 ⟨some 20, _, _, _, _, _⟩ (v := undef) (by decide) rfl (by kernel_rfl) (by kernel_rfl) (by kernel_rfl) (fun _ _ _ h => h) hS (Or.inr ⟨by kernel_rfl, rfl⟩) ?_
        try simp only [Act.put]
        refine wpE_takeF 9 ⟨some 21, _, _, _, _, _⟩ (v := undef) (by decide) rfl (by kernel_rfl) (by kernel_rfl) (by kernel_rfl) (fun _ _ _ h => h) hS (Or.inr ⟨by kernel_rfl, rfl⟩) ?_
        try simp only [Act.put]
        refine wpE_takeF 10 ⟨some 22, _, _, _, _, _⟩ (v := undef) (by decide) rfl (by kernel_rfl) (by kernel_rfl) (by kernel_rfl) (fun _ _ _ h => h) hS (Or.inr ⟨by kernel_rfl, rfl⟩) ?_
        try simp only [Act.put]
        refine wpE_takeF 11 ⟨some 23, _, _, _, _, _⟩ (v := undef) (by decide) rfl (by kernel_rfl) (by kernel_rfl) (by kernel_rfl) (fun _ _ _ h => h) hS (Or.inr ⟨by kernel_rfl, rfl⟩) ?_
        try simp only [Act.put]
        refine wpE_takeF 12 ⟨some 24, _, _, _, _, _⟩ (v := undef) (by decide) rfl (by kernel_rfl) (by kernel_rfl) (by kernel_rfl) (fun _ _ _ h => h) hS (Or.inr ⟨by kernel_rfl, rfl⟩) ?_
        try simp only [Act.put]
        refine wpE_takeF 13 ⟨some 25, _, _, _, _, _⟩ (v := undef) (by decide) rfl (by kernel_rfl) (by kernel_rfl) (by kernel_rfl) (fun _ _ _ h => h) hS (Or.inr ⟨by kernel_rfl, rfl⟩) ?_
        try simp only [Act.put]
        refine wpE_takeF 14 ⟨some 26, _, _, _, _, _⟩ (v := undef) (by decide) rfl (by kernel_rfl) (by kernel_rfl) (by kernel_rfl) (fun _ _ _ h => h) hS (Or.inr ⟨by kernel_rfl, rfl⟩) ?_
        try simp only [Act.put]
        refine wpE_takeF 15 ⟨some 27, _, _, _, _, _⟩ (v := undef) (by decide) rfl (by kernel_rfl) (by kernel_rfl) (by kernel_rfl) (fun _ _ _ h => h) hS (Or.inr ⟨by kernel_rfl, rfl⟩) ?_
        try simp only [Act.put]
        refine wpE_takeF 16 ⟨some 28, _, _, _, _, _⟩ (v := undef) (by decide) rfl (by kernel_rfl) (by kernel_rfl) (by kernel_rfl) (fun _ _ _ h => h) hS (Or.inr ⟨by kernel_rfl, rfl⟩) ?_
        try simp only [Act.put]
        refine wpE_takeF 17 ⟨some 29, _, _, _, _, _⟩ (v := ?_) (by decide) rfl (by kernel_rfl) (by kernel_rfl) (by kernel_rfl) (fun _ _ _ h => h) hS (Or.inl ⟨by kernel_rfl, ?_⟩) ?_
        rotate_left
        · (intro V hSw; obtain ⟨hq0, hq1⟩ := HS.out V hSw; go_simp; try with_reducible rfl)
        try simp only [Act.put]
        refine wpE_done (by kernel_rfl) ?_ _
        try simp only [List.setIfInBounds_toArray, List.set_cons_succ, List.set_cons_zero]
        go_wp2
        go_ret
        exact ⟨by rw [HF.out]; rfl, HB1.out.trans (hS.mono HB1.out.size)⟩
      | true =>
      have HOK2 : Hid (okAt l k = (decide (k = 0) || less (l.getD (k - 1) p0).t e.t)) := Lib.hid (by rw [HOKK.out, ← HM.out]; rfl)
      clear HOKK
      rcases Nat.eq_zero_or_pos k with hkz | hkp
      · have hokk : okAt l k = true := by rw [HOK2.out, decide_eq_true hkz]; rfl
        have hnext : ∀ j, j < k + 1 → okAt l j = true := fun j hj => by
          rcases Nat.lt_or_ge j k with h | h
          · exact HOK.out j h
          · rwa [show j = k by omega]
        have HN := Lib.hid hnext; clear hnext hokk
        have hkd : decide ((0 : Int) < (k : Int)) = false := decide_eq_false (by omega)
        have hkd2 : decide ((k : Int) > 0) = false := decide_eq_false (by omega)
        have hkp2 : ¬ (0 : Int) < (k : Int) := by omega
        have hkp3 : ¬ 0 < k := by omega
        have HS := HLDS
        refine wp_region_E (fun V => Below W1.heap.size W1 V) 99 rfl ?_
        have hS := (show Below W1.heap.size W1 W1.drew from (Below.refl _ W1).drew)
        refine wpE_takeF 0 ⟨some 12, _, _, _, _, _⟩ (v := ?_) (by decide) rfl (by kernel_rfl) (by kernel_rfl) (by kernel_rfl) (fun _ _ _ h => h) hS (Or.inl ⟨by kernel_rfl, ?_⟩) ?_
        rotate_left
        · (intro V hSw; obtain ⟨hq0, hq1⟩ := HS.out V hSw; go_simp; try with_reducible rfl)
        try simp only [Act.put]
        refine wpE_one 1 (o := ⟨some 13, _, _, _, _, _⟩) (by kernel_rfl) rfl (fun K' hK' => ?_)
        rw [if_pos (by kernel_rfl)]
        refine call_wp 21 _ _ _ _ rfl Try.func21 (by kernel_rfl) rfl _ ?hv _ (HMAY.out _) ?_
        case hv => simp only [List.map_toArray, List.map_cons, List.map_nil]; go_simp
        rintro E V2 ⟨rfl, hb2⟩
        have hb2' : Below W1.heap.size W1 V2 := hS.trans (hb2.mono hS.size)
        refine ⟨_, rfl, hK'.out _ _ hb2' (fun hS => ?_)⟩
        clear hK' K'
        try simp only [Act.put]
        refine wpE_takeF 2 ⟨some 14, _, _, _, _, _⟩ (v := ?_) (by decide) rfl (by kernel_rfl) (by kernel_rfl) (by kernel_rfl) (fun _ _ _ h => h) hS (Or.inl ⟨by kernel_rfl, ?_⟩) ?_
        rotate_left
        · (intro V hSw; obtain ⟨hq0, hq1⟩ := HS.out V hSw; go_simp; try with_reducible rfl)
        try simp only [Act.put]
        refine wpE_takeF 3 ⟨some 15, _, _, _, _, _⟩ (v := ?_) (by decide) rfl (by kernel_rfl) (by kernel_rfl) (by kernel_rfl) (fun _ _ _ h => h) hS (Or.inl ⟨by kernel_rfl, ?_⟩) ?_
        rotate_left
        · (intro V hSw; obtain ⟨hq0, hq1⟩ := HS.out V hSw; go_simp; try with_reducible rfl)
        try simp only [Act.put]
        refine wpE_takeF 4 ⟨some 16, _, _, _, _, _⟩ (v := ?_) (by decide) rfl (by kernel_rfl) (by kernel_rfl) (by kernel_rfl) (fun _ _ _ h => h) hS (Or.inl ⟨by kernel_rfl, ?_⟩) ?_
        rotate_left
        · (intro V hSw; obtain ⟨hq0, hq1⟩ := HS.out V hSw; go_simp; try with_reducible rfl)
        try simp only [Act.put]
        refine wpE_takeF 5 ⟨some 17, _, _, _, _, _⟩ (v := ?_) (by decide) rfl (by kernel_rfl) (by kernel_rfl) (by kernel_rfl) (fun _ _ _ h => h) hS (Or.inl ⟨by kernel_rfl, ?_⟩) ?_
        rotate_left
        · (intro V hSw; obtain ⟨hq0, hq1⟩ := HS.out V hSw; go_simp; try with_reducible rfl)
        try simp only [Act.put]
        refine wpE_takeF 6 ⟨some 18, _, _, _, _, _⟩ (v := ?_) (by decide) rfl (by kernel_rfl) (by kernel_rfl) (by kernel_rfl) (fun _ _ _ h => h) hS (Or.inl ⟨by kernel_rfl, ?_⟩) ?_
        rotate_left
        · (intro V hSw; obtain ⟨hq0, hq1⟩ := HS.out V hSw; go_simp; try with_reducible rfl)
        try simp only [Act.put]
        refine wpE_takeF 7 ⟨some 19, _, _, _, _, _⟩ (v := undef) (by decide) rfl (by kernel_rfl) (by kernel_rfl) (by kernel_rfl) (fun _ _ _ h => h) hS (Or.inr ⟨by kernel_rfl, rfl⟩) ?_
        try simp only [Act.put]
        refine wpE_takeF 8 ⟨some 20, _, _, _, _, _⟩ (v := undef) (by decide) rfl (by kernel_rfl) (by kernel_rfl) (by kernel_rfl) (fun _ _ _ h => h) hS (Or.inr ⟨by kernel_rfl, rfl⟩) ?_
        try simp only [Act.put]
        refine wpE_takeF 9 ⟨some 21, _, _, _, _, _⟩ (v := undef) (by decide) rfl (by kernel_rfl) (by kernel_rfl) (by kernel_rfl) (fun _ _ _ h => h) hS (Or.inr ⟨by kernel_rfl, rfl⟩) ?_
        try simp only [Act.put]
        refine wpE_takeF 10 ⟨some 22, _, _, _, _, _⟩ (v := undef) (by decide) rfl (by kernel_rfl) (by kernel_rfl) (by kernel_rfl) (fun _ _ _ h => h) hS (Or.inr ⟨by kernel_rfl, rfl⟩) ?_
        try simp only [Act.put]
        refine wpE_takeF 11 ⟨some 23, _, _, _, _, _⟩ (v := undef) (by decide) rfl (by kernel_rfl) (by kernel_rfl) (by kernel_rfl) (fun _ _ _ h => h) hS (Or.inr ⟨by kernel_rfl, rfl⟩) ?_
        try simp only [Act.put]
        refine wpE_takeF 12 ⟨some 24, _, _, _, _, _⟩ (v := undef) (by decide) rfl (by kernel_rfl) (by kernel_rfl) (by kernel_rfl) (fun _ _ _ h => h) hS (Or.inr ⟨by kernel_rfl, rfl⟩) ?_
        try simp only [Act.put]
        refine wpE_takeF 13 ⟨some 25, _, _, _, _, _⟩ (v := undef) (by decide) rfl (by kernel_rfl) (by kernel_rfl) (by kernel_rfl) (fun _ _ _ h => h) hS (Or.inr ⟨by kernel_rfl, rfl⟩) ?_
        try simp only [Act.put]
        refine wpE_takeF 14 ⟨some 26, _, _, _, _, _⟩ (v := undef) (by decide) rfl (by kernel_rfl) (by kernel_rfl) (by kernel_rfl) (fun _ _ _ h => h) hS (Or.inr ⟨by kernel_rfl, rfl⟩) ?_
        try simp only [Act.put]
        refine wpE_takeF 15 ⟨some 27, _, _, _, _, _⟩ (v := undef) (by decide) rfl (by kernel_rfl) (by kernel_rfl) (by kernel_rfl) (fun _ _ _ h => h) hS (Or.inr ⟨by kernel_rfl, rfl⟩) ?_
        try simp only [Act.put]
        refine wpE_takeF 16 ⟨some 28, _, _, _, _, _⟩ (v := ?_) (by decide) rfl (by kernel_rfl) (by kernel_rfl) (by kernel_rfl) (fun _ _ _ h => h) hS (Or.inl ⟨by kernel_rfl, ?_⟩) ?_
        rotate_left
        · (intro V hSw; obtain ⟨hq0, hq1⟩ := HS.out V hSw; go_simp; try with_reducible rfl)
        try simp only [Act.put]
        refine wpE_takeF 17 ⟨some 29, _, _, _, _, _⟩ (v := ?_) (by decide) rfl (by kernel_rfl) (by kernel_rfl) (by kernel_rfl) (fun _ _ _ h => h) hS (Or.inl ⟨by kernel_rfl, ?_⟩) ?_
        rotate_left
        · (intro V hSw; obtain ⟨hq0, hq1⟩ := HS.out V hSw; go_simp; try with_reducible rfl)
        try simp only [Act.put]
        refine wpE_done (by kernel_rfl) ?_ _
        try simp only [List.setIfInBounds_toArray, List.set_cons_succ, List.set_cons_zero]
        have HB2 : Hid (Below w.heap.size w V2) := Lib.hid (HB1.out.trans (hS.mono HB1.out.size))
        clear hS hb2 hb2'
        go_wp2
        go_roundw
        case rel => exact ⟨k + 1, by omega, by go_num, HN.out, HB2.out⟩
        case measure => simp [intOf]; omega
      · obtain ⟨j, rfl⟩ : ∃ j, k = j + 1 := ⟨k - 1, by omega⟩
        have hprev := HPREV.out (by omega)
        rw [Nat.add_sub_cancel] at hprev
        have hq0 : okAt l (j + 1) = less (l.getD j p0).t e.t := by rw [HOK2.out, decide_eq_false (by omega), Bool.false_or, Nat.add_sub_cancel]
        obtain ⟨P, hP⟩ : ∃ P : ByteArray, P = ⟨(l.getD j p0).t.toArray⟩ := ⟨_, rfl⟩
        have hPl : P.toList = (l.getD j p0).t := by rw [hP, text_list]
        rw [← hP] at hprev
        clear hP
        have hboth : ∀ V, Below W1.heap.size W1 V → (V.cell? ⟨wr.heap.size, 0, none⟩ = some (.string S) ∧ (ldX (.pointer (some ⟨wr.heap.size, 0, none⟩))).run Try.prog V = .ok (.agg C) V) ∧ V.cell? ⟨b, off + j * 2, none⟩ = some (.string P) := fun V hV => ⟨HLDS.out V hV, hprev V hV⟩
        have HS := Lib.hid hboth; clear hboth hprev HPREV
        have hwj : IntKind.i64.wrap (j : Int) = (j : Int) := by rw [IntKind.wrap_i64]; omega
        have hj0 : (0 : Int) ≤ (j : Int) := by omega
        have hjn : (j : Int) < (n : Int) := by omega
        have hjb : 0 ≤ (j : Int) ∧ (j : Int) < (n : Int) := ⟨hj0, hjn⟩
        obtain ⟨q, hq⟩ : ∃ q, Op.bytesLess P.toList S.toList = q := ⟨_, rfl⟩
        have HQ : Hid (okAt l (j + 1) = q) := Lib.hid (by rw [hq0, ← hq, HSL.out, hPl]; rfl)
        have hgeq : ∀ V, (binOp .geq 9 (.string P) (.string S)).run Try.prog V = .ok (.bool (!q)) V := fun V => by rw [← hq]; exact run_geq P S V
        clear hq0 hPl HSL HOK2 hq
        cases q with
        | false =>
          have hf : r = false := by rw [HRT.out]; exact right_no hkl HQ.out
          have HF := Lib.hid hf; clear hf
          refine wp_region_E (fun V => Below W1.heap.size W1 V) 99 rfl ?_
          have hS := (show Below W1.heap.size W1 W1.drew from (Below.refl _ W1).drew)
          refine wpE_takeF 0 ⟨some 12, _, _, _, _, _⟩ (v := ?_) (by decide) rfl (by kernel_rfl) (by kernel_rfl) (by kernel_rfl) (fun _ _ _ h => h) hS (Or.inl ⟨by kernel_rfl, ?_⟩) ?_
          rotate_left
          · (intro V hSw; obtain ⟨⟨hq0, hq1⟩, hq2⟩ := HS.out V hSw; go_simp; try with_reducible rfl)
          try simp only [Act.put]
          refine wpE_one 1 (o := ⟨some 13, _, _, _, _, _⟩) (by kernel_rfl) rfl (fun K' hK' => ?_)
          rw [if_pos (by kernel_rfl)]
          refine call_wp 21 _ _ _ _ rfl Try.func21 (by kernel_rfl) rfl _ ?hv _ (HMAY.out _) ?_
          case hv => simp only [List.map_toArray, List.map_cons, List.map_nil]; go_simp
          rintro E V2 ⟨rfl, hb2⟩
          have hb2' : Below W1.heap.size W1 V2 := hS.trans (hb2.mono hS.size)
          refine ⟨_, rfl, hK'.out _ _ hb2' (fun hS => ?_)⟩
          clear hK' K'
          try simp only [Act.put]
          refine wpE_takeF 2 ⟨some 14, _, _, _, _, _⟩ (v := ?_) (by decide) rfl (by kernel_rfl) (by kernel_rfl) (by kernel_rfl) (fun _ _ _ h => h) hS (Or.inl ⟨by kernel_rfl, ?_⟩) ?_
          rotate_left
          · (intro V hSw; obtain ⟨⟨hq0, hq1⟩, hq2⟩ := HS.out V hSw; go_simp; try with_reducible rfl)
          try simp only [Act.put]
          refine wpE_takeF 3 ⟨some 15, _, _, _, _, _⟩ (v := ?_) (by decide) rfl (by kernel_rfl) (by kernel_rfl) (by kernel_rfl) (fun _ _ _ h => h) hS (Or.inl ⟨by kernel_rfl, ?_⟩) ?_
          rotate_left
          · (intro V hSw; obtain ⟨⟨hq0, hq1⟩, hq2⟩ := HS.out V hSw; go_simp; try with_reducible rfl)
          try simp only [Act.put]
          refine wpE_takeF 4 ⟨some 16, _, _, _, _, _⟩ (v := ?_) (by decide) rfl (by kernel_rfl) (by kernel_rfl) (by kernel_rfl) (fun _ _ _ h => h) hS (Or.inl ⟨by kernel_rfl, ?_⟩) ?_
          rotate_left
          · (intro V hSw; obtain ⟨⟨hq0, hq1⟩, hq2⟩ := HS.out V hSw; go_simp; try with_reducible rfl)
          try simp only [Act.put]
          refine wpE_takeF 5 ⟨some 17, _, _, _, _, _⟩ (v := ?_) (by decide) rfl (by kernel_rfl) (by kernel_rfl) (by kernel_rfl) (fun _ _ _ h => h) hS (Or.inl ⟨by kernel_rfl, ?_⟩) ?_
          rotate_left
          · (intro V hSw; obtain ⟨⟨hq0, hq1⟩, hq2⟩ := HS.out V hSw; go_simp; try with_reducible rfl)
          try simp only [Act.put]
          refine wpE_takeF 6 ⟨some 18, _, _, _, _, _⟩ (v := ?_) (by decide) rfl (by kernel_rfl) (by kernel_rfl) (by kernel_rfl) (fun _ _ _ h => h) hS (Or.inl ⟨by kernel_rfl, ?_⟩) ?_
          rotate_left
          · (intro V hSw; obtain ⟨⟨hq0, hq1⟩, hq2⟩ := HS.out V hSw; go_simp; try with_reducible rfl)
          try simp only [Act.put]
          refine wpE_takeF 7 ⟨some 19, _, _, _, _, _⟩ (v := ?_) (by decide) rfl (by kernel_rfl) (by kernel_rfl) (by kernel_rfl) (fun _ _ _ h => h) hS (Or.inl ⟨by kernel_rfl, ?_⟩) ?_
          rotate_left
          · (intro V hSw; obtain ⟨⟨hq0, hq1⟩, hq2⟩ := HS.out V hSw; go_simp; try with_reducible rfl)
          try simp only [Act.put]
          refine wpE_takeF 8 ⟨some 20, _, _, _, _, _⟩ (v := ?_) (by decide) rfl (by kernel_rfl) (by kernel_rfl) (by kernel_rfl) (fun _ _ _ h => h) hS (Or.inl ⟨by kernel_rfl, ?_⟩) ?_
          rotate_left
          · (intro V hSw; obtain ⟨⟨hq0, hq1⟩, hq2⟩ := HS.out V hSw; go_simp; try with_reducible rfl)
          try simp only [Act.put]
          refine wpE_takeF 9 ⟨some 21, _, _, _, _, _⟩ (v := ?_) (by decide) rfl (by kernel_rfl) (by kernel_rfl) (by kernel_rfl) (fun _ _ _ h => h) hS (Or.inl ⟨by kernel_rfl, ?_⟩) ?_
          rotate_left
          · (intro V hSw; obtain ⟨⟨hq0, hq1⟩, hq2⟩ := HS.out V hSw; go_simp; try with_reducible rfl)
          try simp only [Act.put]
          refine wpE_takeF 10 ⟨some 22, _, _, _, _, _⟩ (v := ?_) (by decide) rfl (by kernel_rfl) (by kernel_rfl) (by kernel_rfl) (fun _ _ _ h => h) hS (Or.inl ⟨by kernel_rfl, ?_⟩) ?_
          rotate_left
          · (intro V hSw; obtain ⟨⟨hq0, hq1⟩, hq2⟩ := HS.out V hSw; go_simp; try with_reducible rfl)
          try simp only [Act.put]
          refine wpE_takeF 11 ⟨some 23, _, _, _, _, _⟩ (v := ?_) (by decide) rfl (by kernel_rfl) (by kernel_rfl) (by kernel_rfl) (fun _ _ _ h => h) hS (Or.inl ⟨by kernel_rfl, ?_⟩) ?_
          rotate_left
          · (intro V hSw; obtain ⟨⟨hq0, hq1⟩, hq2⟩ := HS.out V hSw; go_simp; try with_reducible rfl)
          try simp only [Act.put]
          refine wpE_takeF 12 ⟨some 24, _, _, _, _, _⟩ (v := ?_) (by decide) rfl (by kernel_rfl) (by kernel_rfl) (by kernel_rfl) (fun _ _ _ h => h) hS (Or.inl ⟨by kernel_rfl, ?_⟩) ?_
          rotate_left
          · (intro V hSw; obtain ⟨⟨hq0, hq1⟩, hq2⟩ := HS.out V hSw; go_simp; try with_reducible rfl)
          try simp only [Act.put]
          refine wpE_takeF 13 ⟨some 25, _, _, _, _, _⟩ (v := ?_) (by decide) rfl (by kernel_rfl) (by kernel_rfl) (by kernel_rfl) (fun _ _ _ h => h) hS (Or.inl ⟨by kernel_rfl, ?_⟩) ?_
          rotate_left
          · (intro V hSw; obtain ⟨⟨hq0, hq1⟩, hq2⟩ := HS.out V hSw; go_simp; try with_reducible rfl)
          try simp only [Act.put]
          refine wpE_takeF 14 ⟨some 26, _, _, _, _, _⟩ (v := ?_) (by decide) rfl (by kernel_rfl) (by kernel_rfl) (by kernel_rfl) (fun _ _ _ h => h) hS (Or.inl ⟨by kernel_rfl, ?_⟩) ?_
          rotate_left
          · (intro V hSw; obtain ⟨⟨hq0, hq1⟩, hq2⟩ := HS.out V hSw; go_simp; try with_reducible rfl)
          try simp only [Act.put]
          refine wpE_takeF 15 ⟨some 27, _, _, _, _, _⟩ (v := ?_) (by decide) rfl (by kernel_rfl) (by kernel_rfl) (by kernel_rfl) (fun _ _ _ h => h) hS (Or.inl ⟨by kernel_rfl, ?_⟩) ?_
          rotate_left
          · (intro V hSw; obtain ⟨⟨hq0, hq1⟩, hq2⟩ := HS.out V hSw; go_simp; try with_reducible rfl)
          try simp only [Act.put]
          refine wpE_takeF 16 ⟨some 28, _, _, _, _, _⟩ (v := ?_) (by decide) rfl (by kernel_rfl) (by kernel_rfl) (by kernel_rfl) (fun _ _ _ h => h) hS (Or.inl ⟨by kernel_rfl, ?_⟩) ?_
          rotate_left
          · (intro V hSw; obtain ⟨⟨hq0, hq1⟩, hq2⟩ := HS.out V hSw; go_simp; try with_reducible rfl)
          try simp only [Act.put]
          refine wpE_takeF 17 ⟨some 29, _, _, _, _, _⟩ (v := ?_) (by decide) rfl (by kernel_rfl) (by kernel_rfl) (by kernel_rfl) (fun _ _ _ h => h) hS (Or.inl ⟨by kernel_rfl, ?_⟩) ?_
          rotate_left
          · (intro V hSw; obtain ⟨⟨hq0, hq1⟩, hq2⟩ := HS.out V hSw; go_simp; try with_reducible rfl)
          try simp only [Act.put]
          refine wpE_done (by kernel_rfl) ?_ _
          try simp only [List.setIfInBounds_toArray, List.set_cons_succ, List.set_cons_zero]
          have HB2 : Hid (Below w.heap.size w V2) := Lib.hid (HB1.out.trans (hS.mono HB1.out.size))
          clear hS hb2 hb2'
          go_wp2
          go_ret
          exact ⟨by rw [HF.out]; rfl, HB2.out⟩
        | true =>
          have hnext : ∀ i, i < j + 1 + 1 → okAt l i = true := fun i hi => by
            rcases Nat.lt_or_ge i (j + 1) with h | h
            · exact HOK.out i h
            · rw [show i = j + 1 by omega]; exact HQ.out
          have HN := Lib.hid hnext; clear hnext
          refine wp_region_E (fun V => Below W1.heap.size W1 V) 99 rfl ?_
          have hS := (show Below W1.heap.size W1 W1.drew from (Below.refl _ W1).drew)
          refine wpE_takeF 0 ⟨some 12, _, _, _, _, _⟩ (v := ?_) (by decide) rfl (by kernel_rfl) (by kernel_rfl) (by kernel_rfl) (fun _ _ _ h => h) hS (Or.inl ⟨by kernel_rfl, ?_⟩) ?_
          rotate_left
          · (intro V hSw; obtain ⟨⟨hq0, hq1⟩, hq2⟩ := HS.out V hSw; go_simp; try with_reducible rfl)
          try simp only [Act.put]
          refine wpE_one 1 (o := ⟨some 13, _, _, _, _, _⟩) (by kernel_rfl) rfl (fun K' hK' => ?_)
          rw [if_pos (by kernel_rfl)]
          refine call_wp 21 _ _ _ _ rfl Try.func21 (by kernel_rfl) rfl _ ?hv _ (HMAY.out _) ?_
          case hv => simp only [List.map_toArray, List.map_cons, List.map_nil]; go_simp
          rintro E V2 ⟨rfl, hb2⟩
          have hb2' : Below W1.heap.size W1 V2 := hS.trans (hb2.mono hS.size)
          refine ⟨_, rfl, hK'.out _ _ hb2' (fun hS => ?_)⟩
          clear hK' K'
          try simp only [Act.put]
          refine wpE_takeF 2 ⟨some 14, _, _, _, _, _⟩ (v := ?_) (by decide) rfl (by kernel_rfl) (by kernel_rfl) (by kernel_rfl) (fun _ _ _ h => h) hS (Or.inl ⟨by kernel_rfl, ?_⟩) ?_
          rotate_left
          · (intro V hSw; obtain ⟨⟨hq0, hq1⟩, hq2⟩ := HS.out V hSw; go_simp; try with_reducible rfl)
          try simp only [Act.put]
          refine wpE_takeF 3 ⟨some 15, _, _, _, _, _⟩ (v := ?_) (by decide) rfl (by kernel_rfl) (by kernel_rfl) (by kernel_rfl) (fun _ _ _ h => h) hS (Or.inl ⟨by kernel_rfl, ?_⟩) ?_
          rotate_left
          · (intro V hSw; obtain ⟨⟨hq0, hq1⟩, hq2⟩ := HS.out V hSw; go_simp; try with_reducible rfl)
          try simp only [Act.put]
          refine wpE_takeF 4 ⟨some 16, _, _, _, _, _⟩ (v := ?_) (by decide) rfl (by kernel_rfl) (by kernel_rfl) (by kernel_rfl) (fun _ _ _ h => h) hS (Or.inl ⟨by kernel_rfl, ?_⟩) ?_
          rotate_left
          · (intro V hSw; obtain ⟨⟨hq0, hq1⟩, hq2⟩ := HS.out V hSw; go_simp; try with_reducible rfl)
          try simp only [Act.put]
          refine wpE_takeF 5 ⟨some 17, _, _, _, _, _⟩ (v := ?_) (by decide) rfl (by kernel_rfl) (by kernel_rfl) (by kernel_rfl) (fun _ _ _ h => h) hS (Or.inl ⟨by kernel_rfl, ?_⟩) ?_
          rotate_left
          · (intro V hSw; obtain ⟨⟨hq0, hq1⟩, hq2⟩ := HS.out V hSw; go_simp; try with_reducible rfl)
          try simp only [Act.put]
          refine wpE_takeF 6 ⟨some 18, _, _, _, _, _⟩ (v := ?_) (by decide) rfl (by kernel_rfl) (by kernel_rfl) (by kernel_rfl) (fun _ _ _ h => h) hS (Or.inl ⟨by kernel_rfl, ?_⟩) ?_
          rotate_left
          · (intro V hSw; obtain ⟨⟨hq0, hq1⟩, hq2⟩ := HS.out V hSw; go_simp; try with_reducible rfl)
          try simp only [Act.put]
          refine wpE_takeF 7 ⟨some 19, _, _, _, _, _⟩ (v := ?_) (by decide) rfl (by kernel_rfl) (by kernel_rfl) (by kernel_rfl) (fun _ _ _ h => h) hS (Or.inl ⟨by kernel_rfl, ?_⟩) ?_
          rotate_left
          · (intro V hSw; obtain ⟨⟨hq0, hq1⟩, hq2⟩ := HS.out V hSw; go_simp; try with_reducible rfl)
          try simp only [Act.put]
          refine wpE_takeF 8 ⟨some 20, _, _, _, _, _⟩ (v := ?_) (by decide) rfl (by kernel_rfl) (by kernel_rfl) (by kernel_rfl) (fun _ _ _ h => h) hS (Or.inl ⟨by kernel_rfl, ?_⟩) ?_
          rotate_left
          · (intro V hSw; obtain ⟨⟨hq0, hq1⟩, hq2⟩ := HS.out V hSw; go_simp; try with_reducible rfl)
          try simp only [Act.put]
          refine wpE_takeF 9 ⟨some 21, _, _, _, _, _⟩ (v := ?_) (by decide) rfl (by kernel_rfl) (by kernel_rfl) (by kernel_rfl) (fun _ _ _ h => h) hS (Or.inl ⟨by kernel_rfl, ?_⟩) ?_
          rotate_left
          · (intro V hSw; obtain ⟨⟨hq0, hq1⟩, hq2⟩ := HS.out V hSw; go_simp; try with_reducible rfl)
          try simp only [Act.put]
          refine wpE_takeF 10 ⟨some 22, _, _, _, _, _⟩ (v := ?_) (by decide) rfl (by kernel_rfl) (by kernel_rfl) (by kernel_rfl) (fun _ _ _ h => h) hS (Or.inl ⟨by kernel_rfl, ?_⟩) ?_
          rotate_left
          · (intro V hSw; obtain ⟨⟨hq0, hq1⟩, hq2⟩ := HS.out V hSw; go_simp; try with_reducible rfl)
          try simp only [Act.put]
          refine wpE_takeF 11 ⟨some 23, _, _, _, _, _⟩ (v := ?_) (by decide) rfl (by kernel_rfl) (by kernel_rfl) (by kernel_rfl) (fun _ _ _ h => h) hS (Or.inl ⟨by kernel_rfl, ?_⟩) ?_
          rotate_left
          · (intro V hSw; obtain ⟨⟨hq0, hq1⟩, hq2⟩ := HS.out V hSw; go_simp; try with_reducible rfl)
          try simp only [Act.put]
          refine wpE_takeF 12 ⟨some 24, _, _, _, _, _⟩ (v := ?_) (by decide) rfl (by kernel_rfl) (by kernel_rfl) (by kernel_rfl) (fun _ _ _ h => h) hS (Or.inl ⟨by kernel_rfl, ?_⟩) ?_
          rotate_left
          · (intro V hSw; obtain ⟨⟨hq0, hq1⟩, hq2⟩ := HS.out V hSw; go_simp; try with_reducible rfl)
          try simp only [Act.put]
          refine wpE_takeF 13 ⟨some 25, _, _, _, _, _⟩ (v := ?_) (by decide) rfl (by kernel_rfl) (by kernel_rfl) (by kernel_rfl) (fun _ _ _ h => h) hS (Or.inl ⟨by kernel_rfl, ?_⟩) ?_
          rotate_left
          · (intro V hSw; obtain ⟨⟨hq0, hq1⟩, hq2⟩ := HS.out V hSw; go_simp; try with_reducible rfl)
          try simp only [Act.put]
          refine wpE_takeF 14 ⟨some 26, _, _, _, _, _⟩ (v := ?_) (by decide) rfl (by kernel_rfl) (by kernel_rfl) (by kernel_rfl) (fun _ _ _ h => h) hS (Or.inl ⟨by kernel_rfl, ?_⟩) ?_
          rotate_left
          · (intro V hSw; obtain ⟨⟨hq0, hq1⟩, hq2⟩ := HS.out V hSw; go_simp; try with_reducible rfl)
          try simp only [Act.put]
          refine wpE_takeF 15 ⟨some 27, _, _, _, _, _⟩ (v := ?_) (by decide) rfl (by kernel_rfl) (by kernel_rfl) (by kernel_rfl) (fun _ _ _ h => h) hS (Or.inl ⟨by kernel_rfl, ?_⟩) ?_
          rotate_left
          · (intro V hSw; obtain ⟨⟨hq0, hq1⟩, hq2⟩ := HS.out V hSw; go_simp; try with_reducible rfl)
          try simp only [Act.put]
          refine wpE_takeF 16 ⟨some 28, _, _, _, _, _⟩ (v := ?_) (by decide) rfl (by kernel_rfl) (by kernel_rfl) (by kernel_rfl) (fun _ _ _ h => h) hS (Or.inl ⟨by kernel_rfl, ?_⟩) ?_
          rotate_left
          · (intro V hSw; obtain ⟨⟨hq0, hq1⟩, hq2⟩ := HS.out V hSw; go_simp; try with_reducible rfl)
          try simp only [Act.put]
          refine wpE_takeF 17 ⟨some 29, _, _, _, _, _⟩ (v := ?_) (by decide) rfl (by kernel_rfl) (by kernel_rfl) (by kernel_rfl) (fun _ _ _ h => h) hS (Or.inl ⟨by kernel_rfl, ?_⟩) ?_
          rotate_left
          · (intro V hSw; obtain ⟨⟨hq0, hq1⟩, hq2⟩ := HS.out V hSw; go_simp; try with_reducible rfl)
          try simp only [Act.put]
          refine wpE_done (by kernel_rfl) ?_ _
          try simp only [List.setIfInBounds_toArray, List.set_cons_succ, List.set_cons_zero]
          have HB2 : Hid (Below w.heap.size w V2) := Lib.hid (HB1.out.trans (hS.mono HB1.out.size))
          clear hS hb2 hb2'
          go_wp2
          go_roundw
          case rel => exact ⟨j + 1 + 1, by omega, by go_num, HN.out, HB2.out⟩
          case measure => simp [intOf]; omega

theorem right_may {l : List Pr} (h : right l = true) {k : Nat} (hk : k < l.length) : okP l[k] = true := ((right_iff l).1 h).1 _ (List.getElem_mem hk)
theorem sizeL_far {l : List Pr} (h : ∀ x ∈ l, okP x = true) (k : Nat) : sizeL (l.take k) ≤ 82 * l.length := by
  have h1 := sizeL_le (l.take k) (fun x hx => h x (List.mem_of_mem_take hx))
  rw [List.length_take] at h1
  omega
set_option maxRecDepth 100000 in
set_option maxHeartbeats 4000000 in
theorem fits_any (A : Option Addr) (n c B : Nat) (l : List Pr) (w : World) (h : HoldsX w B A n l) (hB : B ≤ w.heap.size) (hr : ∀ x ∈ l, okP x = true) (hn : n ≤ 4398046511104) :
    Calls Try.prog 25 #[.slice A n c] w fun e w' => e = .returned (.bool (decide (sizeL l ≤ 250))) ∧ Below w.heap.size w w' := by
  have hln := h.1
  have hfar := fun k => sizeL_far hr k
  obtain ⟨r, hr2⟩ : ∃ r, r = decide (sizeL l ≤ 250) := ⟨_, rfl⟩
  rw [← hr2]
  have HRT := Lib.hid hr2; clear hr2
  have H := Lib.hid h; clear h
  have HLN := Lib.hid hln; clear hln
  have HR := Lib.hid hr; clear hr
  have HFAR := Lib.hid hfar; clear hfar
  go_enter Try.func25, Try.ntmps25
  go_wp2
  go_loopw [3, 8] (fun s i wr => ∃ k : Nat, k ≤ n ∧ i = .int .i64 (k : Int) ∧ s = .int .i64 (sizeL (l.take k) : Int) ∧ Below w.heap.size w wr) (fun _ i _ => n - (intOf i).toNat)
  case atStart => exact ⟨0, Nat.zero_le _, rfl, rfl, Below.refl _ _⟩
  case round =>
    obtain ⟨k, hk, rfl, rfl, hbr⟩ := hrel
    rcases Nat.lt_or_ge k n with hlt | hge
    rotate_left
    · have hkn : ¬ (k : Int) < (n : Int) := by omega
      have HBR := Lib.hid hbr; clear hbr
      have hall : l.take k = l := List.take_of_length_le (by have := HLN.out; omega)
      rw [hall]
      have hrr : r = decide ((sizeL l : Int) ≤ 250) := by rw [HRT.out]; exact decide_eq_decide.2 ⟨fun h => by omega, fun h => by omega⟩
      have HRR := Lib.hid hrr; clear hrr
      generalize sizeL l = z at HRR ⊢
      clear hall
      go_wp2
      go_ret
      exact ⟨by rw [HRR.out]; rfl, HBR.out⟩
    · obtain ⟨b, off, rfl, hbB⟩ := H.out.addr (by omega)
      have hkl : k < l.length := by have := HLN.out; omega
      obtain ⟨e, he⟩ : ∃ e, e = l[k] := ⟨_, rfl⟩
      have hok := okP_iff.1 (HR.out e (he ▸ List.getElem_mem hkl))
      have hsz := sizeL_take l k hkl
      rw [← he] at hsz
      have hfr := HFAR.out k
      have hll := HLN.out
      have hh := H.out.below (hbr.mono hB)
      have hld := run_ldX_at hh k hkl (off + k * 2) rfl
      rw [← he] at hld
      have hst := run_stX_new wr e
      have hvar : VarX (wr.alloc (.cells e.c 24)) wr.heap.size e := VarX.new wr e
      have hb1 : Below w.heap.size w (wr.alloc (.cells e.c 24)) := hbr.alloc hbr.size _
      obtain ⟨q0, q1⟩ := hvar.cells
      have hk0 : (0 : Int) ≤ (k : Int) := by omega
      have hkn : (k : Int) < (n : Int) := by omega
      have HB1 := Lib.hid hb1; clear hb1 hbr hh
      obtain ⟨S, hS⟩ : ∃ S : ByteArray, S = ⟨e.t.toArray⟩ := ⟨_, rfl⟩
      obtain ⟨U, hU⟩ : ∃ U : ByteArray, U = ⟨e.v.toArray⟩ := ⟨_, rfl⟩
      have hs : S.size = e.t.length := by rw [hS, text_size]
      have hu : U.size = e.v.length := by rw [hU, text_size]
      rw [← hS] at q0
      rw [← hU] at q1
      rw [← hs, ← hu] at hsz hok
      clear hs hu hS hU hvar
      obtain ⟨C, hC⟩ : ∃ C, C = e.c := ⟨_, rfl⟩
      rw [← hC] at hld hst HB1 q0 q1
      clear hC he
      obtain ⟨z, hz⟩ : ∃ z, z = sizeL (l.take k) := ⟨_, rfl⟩
      obtain ⟨z2, hz2⟩ : ∃ z2, z2 = sizeL (l.take (k + 1)) := ⟨_, rfl⟩
      rw [← hz] at hsz hfr ⊢
      rw [← hz2] at hsz
      obtain ⟨o1, o2, o3⟩ := hok
      have hw1 : IntKind.i64.wrap (2 + (S.size : Int)) = 2 + (S.size : Int) := by rw [IntKind.wrap_i64]; omega
      have hw2 : IntKind.i64.wrap (2 + (S.size : Int) + (U.size : Int)) = 2 + (S.size : Int) + (U.size : Int) := by rw [IntKind.wrap_i64]; omega
      have hw3 : IntKind.i64.wrap ((z : Int) + (2 + (S.size : Int) + (U.size : Int))) = (z2 : Int) := by rw [IntKind.wrap_i64]; omega
      have HZ2 := Lib.hid hz2; clear hz2 hz
      have HSZ := Lib.hid hsz
      go_wp2
      go_roundw
      case rel => exact ⟨k + 1, by omega, by go_num, by rw [← HZ2.out, HSZ.out]; first | rfl | (congr 1; omega), HB1.out⟩
      case measure => simp [intOf]; omega
end Go.Proofs.Ytbagocghlijleaa.At
