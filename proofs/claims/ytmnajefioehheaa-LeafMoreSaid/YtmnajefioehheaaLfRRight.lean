/- Whether a list is right, and its size: the document's calls. -/
import Derived.Test.YtmnajefioehheaaLfRight
namespace Go.Proofs.Ytmnajefioehheaa.Lf
set_option maxRecDepth 20000
open Go.RowKit
open Go.Proofs.Ytmnajefioehheaa.Mem Go.Proofs.Ytmnajefioehheaa.Crc Go.Proofs.Ytmnajefioehheaa.Rec Go.Proofs.Ytmnajefioehheaa.Reg
attribute [local go_sem ↓] ldX_eq stX_eq

theorem rmay_text (t : List UInt8) (ht : t.length ≤ maxLen) (V : World) : Calls Try.prog 14 #[.string ⟨t.toArray⟩] V fun E w' => E = .returned (.bool (may t)) ∧ V = w' := by
  have h := rmay_any ⟨t.toArray⟩ (by rw [text_size]; exact ht) V
  refine h.mono fun E w' ⟨h1, h2⟩ => ⟨by simpa using h1, h2.symm⟩

set_option maxRecDepth 100000 in
set_option maxHeartbeats 4000000 in
theorem rright_any (A : Option Addr) (n c B : Nat) (l : List Nm) (w : World) (h : HoldsX w B A n l) (hB : B ≤ w.heap.size) (hr : ∀ x ∈ l, x.rep) (hn : n ≤ 5864062014805) :
    Calls Try.prog 22 #[.slice A n c] w fun e w' => e = .returned (.bool (right l)) ∧ Below w.heap.size w w' := by
  have hln := h.1
  have H := Lib.hid h; clear h
  have HLN := Lib.hid hln; clear hln
  have HR := Lib.hid hr; clear hr
  obtain ⟨r, hr⟩ : ∃ r, r = right l := ⟨_, rfl⟩
  rw [← hr]
  have HRT := Lib.hid hr; clear hr
  go_enter Try.func22, Try.ntmps22
  go_wp2
  go_loopw [3] (fun i wr => ∃ k : Nat, k ≤ n ∧ i = .int .i64 (k : Int) ∧ (∀ j, j < k → okAt l j = true) ∧ Below w.heap.size w wr) (fun i _ => n - (intOf i).toNat)
  case atStart => exact ⟨0, Nat.zero_le _, rfl, fun j h => absurd h (by omega), Below.refl _ _⟩
  case round =>
    obtain ⟨k, hk, rfl, hok, hbr⟩ := hrel
    have HOK := Lib.hid hok; clear hok
    rcases Nat.lt_or_ge k n with hlt | hge
    rotate_left
    · have hf : r = true := by rw [HRT.out, right_at]; exact fun j hj => HOK.out j (by have := HLN.out; omega)
      have HF := Lib.hid hf; clear hf
      have HBR := Lib.hid hbr; clear hbr
      have hkn : ¬ (k : Int) < (n : Int) := by omega
      go_wp2
      go_ret
      exact ⟨by rw [HF.out]; rfl, HBR.out⟩
    · obtain ⟨b, off, rfl, hbB⟩ := H.out.addr (by omega)
      have hkl : k < l.length := by have := HLN.out; omega
      obtain ⟨e, he⟩ : ∃ e, e = l[k] := ⟨_, rfl⟩
      have hrep : e.rep := HR.out e (he ▸ List.getElem_mem hkl)
      have hh := H.out.below (hbr.mono hB)
      have hwg : w.heap.size ≤ wr.heap.size := hbr.size
      have hmay : ∀ V, Calls Try.prog 14 #[.string ⟨e.t.toArray⟩] V fun E w' => E = .returned (.bool (may e.t)) ∧ V = w' := rmay_text e.t hrep.t
      have hk0 : (0 : Int) ≤ (k : Int) := by omega
      have hkn : (k : Int) < (n : Int) := by omega
      have hkb : (0 : Int) ≤ (k : Int) ∧ (k : Int) < (n : Int) := ⟨hk0, hkn⟩
      have HBR := Lib.hid hbr; clear hbr
      have HREP := Lib.hid hrep.i; clear hrep
      have hokk := okAt_get hkl
      rw [← he] at hokk
      have HOKK := Lib.hid hokk; clear hokk
      have hlds : ∀ V, Below wr.heap.size wr V → V.cell? ⟨b, off + k * 2, none⟩ = some (.string ⟨e.t.toArray⟩) ∧ V.cell? ⟨b, off + k * 2 + 1, none⟩ = some (.int .i64 e.i) := fun V hV => by
        have h1 := (hh.below (hV.mono (Nat.le_trans hB hwg))).cell k hkl
        rwa [← he] at h1
      have hprev : 0 < k → ∀ V, Below wr.heap.size wr V → V.cell? ⟨b, off + (k - 1) * 2, none⟩ = some (.string ⟨(l.getD (k - 1) n0).t.toArray⟩) := fun h0 V hV => by
        have h1 := ((hh.below (hV.mono (Nat.le_trans hB hwg))).cell (k - 1) (by omega)).1
        rw [h1, List.getD_eq_getElem?_getD, List.getElem?_eq_getElem (show k - 1 < l.length by omega), Option.getD_some]
      have HPREV := Lib.hid hprev; clear hprev hh he
      obtain ⟨S, hS⟩ : ∃ S : ByteArray, S = ⟨e.t.toArray⟩ := ⟨_, rfl⟩
      have hSl : S.toList = e.t := by rw [hS, text_list]
      rw [← hS] at hmay hlds
      have HSL := Lib.hid hSl; clear hSl hS
      obtain ⟨ei, hei⟩ : ∃ ei, ei = e.i := ⟨_, rfl⟩
      rw [← hei] at HREP hlds
      have HS := Lib.hid hlds; clear hlds
      have HEI := Lib.hid hei; clear hei
      obtain ⟨bei1, bei2⟩ := HREP.out
      clear HREP
      obtain ⟨m, hm⟩ : ∃ m, m = may e.t := ⟨_, rfl⟩
      rw [← hm] at hmay
      have HMAY := Lib.hid hmay; clear hmay
      have HM := Lib.hid hm; clear hm
      cases m with
      | false =>
        have hf : r = false := by rw [HRT.out]; exact right_no hkl (by rw [HOKK.out, okN_no_may HM.out.symm]; rfl)
        have HF := Lib.hid hf; clear hf
        go_wp2_with fail
        refine wp_region_E (fun V => Below wr.heap.size wr V) 99 rfl ?_
        have hS := (show Below wr.heap.size wr wr.drew from (Below.refl _ wr).drew)
        refine wpE_takeF 0 ⟨some 10, _, _, _, _, _⟩ (v := ?_) (by decide) rfl (by kernel_rfl) (by kernel_rfl) (by kernel_rfl) (fun _ _ _ h => h) hS (Or.inl ⟨by kernel_rfl, ?_⟩) ?_
        rotate_left
        · (intro V hSw; obtain ⟨hq0, hq1⟩ := HS.out V hSw; go_simp; try with_reducible rfl)
        try simp only [Act.put]
        refine wpE_takeF 1 ⟨some 11, _, _, _, _, _⟩ (v := ?_) (by decide) rfl (by kernel_rfl) (by kernel_rfl) (by kernel_rfl) (fun _ _ _ h => h) hS (Or.inl ⟨by kernel_rfl, ?_⟩) ?_
        rotate_left
        · (intro V hSw; obtain ⟨hq0, hq1⟩ := HS.out V hSw; go_simp; try with_reducible rfl)
        try simp only [Act.put]
        refine wpE_takeF 2 ⟨some 12, _, _, _, _, _⟩ (v := ?_) (by decide) rfl (by kernel_rfl) (by kernel_rfl) (by kernel_rfl) (fun _ _ _ h => h) hS (Or.inl ⟨by kernel_rfl, ?_⟩) ?_
        rotate_left
        · (intro V hSw; obtain ⟨hq0, hq1⟩ := HS.out V hSw; go_simp; try with_reducible rfl)
        try simp only [Act.put]
        refine wpE_takeF 3 ⟨some 13, _, _, _, _, _⟩ (v := ?_) (by decide) rfl (by kernel_rfl) (by kernel_rfl) (by kernel_rfl) (fun _ _ _ h => h) hS (Or.inl ⟨by kernel_rfl, ?_⟩) ?_
        rotate_left
        · (intro V hSw; obtain ⟨hq0, hq1⟩ := HS.out V hSw; go_simp; try with_reducible rfl)
        try simp only [Act.put]
        refine wpE_takeF 4 ⟨some 14, _, _, _, _, _⟩ (v := ?_) (by decide) rfl (by kernel_rfl) (by kernel_rfl) (by kernel_rfl) (fun _ _ _ h => h) hS (Or.inl ⟨by kernel_rfl, ?_⟩) ?_
        rotate_left
        · (intro V hSw; obtain ⟨hq0, hq1⟩ := HS.out V hSw; go_simp; try with_reducible rfl)
        try simp only [Act.put]
        refine wpE_takeCF 5 ⟨some 15, _, _, _, _, _⟩ (v := .bool false) (by decide) rfl (by kernel_rfl) (by kernel_rfl) (by kernel_rfl) (fun _ _ _ h => h) hS (yieldsC_of (by kernel_rfl) 14 _ _ _ _ rfl Try.func14 (by kernel_rfl) rfl #[.string S] ?hv (fun V _ => HMAY.out V)) ?_
        case hv => simp only [List.map_toArray, List.map_cons, List.map_nil]; go_simp
        try simp only [Act.put]
        refine wpE_takeF 6 ⟨some 16, _, _, _, _, _⟩ (v := ?_) (by decide) rfl (by kernel_rfl) (by kernel_rfl) (by kernel_rfl) (fun _ _ _ h => h) hS (Or.inl ⟨by kernel_rfl, ?_⟩) ?_
        rotate_left
        · (intro V hSw; obtain ⟨hq0, hq1⟩ := HS.out V hSw; go_simp; try with_reducible rfl)
        try simp only [Act.put]
        refine wpE_takeF 7 ⟨some 17, _, _, _, _, _⟩ (v := ?_) (by decide) rfl (by kernel_rfl) (by kernel_rfl) (by kernel_rfl) (fun _ _ _ h => h) hS (Or.inl ⟨by kernel_rfl, ?_⟩) ?_
        rotate_left
        · (intro V hSw; obtain ⟨hq0, hq1⟩ := HS.out V hSw; go_simp; try with_reducible rfl)
        try simp only [Act.put]
        refine wpE_takeF 8 ⟨some 18, _, _, _, _, _⟩ (v := undef) (by decide) rfl (by kernel_rfl) (by kernel_rfl) (by kernel_rfl) (fun _ _ _ h => h) hS (Or.inr ⟨by kernel_rfl, rfl⟩) ?_
        try simp only [Act.put]
        refine wpE_takeF 9 ⟨some 19, _, _, _, _, _⟩ (v := undef) (by decide) rfl (by kernel_rfl) (by kernel_rfl) (by kernel_rfl) (fun _ _ _ h => h) hS (Or.inr ⟨by kernel_rfl, rfl⟩) ?_
        try simp only [Act.put]
        refine wpE_takeF 10 ⟨some 20, _, _, _, _, _⟩ (v := undef) (by decide) rfl (by kernel_rfl) (by kernel_rfl) (by kernel_rfl) (fun _ _ _ h => h) hS (Or.inr ⟨by kernel_rfl, rfl⟩) ?_
        try simp only [Act.put]
        refine wpE_takeF 11 ⟨some 21, _, _, _, _, _⟩ (v := undef) (by decide) rfl (by kernel_rfl) (by kernel_rfl) (by kernel_rfl) (fun _ _ _ h => h) hS (Or.inr ⟨by kernel_rfl, rfl⟩) ?_
        try simp only [Act.put]
        refine wpE_takeF 12 ⟨some 22, _, _, _, _, _⟩ (v := undef) (by decide) rfl (by kernel_rfl) (by kernel_rfl) (by kernel_rfl) (fun _ _ _ h => h) hS (Or.inr ⟨by kernel_rfl, rfl⟩) ?_
        try simp only [Act.put]
        refine wpE_takeF 13 ⟨some 23, _, _, _, _, _⟩ (v := undef) (by decide) rfl (by kernel_rfl) (by kernel_rfl) (by kernel_rfl) (fun _ _ _ h => h) hS (Or.inr ⟨by kernel_rfl, rfl⟩) ?_
        try simp only [Act.put]
        refine wpE_takeF 14 ⟨some 24, _, _, _, _, _⟩ (v := ?_) (by decide) rfl (by kernel_rfl) (by kernel_rfl) (by kernel_rfl) (fun _ _ _ h => h) hS (Or.inl ⟨by kernel_rfl, ?_⟩) ?_
        rotate_left
        · (intro V hSw; obtain ⟨hq0, hq1⟩ := HS.out V hSw; go_simp; try with_reducible rfl)
        try simp only [Act.put]
        refine wpE_takeF 15 ⟨some 25, _, _, _, _, _⟩ (v := ?_) (by decide) rfl (by kernel_rfl) (by kernel_rfl) (by kernel_rfl) (fun _ _ _ h => h) hS (Or.inl ⟨by kernel_rfl, ?_⟩) ?_
        rotate_left
        · (intro V hSw; obtain ⟨hq0, hq1⟩ := HS.out V hSw; go_simp; try with_reducible rfl)
        try simp only [Act.put]
        refine wpE_takeF 16 ⟨some 26, _, _, _, _, _⟩ (v := undef) (by decide) rfl (by kernel_rfl) (by kernel_rfl) (by kernel_rfl) (fun _ _ _ h => h) hS (Or.inr ⟨by kernel_rfl, rfl⟩) ?_
        try simp only [Act.put]
        refine wpE_takeF 17 ⟨some 27, _, _, _, _, _⟩ (v := undef) (by decide) rfl (by kernel_rfl) (by kernel_rfl) (by kernel_rfl) (fun _ _ _ h => h) hS (Or.inr ⟨by kernel_rfl, rfl⟩) ?_
        try simp only [Act.put]
        refine wpE_takeF 18 ⟨some 28, _, _, _, _, _⟩ (v := undef) (by decide) rfl (by kernel_rfl) (by kernel_rfl) (by kernel_rfl) (fun _ _ _ h => h) hS (Or.inr ⟨by kernel_rfl, rfl⟩) ?_
        try simp only [Act.put]
        refine wpE_takeF 19 ⟨some 29, _, _, _, _, _⟩ (v := undef) (by decide) rfl (by kernel_rfl) (by kernel_rfl) (by kernel_rfl) (fun _ _ _ h => h) hS (Or.inr ⟨by kernel_rfl, rfl⟩) ?_
        try simp only [Act.put]
        refine wpE_takeF 20 ⟨some 30, _, _, _, _, _⟩ (v := undef) (by decide) rfl (by kernel_rfl) (by kernel_rfl) (by kernel_rfl) (fun _ _ _ h => h) hS (Or.inr ⟨by kernel_rfl, rfl⟩) ?_
        try simp only [Act.put]
        refine wpE_takeF 21 ⟨some 31, _, _, _, _, _⟩ (v := undef) (by decide) rfl (by kernel_rfl) (by kernel_rfl) (by kernel_rfl) (fun _ _ _ h => h) hS (Or.inr ⟨by kernel_rfl, rfl⟩) ?_
        try simp only [Act.put]
        refine wpE_takeF 22 ⟨some 32, _, _, _, _, _⟩ (v := ?_) (by decide) rfl (by kernel_rfl) (by kernel_rfl) (by kernel_rfl) (fun _ _ _ h => h) hS (Or.inl ⟨by kernel_rfl, ?_⟩) ?_
        rotate_left
        · (intro V hSw; obtain ⟨hq0, hq1⟩ := HS.out V hSw; go_simp; try with_reducible rfl)
        try simp only [Act.put]
        refine wpE_takeF 23 ⟨some 33, _, _, _, _, _⟩ (v := ?_) (by decide) rfl (by kernel_rfl) (by kernel_rfl) (by kernel_rfl) (fun _ _ _ h => h) hS (Or.inl ⟨by kernel_rfl, ?_⟩) ?_
        rotate_left
        · (intro V hSw; obtain ⟨hq0, hq1⟩ := HS.out V hSw; go_simp; try with_reducible rfl)
        try simp only [Act.put]
        refine wpE_takeF 24 ⟨some 34, _, _, _, _, _⟩ (v := undef) (by decide) rfl (by kernel_rfl) (by kernel_rfl) (by kernel_rfl) (fun _ _ _ h => h) hS (Or.inr ⟨by kernel_rfl, rfl⟩) ?_
        try simp only [Act.put]
        refine wpE_takeF 25 ⟨some 35, _, _, _, _, _⟩ (v := undef) (by decide) rfl (by kernel_rfl) (by kernel_rfl) (by kernel_rfl) (fun _ _ _ h => h) hS (Or.inr ⟨by kernel_rfl, rfl⟩) ?_
        try simp only [Act.put]
        refine wpE_takeF 26 ⟨some 36, _, _, _, _, _⟩ (v := undef) (by decide) rfl (by kernel_rfl) (by kernel_rfl) (by kernel_rfl) (fun _ _ _ h => h) hS (Or.inr ⟨by kernel_rfl, rfl⟩) ?_
        try simp only [Act.put]
        refine wpE_takeF 27 ⟨some 37, _, _, _, _, _⟩ (v := undef) (by decide) rfl (by kernel_rfl) (by kernel_rfl) (by kernel_rfl) (fun _ _ _ h => h) hS (Or.inr ⟨by kernel_rfl, rfl⟩) ?_
        try simp only [Act.put]
        refine wpE_takeF 28 ⟨some 38, _, _, _, _, _⟩ (v := undef) (by decide) rfl (by kernel_rfl) (by kernel_rfl) (by kernel_rfl) (fun _ _ _ h => h) hS (Or.inr ⟨by kernel_rfl, rfl⟩) ?_
        try simp only [Act.put]
        refine wpE_takeF 29 ⟨some 39, _, _, _, _, _⟩ (v := undef) (by decide) rfl (by kernel_rfl) (by kernel_rfl) (by kernel_rfl) (fun _ _ _ h => h) hS (Or.inr ⟨by kernel_rfl, rfl⟩) ?_
        try simp only [Act.put]
        refine wpE_takeF 30 ⟨some 40, _, _, _, _, _⟩ (v := undef) (by decide) rfl (by kernel_rfl) (by kernel_rfl) (by kernel_rfl) (fun _ _ _ h => h) hS (Or.inr ⟨by kernel_rfl, rfl⟩) ?_
        try simp only [Act.put]
        refine wpE_takeF 31 ⟨some 41, _, _, _, _, _⟩ (v := undef) (by decide) rfl (by kernel_rfl) (by kernel_rfl) (by kernel_rfl) (fun _ _ _ h => h) hS (Or.inr ⟨by kernel_rfl, rfl⟩) ?_
        try simp only [Act.put]
        refine wpE_takeF 32 ⟨some 42, _, _, _, _, _⟩ (v := undef) (by decide) rfl (by kernel_rfl) (by kernel_rfl) (by kernel_rfl) (fun _ _ _ h => h) hS (Or.inr ⟨by kernel_rfl, rfl⟩) ?_
        try simp only [Act.put]
        refine wpE_takeF 33 ⟨some 43, _, _, _, _, _⟩ (v := undef) (by decide) rfl (by kernel_rfl) (by kernel_rfl) (by kernel_rfl) (fun _ _ _ h => h) hS (Or.inr ⟨by kernel_rfl, rfl⟩) ?_
        try simp only [Act.put]
        refine wpE_takeF 34 ⟨some 44, _, _, _, _, _⟩ (v := undef) (by decide) rfl (by kernel_rfl) (by kernel_rfl) (by kernel_rfl) (fun _ _ _ h => h) hS (Or.inr ⟨by kernel_rfl, rfl⟩) ?_
        try simp only [Act.put]
        refine wpE_takeF 35 ⟨some 45, _, _, _, _, _⟩ (v := undef) (by decide) rfl (by kernel_rfl) (by kernel_rfl) (by kernel_rfl) (fun _ _ _ h => h) hS (Or.inr ⟨by kernel_rfl, rfl⟩) ?_
        try simp only [Act.put]
        refine wpE_takeF 36 ⟨some 46, _, _, _, _, _⟩ (v := undef) (by decide) rfl (by kernel_rfl) (by kernel_rfl) (by kernel_rfl) (fun _ _ _ h => h) hS (Or.inr ⟨by kernel_rfl, rfl⟩) ?_
        try simp only [Act.put]
        refine wpE_takeF 37 ⟨some 47, _, _, _, _, _⟩ (v := undef) (by decide) rfl (by kernel_rfl) (by kernel_rfl) (by kernel_rfl) (fun _ _ _ h => h) hS (Or.inr ⟨by kernel_rfl, rfl⟩) ?_
        try simp only [Act.put]
        refine wpE_takeF 38 ⟨some 48, _, _, _, _, _⟩ (v := undef) (by decide) rfl (by kernel_rfl) (by kernel_rfl) (by kernel_rfl) (fun _ _ _ h => h) hS (Or.inr ⟨by kernel_rfl, rfl⟩) ?_
        try simp only [Act.put]
        refine wpE_takeF 39 ⟨some 49, _, _, _, _, _⟩ (v := undef) (by decide) rfl (by kernel_rfl) (by kernel_rfl) (by kernel_rfl) (fun _ _ _ h => h) hS (Or.inr ⟨by kernel_rfl, rfl⟩) ?_
        try simp only [Act.put]
        refine wpE_takeF 40 ⟨some 50, _, _, _, _, _⟩ (v := ?_) (by decide) rfl (by kernel_rfl) (by kernel_rfl) (by kernel_rfl) (fun _ _ _ h => h) hS (Or.inl ⟨by kernel_rfl, ?_⟩) ?_
        rotate_left
        · (intro V hSw; obtain ⟨hq0, hq1⟩ := HS.out V hSw; go_simp; try with_reducible rfl)
        try simp only [Act.put]
        refine wpE_done (by kernel_rfl) ?_ _
        try simp only [List.setIfInBounds_toArray, List.set_cons_succ, List.set_cons_zero]
        go_wp2
        go_ret
        exact ⟨by rw [HF.out]; rfl, HBR.out.drew⟩
      | true =>
      rcases Decidable.em (ei < 0) with hi0 | hi0
      · have hf : r = false := by rw [HRT.out]; exact right_no hkl (by rw [HOKK.out, okN_no_int (by have := HEI.out; omega)]; rfl)
        have HF := Lib.hid hf; clear hf
        have hd0 : decide (ei < 0) = true := decide_eq_true hi0
        clear hi0
        go_wp2_with fail
        refine wp_region_E (fun V => Below wr.heap.size wr V) 99 rfl ?_
        have hS := (show Below wr.heap.size wr wr.drew from (Below.refl _ wr).drew)
        refine wpE_takeF 0 ⟨some 10, _, _, _, _, _⟩ (v := ?_) (by decide) rfl (by kernel_rfl) (by kernel_rfl) (by kernel_rfl) (fun _ _ _ h => h) hS (Or.inl ⟨by kernel_rfl, ?_⟩) ?_
        rotate_left
        · (intro V hSw; obtain ⟨hq0, hq1⟩ := HS.out V hSw; go_simp; try with_reducible rfl)
        try simp only [Act.put]
        refine wpE_takeF 1 ⟨some 11, _, _, _, _, _⟩ (v := ?_) (by decide) rfl (by kernel_rfl) (by kernel_rfl) (by kernel_rfl) (fun _ _ _ h => h) hS (Or.inl ⟨by kernel_rfl, ?_⟩) ?_
        rotate_left
        · (intro V hSw; obtain ⟨hq0, hq1⟩ := HS.out V hSw; go_simp; try with_reducible rfl)
        try simp only [Act.put]
        refine wpE_takeF 2 ⟨some 12, _, _, _, _, _⟩ (v := ?_) (by decide) rfl (by kernel_rfl) (by kernel_rfl) (by kernel_rfl) (fun _ _ _ h => h) hS (Or.inl ⟨by kernel_rfl, ?_⟩) ?_
        rotate_left
        · (intro V hSw; obtain ⟨hq0, hq1⟩ := HS.out V hSw; go_simp; try with_reducible rfl)
        try simp only [Act.put]
        refine wpE_takeF 3 ⟨some 13, _, _, _, _, _⟩ (v := ?_) (by decide) rfl (by kernel_rfl) (by kernel_rfl) (by kernel_rfl) (fun _ _ _ h => h) hS (Or.inl ⟨by kernel_rfl, ?_⟩) ?_
        rotate_left
        · (intro V hSw; obtain ⟨hq0, hq1⟩ := HS.out V hSw; go_simp; try with_reducible rfl)
        try simp only [Act.put]
        refine wpE_takeF 4 ⟨some 14, _, _, _, _, _⟩ (v := ?_) (by decide) rfl (by kernel_rfl) (by kernel_rfl) (by kernel_rfl) (fun _ _ _ h => h) hS (Or.inl ⟨by kernel_rfl, ?_⟩) ?_
        rotate_left
        · (intro V hSw; obtain ⟨hq0, hq1⟩ := HS.out V hSw; go_simp; try with_reducible rfl)
        try simp only [Act.put]
        refine wpE_takeCF 5 ⟨some 15, _, _, _, _, _⟩ (v := .bool true) (by decide) rfl (by kernel_rfl) (by kernel_rfl) (by kernel_rfl) (fun _ _ _ h => h) hS (yieldsC_of (by kernel_rfl) 14 _ _ _ _ rfl Try.func14 (by kernel_rfl) rfl #[.string S] ?hv (fun V _ => HMAY.out V)) ?_
        case hv => simp only [List.map_toArray, List.map_cons, List.map_nil]; go_simp
        try simp only [Act.put]
        refine wpE_takeF 6 ⟨some 16, _, _, _, _, _⟩ (v := ?_) (by decide) rfl (by kernel_rfl) (by kernel_rfl) (by kernel_rfl) (fun _ _ _ h => h) hS (Or.inl ⟨by kernel_rfl, ?_⟩) ?_
        rotate_left
        · (intro V hSw; obtain ⟨hq0, hq1⟩ := HS.out V hSw; go_simp; try with_reducible rfl)
        try simp only [Act.put]
        refine wpE_takeF 7 ⟨some 17, _, _, _, _, _⟩ (v := ?_) (by decide) rfl (by kernel_rfl) (by kernel_rfl) (by kernel_rfl) (fun _ _ _ h => h) hS (Or.inl ⟨by kernel_rfl, ?_⟩) ?_
        rotate_left
        · (intro V hSw; obtain ⟨hq0, hq1⟩ := HS.out V hSw; go_simp; try with_reducible rfl)
        try simp only [Act.put]
        refine wpE_takeF 8 ⟨some 18, _, _, _, _, _⟩ (v := ?_) (by decide) rfl (by kernel_rfl) (by kernel_rfl) (by kernel_rfl) (fun _ _ _ h => h) hS (Or.inl ⟨by kernel_rfl, ?_⟩) ?_
        rotate_left
        · (intro V hSw; obtain ⟨hq0, hq1⟩ := HS.out V hSw; go_simp; try with_reducible rfl)
        try simp only [Act.put]
        refine wpE_takeF 9 ⟨some 19, _, _, _, _, _⟩ (v := ?_) (by decide) rfl (by kernel_rfl) (by kernel_rfl) (by kernel_rfl) (fun _ _ _ h => h) hS (Or.inl ⟨by kernel_rfl, ?_⟩) ?_
        rotate_left
        · (intro V hSw; obtain ⟨hq0, hq1⟩ := HS.out V hSw; go_simp; try with_reducible rfl)
        try simp only [Act.put]
        refine wpE_takeF 10 ⟨some 20, _, _, _, _, _⟩ (v := ?_) (by decide) rfl (by kernel_rfl) (by kernel_rfl) (by kernel_rfl) (fun _ _ _ h => h) hS (Or.inl ⟨by kernel_rfl, ?_⟩) ?_
        rotate_left
        · (intro V hSw; obtain ⟨hq0, hq1⟩ := HS.out V hSw; go_simp; try with_reducible rfl)
        try simp only [Act.put]
        refine wpE_takeF 11 ⟨some 21, _, _, _, _, _⟩ (v := ?_) (by decide) rfl (by kernel_rfl) (by kernel_rfl) (by kernel_rfl) (fun _ _ _ h => h) hS (Or.inl ⟨by kernel_rfl, ?_⟩) ?_
        rotate_left
        · (intro V hSw; obtain ⟨hq0, hq1⟩ := HS.out V hSw; go_simp; try with_reducible rfl)
        try simp only [Act.put]
        refine wpE_takeF 12 ⟨some 22, _, _, _, _, _⟩ (v := ?_) (by decide) rfl (by kernel_rfl) (by kernel_rfl) (by kernel_rfl) (fun _ _ _ h => h) hS (Or.inl ⟨by kernel_rfl, ?_⟩) ?_
        rotate_left
        · (intro V hSw; obtain ⟨hq0, hq1⟩ := HS.out V hSw; go_simp; try with_reducible rfl)
        try simp only [Act.put]
        refine wpE_takeF 13 ⟨some 23, _, _, _, _, _⟩ (v := ?_) (by decide) rfl (by kernel_rfl) (by kernel_rfl) (by kernel_rfl) (fun _ _ _ h => h) hS (Or.inl ⟨by kernel_rfl, ?_⟩) ?_
        rotate_left
        · (intro V hSw; obtain ⟨hq0, hq1⟩ := HS.out V hSw; go_simp; try with_reducible rfl)
        try simp only [Act.put]
        refine wpE_takeF 14 ⟨some 24, _, _, _, _, _⟩ (v := ?_) (by decide) rfl (by kernel_rfl) (by kernel_rfl) (by kernel_rfl) (fun _ _ _ h => h) hS (Or.inl ⟨by kernel_rfl, ?_⟩) ?_
        rotate_left
        · (intro V hSw; obtain ⟨hq0, hq1⟩ := HS.out V hSw; go_simp; try with_reducible rfl)
        try simp only [Act.put]
        refine wpE_takeF 15 ⟨some 25, _, _, _, _, _⟩ (v := ?_) (by decide) rfl (by kernel_rfl) (by kernel_rfl) (by kernel_rfl) (fun _ _ _ h => h) hS (Or.inl ⟨by kernel_rfl, ?_⟩) ?_
        rotate_left
        · (intro V hSw; obtain ⟨hq0, hq1⟩ := HS.out V hSw; go_simp; try with_reducible rfl)
        try simp only [Act.put]
        refine wpE_takeF 16 ⟨some 26, _, _, _, _, _⟩ (v := undef) (by decide) rfl (by kernel_rfl) (by kernel_rfl) (by kernel_rfl) (fun _ _ _ h => h) hS (Or.inr ⟨by kernel_rfl, rfl⟩) ?_
        try simp only [Act.put]
        refine wpE_takeF 17 ⟨some 27, _, _, _, _, _⟩ (v := undef) (by decide) rfl (by kernel_rfl) (by kernel_rfl) (by kernel_rfl) (fun _ _ _ h => h) hS (Or.inr ⟨by kernel_rfl, rfl⟩) ?_
        try simp only [Act.put]
        refine wpE_takeF 18 ⟨some 28, _, _, _, _, _⟩ (v := undef) (by decide) rfl (by kernel_rfl) (by kernel_rfl) (by kernel_rfl) (fun _ _ _ h => h) hS (Or.inr ⟨by kernel_rfl, rfl⟩) ?_
        try simp only [Act.put]
        refine wpE_takeF 19 ⟨some 29, _, _, _, _, _⟩ (v := undef) (by decide) rfl (by kernel_rfl) (by kernel_rfl) (by kernel_rfl) (fun _ _ _ h => h) hS (Or.inr ⟨by kernel_rfl, rfl⟩) ?_
        try simp only [Act.put]
        refine wpE_takeF 20 ⟨some 30, _, _, _, _, _⟩ (v := undef) (by decide) rfl (by kernel_rfl) (by kernel_rfl) (by kernel_rfl) (fun _ _ _ h => h) hS (Or.inr ⟨by kernel_rfl, rfl⟩) ?_
        try simp only [Act.put]
        refine wpE_takeF 21 ⟨some 31, _, _, _, _, _⟩ (v := undef) (by decide) rfl (by kernel_rfl) (by kernel_rfl) (by kernel_rfl) (fun _ _ _ h => h) hS (Or.inr ⟨by kernel_rfl, rfl⟩) ?_
        try simp only [Act.put]
        refine wpE_takeF 22 ⟨some 32, _, _, _, _, _⟩ (v := ?_) (by decide) rfl (by kernel_rfl) (by kernel_rfl) (by kernel_rfl) (fun _ _ _ h => h) hS (Or.inl ⟨by kernel_rfl, ?_⟩) ?_
        rotate_left
        · (intro V hSw; obtain ⟨hq0, hq1⟩ := HS.out V hSw; go_simp; try with_reducible rfl)
        try simp only [Act.put]
        refine wpE_takeF 23 ⟨some 33, _, _, _, _, _⟩ (v := ?_) (by decide) rfl (by kernel_rfl) (by kernel_rfl) (by kernel_rfl) (fun _ _ _ h => h) hS (Or.inl ⟨by kernel_rfl, ?_⟩) ?_
        rotate_left
        · (intro V hSw; obtain ⟨hq0, hq1⟩ := HS.out V hSw; go_simp; try with_reducible rfl)
        try simp only [Act.put]
        refine wpE_takeF 24 ⟨some 34, _, _, _, _, _⟩ (v := undef) (by decide) rfl (by kernel_rfl) (by kernel_rfl) (by kernel_rfl) (fun _ _ _ h => h) hS (Or.inr ⟨by kernel_rfl, rfl⟩) ?_
        try simp only [Act.put]
        refine wpE_takeF 25 ⟨some 35, _, _, _, _, _⟩ (v := undef) (by decide) rfl (by kernel_rfl) (by kernel_rfl) (by kernel_rfl) (fun _ _ _ h => h) hS (Or.inr ⟨by kernel_rfl, rfl⟩) ?_
        try simp only [Act.put]
        refine wpE_takeF 26 ⟨some 36, _, _, _, _, _⟩ (v := undef) (by decide) rfl (by kernel_rfl) (by kernel_rfl) (by kernel_rfl) (fun _ _ _ h => h) hS (Or.inr ⟨by kernel_rfl, rfl⟩) ?_
        try simp only [Act.put]
        refine wpE_takeF 27 ⟨some 37, _, _, _, _, _⟩ (v := undef) (by decide) rfl (by kernel_rfl) (by kernel_rfl) (by kernel_rfl) (fun _ _ _ h => h) hS (Or.inr ⟨by kernel_rfl, rfl⟩) ?_
        try simp only [Act.put]
        refine wpE_takeF 28 ⟨some 38, _, _, _, _, _⟩ (v := undef) (by decide) rfl (by kernel_rfl) (by kernel_rfl) (by kernel_rfl) (fun _ _ _ h => h) hS (Or.inr ⟨by kernel_rfl, rfl⟩) ?_
        try simp only [Act.put]
        refine wpE_takeF 29 ⟨some 39, _, _, _, _, _⟩ (v := undef) (by decide) rfl (by kernel_rfl) (by kernel_rfl) (by kernel_rfl) (fun _ _ _ h => h) hS (Or.inr ⟨by kernel_rfl, rfl⟩) ?_
        try simp only [Act.put]
        refine wpE_takeF 30 ⟨some 40, _, _, _, _, _⟩ (v := undef) (by decide) rfl (by kernel_rfl) (by kernel_rfl) (by kernel_rfl) (fun _ _ _ h => h) hS (Or.inr ⟨by kernel_rfl, rfl⟩) ?_
        try simp only [Act.put]
        refine wpE_takeF 31 ⟨some 41, _, _, _, _, _⟩ (v := undef) (by decide) rfl (by kernel_rfl) (by kernel_rfl) (by kernel_rfl) (fun _ _ _ h => h) hS (Or.inr ⟨by kernel_rfl, rfl⟩) ?_
        try simp only [Act.put]
        refine wpE_takeF 32 ⟨some 42, _, _, _, _, _⟩ (v := undef) (by decide) rfl (by kernel_rfl) (by kernel_rfl) (by kernel_rfl) (fun _ _ _ h => h) hS (Or.inr ⟨by kernel_rfl, rfl⟩) ?_
        try simp only [Act.put]
        refine wpE_takeF 33 ⟨some 43, _, _, _, _, _⟩ (v := undef) (by decide) rfl (by kernel_rfl) (by kernel_rfl) (by kernel_rfl) (fun _ _ _ h => h) hS (Or.inr ⟨by kernel_rfl, rfl⟩) ?_
        try simp only [Act.put]
        refine wpE_takeF 34 ⟨some 44, _, _, _, _, _⟩ (v := undef) (by decide) rfl (by kernel_rfl) (by kernel_rfl) (by kernel_rfl) (fun _ _ _ h => h) hS (Or.inr ⟨by kernel_rfl, rfl⟩) ?_
        try simp only [Act.put]
        refine wpE_takeF 35 ⟨some 45, _, _, _, _, _⟩ (v := undef) (by decide) rfl (by kernel_rfl) (by kernel_rfl) (by kernel_rfl) (fun _ _ _ h => h) hS (Or.inr ⟨by kernel_rfl, rfl⟩) ?_
        try simp only [Act.put]
        refine wpE_takeF 36 ⟨some 46, _, _, _, _, _⟩ (v := undef) (by decide) rfl (by kernel_rfl) (by kernel_rfl) (by kernel_rfl) (fun _ _ _ h => h) hS (Or.inr ⟨by kernel_rfl, rfl⟩) ?_
        try simp only [Act.put]
        refine wpE_takeF 37 ⟨some 47, _, _, _, _, _⟩ (v := undef) (by decide) rfl (by kernel_rfl) (by kernel_rfl) (by kernel_rfl) (fun _ _ _ h => h) hS (Or.inr ⟨by kernel_rfl, rfl⟩) ?_
        try simp only [Act.put]
        refine wpE_takeF 38 ⟨some 48, _, _, _, _, _⟩ (v := undef) (by decide) rfl (by kernel_rfl) (by kernel_rfl) (by kernel_rfl) (fun _ _ _ h => h) hS (Or.inr ⟨by kernel_rfl, rfl⟩) ?_
        try simp only [Act.put]
        refine wpE_takeF 39 ⟨some 49, _, _, _, _, _⟩ (v := undef) (by decide) rfl (by kernel_rfl) (by kernel_rfl) (by kernel_rfl) (fun _ _ _ h => h) hS (Or.inr ⟨by kernel_rfl, rfl⟩) ?_
        try simp only [Act.put]
        refine wpE_takeF 40 ⟨some 50, _, _, _, _, _⟩ (v := ?_) (by decide) rfl (by kernel_rfl) (by kernel_rfl) (by kernel_rfl) (fun _ _ _ h => h) hS (Or.inl ⟨by kernel_rfl, ?_⟩) ?_
        rotate_left
        · (intro V hSw; obtain ⟨hq0, hq1⟩ := HS.out V hSw; go_simp; try with_reducible rfl)
        try simp only [Act.put]
        refine wpE_done (by kernel_rfl) ?_ _
        try simp only [List.setIfInBounds_toArray, List.set_cons_succ, List.set_cons_zero]
        go_wp2
        go_ret
        exact ⟨by rw [HF.out]; rfl, HBR.out.drew⟩
      have hd0 : decide (ei < 0) = false := decide_eq_false hi0
      rcases Decidable.em (1048576 < ei) with hi1 | hi1
      · have hf : r = false := by rw [HRT.out]; exact right_no hkl (by rw [HOKK.out, okN_no_int (by have := HEI.out; omega)]; rfl)
        have HF := Lib.hid hf; clear hf
        have hd1 : decide (1048576 < ei) = true := decide_eq_true hi1
        clear hi0 hi1
        go_wp2_with fail
        refine wp_region_E (fun V => Below wr.heap.size wr V) 99 rfl ?_
        have hS := (show Below wr.heap.size wr wr.drew from (Below.refl _ wr).drew)
        refine wpE_takeF 0 ⟨some 10, _, _, _, _, _⟩ (v := ?_) (by decide) rfl (by kernel_rfl) (by kernel_rfl) (by kernel_rfl) (fun _ _ _ h => h) hS (Or.inl ⟨by kernel_rfl, ?_⟩) ?_
        rotate_left
        · (intro V hSw; obtain ⟨hq0, hq1⟩ := HS.out V hSw; go_simp; try with_reducible rfl)
        try simp only [Act.put]
        refine wpE_takeF 1 ⟨some 11, _, _, _, _, _⟩ (v := ?_) (by decide) rfl (by kernel_rfl) (by kernel_rfl) (by kernel_rfl) (fun _ _ _ h => h) hS (Or.inl ⟨by kernel_rfl, ?_⟩) ?_
        rotate_left
        · (intro V hSw; obtain ⟨hq0, hq1⟩ := HS.out V hSw; go_simp; try with_reducible rfl)
        try simp only [Act.put]
        refine wpE_takeF 2 ⟨some 12, _, _, _, _, _⟩ (v := ?_) (by decide) rfl (by kernel_rfl) (by kernel_rfl) (by kernel_rfl) (fun _ _ _ h => h) hS (Or.inl ⟨by kernel_rfl, ?_⟩) ?_
        rotate_left
        · (intro V hSw; obtain ⟨hq0, hq1⟩ := HS.out V hSw; go_simp; try with_reducible rfl)
        try simp only [Act.put]
        refine wpE_takeF 3 ⟨some 13, _, _, _, _, _⟩ (v := ?_) (by decide) rfl (by kernel_rfl) (by kernel_rfl) (by kernel_rfl) (fun _ _ _ h => h) hS (Or.inl ⟨by kernel_rfl, ?_⟩) ?_
        rotate_left
        · (intro V hSw; obtain ⟨hq0, hq1⟩ := HS.out V hSw; go_simp; try with_reducible rfl)
        try simp only [Act.put]
        refine wpE_takeF 4 ⟨some 14, _, _, _, _, _⟩ (v := ?_) (by decide) rfl (by kernel_rfl) (by kernel_rfl) (by kernel_rfl) (fun _ _ _ h => h) hS (Or.inl ⟨by kernel_rfl, ?_⟩) ?_
        rotate_left
        · (intro V hSw; obtain ⟨hq0, hq1⟩ := HS.out V hSw; go_simp; try with_reducible rfl)
        try simp only [Act.put]
        refine wpE_takeCF 5 ⟨some 15, _, _, _, _, _⟩ (v := .bool true) (by decide) rfl (by kernel_rfl) (by kernel_rfl) (by kernel_rfl) (fun _ _ _ h => h) hS (yieldsC_of (by kernel_rfl) 14 _ _ _ _ rfl Try.func14 (by kernel_rfl) rfl #[.string S] ?hv (fun V _ => HMAY.out V)) ?_
        case hv => simp only [List.map_toArray, List.map_cons, List.map_nil]; go_simp
        try simp only [Act.put]
        refine wpE_takeF 6 ⟨some 16, _, _, _, _, _⟩ (v := ?_) (by decide) rfl (by kernel_rfl) (by kernel_rfl) (by kernel_rfl) (fun _ _ _ h => h) hS (Or.inl ⟨by kernel_rfl, ?_⟩) ?_
        rotate_left
        · (intro V hSw; obtain ⟨hq0, hq1⟩ := HS.out V hSw; go_simp; try with_reducible rfl)
        try simp only [Act.put]
        refine wpE_takeF 7 ⟨some 17, _, _, _, _, _⟩ (v := ?_) (by decide) rfl (by kernel_rfl) (by kernel_rfl) (by kernel_rfl) (fun _ _ _ h => h) hS (Or.inl ⟨by kernel_rfl, ?_⟩) ?_
        rotate_left
        · (intro V hSw; obtain ⟨hq0, hq1⟩ := HS.out V hSw; go_simp; try with_reducible rfl)
        try simp only [Act.put]
        refine wpE_takeF 8 ⟨some 18, _, _, _, _, _⟩ (v := ?_) (by decide) rfl (by kernel_rfl) (by kernel_rfl) (by kernel_rfl) (fun _ _ _ h => h) hS (Or.inl ⟨by kernel_rfl, ?_⟩) ?_
        rotate_left
        · (intro V hSw; obtain ⟨hq0, hq1⟩ := HS.out V hSw; go_simp; try with_reducible rfl)
        try simp only [Act.put]
        refine wpE_takeF 9 ⟨some 19, _, _, _, _, _⟩ (v := ?_) (by decide) rfl (by kernel_rfl) (by kernel_rfl) (by kernel_rfl) (fun _ _ _ h => h) hS (Or.inl ⟨by kernel_rfl, ?_⟩) ?_
        rotate_left
        · (intro V hSw; obtain ⟨hq0, hq1⟩ := HS.out V hSw; go_simp; try with_reducible rfl)
        try simp only [Act.put]
        refine wpE_takeF 10 ⟨some 20, _, _, _, _, _⟩ (v := ?_) (by decide) rfl (by kernel_rfl) (by kernel_rfl) (by kernel_rfl) (fun _ _ _ h => h) hS (Or.inl ⟨by kernel_rfl, ?_⟩) ?_
        rotate_left
        · (intro V hSw; obtain ⟨hq0, hq1⟩ := HS.out V hSw; go_simp; try with_reducible rfl)
        try simp only [Act.put]
        refine wpE_takeF 11 ⟨some 21, _, _, _, _, _⟩ (v := ?_) (by decide) rfl (by kernel_rfl) (by kernel_rfl) (by kernel_rfl) (fun _ _ _ h => h) hS (Or.inl ⟨by kernel_rfl, ?_⟩) ?_
        rotate_left
        · (intro V hSw; obtain ⟨hq0, hq1⟩ := HS.out V hSw; go_simp; try with_reducible rfl)
        try simp only [Act.put]
        refine wpE_takeF 12 ⟨some 22, _, _, _, _, _⟩ (v := ?_) (by decide) rfl (by kernel_rfl) (by kernel_rfl) (by kernel_rfl) (fun _ _ _ h => h) hS (Or.inl ⟨by kernel_rfl, ?_⟩) ?_
        rotate_left
        · (intro V hSw; obtain ⟨hq0, hq1⟩ := HS.out V hSw; go_simp; try with_reducible rfl)
        try simp only [Act.put]
        refine wpE_takeF 13 ⟨some 23, _, _, _, _, _⟩ (v := ?_) (by decide) rfl (by kernel_rfl) (by kernel_rfl) (by kernel_rfl) (fun _ _ _ h => h) hS (Or.inl ⟨by kernel_rfl, ?_⟩) ?_
        rotate_left
        · (intro V hSw; obtain ⟨hq0, hq1⟩ := HS.out V hSw; go_simp; try with_reducible rfl)
        try simp only [Act.put]
        refine wpE_takeF 14 ⟨some 24, _, _, _, _, _⟩ (v := ?_) (by decide) rfl (by kernel_rfl) (by kernel_rfl) (by kernel_rfl) (fun _ _ _ h => h) hS (Or.inl ⟨by kernel_rfl, ?_⟩) ?_
        rotate_left
        · (intro V hSw; obtain ⟨hq0, hq1⟩ := HS.out V hSw; go_simp; try with_reducible rfl)
        try simp only [Act.put]
        refine wpE_takeF 15 ⟨some 25, _, _, _, _, _⟩ (v := ?_) (by decide) rfl (by kernel_rfl) (by kernel_rfl) (by kernel_rfl) (fun _ _ _ h => h) hS (Or.inl ⟨by kernel_rfl, ?_⟩) ?_
        rotate_left
        · (intro V hSw; obtain ⟨hq0, hq1⟩ := HS.out V hSw; go_simp; try with_reducible rfl)
        try simp only [Act.put]
        refine wpE_takeF 16 ⟨some 26, _, _, _, _, _⟩ (v := ?_) (by decide) rfl (by kernel_rfl) (by kernel_rfl) (by kernel_rfl) (fun _ _ _ h => h) hS (Or.inl ⟨by kernel_rfl, ?_⟩) ?_
        rotate_left
        · (intro V hSw; obtain ⟨hq0, hq1⟩ := HS.out V hSw; go_simp; try with_reducible rfl)
        try simp only [Act.put]
        refine wpE_takeF 17 ⟨some 27, _, _, _, _, _⟩ (v := ?_) (by decide) rfl (by kernel_rfl) (by kernel_rfl) (by kernel_rfl) (fun _ _ _ h => h) hS (Or.inl ⟨by kernel_rfl, ?_⟩) ?_
        rotate_left
        · (intro V hSw; obtain ⟨hq0, hq1⟩ := HS.out V hSw; go_simp; try with_reducible rfl)
        try simp only [Act.put]
        refine wpE_takeF 18 ⟨some 28, _, _, _, _, _⟩ (v := ?_) (by decide) rfl (by kernel_rfl) (by kernel_rfl) (by kernel_rfl) (fun _ _ _ h => h) hS (Or.inl ⟨by kernel_rfl, ?_⟩) ?_
        rotate_left
        · (intro V hSw; obtain ⟨hq0, hq1⟩ := HS.out V hSw; go_simp; try with_reducible rfl)
        try simp only [Act.put]
        refine wpE_takeF 19 ⟨some 29, _, _, _, _, _⟩ (v := ?_) (by decide) rfl (by kernel_rfl) (by kernel_rfl) (by kernel_rfl) (fun _ _ _ h => h) hS (Or.inl ⟨by kernel_rfl, ?_⟩) ?_
        rotate_left
        · (intro V hSw; obtain ⟨hq0, hq1⟩ := HS.out V hSw; go_simp; try with_reducible rfl)
        try simp only [Act.put]
        refine wpE_takeF 20 ⟨some 30, _, _, _, _, _⟩ (v := ?_) (by decide) rfl (by kernel_rfl) (by kernel_rfl) (by kernel_rfl) (fun _ _ _ h => h) hS (Or.inl ⟨by kernel_rfl, ?_⟩) ?_
        rotate_left
        · (intro V hSw; obtain ⟨hq0, hq1⟩ := HS.out V hSw; go_simp; try with_reducible rfl)
        try simp only [Act.put]
        refine wpE_takeF 21 ⟨some 31, _, _, _, _, _⟩ (v := ?_) (by decide) rfl (by kernel_rfl) (by kernel_rfl) (by kernel_rfl) (fun _ _ _ h => h) hS (Or.inl ⟨by kernel_rfl, ?_⟩) ?_
        rotate_left
        · (intro V hSw; obtain ⟨hq0, hq1⟩ := HS.out V hSw; go_simp; try with_reducible rfl)
        try simp only [Act.put]
        refine wpE_takeF 22 ⟨some 32, _, _, _, _, _⟩ (v := ?_) (by decide) rfl (by kernel_rfl) (by kernel_rfl) (by kernel_rfl) (fun _ _ _ h => h) hS (Or.inl ⟨by kernel_rfl, ?_⟩) ?_
        rotate_left
        · (intro V hSw; obtain ⟨hq0, hq1⟩ := HS.out V hSw; go_simp; try with_reducible rfl)
        try simp only [Act.put]
        refine wpE_takeF 23 ⟨some 33, _, _, _, _, _⟩ (v := ?_) (by decide) rfl (by kernel_rfl) (by kernel_rfl) (by kernel_rfl) (fun _ _ _ h => h) hS (Or.inl ⟨by kernel_rfl, ?_⟩) ?_
        rotate_left
        · (intro V hSw; obtain ⟨hq0, hq1⟩ := HS.out V hSw; go_simp; try with_reducible rfl)
        try simp only [Act.put]
        refine wpE_takeF 24 ⟨some 34, _, _, _, _, _⟩ (v := undef) (by decide) rfl (by kernel_rfl) (by kernel_rfl) (by kernel_rfl) (fun _ _ _ h => h) hS (Or.inr ⟨by kernel_rfl, rfl⟩) ?_
        try simp only [Act.put]
        refine wpE_takeF 25 ⟨some 35, _, _, _, _, _⟩ (v := undef) (by decide) rfl (by kernel_rfl) (by kernel_rfl) (by kernel_rfl) (fun _ _ _ h => h) hS (Or.inr ⟨by kernel_rfl, rfl⟩) ?_
        try simp only [Act.put]
        refine wpE_takeF 26 ⟨some 36, _, _, _, _, _⟩ (v := undef) (by decide) rfl (by kernel_rfl) (by kernel_rfl) (by kernel_rfl) (fun _ _ _ h => h) hS (Or.inr ⟨by kernel_rfl, rfl⟩) ?_
        try simp only [Act.put]
        refine wpE_takeF 27 ⟨some 37, _, _, _, _, _⟩ (v := undef) (by decide) rfl (by kernel_rfl) (by kernel_rfl) (by kernel_rfl) (fun _ _ _ h => h) hS (Or.inr ⟨by kernel_rfl, rfl⟩) ?_
        try simp only [Act.put]
        refine wpE_takeF 28 ⟨some 38, _, _, _, _, _⟩ (v := undef) (by decide) rfl (by kernel_rfl) (by kernel_rfl) (by kernel_rfl) (fun _ _ _ h => h) hS (Or.inr ⟨by kernel_rfl, rfl⟩) ?_
        try simp only [Act.put]
        refine wpE_takeF 29 ⟨some 39, _, _, _, _, _⟩ (v := undef) (by decide) rfl (by kernel_rfl) (by kernel_rfl) (by kernel_rfl) (fun _ _ _ h => h) hS (Or.inr ⟨by kernel_rfl, rfl⟩) ?_
        try simp only [Act.put]
        refine wpE_takeF 30 ⟨some 40, _, _, _, _, _⟩ (v := undef) (by decide) rfl (by kernel_rfl) (by kernel_rfl) (by kernel_rfl) (fun _ _ _ h => h) hS (Or.inr ⟨by kernel_rfl, rfl⟩) ?_
        try simp only [Act.put]
        refine wpE_takeF 31 ⟨some 41, _, _, _, _, _⟩ (v := undef) (by decide) rfl (by kernel_rfl) (by kernel_rfl) (by kernel_rfl) (fun _ _ _ h => h) hS (Or.inr ⟨by kernel_rfl, rfl⟩) ?_
        try simp only [Act.put]
        refine wpE_takeF 32 ⟨some 42, _, _, _, _, _⟩ (v := undef) (by decide) rfl (by kernel_rfl) (by kernel_rfl) (by kernel_rfl) (fun _ _ _ h => h) hS (Or.inr ⟨by kernel_rfl, rfl⟩) ?_
        try simp only [Act.put]
        refine wpE_takeF 33 ⟨some 43, _, _, _, _, _⟩ (v := undef) (by decide) rfl (by kernel_rfl) (by kernel_rfl) (by kernel_rfl) (fun _ _ _ h => h) hS (Or.inr ⟨by kernel_rfl, rfl⟩) ?_
        try simp only [Act.put]
        refine wpE_takeF 34 ⟨some 44, _, _, _, _, _⟩ (v := undef) (by decide) rfl (by kernel_rfl) (by kernel_rfl) (by kernel_rfl) (fun _ _ _ h => h) hS (Or.inr ⟨by kernel_rfl, rfl⟩) ?_
        try simp only [Act.put]
        refine wpE_takeF 35 ⟨some 45, _, _, _, _, _⟩ (v := undef) (by decide) rfl (by kernel_rfl) (by kernel_rfl) (by kernel_rfl) (fun _ _ _ h => h) hS (Or.inr ⟨by kernel_rfl, rfl⟩) ?_
        try simp only [Act.put]
        refine wpE_takeF 36 ⟨some 46, _, _, _, _, _⟩ (v := undef) (by decide) rfl (by kernel_rfl) (by kernel_rfl) (by kernel_rfl) (fun _ _ _ h => h) hS (Or.inr ⟨by kernel_rfl, rfl⟩) ?_
        try simp only [Act.put]
        refine wpE_takeF 37 ⟨some 47, _, _, _, _, _⟩ (v := undef) (by decide) rfl (by kernel_rfl) (by kernel_rfl) (by kernel_rfl) (fun _ _ _ h => h) hS (Or.inr ⟨by kernel_rfl, rfl⟩) ?_
        try simp only [Act.put]
        refine wpE_takeF 38 ⟨some 48, _, _, _, _, _⟩ (v := undef) (by decide) rfl (by kernel_rfl) (by kernel_rfl) (by kernel_rfl) (fun _ _ _ h => h) hS (Or.inr ⟨by kernel_rfl, rfl⟩) ?_
        try simp only [Act.put]
        refine wpE_takeF 39 ⟨some 49, _, _, _, _, _⟩ (v := undef) (by decide) rfl (by kernel_rfl) (by kernel_rfl) (by kernel_rfl) (fun _ _ _ h => h) hS (Or.inr ⟨by kernel_rfl, rfl⟩) ?_
        try simp only [Act.put]
        refine wpE_takeF 40 ⟨some 50, _, _, _, _, _⟩ (v := ?_) (by decide) rfl (by kernel_rfl) (by kernel_rfl) (by kernel_rfl) (fun _ _ _ h => h) hS (Or.inl ⟨by kernel_rfl, ?_⟩) ?_
        rotate_left
        · (intro V hSw; obtain ⟨hq0, hq1⟩ := HS.out V hSw; go_simp; try with_reducible rfl)
        try simp only [Act.put]
        refine wpE_done (by kernel_rfl) ?_ _
        try simp only [List.setIfInBounds_toArray, List.set_cons_succ, List.set_cons_zero]
        go_wp2
        go_ret
        exact ⟨by rw [HF.out]; rfl, HBR.out.drew⟩
      have hd1 : decide (1048576 < ei) = false := decide_eq_false hi1
      have HOK2 : Hid (okAt l k = (decide (k = 0) || less (l.getD (k - 1) n0).t e.t)) := Lib.hid (by rw [HOKK.out, okN_yes HM.out.symm (by have := HEI.out; omega)]; rfl)
      clear HOKK hi0 hi1
      rcases Nat.eq_zero_or_pos k with hkz | hkp
      · have hokk : okAt l k = true := by rw [HOK2.out, decide_eq_true hkz]; rfl
        have hnext : ∀ j, j < k + 1 → okAt l j = true := fun j hj => by
          rcases Nat.lt_or_ge j k with h | h
          · exact HOK.out j h
          · rwa [show j = k by omega]
        have HN := Lib.hid hnext; clear hnext hokk
        subst hkz
        have hS' : ∀ V, Below wr.heap.size wr V → V.cell? ⟨b, off, none⟩ = some (.string S) ∧ V.cell? ⟨b, off + 1, none⟩ = some (.int .i64 ei) := fun V hV => by
          have h1 := HS.out V hV
          rw [Nat.zero_mul, Nat.add_zero] at h1
          exact h1
        clear HS
        have HS := Lib.hid hS'; clear hS'
        have hn0 : 0 < n := hlt
        go_wp2_with fail
        refine wp_region_E (fun V => Below wr.heap.size wr V) 99 rfl ?_
        have hS := (show Below wr.heap.size wr wr.drew from (Below.refl _ wr).drew)
        refine wpE_takeF 0 ⟨some 10, _, _, _, _, _⟩ (v := ?_) (by decide) rfl (by kernel_rfl) (by kernel_rfl) (by kernel_rfl) (fun _ _ _ h => h) hS (Or.inl ⟨by kernel_rfl, ?_⟩) ?_
        rotate_left
        · (intro V hSw; obtain ⟨hq0, hq1⟩ := HS.out V hSw; go_simp; try with_reducible rfl)
        try simp only [Act.put]
        refine wpE_takeF 1 ⟨some 11, _, _, _, _, _⟩ (v := ?_) (by decide) rfl (by kernel_rfl) (by kernel_rfl) (by kernel_rfl) (fun _ _ _ h => h) hS (Or.inl ⟨by kernel_rfl, ?_⟩) ?_
        rotate_left
        · (intro V hSw; obtain ⟨hq0, hq1⟩ := HS.out V hSw; go_simp; try with_reducible rfl)
        try simp only [Act.put]
        refine wpE_takeF 2 ⟨some 12, _, _, _, _, _⟩ (v := ?_) (by decide) rfl (by kernel_rfl) (by kernel_rfl) (by kernel_rfl) (fun _ _ _ h => h) hS (Or.inl ⟨by kernel_rfl, ?_⟩) ?_
        rotate_left
        · (intro V hSw; obtain ⟨hq0, hq1⟩ := HS.out V hSw; go_simp; try with_reducible rfl)
        try simp only [Act.put]
        refine wpE_takeF 3 ⟨some 13, _, _, _, _, _⟩ (v := ?_) (by decide) rfl (by kernel_rfl) (by kernel_rfl) (by kernel_rfl) (fun _ _ _ h => h) hS (Or.inl ⟨by kernel_rfl, ?_⟩) ?_
        rotate_left
        · (intro V hSw; obtain ⟨hq0, hq1⟩ := HS.out V hSw; go_simp; try with_reducible rfl)
        try simp only [Act.put]
        refine wpE_takeF 4 ⟨some 14, _, _, _, _, _⟩ (v := ?_) (by decide) rfl (by kernel_rfl) (by kernel_rfl) (by kernel_rfl) (fun _ _ _ h => h) hS (Or.inl ⟨by kernel_rfl, ?_⟩) ?_
        rotate_left
        · (intro V hSw; obtain ⟨hq0, hq1⟩ := HS.out V hSw; go_simp; try with_reducible rfl)
        try simp only [Act.put]
        refine wpE_takeCF 5 ⟨some 15, _, _, _, _, _⟩ (v := .bool true) (by decide) rfl (by kernel_rfl) (by kernel_rfl) (by kernel_rfl) (fun _ _ _ h => h) hS (yieldsC_of (by kernel_rfl) 14 _ _ _ _ rfl Try.func14 (by kernel_rfl) rfl #[.string S] ?hv (fun V _ => HMAY.out V)) ?_
        case hv => simp only [List.map_toArray, List.map_cons, List.map_nil]; go_simp
        try simp only [Act.put]
        refine wpE_takeF 6 ⟨some 16, _, _, _, _, _⟩ (v := ?_) (by decide) rfl (by kernel_rfl) (by kernel_rfl) (by kernel_rfl) (fun _ _ _ h => h) hS (Or.inl ⟨by kernel_rfl, ?_⟩) ?_
        rotate_left
        · (intro V hSw; obtain ⟨hq0, hq1⟩ := HS.out V hSw; go_simp; try with_reducible rfl)
        try simp only [Act.put]
        refine wpE_takeF 7 ⟨some 17, _, _, _, _, _⟩ (v := ?_) (by decide) rfl (by kernel_rfl) (by kernel_rfl) (by kernel_rfl) (fun _ _ _ h => h) hS (Or.inl ⟨by kernel_rfl, ?_⟩) ?_
        rotate_left
        · (intro V hSw; obtain ⟨hq0, hq1⟩ := HS.out V hSw; go_simp; try with_reducible rfl)
        try simp only [Act.put]
        refine wpE_takeF 8 ⟨some 18, _, _, _, _, _⟩ (v := ?_) (by decide) rfl (by kernel_rfl) (by kernel_rfl) (by kernel_rfl) (fun _ _ _ h => h) hS (Or.inl ⟨by kernel_rfl, ?_⟩) ?_
        rotate_left
        · (intro V hSw; obtain ⟨hq0, hq1⟩ := HS.out V hSw; go_simp; try with_reducible rfl)
        try simp only [Act.put]
        refine wpE_takeF 9 ⟨some 19, _, _, _, _, _⟩ (v := ?_) (by decide) rfl (by kernel_rfl) (by kernel_rfl) (by kernel_rfl) (fun _ _ _ h => h) hS (Or.inl ⟨by kernel_rfl, ?_⟩) ?_
        rotate_left
        · (intro V hSw; obtain ⟨hq0, hq1⟩ := HS.out V hSw; go_simp; try with_reducible rfl)
        try simp only [Act.put]
        refine wpE_takeF 10 ⟨some 20, _, _, _, _, _⟩ (v := ?_) (by decide) rfl (by kernel_rfl) (by kernel_rfl) (by kernel_rfl) (fun _ _ _ h => h) hS (Or.inl ⟨by kernel_rfl, ?_⟩) ?_
        rotate_left
        · (intro V hSw; obtain ⟨hq0, hq1⟩ := HS.out V hSw; go_simp; try with_reducible rfl)
        try simp only [Act.put]
        refine wpE_takeF 11 ⟨some 21, _, _, _, _, _⟩ (v := ?_) (by decide) rfl (by kernel_rfl) (by kernel_rfl) (by kernel_rfl) (fun _ _ _ h => h) hS (Or.inl ⟨by kernel_rfl, ?_⟩) ?_
        rotate_left
        · (intro V hSw; obtain ⟨hq0, hq1⟩ := HS.out V hSw; go_simp; try with_reducible rfl)
        try simp only [Act.put]
        refine wpE_takeF 12 ⟨some 22, _, _, _, _, _⟩ (v := ?_) (by decide) rfl (by kernel_rfl) (by kernel_rfl) (by kernel_rfl) (fun _ _ _ h => h) hS (Or.inl ⟨by kernel_rfl, ?_⟩) ?_
        rotate_left
        · (intro V hSw; obtain ⟨hq0, hq1⟩ := HS.out V hSw; go_simp; try with_reducible rfl)
        try simp only [Act.put]
        refine wpE_takeF 13 ⟨some 23, _, _, _, _, _⟩ (v := ?_) (by decide) rfl (by kernel_rfl) (by kernel_rfl) (by kernel_rfl) (fun _ _ _ h => h) hS (Or.inl ⟨by kernel_rfl, ?_⟩) ?_
        rotate_left
        · (intro V hSw; obtain ⟨hq0, hq1⟩ := HS.out V hSw; go_simp; try with_reducible rfl)
        try simp only [Act.put]
        refine wpE_takeF 14 ⟨some 24, _, _, _, _, _⟩ (v := ?_) (by decide) rfl (by kernel_rfl) (by kernel_rfl) (by kernel_rfl) (fun _ _ _ h => h) hS (Or.inl ⟨by kernel_rfl, ?_⟩) ?_
        rotate_left
        · (intro V hSw; obtain ⟨hq0, hq1⟩ := HS.out V hSw; go_simp; try with_reducible rfl)
        try simp only [Act.put]
        refine wpE_takeF 15 ⟨some 25, _, _, _, _, _⟩ (v := ?_) (by decide) rfl (by kernel_rfl) (by kernel_rfl) (by kernel_rfl) (fun _ _ _ h => h) hS (Or.inl ⟨by kernel_rfl, ?_⟩) ?_
        rotate_left
        · (intro V hSw; obtain ⟨hq0, hq1⟩ := HS.out V hSw; go_simp; try with_reducible rfl)
        try simp only [Act.put]
        refine wpE_takeF 16 ⟨some 26, _, _, _, _, _⟩ (v := ?_) (by decide) rfl (by kernel_rfl) (by kernel_rfl) (by kernel_rfl) (fun _ _ _ h => h) hS (Or.inl ⟨by kernel_rfl, ?_⟩) ?_
        rotate_left
        · (intro V hSw; obtain ⟨hq0, hq1⟩ := HS.out V hSw; go_simp; try with_reducible rfl)
        try simp only [Act.put]
        refine wpE_takeF 17 ⟨some 27, _, _, _, _, _⟩ (v := ?_) (by decide) rfl (by kernel_rfl) (by kernel_rfl) (by kernel_rfl) (fun _ _ _ h => h) hS (Or.inl ⟨by kernel_rfl, ?_⟩) ?_
        rotate_left
        · (intro V hSw; obtain ⟨hq0, hq1⟩ := HS.out V hSw; go_simp; try with_reducible rfl)
        try simp only [Act.put]
        refine wpE_takeF 18 ⟨some 28, _, _, _, _, _⟩ (v := ?_) (by decide) rfl (by kernel_rfl) (by kernel_rfl) (by kernel_rfl) (fun _ _ _ h => h) hS (Or.inl ⟨by kernel_rfl, ?_⟩) ?_
        rotate_left
        · (intro V hSw; obtain ⟨hq0, hq1⟩ := HS.out V hSw; go_simp; try with_reducible rfl)
        try simp only [Act.put]
        refine wpE_takeF 19 ⟨some 29, _, _, _, _, _⟩ (v := ?_) (by decide) rfl (by kernel_rfl) (by kernel_rfl) (by kernel_rfl) (fun _ _ _ h => h) hS (Or.inl ⟨by kernel_rfl, ?_⟩) ?_
        rotate_left
        · (intro V hSw; obtain ⟨hq0, hq1⟩ := HS.out V hSw; go_simp; try with_reducible rfl)
        try simp only [Act.put]
        refine wpE_takeF 20 ⟨some 30, _, _, _, _, _⟩ (v := ?_) (by decide) rfl (by kernel_rfl) (by kernel_rfl) (by kernel_rfl) (fun _ _ _ h => h) hS (Or.inl ⟨by kernel_rfl, ?_⟩) ?_
        rotate_left
        · (intro V hSw; obtain ⟨hq0, hq1⟩ := HS.out V hSw; go_simp; try with_reducible rfl)
        try simp only [Act.put]
        refine wpE_takeF 21 ⟨some 31, _, _, _, _, _⟩ (v := ?_) (by decide) rfl (by kernel_rfl) (by kernel_rfl) (by kernel_rfl) (fun _ _ _ h => h) hS (Or.inl ⟨by kernel_rfl, ?_⟩) ?_
        rotate_left
        · (intro V hSw; obtain ⟨hq0, hq1⟩ := HS.out V hSw; go_simp; try with_reducible rfl)
        try simp only [Act.put]
        refine wpE_takeF 22 ⟨some 32, _, _, _, _, _⟩ (v := ?_) (by decide) rfl (by kernel_rfl) (by kernel_rfl) (by kernel_rfl) (fun _ _ _ h => h) hS (Or.inl ⟨by kernel_rfl, ?_⟩) ?_
        rotate_left
        · (intro V hSw; obtain ⟨hq0, hq1⟩ := HS.out V hSw; go_simp; try with_reducible rfl)
        try simp only [Act.put]
        refine wpE_takeF 23 ⟨some 33, _, _, _, _, _⟩ (v := ?_) (by decide) rfl (by kernel_rfl) (by kernel_rfl) (by kernel_rfl) (fun _ _ _ h => h) hS (Or.inl ⟨by kernel_rfl, ?_⟩) ?_
        rotate_left
        · (intro V hSw; obtain ⟨hq0, hq1⟩ := HS.out V hSw; go_simp; try with_reducible rfl)
        try simp only [Act.put]
        refine wpE_takeF 24 ⟨some 34, _, _, _, _, _⟩ (v := ?_) (by decide) rfl (by kernel_rfl) (by kernel_rfl) (by kernel_rfl) (fun _ _ _ h => h) hS (Or.inl ⟨by kernel_rfl, ?_⟩) ?_
        rotate_left
        · (intro V hSw; obtain ⟨hq0, hq1⟩ := HS.out V hSw; go_simp; try with_reducible rfl)
        try simp only [Act.put]
        refine wpE_takeF 25 ⟨some 35, _, _, _, _, _⟩ (v := ?_) (by decide) rfl (by kernel_rfl) (by kernel_rfl) (by kernel_rfl) (fun _ _ _ h => h) hS (Or.inl ⟨by kernel_rfl, ?_⟩) ?_
        rotate_left
        · (intro V hSw; obtain ⟨hq0, hq1⟩ := HS.out V hSw; go_simp; try with_reducible rfl)
        try simp only [Act.put]
        refine wpE_takeF 26 ⟨some 36, _, _, _, _, _⟩ (v := ?_) (by decide) rfl (by kernel_rfl) (by kernel_rfl) (by kernel_rfl) (fun _ _ _ h => h) hS (Or.inl ⟨by kernel_rfl, ?_⟩) ?_
        rotate_left
        · (intro V hSw; obtain ⟨hq0, hq1⟩ := HS.out V hSw; go_simp; try with_reducible rfl)
        try simp only [Act.put]
        refine wpE_takeF 27 ⟨some 37, _, _, _, _, _⟩ (v := undef) (by decide) rfl (by kernel_rfl) (by kernel_rfl) (by kernel_rfl) (fun _ _ _ h => h) hS (Or.inr ⟨by kernel_rfl, rfl⟩) ?_
        try simp only [Act.put]
        refine wpE_takeF 28 ⟨some 38, _, _, _, _, _⟩ (v := undef) (by decide) rfl (by kernel_rfl) (by kernel_rfl) (by kernel_rfl) (fun _ _ _ h => h) hS (Or.inr ⟨by kernel_rfl, rfl⟩) ?_
        try simp only [Act.put]
        refine wpE_takeF 29 ⟨some 39, _, _, _, _, _⟩ (v := undef) (by decide) rfl (by kernel_rfl) (by kernel_rfl) (by kernel_rfl) (fun _ _ _ h => h) hS (Or.inr ⟨by kernel_rfl, rfl⟩) ?_
        try simp only [Act.put]
        refine wpE_takeF 30 ⟨some 40, _, _, _, _, _⟩ (v := undef) (by decide) rfl (by kernel_rfl) (by kernel_rfl) (by kernel_rfl) (fun _ _ _ h => h) hS (Or.inr ⟨by kernel_rfl, rfl⟩) ?_
        try simp only [Act.put]
        refine wpE_takeF 31 ⟨some 41, _, _, _, _, _⟩ (v := undef) (by decide) rfl (by kernel_rfl) (by kernel_rfl) (by kernel_rfl) (fun _ _ _ h => h) hS (Or.inr ⟨by kernel_rfl, rfl⟩) ?_
        try simp only [Act.put]
        refine wpE_takeF 32 ⟨some 42, _, _, _, _, _⟩ (v := undef) (by decide) rfl (by kernel_rfl) (by kernel_rfl) (by kernel_rfl) (fun _ _ _ h => h) hS (Or.inr ⟨by kernel_rfl, rfl⟩) ?_
        try simp only [Act.put]
        refine wpE_takeF 33 ⟨some 43, _, _, _, _, _⟩ (v := undef) (by decide) rfl (by kernel_rfl) (by kernel_rfl) (by kernel_rfl) (fun _ _ _ h => h) hS (Or.inr ⟨by kernel_rfl, rfl⟩) ?_
        try simp only [Act.put]
        refine wpE_takeF 34 ⟨some 44, _, _, _, _, _⟩ (v := undef) (by decide) rfl (by kernel_rfl) (by kernel_rfl) (by kernel_rfl) (fun _ _ _ h => h) hS (Or.inr ⟨by kernel_rfl, rfl⟩) ?_
        try simp only [Act.put]
        refine wpE_takeF 35 ⟨some 45, _, _, _, _, _⟩ (v := undef) (by decide) rfl (by kernel_rfl) (by kernel_rfl) (by kernel_rfl) (fun _ _ _ h => h) hS (Or.inr ⟨by kernel_rfl, rfl⟩) ?_
        try simp only [Act.put]
        refine wpE_takeF 36 ⟨some 46, _, _, _, _, _⟩ (v := undef) (by decide) rfl (by kernel_rfl) (by kernel_rfl) (by kernel_rfl) (fun _ _ _ h => h) hS (Or.inr ⟨by kernel_rfl, rfl⟩) ?_
        try simp only [Act.put]
        refine wpE_takeF 37 ⟨some 47, _, _, _, _, _⟩ (v := undef) (by decide) rfl (by kernel_rfl) (by kernel_rfl) (by kernel_rfl) (fun _ _ _ h => h) hS (Or.inr ⟨by kernel_rfl, rfl⟩) ?_
        try simp only [Act.put]
        refine wpE_takeF 38 ⟨some 48, _, _, _, _, _⟩ (v := undef) (by decide) rfl (by kernel_rfl) (by kernel_rfl) (by kernel_rfl) (fun _ _ _ h => h) hS (Or.inr ⟨by kernel_rfl, rfl⟩) ?_
        try simp only [Act.put]
        refine wpE_takeF 39 ⟨some 49, _, _, _, _, _⟩ (v := ?_) (by decide) rfl (by kernel_rfl) (by kernel_rfl) (by kernel_rfl) (fun _ _ _ h => h) hS (Or.inl ⟨by kernel_rfl, ?_⟩) ?_
        rotate_left
        · (intro V hSw; obtain ⟨hq0, hq1⟩ := HS.out V hSw; go_simp; try with_reducible rfl)
        try simp only [Act.put]
        refine wpE_takeF 40 ⟨some 50, _, _, _, _, _⟩ (v := ?_) (by decide) rfl (by kernel_rfl) (by kernel_rfl) (by kernel_rfl) (fun _ _ _ h => h) hS (Or.inl ⟨by kernel_rfl, ?_⟩) ?_
        rotate_left
        · (intro V hSw; obtain ⟨hq0, hq1⟩ := HS.out V hSw; go_simp; try with_reducible rfl)
        try simp only [Act.put]
        refine wpE_done (by kernel_rfl) ?_ _
        try simp only [List.setIfInBounds_toArray, List.set_cons_succ, List.set_cons_zero]
        go_wp2
        go_roundw
        case rel => exact ⟨0 + 1, by omega, by go_num, HN.out, HBR.out.drew⟩
        case measure => simp [intOf]; omega
      · obtain ⟨j, rfl⟩ : ∃ j, k = j + 1 := ⟨k - 1, by omega⟩
        have hprev := HPREV.out (by omega)
        rw [Nat.add_sub_cancel] at hprev
        have hq0 : okAt l (j + 1) = less (l.getD j n0).t e.t := by rw [HOK2.out, decide_eq_false (by omega), Bool.false_or, Nat.add_sub_cancel]
        obtain ⟨P, hP⟩ : ∃ P : ByteArray, P = ⟨(l.getD j n0).t.toArray⟩ := ⟨_, rfl⟩
        have hPl : P.toList = (l.getD j n0).t := by rw [hP, text_list]
        rw [← hP] at hprev
        clear hP
        have hboth : ∀ V, Below wr.heap.size wr V → V.cell? ⟨b, off + (j + 1) * 2, none⟩ = some (.string S) ∧ V.cell? ⟨b, off + (j + 1) * 2 + 1, none⟩ = some (.int .i64 ei) ∧ V.cell? ⟨b, off + j * 2, none⟩ = some (.string P) := fun V hV => ⟨(HS.out V hV).1, (HS.out V hV).2, hprev V hV⟩
        have HS2 := Lib.hid hboth; clear hboth hprev HPREV
        have hwj : IntKind.i64.wrap (j : Int) = (j : Int) := by rw [IntKind.wrap_i64]; omega
        have hj0 : (0 : Int) ≤ (j : Int) := by omega
        have hjn : (j : Int) < (n : Int) := by omega
        have hjb : 0 ≤ (j : Int) ∧ (j : Int) < (n : Int) := ⟨hj0, hjn⟩
        have hj1 : (0 : Int) ≤ (j : Int) + 1 := by omega
        have hjn1 : (j : Int) + 1 < (n : Int) := by omega
        have hjp : (0 : Int) < (j : Int) + 1 := by omega
        have hjd : decide ((0 : Int) < (j : Int) + 1) = true := decide_eq_true hjp
        obtain ⟨q, hq⟩ : ∃ q, Op.bytesLess P.toList S.toList = q := ⟨_, rfl⟩
        have HQ : Hid (okAt l (j + 1) = q) := Lib.hid (by rw [hq0, ← hq, HSL.out, hPl]; rfl)
        have hgeq : ∀ V, (binOp .geq 9 (.string P) (.string S)).run Try.prog V = .ok (.bool (!q)) V := fun V => by rw [← hq]; exact run_geq P S V
        clear hq0 hPl HSL HOK2 hq
        cases q with
        | false =>
          have hf : r = false := by rw [HRT.out]; exact right_no hkl HQ.out
          have HF := Lib.hid hf; clear hf
          go_wp2_with fail
          refine wp_region_E (fun V => Below wr.heap.size wr V) 99 rfl ?_
          have hS := (show Below wr.heap.size wr wr.drew from (Below.refl _ wr).drew)
          refine wpE_takeF 0 ⟨some 10, _, _, _, _, _⟩ (v := ?_) (by decide) rfl (by kernel_rfl) (by kernel_rfl) (by kernel_rfl) (fun _ _ _ h => h) hS (Or.inl ⟨by kernel_rfl, ?_⟩) ?_
          rotate_left
          · (intro V hSw; obtain ⟨hq0, hq1⟩ := HS.out V hSw; go_simp; try with_reducible rfl)
          try simp only [Act.put]
          refine wpE_takeF 1 ⟨some 11, _, _, _, _, _⟩ (v := ?_) (by decide) rfl (by kernel_rfl) (by kernel_rfl) (by kernel_rfl) (fun _ _ _ h => h) hS (Or.inl ⟨by kernel_rfl, ?_⟩) ?_
          rotate_left
          · (intro V hSw; obtain ⟨hq0, hq1⟩ := HS.out V hSw; go_simp; try with_reducible rfl)
          try simp only [Act.put]
          refine wpE_takeF 2 ⟨some 12, _, _, _, _, _⟩ (v := ?_) (by decide) rfl (by kernel_rfl) (by kernel_rfl) (by kernel_rfl) (fun _ _ _ h => h) hS (Or.inl ⟨by kernel_rfl, ?_⟩) ?_
          rotate_left
          · (intro V hSw; obtain ⟨hq0, hq1⟩ := HS.out V hSw; go_simp; try with_reducible rfl)
          try simp only [Act.put]
          refine wpE_takeF 3 ⟨some 13, _, _, _, _, _⟩ (v := ?_) (by decide) rfl (by kernel_rfl) (by kernel_rfl) (by kernel_rfl) (fun _ _ _ h => h) hS (Or.inl ⟨by kernel_rfl, ?_⟩) ?_
          rotate_left
          · (intro V hSw; obtain ⟨hq0, hq1⟩ := HS.out V hSw; go_simp; try with_reducible rfl)
          try simp only [Act.put]
          refine wpE_takeF 4 ⟨some 14, _, _, _, _, _⟩ (v := ?_) (by decide) rfl (by kernel_rfl) (by kernel_rfl) (by kernel_rfl) (fun _ _ _ h => h) hS (Or.inl ⟨by kernel_rfl, ?_⟩) ?_
          rotate_left
          · (intro V hSw; obtain ⟨hq0, hq1⟩ := HS.out V hSw; go_simp; try with_reducible rfl)
          try simp only [Act.put]
          refine wpE_takeCF 5 ⟨some 15, _, _, _, _, _⟩ (v := .bool true) (by decide) rfl (by kernel_rfl) (by kernel_rfl) (by kernel_rfl) (fun _ _ _ h => h) hS (yieldsC_of (by kernel_rfl) 14 _ _ _ _ rfl Try.func14 (by kernel_rfl) rfl #[.string S] ?hv (fun V _ => HMAY.out V)) ?_
          case hv => simp only [List.map_toArray, List.map_cons, List.map_nil]; go_simp
          try simp only [Act.put]
          refine wpE_takeF 6 ⟨some 16, _, _, _, _, _⟩ (v := ?_) (by decide) rfl (by kernel_rfl) (by kernel_rfl) (by kernel_rfl) (fun _ _ _ h => h) hS (Or.inl ⟨by kernel_rfl, ?_⟩) ?_
          rotate_left
          · (intro V hSw; obtain ⟨hq0, hq1⟩ := HS.out V hSw; go_simp; try with_reducible rfl)
          try simp only [Act.put]
          refine wpE_takeF 7 ⟨some 17, _, _, _, _, _⟩ (v := ?_) (by decide) rfl (by kernel_rfl) (by kernel_rfl) (by kernel_rfl) (fun _ _ _ h => h) hS (Or.inl ⟨by kernel_rfl, ?_⟩) ?_
          rotate_left
          · (intro V hSw; obtain ⟨hq0, hq1⟩ := HS.out V hSw; go_simp; try with_reducible rfl)
          try simp only [Act.put]
          refine wpE_takeF 8 ⟨some 18, _, _, _, _, _⟩ (v := ?_) (by decide) rfl (by kernel_rfl) (by kernel_rfl) (by kernel_rfl) (fun _ _ _ h => h) hS (Or.inl ⟨by kernel_rfl, ?_⟩) ?_
          rotate_left
          · (intro V hSw; obtain ⟨hq0, hq1, hq2⟩ := HS2.out V hSw; go_simp; try with_reducible rfl)
          try simp only [Act.put]
          refine wpE_takeF 9 ⟨some 19, _, _, _, _, _⟩ (v := ?_) (by decide) rfl (by kernel_rfl) (by kernel_rfl) (by kernel_rfl) (fun _ _ _ h => h) hS (Or.inl ⟨by kernel_rfl, ?_⟩) ?_
          rotate_left
          · (intro V hSw; obtain ⟨hq0, hq1, hq2⟩ := HS2.out V hSw; go_simp; try with_reducible rfl)
          try simp only [Act.put]
          refine wpE_takeF 10 ⟨some 20, _, _, _, _, _⟩ (v := ?_) (by decide) rfl (by kernel_rfl) (by kernel_rfl) (by kernel_rfl) (fun _ _ _ h => h) hS (Or.inl ⟨by kernel_rfl, ?_⟩) ?_
          rotate_left
          · (intro V hSw; obtain ⟨hq0, hq1, hq2⟩ := HS2.out V hSw; go_simp; try with_reducible rfl)
          try simp only [Act.put]
          refine wpE_takeF 11 ⟨some 21, _, _, _, _, _⟩ (v := ?_) (by decide) rfl (by kernel_rfl) (by kernel_rfl) (by kernel_rfl) (fun _ _ _ h => h) hS (Or.inl ⟨by kernel_rfl, ?_⟩) ?_
          rotate_left
          · (intro V hSw; obtain ⟨hq0, hq1, hq2⟩ := HS2.out V hSw; go_simp; try with_reducible rfl)
          try simp only [Act.put]
          refine wpE_takeF 12 ⟨some 22, _, _, _, _, _⟩ (v := ?_) (by decide) rfl (by kernel_rfl) (by kernel_rfl) (by kernel_rfl) (fun _ _ _ h => h) hS (Or.inl ⟨by kernel_rfl, ?_⟩) ?_
          rotate_left
          · (intro V hSw; obtain ⟨hq0, hq1, hq2⟩ := HS2.out V hSw; go_simp; try with_reducible rfl)
          try simp only [Act.put]
          refine wpE_takeF 13 ⟨some 23, _, _, _, _, _⟩ (v := ?_) (by decide) rfl (by kernel_rfl) (by kernel_rfl) (by kernel_rfl) (fun _ _ _ h => h) hS (Or.inl ⟨by kernel_rfl, ?_⟩) ?_
          rotate_left
          · (intro V hSw; obtain ⟨hq0, hq1, hq2⟩ := HS2.out V hSw; go_simp; try with_reducible rfl)
          try simp only [Act.put]
          refine wpE_takeF 14 ⟨some 24, _, _, _, _, _⟩ (v := ?_) (by decide) rfl (by kernel_rfl) (by kernel_rfl) (by kernel_rfl) (fun _ _ _ h => h) hS (Or.inl ⟨by kernel_rfl, ?_⟩) ?_
          rotate_left
          · (intro V hSw; obtain ⟨hq0, hq1, hq2⟩ := HS2.out V hSw; go_simp; try with_reducible rfl)
          try simp only [Act.put]
          refine wpE_takeF 15 ⟨some 25, _, _, _, _, _⟩ (v := ?_) (by decide) rfl (by kernel_rfl) (by kernel_rfl) (by kernel_rfl) (fun _ _ _ h => h) hS (Or.inl ⟨by kernel_rfl, ?_⟩) ?_
          rotate_left
          · (intro V hSw; obtain ⟨hq0, hq1, hq2⟩ := HS2.out V hSw; go_simp; try with_reducible rfl)
          try simp only [Act.put]
          refine wpE_takeF 16 ⟨some 26, _, _, _, _, _⟩ (v := ?_) (by decide) rfl (by kernel_rfl) (by kernel_rfl) (by kernel_rfl) (fun _ _ _ h => h) hS (Or.inl ⟨by kernel_rfl, ?_⟩) ?_
          rotate_left
          · (intro V hSw; obtain ⟨hq0, hq1, hq2⟩ := HS2.out V hSw; go_simp; try with_reducible rfl)
          try simp only [Act.put]
          refine wpE_takeF 17 ⟨some 27, _, _, _, _, _⟩ (v := ?_) (by decide) rfl (by kernel_rfl) (by kernel_rfl) (by kernel_rfl) (fun _ _ _ h => h) hS (Or.inl ⟨by kernel_rfl, ?_⟩) ?_
          rotate_left
          · (intro V hSw; obtain ⟨hq0, hq1, hq2⟩ := HS2.out V hSw; go_simp; try with_reducible rfl)
          try simp only [Act.put]
          refine wpE_takeF 18 ⟨some 28, _, _, _, _, _⟩ (v := ?_) (by decide) rfl (by kernel_rfl) (by kernel_rfl) (by kernel_rfl) (fun _ _ _ h => h) hS (Or.inl ⟨by kernel_rfl, ?_⟩) ?_
          rotate_left
          · (intro V hSw; obtain ⟨hq0, hq1, hq2⟩ := HS2.out V hSw; go_simp; try with_reducible rfl)
          try simp only [Act.put]
          refine wpE_takeF 19 ⟨some 29, _, _, _, _, _⟩ (v := ?_) (by decide) rfl (by kernel_rfl) (by kernel_rfl) (by kernel_rfl) (fun _ _ _ h => h) hS (Or.inl ⟨by kernel_rfl, ?_⟩) ?_
          rotate_left
          · (intro V hSw; obtain ⟨hq0, hq1, hq2⟩ := HS2.out V hSw; go_simp; try with_reducible rfl)
          try simp only [Act.put]
          refine wpE_takeF 20 ⟨some 30, _, _, _, _, _⟩ (v := ?_) (by decide) rfl (by kernel_rfl) (by kernel_rfl) (by kernel_rfl) (fun _ _ _ h => h) hS (Or.inl ⟨by kernel_rfl, ?_⟩) ?_
          rotate_left
          · (intro V hSw; obtain ⟨hq0, hq1, hq2⟩ := HS2.out V hSw; go_simp; try with_reducible rfl)
          try simp only [Act.put]
          refine wpE_takeF 21 ⟨some 31, _, _, _, _, _⟩ (v := ?_) (by decide) rfl (by kernel_rfl) (by kernel_rfl) (by kernel_rfl) (fun _ _ _ h => h) hS (Or.inl ⟨by kernel_rfl, ?_⟩) ?_
          rotate_left
          · (intro V hSw; obtain ⟨hq0, hq1, hq2⟩ := HS2.out V hSw; go_simp; try with_reducible rfl)
          try simp only [Act.put]
          refine wpE_takeF 22 ⟨some 32, _, _, _, _, _⟩ (v := ?_) (by decide) rfl (by kernel_rfl) (by kernel_rfl) (by kernel_rfl) (fun _ _ _ h => h) hS (Or.inl ⟨by kernel_rfl, ?_⟩) ?_
          rotate_left
          · (intro V hSw; obtain ⟨hq0, hq1, hq2⟩ := HS2.out V hSw; go_simp; try with_reducible rfl)
          try simp only [Act.put]
          refine wpE_takeF 23 ⟨some 33, _, _, _, _, _⟩ (v := ?_) (by decide) rfl (by kernel_rfl) (by kernel_rfl) (by kernel_rfl) (fun _ _ _ h => h) hS (Or.inl ⟨by kernel_rfl, ?_⟩) ?_
          rotate_left
          · (intro V hSw; obtain ⟨hq0, hq1, hq2⟩ := HS2.out V hSw; go_simp; try with_reducible rfl)
          try simp only [Act.put]
          refine wpE_takeF 24 ⟨some 34, _, _, _, _, _⟩ (v := ?_) (by decide) rfl (by kernel_rfl) (by kernel_rfl) (by kernel_rfl) (fun _ _ _ h => h) hS (Or.inl ⟨by kernel_rfl, ?_⟩) ?_
          rotate_left
          · (intro V hSw; obtain ⟨hq0, hq1, hq2⟩ := HS2.out V hSw; go_simp; try with_reducible rfl)
          try simp only [Act.put]
          refine wpE_takeF 25 ⟨some 35, _, _, _, _, _⟩ (v := ?_) (by decide) rfl (by kernel_rfl) (by kernel_rfl) (by kernel_rfl) (fun _ _ _ h => h) hS (Or.inl ⟨by kernel_rfl, ?_⟩) ?_
          rotate_left
          · (intro V hSw; obtain ⟨hq0, hq1, hq2⟩ := HS2.out V hSw; go_simp; try with_reducible rfl)
          try simp only [Act.put]
          refine wpE_takeF 26 ⟨some 36, _, _, _, _, _⟩ (v := ?_) (by decide) rfl (by kernel_rfl) (by kernel_rfl) (by kernel_rfl) (fun _ _ _ h => h) hS (Or.inl ⟨by kernel_rfl, ?_⟩) ?_
          rotate_left
          · (intro V hSw; obtain ⟨hq0, hq1, hq2⟩ := HS2.out V hSw; go_simp; try with_reducible rfl)
          try simp only [Act.put]
          refine wpE_takeF 27 ⟨some 37, _, _, _, _, _⟩ (v := ?_) (by decide) rfl (by kernel_rfl) (by kernel_rfl) (by kernel_rfl) (fun _ _ _ h => h) hS (Or.inl ⟨by kernel_rfl, ?_⟩) ?_
          rotate_left
          · (intro V hSw; obtain ⟨hq0, hq1, hq2⟩ := HS2.out V hSw; go_simp; try with_reducible rfl)
          try simp only [Act.put]
          refine wpE_takeF 28 ⟨some 38, _, _, _, _, _⟩ (v := ?_) (by decide) rfl (by kernel_rfl) (by kernel_rfl) (by kernel_rfl) (fun _ _ _ h => h) hS (Or.inl ⟨by kernel_rfl, ?_⟩) ?_
          rotate_left
          · (intro V hSw; obtain ⟨hq0, hq1, hq2⟩ := HS2.out V hSw; go_simp; try with_reducible rfl)
          try simp only [Act.put]
          refine wpE_takeF 29 ⟨some 39, _, _, _, _, _⟩ (v := ?_) (by decide) rfl (by kernel_rfl) (by kernel_rfl) (by kernel_rfl) (fun _ _ _ h => h) hS (Or.inl ⟨by kernel_rfl, ?_⟩) ?_
          rotate_left
          · (intro V hSw; obtain ⟨hq0, hq1, hq2⟩ := HS2.out V hSw; go_simp; try with_reducible rfl)
          try simp only [Act.put]
          refine wpE_takeF 30 ⟨some 40, _, _, _, _, _⟩ (v := ?_) (by decide) rfl (by kernel_rfl) (by kernel_rfl) (by kernel_rfl) (fun _ _ _ h => h) hS (Or.inl ⟨by kernel_rfl, ?_⟩) ?_
          rotate_left
          · (intro V hSw; obtain ⟨hq0, hq1, hq2⟩ := HS2.out V hSw; go_simp; try with_reducible rfl)
          try simp only [Act.put]
          refine wpE_takeF 31 ⟨some 41, _, _, _, _, _⟩ (v := ?_) (by decide) rfl (by kernel_rfl) (by kernel_rfl) (by kernel_rfl) (fun _ _ _ h => h) hS (Or.inl ⟨by kernel_rfl, ?_⟩) ?_
          rotate_left
          · (intro V hSw; obtain ⟨hq0, hq1, hq2⟩ := HS2.out V hSw; go_simp; try with_reducible rfl)
          try simp only [Act.put]
          refine wpE_takeF 32 ⟨some 42, _, _, _, _, _⟩ (v := ?_) (by decide) rfl (by kernel_rfl) (by kernel_rfl) (by kernel_rfl) (fun _ _ _ h => h) hS (Or.inl ⟨by kernel_rfl, ?_⟩) ?_
          rotate_left
          · (intro V hSw; obtain ⟨hq0, hq1, hq2⟩ := HS2.out V hSw; go_simp; try with_reducible rfl)
          try simp only [Act.put]
          refine wpE_takeF 33 ⟨some 43, _, _, _, _, _⟩ (v := ?_) (by decide) rfl (by kernel_rfl) (by kernel_rfl) (by kernel_rfl) (fun _ _ _ h => h) hS (Or.inl ⟨by kernel_rfl, ?_⟩) ?_
          rotate_left
          · (intro V hSw; obtain ⟨hq0, hq1, hq2⟩ := HS2.out V hSw; go_simp; try with_reducible rfl)
          try simp only [Act.put]
          refine wpE_takeF 34 ⟨some 44, _, _, _, _, _⟩ (v := ?_) (by decide) rfl (by kernel_rfl) (by kernel_rfl) (by kernel_rfl) (fun _ _ _ h => h) hS (Or.inl ⟨by kernel_rfl, ?_⟩) ?_
          rotate_left
          · (intro V hSw; obtain ⟨hq0, hq1, hq2⟩ := HS2.out V hSw; go_simp; try with_reducible rfl)
          try simp only [Act.put]
          refine wpE_takeF 35 ⟨some 45, _, _, _, _, _⟩ (v := ?_) (by decide) rfl (by kernel_rfl) (by kernel_rfl) (by kernel_rfl) (fun _ _ _ h => h) hS (Or.inl ⟨by kernel_rfl, ?_⟩) ?_
          rotate_left
          · (intro V hSw; obtain ⟨hq0, hq1, hq2⟩ := HS2.out V hSw; go_simp; try with_reducible rfl)
          try simp only [Act.put]
          refine wpE_takeF 36 ⟨some 46, _, _, _, _, _⟩ (v := ?_) (by decide) rfl (by kernel_rfl) (by kernel_rfl) (by kernel_rfl) (fun _ _ _ h => h) hS (Or.inl ⟨by kernel_rfl, ?_⟩) ?_
          rotate_left
          · (intro V hSw; obtain ⟨hq0, hq1, hq2⟩ := HS2.out V hSw; go_simp; try with_reducible rfl)
          try simp only [Act.put]
          refine wpE_takeF 37 ⟨some 47, _, _, _, _, _⟩ (v := ?_) (by decide) rfl (by kernel_rfl) (by kernel_rfl) (by kernel_rfl) (fun _ _ _ h => h) hS (Or.inl ⟨by kernel_rfl, ?_⟩) ?_
          rotate_left
          · (intro V hSw; obtain ⟨hq0, hq1, hq2⟩ := HS2.out V hSw; go_simp; try with_reducible rfl)
          try simp only [Act.put]
          refine wpE_takeF 38 ⟨some 48, _, _, _, _, _⟩ (v := ?_) (by decide) rfl (by kernel_rfl) (by kernel_rfl) (by kernel_rfl) (fun _ _ _ h => h) hS (Or.inl ⟨by kernel_rfl, ?_⟩) ?_
          rotate_left
          · (intro V hSw; obtain ⟨hq0, hq1, hq2⟩ := HS2.out V hSw; go_simp; try with_reducible rfl)
          try simp only [Act.put]
          refine wpE_takeF 39 ⟨some 49, _, _, _, _, _⟩ (v := ?_) (by decide) rfl (by kernel_rfl) (by kernel_rfl) (by kernel_rfl) (fun _ _ _ h => h) hS (Or.inl ⟨by kernel_rfl, ?_⟩) ?_
          rotate_left
          · (intro V hSw; obtain ⟨hq0, hq1, hq2⟩ := HS2.out V hSw; go_simp; try with_reducible rfl)
          try simp only [Act.put]
          refine wpE_takeF 40 ⟨some 50, _, _, _, _, _⟩ (v := ?_) (by decide) rfl (by kernel_rfl) (by kernel_rfl) (by kernel_rfl) (fun _ _ _ h => h) hS (Or.inl ⟨by kernel_rfl, ?_⟩) ?_
          rotate_left
          · (intro V hSw; obtain ⟨hq0, hq1, hq2⟩ := HS2.out V hSw; go_simp; try with_reducible rfl)
          try simp only [Act.put]
          refine wpE_done (by kernel_rfl) ?_ _
          try simp only [List.setIfInBounds_toArray, List.set_cons_succ, List.set_cons_zero]
          go_wp2
          go_ret
          exact ⟨by rw [HF.out]; rfl, HBR.out.drew⟩
        | true =>
          have hnext : ∀ i, i < j + 1 + 1 → okAt l i = true := fun i hi => by
            rcases Nat.lt_or_ge i (j + 1) with h | h
            · exact HOK.out i h
            · rw [show i = j + 1 by omega]; exact HQ.out
          have HN := Lib.hid hnext; clear hnext
          go_wp2_with fail
          refine wp_region_E (fun V => Below wr.heap.size wr V) 99 rfl ?_
          have hS := (show Below wr.heap.size wr wr.drew from (Below.refl _ wr).drew)
          refine wpE_takeF 0 ⟨some 10, _, _, _, _, _⟩ (v := ?_) (by decide) rfl (by kernel_rfl) (by kernel_rfl) (by kernel_rfl) (fun _ _ _ h => h) hS (Or.inl ⟨by kernel_rfl, ?_⟩) ?_
          rotate_left
          · (intro V hSw; obtain ⟨hq0, hq1⟩ := HS.out V hSw; go_simp; try with_reducible rfl)
          try simp only [Act.put]
          refine wpE_takeF 1 ⟨some 11, _, _, _, _, _⟩ (v := ?_) (by decide) rfl (by kernel_rfl) (by kernel_rfl) (by kernel_rfl) (fun _ _ _ h => h) hS (Or.inl ⟨by kernel_rfl, ?_⟩) ?_
          rotate_left
          · (intro V hSw; obtain ⟨hq0, hq1⟩ := HS.out V hSw; go_simp; try with_reducible rfl)
          try simp only [Act.put]
          refine wpE_takeF 2 ⟨some 12, _, _, _, _, _⟩ (v := ?_) (by decide) rfl (by kernel_rfl) (by kernel_rfl) (by kernel_rfl) (fun _ _ _ h => h) hS (Or.inl ⟨by kernel_rfl, ?_⟩) ?_
          rotate_left
          · (intro V hSw; obtain ⟨hq0, hq1⟩ := HS.out V hSw; go_simp; try with_reducible rfl)
          try simp only [Act.put]
          refine wpE_takeF 3 ⟨some 13, _, _, _, _, _⟩ (v := ?_) (by decide) rfl (by kernel_rfl) (by kernel_rfl) (by kernel_rfl) (fun _ _ _ h => h) hS (Or.inl ⟨by kernel_rfl, ?_⟩) ?_
          rotate_left
          · (intro V hSw; obtain ⟨hq0, hq1⟩ := HS.out V hSw; go_simp; try with_reducible rfl)
          try simp only [Act.put]
          refine wpE_takeF 4 ⟨some 14, _, _, _, _, _⟩ (v := ?_) (by decide) rfl (by kernel_rfl) (by kernel_rfl) (by kernel_rfl) (fun _ _ _ h => h) hS (Or.inl ⟨by kernel_rfl, ?_⟩) ?_
          rotate_left
          · (intro V hSw; obtain ⟨hq0, hq1⟩ := HS.out V hSw; go_simp; try with_reducible rfl)
          try simp only [Act.put]
          refine wpE_takeCF 5 ⟨some 15, _, _, _, _, _⟩ (v := .bool true) (by decide) rfl (by kernel_rfl) (by kernel_rfl) (by kernel_rfl) (fun _ _ _ h => h) hS (yieldsC_of (by kernel_rfl) 14 _ _ _ _ rfl Try.func14 (by kernel_rfl) rfl #[.string S] ?hv (fun V _ => HMAY.out V)) ?_
          case hv => simp only [List.map_toArray, List.map_cons, List.map_nil]; go_simp
          try simp only [Act.put]
          refine wpE_takeF 6 ⟨some 16, _, _, _, _, _⟩ (v := ?_) (by decide) rfl (by kernel_rfl) (by kernel_rfl) (by kernel_rfl) (fun _ _ _ h => h) hS (Or.inl ⟨by kernel_rfl, ?_⟩) ?_
          rotate_left
          · (intro V hSw; obtain ⟨hq0, hq1⟩ := HS.out V hSw; go_simp; try with_reducible rfl)
          try simp only [Act.put]
          refine wpE_takeF 7 ⟨some 17, _, _, _, _, _⟩ (v := ?_) (by decide) rfl (by kernel_rfl) (by kernel_rfl) (by kernel_rfl) (fun _ _ _ h => h) hS (Or.inl ⟨by kernel_rfl, ?_⟩) ?_
          rotate_left
          · (intro V hSw; obtain ⟨hq0, hq1⟩ := HS.out V hSw; go_simp; try with_reducible rfl)
          try simp only [Act.put]
          refine wpE_takeF 8 ⟨some 18, _, _, _, _, _⟩ (v := ?_) (by decide) rfl (by kernel_rfl) (by kernel_rfl) (by kernel_rfl) (fun _ _ _ h => h) hS (Or.inl ⟨by kernel_rfl, ?_⟩) ?_
          rotate_left
          · (intro V hSw; obtain ⟨hq0, hq1, hq2⟩ := HS2.out V hSw; go_simp; try with_reducible rfl)
          try simp only [Act.put]
          refine wpE_takeF 9 ⟨some 19, _, _, _, _, _⟩ (v := ?_) (by decide) rfl (by kernel_rfl) (by kernel_rfl) (by kernel_rfl) (fun _ _ _ h => h) hS (Or.inl ⟨by kernel_rfl, ?_⟩) ?_
          rotate_left
          · (intro V hSw; obtain ⟨hq0, hq1, hq2⟩ := HS2.out V hSw; go_simp; try with_reducible rfl)
          try simp only [Act.put]
          refine wpE_takeF 10 ⟨some 20, _, _, _, _, _⟩ (v := ?_) (by decide) rfl (by kernel_rfl) (by kernel_rfl) (by kernel_rfl) (fun _ _ _ h => h) hS (Or.inl ⟨by kernel_rfl, ?_⟩) ?_
          rotate_left
          · (intro V hSw; obtain ⟨hq0, hq1, hq2⟩ := HS2.out V hSw; go_simp; try with_reducible rfl)
          try simp only [Act.put]
          refine wpE_takeF 11 ⟨some 21, _, _, _, _, _⟩ (v := ?_) (by decide) rfl (by kernel_rfl) (by kernel_rfl) (by kernel_rfl) (fun _ _ _ h => h) hS (Or.inl ⟨by kernel_rfl, ?_⟩) ?_
          rotate_left
          · (intro V hSw; obtain ⟨hq0, hq1, hq2⟩ := HS2.out V hSw; go_simp; try with_reducible rfl)
          try simp only [Act.put]
          refine wpE_takeF 12 ⟨some 22, _, _, _, _, _⟩ (v := ?_) (by decide) rfl (by kernel_rfl) (by kernel_rfl) (by kernel_rfl) (fun _ _ _ h => h) hS (Or.inl ⟨by kernel_rfl, ?_⟩) ?_
          rotate_left
          · (intro V hSw; obtain ⟨hq0, hq1, hq2⟩ := HS2.out V hSw; go_simp; try with_reducible rfl)
          try simp only [Act.put]
          refine wpE_takeF 13 ⟨some 23, _, _, _, _, _⟩ (v := ?_) (by decide) rfl (by kernel_rfl) (by kernel_rfl) (by kernel_rfl) (fun _ _ _ h => h) hS (Or.inl ⟨by kernel_rfl, ?_⟩) ?_
          rotate_left
          · (intro V hSw; obtain ⟨hq0, hq1, hq2⟩ := HS2.out V hSw; go_simp; try with_reducible rfl)
          try simp only [Act.put]
          refine wpE_takeF 14 ⟨some 24, _, _, _, _, _⟩ (v := ?_) (by decide) rfl (by kernel_rfl) (by kernel_rfl) (by kernel_rfl) (fun _ _ _ h => h) hS (Or.inl ⟨by kernel_rfl, ?_⟩) ?_
          rotate_left
          · (intro V hSw; obtain ⟨hq0, hq1, hq2⟩ := HS2.out V hSw; go_simp; try with_reducible rfl)
          try simp only [Act.put]
          refine wpE_takeF 15 ⟨some 25, _, _, _, _, _⟩ (v := ?_) (by decide) rfl (by kernel_rfl) (by kernel_rfl) (by kernel_rfl) (fun _ _ _ h => h) hS (Or.inl ⟨by kernel_rfl, ?_⟩) ?_
          rotate_left
          · (intro V hSw; obtain ⟨hq0, hq1, hq2⟩ := HS2.out V hSw; go_simp; try with_reducible rfl)
          try simp only [Act.put]
          refine wpE_takeF 16 ⟨some 26, _, _, _, _, _⟩ (v := ?_) (by decide) rfl (by kernel_rfl) (by kernel_rfl) (by kernel_rfl) (fun _ _ _ h => h) hS (Or.inl ⟨by kernel_rfl, ?_⟩) ?_
          rotate_left
          · (intro V hSw; obtain ⟨hq0, hq1, hq2⟩ := HS2.out V hSw; go_simp; try with_reducible rfl)
          try simp only [Act.put]
          refine wpE_takeF 17 ⟨some 27, _, _, _, _, _⟩ (v := ?_) (by decide) rfl (by kernel_rfl) (by kernel_rfl) (by kernel_rfl) (fun _ _ _ h => h) hS (Or.inl ⟨by kernel_rfl, ?_⟩) ?_
          rotate_left
          · (intro V hSw; obtain ⟨hq0, hq1, hq2⟩ := HS2.out V hSw; go_simp; try with_reducible rfl)
          try simp only [Act.put]
          refine wpE_takeF 18 ⟨some 28, _, _, _, _, _⟩ (v := ?_) (by decide) rfl (by kernel_rfl) (by kernel_rfl) (by kernel_rfl) (fun _ _ _ h => h) hS (Or.inl ⟨by kernel_rfl, ?_⟩) ?_
          rotate_left
          · (intro V hSw; obtain ⟨hq0, hq1, hq2⟩ := HS2.out V hSw; go_simp; try with_reducible rfl)
          try simp only [Act.put]
          refine wpE_takeF 19 ⟨some 29, _, _, _, _, _⟩ (v := ?_) (by decide) rfl (by kernel_rfl) (by kernel_rfl) (by kernel_rfl) (fun _ _ _ h => h) hS (Or.inl ⟨by kernel_rfl, ?_⟩) ?_
          rotate_left
          · (intro V hSw; obtain ⟨hq0, hq1, hq2⟩ := HS2.out V hSw; go_simp; try with_reducible rfl)
          try simp only [Act.put]
          refine wpE_takeF 20 ⟨some 30, _, _, _, _, _⟩ (v := ?_) (by decide) rfl (by kernel_rfl) (by kernel_rfl) (by kernel_rfl) (fun _ _ _ h => h) hS (Or.inl ⟨by kernel_rfl, ?_⟩) ?_
          rotate_left
          · (intro V hSw; obtain ⟨hq0, hq1, hq2⟩ := HS2.out V hSw; go_simp; try with_reducible rfl)
          try simp only [Act.put]
          refine wpE_takeF 21 ⟨some 31, _, _, _, _, _⟩ (v := ?_) (by decide) rfl (by kernel_rfl) (by kernel_rfl) (by kernel_rfl) (fun _ _ _ h => h) hS (Or.inl ⟨by kernel_rfl, ?_⟩) ?_
          rotate_left
          · (intro V hSw; obtain ⟨hq0, hq1, hq2⟩ := HS2.out V hSw; go_simp; try with_reducible rfl)
          try simp only [Act.put]
          refine wpE_takeF 22 ⟨some 32, _, _, _, _, _⟩ (v := ?_) (by decide) rfl (by kernel_rfl) (by kernel_rfl) (by kernel_rfl) (fun _ _ _ h => h) hS (Or.inl ⟨by kernel_rfl, ?_⟩) ?_
          rotate_left
          · (intro V hSw; obtain ⟨hq0, hq1, hq2⟩ := HS2.out V hSw; go_simp; try with_reducible rfl)
          try simp only [Act.put]
          refine wpE_takeF 23 ⟨some 33, _, _, _, _, _⟩ (v := ?_) (by decide) rfl (by kernel_rfl) (by kernel_rfl) (by kernel_rfl) (fun _ _ _ h => h) hS (Or.inl ⟨by kernel_rfl, ?_⟩) ?_
          rotate_left
          · (intro V hSw; obtain ⟨hq0, hq1, hq2⟩ := HS2.out V hSw; go_simp; try with_reducible rfl)
          try simp only [Act.put]
          refine wpE_takeF 24 ⟨some 34, _, _, _, _, _⟩ (v := ?_) (by decide) rfl (by kernel_rfl) (by kernel_rfl) (by kernel_rfl) (fun _ _ _ h => h) hS (Or.inl ⟨by kernel_rfl, ?_⟩) ?_
          rotate_left
          · (intro V hSw; obtain ⟨hq0, hq1, hq2⟩ := HS2.out V hSw; go_simp; try with_reducible rfl)
          try simp only [Act.put]
          refine wpE_takeF 25 ⟨some 35, _, _, _, _, _⟩ (v := ?_) (by decide) rfl (by kernel_rfl) (by kernel_rfl) (by kernel_rfl) (fun _ _ _ h => h) hS (Or.inl ⟨by kernel_rfl, ?_⟩) ?_
          rotate_left
          · (intro V hSw; obtain ⟨hq0, hq1, hq2⟩ := HS2.out V hSw; go_simp; try with_reducible rfl)
          try simp only [Act.put]
          refine wpE_takeF 26 ⟨some 36, _, _, _, _, _⟩ (v := ?_) (by decide) rfl (by kernel_rfl) (by kernel_rfl) (by kernel_rfl) (fun _ _ _ h => h) hS (Or.inl ⟨by kernel_rfl, ?_⟩) ?_
          rotate_left
          · (intro V hSw; obtain ⟨hq0, hq1, hq2⟩ := HS2.out V hSw; go_simp; try with_reducible rfl)
          try simp only [Act.put]
          refine wpE_takeF 27 ⟨some 37, _, _, _, _, _⟩ (v := ?_) (by decide) rfl (by kernel_rfl) (by kernel_rfl) (by kernel_rfl) (fun _ _ _ h => h) hS (Or.inl ⟨by kernel_rfl, ?_⟩) ?_
          rotate_left
          · (intro V hSw; obtain ⟨hq0, hq1, hq2⟩ := HS2.out V hSw; go_simp; try with_reducible rfl)
          try simp only [Act.put]
          refine wpE_takeF 28 ⟨some 38, _, _, _, _, _⟩ (v := ?_) (by decide) rfl (by kernel_rfl) (by kernel_rfl) (by kernel_rfl) (fun _ _ _ h => h) hS (Or.inl ⟨by kernel_rfl, ?_⟩) ?_
          rotate_left
          · (intro V hSw; obtain ⟨hq0, hq1, hq2⟩ := HS2.out V hSw; go_simp; try with_reducible rfl)
          try simp only [Act.put]
          refine wpE_takeF 29 ⟨some 39, _, _, _, _, _⟩ (v := ?_) (by decide) rfl (by kernel_rfl) (by kernel_rfl) (by kernel_rfl) (fun _ _ _ h => h) hS (Or.inl ⟨by kernel_rfl, ?_⟩) ?_
          rotate_left
          · (intro V hSw; obtain ⟨hq0, hq1, hq2⟩ := HS2.out V hSw; go_simp; try with_reducible rfl)
          try simp only [Act.put]
          refine wpE_takeF 30 ⟨some 40, _, _, _, _, _⟩ (v := ?_) (by decide) rfl (by kernel_rfl) (by kernel_rfl) (by kernel_rfl) (fun _ _ _ h => h) hS (Or.inl ⟨by kernel_rfl, ?_⟩) ?_
          rotate_left
          · (intro V hSw; obtain ⟨hq0, hq1, hq2⟩ := HS2.out V hSw; go_simp; try with_reducible rfl)
          try simp only [Act.put]
          refine wpE_takeF 31 ⟨some 41, _, _, _, _, _⟩ (v := ?_) (by decide) rfl (by kernel_rfl) (by kernel_rfl) (by kernel_rfl) (fun _ _ _ h => h) hS (Or.inl ⟨by kernel_rfl, ?_⟩) ?_
          rotate_left
          · (intro V hSw; obtain ⟨hq0, hq1, hq2⟩ := HS2.out V hSw; go_simp; try with_reducible rfl)
          try simp only [Act.put]
          refine wpE_takeF 32 ⟨some 42, _, _, _, _, _⟩ (v := ?_) (by decide) rfl (by kernel_rfl) (by kernel_rfl) (by kernel_rfl) (fun _ _ _ h => h) hS (Or.inl ⟨by kernel_rfl, ?_⟩) ?_
          rotate_left
          · (intro V hSw; obtain ⟨hq0, hq1, hq2⟩ := HS2.out V hSw; go_simp; try with_reducible rfl)
          try simp only [Act.put]
          refine wpE_takeF 33 ⟨some 43, _, _, _, _, _⟩ (v := ?_) (by decide) rfl (by kernel_rfl) (by kernel_rfl) (by kernel_rfl) (fun _ _ _ h => h) hS (Or.inl ⟨by kernel_rfl, ?_⟩) ?_
          rotate_left
          · (intro V hSw; obtain ⟨hq0, hq1, hq2⟩ := HS2.out V hSw; go_simp; try with_reducible rfl)
          try simp only [Act.put]
          refine wpE_takeF 34 ⟨some 44, _, _, _, _, _⟩ (v := ?_) (by decide) rfl (by kernel_rfl) (by kernel_rfl) (by kernel_rfl) (fun _ _ _ h => h) hS (Or.inl ⟨by kernel_rfl, ?_⟩) ?_
          rotate_left
          · (intro V hSw; obtain ⟨hq0, hq1, hq2⟩ := HS2.out V hSw; go_simp; try with_reducible rfl)
          try simp only [Act.put]
          refine wpE_takeF 35 ⟨some 45, _, _, _, _, _⟩ (v := ?_) (by decide) rfl (by kernel_rfl) (by kernel_rfl) (by kernel_rfl) (fun _ _ _ h => h) hS (Or.inl ⟨by kernel_rfl, ?_⟩) ?_
          rotate_left
          · (intro V hSw; obtain ⟨hq0, hq1, hq2⟩ := HS2.out V hSw; go_simp; try with_reducible rfl)
          try simp only [Act.put]
          refine wpE_takeF 36 ⟨some 46, _, _, _, _, _⟩ (v := ?_) (by decide) rfl (by kernel_rfl) (by kernel_rfl) (by kernel_rfl) (fun _ _ _ h => h) hS (Or.inl ⟨by kernel_rfl, ?_⟩) ?_
          rotate_left
          · (intro V hSw; obtain ⟨hq0, hq1, hq2⟩ := HS2.out V hSw; go_simp; try with_reducible rfl)
          try simp only [Act.put]
          refine wpE_takeF 37 ⟨some 47, _, _, _, _, _⟩ (v := ?_) (by decide) rfl (by kernel_rfl) (by kernel_rfl) (by kernel_rfl) (fun _ _ _ h => h) hS (Or.inl ⟨by kernel_rfl, ?_⟩) ?_
          rotate_left
          · (intro V hSw; obtain ⟨hq0, hq1, hq2⟩ := HS2.out V hSw; go_simp; try with_reducible rfl)
          try simp only [Act.put]
          refine wpE_takeF 38 ⟨some 48, _, _, _, _, _⟩ (v := ?_) (by decide) rfl (by kernel_rfl) (by kernel_rfl) (by kernel_rfl) (fun _ _ _ h => h) hS (Or.inl ⟨by kernel_rfl, ?_⟩) ?_
          rotate_left
          · (intro V hSw; obtain ⟨hq0, hq1, hq2⟩ := HS2.out V hSw; go_simp; try with_reducible rfl)
          try simp only [Act.put]
          refine wpE_takeF 39 ⟨some 49, _, _, _, _, _⟩ (v := ?_) (by decide) rfl (by kernel_rfl) (by kernel_rfl) (by kernel_rfl) (fun _ _ _ h => h) hS (Or.inl ⟨by kernel_rfl, ?_⟩) ?_
          rotate_left
          · (intro V hSw; obtain ⟨hq0, hq1, hq2⟩ := HS2.out V hSw; go_simp; try with_reducible rfl)
          try simp only [Act.put]
          refine wpE_takeF 40 ⟨some 50, _, _, _, _, _⟩ (v := ?_) (by decide) rfl (by kernel_rfl) (by kernel_rfl) (by kernel_rfl) (fun _ _ _ h => h) hS (Or.inl ⟨by kernel_rfl, ?_⟩) ?_
          rotate_left
          · (intro V hSw; obtain ⟨hq0, hq1, hq2⟩ := HS2.out V hSw; go_simp; try with_reducible rfl)
          try simp only [Act.put]
          refine wpE_done (by kernel_rfl) ?_ _
          try simp only [List.setIfInBounds_toArray, List.set_cons_succ, List.set_cons_zero]
          go_wp2
          go_roundw
          case rel => exact ⟨j + 1 + 1, by omega, by go_num, HN.out, HBR.out.drew⟩
          case measure => simp [intOf]; omega
end Go.Proofs.Ytmnajefioehheaa.Lf
