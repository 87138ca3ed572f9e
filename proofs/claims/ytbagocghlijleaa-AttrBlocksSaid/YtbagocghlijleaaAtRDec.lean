/- The document's Decode. -/
import Derived.Test.YtbagocghlijleaaAtREnc
import Derived.Test.YtbagocghlijleaaAtDec
namespace Go.Proofs.Ytbagocghlijleaa.At
set_option maxRecDepth 20000
set_option linter.unusedSimpArgs false
open Go.RowKit
open Go.Proofs.Ytbagocghlijleaa.Mem Go.Proofs.Ytbagocghlijleaa.Crc Go.Proofs.Ytbagocghlijleaa.Rec Go.Proofs.Ytbagocghlijleaa.Reg
open Go.Proofs.Ytbagocghlijleaa.Lf (less zeros nmb)
attribute [local go_sem ↓] ldX_eq stX_eq

theorem run_slice_mid (W : World) (a off N c l m : Nat) (i j : Int) (hi : i = (l : Int)) (hj : j = ((l + m : Nat) : Int)) (hl : l + m ≤ N) (h0 : l < c) (hc : N ≤ c) :
    (Instr.slice 34 (.slice (some ⟨a, off, none⟩) N c) (some (.int .i64 i)) (some (.int .i64 j)) none).run Try.prog W = .ok (.slice (some ⟨a, off + l, none⟩) m (c - l)) W := by
  subst hi hj
  have h := run_slice_lh (P := Try.prog) W 34 (some ⟨a, off, none⟩) N c (by rw [Try.underlying34]; rfl) .i64 .i64 (l : Int) ((l + m : Nat) : Int) (by omega) (by omega) (by omega)
  rw [h]
  have hs : (sizeOf (Try.prog.elem 34)).run Try.prog W = .ok 1 W := by rfl
  rw [hs]
  simp only [Result.andThen, sliced, Int.toNat_natCast]
  rw [if_neg (by omega)]
  simp [Addr.add_mid]
theorem run_sliceAt_mid (W : World) (a off N c l m : Nat) (i j : Int) (hi : i = (l : Int)) (hj : j = ((l + m : Nat) : Int)) (hl : l + m ≤ N) (h0 : l < c) (hc : N ≤ c) :
    (Instr.sliceAt 34 (.slice (some ⟨a, off, none⟩) N c) (some (.int .i64 i)) (some (.int .i64 j)) none).run Try.prog W = .ok (.slice (some ⟨a, off + l, none⟩) m (c - l)) W := by
  rw [run_sliceAt_slice (P := Try.prog) W 34 _ _ _ _ (by rw [Try.underlying34]; rfl)]
  exact run_slice_mid W a off N c l m i j hi hj hl h0 hc
set_option maxRecDepth 100000 in
theorem rat_any (b0 off N c B l m : Nat) (i j : Int) (bs : List UInt8) (w : World) (h : Holds w B (some ⟨b0, off, none⟩) N bs) (hc : N ≤ c) (hN : N ≤ 1048576) (hi : i = (l : Int)) (hj : j = (m : Int)) (h0 : 0 < m) (hm : m ≤ 4) (hl : l + m ≤ N) :
    Calls Try.prog 37 #[.slice (some ⟨b0, off, none⟩) N c, .int .i64 i, .int .i64 j] w fun e w' => e = .returned (.int .i64 (nmb ((bs.drop l).take m) : Int)) ∧ w = w' := by
  subst hi hj
  have hd := Holds.drop (k := l) (m := m) h hl
  have hlt := numAt_lt ((bs.drop l).take m) m
  have hp : 2 ^ (8 * m) ≤ 2 ^ 32 := Nat.pow_le_pow_right (by omega) (by omega)
  have hnm : nmb ((bs.drop l).take m) = numAt ((bs.drop l).take m) m := by unfold nmb; rw [hd.1]
  rw [hnm]
  obtain ⟨M, hM⟩ : ∃ M, numAt ((bs.drop l).take m) m = M := ⟨_, rfl⟩
  rw [hM] at hlt ⊢
  have hw : IntKind.i64.wrap (M : Int) = (M : Int) := by rw [IntKind.wrap_i64]; omega
  have hs : IntKind.i64.wrap ((l : Int) + (m : Int)) = ((l + m : Nat) : Int) := by rw [IntKind.wrap_i64]; omega
  have q1 := fun W => run_slice_mid W b0 off N c l m (l : Int) ((l + m : Nat) : Int) rfl rfl hl (by omega) hc
  have q2 := fun W => run_sliceAt_mid W b0 off N c l m (l : Int) ((l + m : Nat) : Int) rfl rfl hl (by omega) hc
  obtain ⟨E, hE⟩ : ∃ E : Int, E = ((l + m : Nat) : Int) := ⟨_, rfl⟩
  rw [← hE] at hs
  simp only [← hE] at q1 q2
  have HM := Lib.hid hM; clear hM hlt hp hnm
  have HD := Lib.hid hd; clear hd
  clear h hE hl h0 hc
  go_enter Try.func37, Try.ntmps37
  go_wp2_with fail
  with_reducible refine (refnumber_any _ m (c - l) B _ w HD.out (by omega)).mono ?_
  rintro e w1 ⟨rfl, rfl⟩
  rw [HM.out]
  go_wp2
  go_ret
  exact ⟨rfl, rfl⟩

theorem stR_succ {b : List UInt8} {k a : Nat} {l : List Pr} (h : stR b k = some (a, l)) : stR b (k + 1) = if 250 < a ∨ 252 < a + 2 + byteA b a + byteA b (a + 1) then none
      else some (a + 2 + byteA b a + byteA b (a + 1), l ++ [⟨(b.drop (a + 2)).take (byteA b a), (b.drop (a + 2 + byteA b a)).take (byteA b (a + 1))⟩]) := by
  rw [stR, h]
theorem stR_none {b : List UInt8} {k : Nat} (h : stR b k = none) : ∀ d, stR b (k + d) = none
  | 0 => h
  | d + 1 => by rw [show k + (d + 1) = k + d + 1 by omega, stR, stR_none h d]
theorem stR_inv (b : List UInt8) : ∀ k a l, stR b k = some (a, l) → l.length = k ∧ a ≤ 252 ∧ 2 + 2 * k ≤ a
  | 0, a, l, h => by
    unfold stR at h
    injection h with h
    injection h with h1 h2
    subst h1 h2
    exact ⟨rfl, by omega, by omega⟩
  | k + 1, a, l, h => by
    cases hk : stR b k with
    | none => have := stR_none hk 1; rw [this] at h; cases h
    | some p =>
      obtain ⟨a', l'⟩ := p
      obtain ⟨h1, h2, h3⟩ := stR_inv b k a' l' hk
      rw [stR_succ hk] at h
      split at h
      · cases h
      · rename_i hc
        injection h with h
        injection h with e1 e2
        subst e1 e2
        exact ⟨by rw [List.length_append, h1]; rfl, by omega, by omega⟩

set_option maxRecDepth 100000 in
set_option maxHeartbeats 8000000 in
theorem rdecode_any (A : Option Addr) (n c B : Nat) (b : List UInt8) (w : World) (h : Holds w B A n b) (hB : B ≤ w.heap.size) (hc : n ≤ c) (hn : n ≤ 140737488355328) :
    Calls Try.prog 19 #[.slice A n c] w (Pairs2 w (decR b)) := by
  obtain ⟨y, hy⟩ : ∃ y, y = decR b := ⟨_, rfl⟩
  rw [← hy]
  obtain ⟨post, hpost⟩ : ∃ post, post = Pairs2 w y := ⟨_, rfl⟩
  rw [← hpost]
  have HP := Lib.hid hpost; clear hpost
  have hbl := h.1
  by_cases h256 : n = 256
  rotate_left
  · have HY : Hid (y = ([], 13)) := Lib.hid (by rw [hy]; unfold decR; rw [if_neg (by omega)])
    have hne : ((n : Int) == 256) = false := beq_false_of_ne (by omega)
    have hne2 : ((n : Int) != 256) = true := bne_iff_ne.2 (by omega)
    clear hy h
    go_enter Try.func19, Try.ntmps19
    go_wp2
    rw [HP.out, HY.out]
    exact ⟨none, 0, rfl, OwnX.nil _ _, Below.refl _ _⟩
  · subst h256
    have hdec : y = (match stR b (manyR b) with | none => ([], 13) | some (_, l) => decL b l) := by rw [hy]; unfold decR; rw [if_pos hbl]; cases stR b (manyR b) <;> rfl
    clear hy
    obtain ⟨b0, off, rfl⟩ := Holds.addr h (by omega)
    have hmany : ∀ V, Below w.heap.size w V → Calls Try.prog 37 #[.slice (some ⟨b0, off, none⟩) 256 c, .int .i64 0, .int .i64 2] V fun e w' => e = .returned (.int .i64 (manyR b : Int)) ∧ V = w' := fun V hV => rat_any b0 off 256 c B 0 2 0 2 b V (h.below (hV.mono hB)) hc (by omega) rfl rfl (by omega) (by omega) (by omega)
    have hmlt : manyR b < 65536 := by
      unfold manyR nmb
      have h1 := numAt_lt ((b.drop 0).take 2) ((b.drop 0).take 2).length
      have hp : 2 ^ (8 * ((b.drop 0).take 2).length) ≤ 2 ^ 16 := Nat.pow_le_pow_right (by omega) (by rw [List.length_take]; omega)
      omega
    obtain ⟨M, hM⟩ : ∃ M, M = manyR b := ⟨_, rfl⟩
    rw [← hM] at hmany hdec hmlt
    clear hM
    have HDEC := Lib.hid hdec; clear hdec
    have HMANY := Lib.hid hmany; clear hmany
    have H := Lib.hid h; clear h
    have HBL := Lib.hid hbl; clear hbl
    go_enter Try.func19, Try.ntmps19
    go_wp2
    go_loopw [4, 5, 6] (fun lv av i wr => ∃ (k a : Nat) (Al : Option Addr) (cl : Nat) (l : List Pr), k ≤ M ∧ i = .int .i64 (k : Int) ∧ av = .int .i64 (a : Int) ∧ lv = .slice Al k cl ∧ stR b k = some (a, l) ∧ OwnX wr w.heap.size (.slice Al k cl) l ∧ Below w.heap.size w wr) (fun _ _ i _ => M - (intOf i).toNat)
    case atStart => exact ⟨0, 2, none, 0, [], Nat.zero_le _, rfl, rfl, rfl, rfl, OwnX.nil _ _, Below.refl _ _⟩
    case round =>
      obtain ⟨k, a, Al, cl, l, hk, rfl, rfl, rfl, hst, hown, hbr⟩ := hrel
      obtain ⟨hlk, ha252, hak⟩ := stR_inv b k a l hst
      have hmany := HMANY.out wr hbr
      have hwr : w.heap.size ≤ wr.heap.size := hbr.size
      have HST := Lib.hid hst; clear hst
      have HO := Lib.hid hown; clear hown
      have HBR := Lib.hid hbr; clear hbr
      have HLK := Lib.hid hlk; clear hlk
      have HCALL := Lib.hid hmany; clear hmany
      rcases Nat.lt_or_ge k M with hlt | hge
      rotate_left
      · obtain rfl : k = M := by omega
        have hy2 : y = decL b l := by rw [HDEC.out, HST.out]
        have henc := rencode_any Al k cl wr.heap.size l wr HO.out.reads (Nat.le_refl _) (by omega)
        have HENC := Lib.hid henc; clear henc
        have HY2 := Lib.hid hy2; clear hy2
        have hkn : ¬ (k : Int) < (k : Int) := by omega
        go_wp2_with (first | (with_reducible refine HCALL.out.mono ?_; rintro E w1 ⟨rfl, rfl⟩) | fail)
        with_reducible refine HENC.out.mono ?_
        rintro E w2 ⟨A2, c2, rfl, ho2, hb2⟩
        have HB2 : Hid (Below w.heap.size w w2) := Lib.hid (HBR.out.trans (hb2.mono hwr))
        have HO2 := Lib.hid (HO.out.below hb2)
        have t1 := run_text w2 w2.heap.size A2 (enc l).1.length c2 (enc l).1 (Owned.reads ho2)
        have t2 := run_text w2 B (some ⟨b0, off, none⟩) 256 c b (H.out.below (HB2.out.mono hB))
        obtain ⟨S1, hS1⟩ : ∃ S : ByteArray, S = ⟨(enc l).1.toArray⟩ := ⟨_, rfl⟩
        obtain ⟨S2, hS2⟩ : ∃ S : ByteArray, S = ⟨b.toArray⟩ := ⟨_, rfl⟩
        rw [← hS1] at t1
        rw [← hS2] at t2
        have hl1 : S1.toList = (enc l).1 := by rw [hS1, text_list]
        have hl2 : S2.toList = b := by rw [hS2, text_list]
        clear hS1 hS2 ho2 hb2 HENC
        rcases Decidable.em (enc l = (b, 0)) with hyes | hno
        · have hq : (S1.toList == S2.toList) = true := by rw [hl1, hl2, hyes]; exact beq_iff_eq.2 rfl
          have hq2 : (S1.toList != S2.toList) = false := by rw [bne, hq]; rfl
          have hz : (enc l).2 = 0 := by rw [hyes]
          have HY : Hid (y = (l, 0)) := Lib.hid (by rw [HY2.out, decL_zero hyes])
          clear hyes hl1 hl2
          rw [hz]
          clear hz
          generalize (enc l).1.length = n2 at t1 ⊢
          go_wp2
          rw [HP.out, HY.out]
          refine ⟨Al, cl, ?_, ?_, HB2.out⟩
          · rw [HLK.out]; rfl
          · rw [HLK.out]; exact HO2.out
        · have HY : Hid (y = ([], 13)) := Lib.hid (by rw [HY2.out, decL_not hno])
          rcases enc_two l with hz | hz | hz
          · have hq : (S1.toList == S2.toList) = false := by rw [hl1, hl2]; exact beq_false_of_ne (fun e => hno (by rw [Prod.ext_iff]; exact ⟨e, hz⟩))
            have hq2 : (S1.toList != S2.toList) = true := by rw [bne, hq]; rfl
            rw [hz]
            clear hz hno hl1 hl2
            generalize (enc l).1.length = n2 at t1 ⊢
            go_wp2
            rw [HP.out, HY.out]
            exact ⟨none, 0, rfl, OwnX.nil _ _, HB2.out⟩
          · rw [hz]
            clear hz hno hl1 hl2 t1
            generalize (enc l).1.length = n2
            go_wp2
            rw [HP.out, HY.out]
            exact ⟨none, 0, rfl, OwnX.nil _ _, HB2.out⟩
          · rw [hz]
            clear hz hno hl1 hl2 t1
            generalize (enc l).1.length = n2
            go_wp2
            rw [HP.out, HY.out]
            exact ⟨none, 0, rfl, OwnX.nil _ _, HB2.out⟩
      have hkM : (k : Int) < (M : Int) := by omega
      obtain ⟨nl, hnl⟩ : ∃ nl, nl = byteA b a := ⟨_, rfl⟩
      obtain ⟨vl, hvl⟩ : ∃ vl, vl = byteA b (a + 1) := ⟨_, rfl⟩
      have hnl256 : nl < 256 := by rw [hnl]; exact (b.getD a 0).toNat_lt
      have hvl256 : vl < 256 := by rw [hvl]; exact (b.getD (a + 1) 0).toNat_lt
      have hsucc := stR_succ HST.out
      rw [← hnl, ← hvl] at hsucc
      go_wp2_with (with_reducible refine HCALL.out.mono ?_; rintro E w1 ⟨rfl, rfl⟩)
      rcases Decidable.em (250 < a) with hfar | hnear
      · have HY : Hid (y = ([], 13)) := Lib.hid (by
          rw [if_pos (.inl hfar)] at hsucc
          have h1 := stR_none hsucc (M - (k + 1))
          rw [show k + 1 + (M - (k + 1)) = M by omega] at h1
          rw [HDEC.out, h1])
        clear hsucc hnl hvl
        have hfd : decide ((250 : Int) < (a : Int)) = true := decide_eq_true (by omega)
        have hfd2 : decide (250 < a) = true := decide_eq_true (by omega)
        refine wp_region_E (fun V => Below w.heap.size w V) 99 rfl ?_
        have hS := (show Below w.heap.size w wr.drew from HBR.out.drew)
        refine wpE_takeF 0 ⟨some 20, _, _, _, _, _⟩ (v := ?_) (by decide) rfl (by kernel_rfl) (by kernel_rfl) (by kernel_rfl) (fun _ _ _ h => h) hS (Or.inl ⟨by kernel_rfl, ?_⟩) ?_
        rotate_left
        · (intro V hSw; go_simp; try with_reducible rfl)
        try simp only [Act.put]
        refine wpE_takeF 1 ⟨some 21, _, _, _, _, _⟩ (v := ?_) (by decide) rfl (by kernel_rfl) (by kernel_rfl) (by kernel_rfl) (fun _ _ _ h => h) hS (Or.inl ⟨by kernel_rfl, ?_⟩) ?_
        rotate_left
        · (intro V hSw; go_simp; try with_reducible rfl)
        try simp only [Act.put]
        refine wpE_takeF 2 ⟨some 22, _, _, _, _, _⟩ (v := ?_) (by decide) rfl (by kernel_rfl) (by kernel_rfl) (by kernel_rfl) (fun _ _ _ h => h) hS (Or.inl ⟨by kernel_rfl, ?_⟩) ?_
        rotate_left
        · (intro V hSw; go_simp; try with_reducible rfl)
        try simp only [Act.put]
        refine wpE_takeF 3 ⟨some 23, _, _, _, _, _⟩ (v := undef) (by decide) rfl (by kernel_rfl) (by kernel_rfl) (by kernel_rfl) (fun _ _ _ h => h) hS (Or.inr ⟨by kernel_rfl, rfl⟩) ?_
        try simp only [Act.put]
        refine wpE_takeF 4 ⟨some 24, _, _, _, _, _⟩ (v := undef) (by decide) rfl (by kernel_rfl) (by kernel_rfl) (by kernel_rfl) (fun _ _ _ h => h) hS (Or.inr ⟨by kernel_rfl, rfl⟩) ?_
        try simp only [Act.put]
        refine wpE_takeF 5 ⟨some 25, _, _, _, _, _⟩ (v := undef) (by decide) rfl (by kernel_rfl) (by kernel_rfl) (by kernel_rfl) (fun _ _ _ h => h) hS (Or.inr ⟨by kernel_rfl, rfl⟩) ?_
        try simp only [Act.put]
        refine wpE_takeF 6 ⟨some 26, _, _, _, _, _⟩ (v := undef) (by decide) rfl (by kernel_rfl) (by kernel_rfl) (by kernel_rfl) (fun _ _ _ h => h) hS (Or.inr ⟨by kernel_rfl, rfl⟩) ?_
        try simp only [Act.put]
        refine wpE_takeF 7 ⟨some 27, _, _, _, _, _⟩ (v := undef) (by decide) rfl (by kernel_rfl) (by kernel_rfl) (by kernel_rfl) (fun _ _ _ h => h) hS (Or.inr ⟨by kernel_rfl, rfl⟩) ?_
        try simp only [Act.put]
        refine wpE_takeF 8 ⟨some 28, _, _, _, _, _⟩ (v := undef) (by decide) rfl (by kernel_rfl) (by kernel_rfl) (by kernel_rfl) (fun _ _ _ h => h) hS (Or.inr ⟨by kernel_rfl, rfl⟩) ?_
        try simp only [Act.put]
        refine wpE_takeF 9 ⟨some 29, _, _, _, _, _⟩ (v := undef) (by decide) rfl (by kernel_rfl) (by kernel_rfl) (by kernel_rfl) (fun _ _ _ h => h) hS (Or.inr ⟨by kernel_rfl, rfl⟩) ?_
        try simp only [Act.put]
        refine wpE_takeF 10 ⟨some 30, _, _, _, _, _⟩ (v := undef) (by decide) rfl (by kernel_rfl) (by kernel_rfl) (by kernel_rfl) (fun _ _ _ h => h) hS (Or.inr ⟨by kernel_rfl, rfl⟩) ?_
        try simp only [Act.put]
        refine wpE_takeF 11 ⟨some 31, _, _, _, _, _⟩ (v := undef) (by decide) rfl (by kernel_rfl) (by kernel_rfl) (by kernel_rfl) (fun _ _ _ h => h) hS (Or.inr ⟨by kernel_rfl, rfl⟩) ?_
        try simp only [Act.put]
        refine wpE_takeF 12 ⟨some 32, _, _, _, _, _⟩ (v := undef) (by decide) rfl (by kernel_rfl) (by kernel_rfl) (by kernel_rfl) (fun _ _ _ h => h) hS (Or.inr ⟨by kernel_rfl, rfl⟩) ?_
        try simp only [Act.put]
        refine wpE_takeF 13 ⟨some 33, _, _, _, _, _⟩ (v := undef) (by decide) rfl (by kernel_rfl) (by kernel_rfl) (by kernel_rfl) (fun _ _ _ h => h) hS (Or.inr ⟨by kernel_rfl, rfl⟩) ?_
        try simp only [Act.put]
        refine wpE_takeF 14 ⟨some 34, _, _, _, _, _⟩ (v := undef) (by decide) rfl (by kernel_rfl) (by kernel_rfl) (by kernel_rfl) (fun _ _ _ h => h) hS (Or.inr ⟨by kernel_rfl, rfl⟩) ?_
        try simp only [Act.put]
        refine wpE_takeF 15 ⟨some 35, _, _, _, _, _⟩ (v := undef) (by decide) rfl (by kernel_rfl) (by kernel_rfl) (by kernel_rfl) (fun _ _ _ h => h) hS (Or.inr ⟨by kernel_rfl, rfl⟩) ?_
        try simp only [Act.put]
        refine wpE_takeF 16 ⟨some 36, _, _, _, _, _⟩ (v := undef) (by decide) rfl (by kernel_rfl) (by kernel_rfl) (by kernel_rfl) (fun _ _ _ h => h) hS (Or.inr ⟨by kernel_rfl, rfl⟩) ?_
        try simp only [Act.put]
        refine wpE_takeF 17 ⟨some 37, _, _, _, _, _⟩ (v := undef) (by decide) rfl (by kernel_rfl) (by kernel_rfl) (by kernel_rfl) (fun _ _ _ h => h) hS (Or.inr ⟨by kernel_rfl, rfl⟩) ?_
        try simp only [Act.put]
        refine wpE_takeF 18 ⟨some 38, _, _, _, _, _⟩ (v := undef) (by decide) rfl (by kernel_rfl) (by kernel_rfl) (by kernel_rfl) (fun _ _ _ h => h) hS (Or.inr ⟨by kernel_rfl, rfl⟩) ?_
        try simp only [Act.put]
        refine wpE_takeF 19 ⟨some 39, _, _, _, _, _⟩ (v := ?_) (by decide) rfl (by kernel_rfl) (by kernel_rfl) (by kernel_rfl) (fun _ _ _ h => h) hS (Or.inl ⟨by kernel_rfl, ?_⟩) ?_
        rotate_left
        · (intro V hSw; go_simp; try with_reducible rfl)
        try simp only [Act.put]
        refine wpE_done (by kernel_rfl) ?_ _
        try simp only [List.setIfInBounds_toArray, List.set_cons_succ, List.set_cons_zero]
        go_wp2
        rw [HP.out, HY.out]
        exact ⟨none, 0, rfl, OwnX.nil _ _, HBR.out.drew⟩
      have hcell : ∀ V, Below w.heap.size w V → V.cell? ⟨b0, off + a, none⟩ = some (.int .u8 (nl : Int)) ∧ V.cell? ⟨b0, off + (a + 1), none⟩ = some (.int .u8 (vl : Int)) := fun V hV => by
        obtain ⟨b', off', e, _, h1⟩ := (H.out.below (hV.mono hB)).2 (by omega)
        injection e with e
        injection e with e1 e2
        subst e1 e2
        have hlb : a + 1 < b.length := by have := HBL.out; omega
        have hlb0 : a < b.length := by omega
        rw [h1 a hlb0, h1 (a + 1) hlb, hnl, hvl]
        unfold byteA
        rw [List.getD_eq_getElem?_getD, List.getElem?_eq_getElem hlb0, Option.getD_some, List.getD_eq_getElem?_getD, List.getElem?_eq_getElem hlb, Option.getD_some]
        exact ⟨rfl, rfl⟩
      have HC := Lib.hid hcell; clear hcell
      have HNLV := Lib.hid hnl; clear hnl
      have HVLV := Lib.hid hvl; clear hvl
      have hfd : decide ((250 : Int) < (a : Int)) = false := decide_eq_false (by omega)
      have hfd2 : decide (250 < a) = false := decide_eq_false (by omega)
      have hwa2 : IntKind.i64.wrap ((a : Int) + 2) = (a : Int) + 2 := by rw [IntKind.wrap_i64]; omega
      have hwa1 : IntKind.i64.wrap ((a : Int) + 1) = (a : Int) + 1 := by rw [IntKind.wrap_i64]; omega
      have hwnl : IntKind.i64.wrap (nl : Int) = (nl : Int) := by rw [IntKind.wrap_i64]; omega
      have hwvl : IntKind.i64.wrap (vl : Int) = (vl : Int) := by rw [IntKind.wrap_i64]; omega
      have hwan : IntKind.i64.wrap ((a : Int) + 2 + (nl : Int)) = (a : Int) + 2 + (nl : Int) := by rw [IntKind.wrap_i64]; omega
      have hwav : IntKind.i64.wrap ((a : Int) + 2 + (nl : Int) + (vl : Int)) = (a : Int) + 2 + (nl : Int) + (vl : Int) := by rw [IntKind.wrap_i64]; omega
      have ha0 : (0 : Int) ≤ (a : Int) := by omega
      have ha256 : (a : Int) < 256 := by omega
      have ha10 : (0 : Int) ≤ (a : Int) + 1 := by omega
      have ha1256 : (a : Int) + 1 < 256 := by omega
      have haN : a < 256 := by omega
      have haN1 : a + 1 < 256 := by omega
      rcases Decidable.em (252 < a + 2 + nl + vl) with hfar | hnear2
      · have HY : Hid (y = ([], 13)) := Lib.hid (by
          rw [if_pos (.inr hfar)] at hsucc
          have h1 := stR_none hsucc (M - (k + 1))
          rw [show k + 1 + (M - (k + 1)) = M by omega] at h1
          rw [HDEC.out, h1])
        clear hsucc
        have hgd : decide ((252 : Int) < (a : Int) + 2 + (nl : Int) + (vl : Int)) = true := decide_eq_true (by omega)
        clear hfar hnear
        refine wp_region_E (fun V => Below w.heap.size w V) 99 rfl ?_
        have hS := (show Below w.heap.size w wr.drew from HBR.out.drew)
        refine wpE_takeF 0 ⟨some 20, _, _, _, _, _⟩ (v := ?_) (by decide) rfl (by kernel_rfl) (by kernel_rfl) (by kernel_rfl) (fun _ _ _ h => h) hS (Or.inl ⟨by kernel_rfl, ?_⟩) ?_
        rotate_left
        · (intro V hSw; obtain ⟨hq0, hq1⟩ := HC.out V hSw; go_simp; try with_reducible rfl)
        try simp only [Act.put]
        refine wpE_takeF 1 ⟨some 21, _, _, _, _, _⟩ (v := ?_) (by decide) rfl (by kernel_rfl) (by kernel_rfl) (by kernel_rfl) (fun _ _ _ h => h) hS (Or.inl ⟨by kernel_rfl, ?_⟩) ?_
        rotate_left
        · (intro V hSw; obtain ⟨hq0, hq1⟩ := HC.out V hSw; go_simp; try with_reducible rfl)
        try simp only [Act.put]
        refine wpE_takeF 2 ⟨some 22, _, _, _, _, _⟩ (v := ?_) (by decide) rfl (by kernel_rfl) (by kernel_rfl) (by kernel_rfl) (fun _ _ _ h => h) hS (Or.inl ⟨by kernel_rfl, ?_⟩) ?_
        rotate_left
        · (intro V hSw; obtain ⟨hq0, hq1⟩ := HC.out V hSw; go_simp; try with_reducible rfl)
        try simp only [Act.put]
        refine wpE_takeF 3 ⟨some 23, _, _, _, _, _⟩ (v := ?_) (by decide) rfl (by kernel_rfl) (by kernel_rfl) (by kernel_rfl) (fun _ _ _ h => h) hS (Or.inl ⟨by kernel_rfl, ?_⟩) ?_
        rotate_left
        · (intro V hSw; obtain ⟨hq0, hq1⟩ := HC.out V hSw; go_simp; try with_reducible rfl)
        try simp only [Act.put]
        refine wpE_takeF 4 ⟨some 24, _, _, _, _, _⟩ (v := ?_) (by decide) rfl (by kernel_rfl) (by kernel_rfl) (by kernel_rfl) (fun _ _ _ h => h) hS (Or.inl ⟨by kernel_rfl, ?_⟩) ?_
        rotate_left
        · (intro V hSw; obtain ⟨hq0, hq1⟩ := HC.out V hSw; go_simp; try with_reducible rfl)
        try simp only [Act.put]
        refine wpE_takeF 5 ⟨some 25, _, _, _, _, _⟩ (v := ?_) (by decide) rfl (by kernel_rfl) (by kernel_rfl) (by kernel_rfl) (fun _ _ _ h => h) hS (Or.inl ⟨by kernel_rfl, ?_⟩) ?_
        rotate_left
        · (intro V hSw; obtain ⟨hq0, hq1⟩ := HC.out V hSw; go_simp; try with_reducible rfl)
        try simp only [Act.put]
        refine wpE_takeF 6 ⟨some 26, _, _, _, _, _⟩ (v := ?_) (by decide) rfl (by kernel_rfl) (by kernel_rfl) (by kernel_rfl) (fun _ _ _ h => h) hS (Or.inl ⟨by kernel_rfl, ?_⟩) ?_
        rotate_left
        · (intro V hSw; obtain ⟨hq0, hq1⟩ := HC.out V hSw; go_simp; try with_reducible rfl)
        try simp only [Act.put]
        refine wpE_takeF 7 ⟨some 27, _, _, _, _, _⟩ (v := ?_) (by decide) rfl (by kernel_rfl) (by kernel_rfl) (by kernel_rfl) (fun _ _ _ h => h) hS (Or.inl ⟨by kernel_rfl, ?_⟩) ?_
        rotate_left
        · (intro V hSw; obtain ⟨hq0, hq1⟩ := HC.out V hSw; go_simp; try with_reducible rfl)
        try simp only [Act.put]
        refine wpE_takeF 8 ⟨some 28, _, _, _, _, _⟩ (v := ?_) (by decide) rfl (by kernel_rfl) (by kernel_rfl) (by kernel_rfl) (fun _ _ _ h => h) hS (Or.inl ⟨by kernel_rfl, ?_⟩) ?_
        rotate_left
        · (intro V hSw; obtain ⟨hq0, hq1⟩ := HC.out V hSw; go_simp; try with_reducible rfl)
        try simp only [Act.put]
        refine wpE_takeF 9 ⟨some 29, _, _, _, _, _⟩ (v := ?_) (by decide) rfl (by kernel_rfl) (by kernel_rfl) (by kernel_rfl) (fun _ _ _ h => h) hS (Or.inl ⟨by kernel_rfl, ?_⟩) ?_
        rotate_left
        · (intro V hSw; obtain ⟨hq0, hq1⟩ := HC.out V hSw; go_simp; try with_reducible rfl)
        try simp only [Act.put]
        refine wpE_takeF 10 ⟨some 30, _, _, _, _, _⟩ (v := ?_) (by decide) rfl (by kernel_rfl) (by kernel_rfl) (by kernel_rfl) (fun _ _ _ h => h) hS (Or.inl ⟨by kernel_rfl, ?_⟩) ?_
        rotate_left
        · (intro V hSw; obtain ⟨hq0, hq1⟩ := HC.out V hSw; go_simp; try with_reducible rfl)
        try simp only [Act.put]
        refine wpE_takeF 11 ⟨some 31, _, _, _, _, _⟩ (v := ?_) (by decide) rfl (by kernel_rfl) (by kernel_rfl) (by kernel_rfl) (fun _ _ _ h => h) hS (Or.inl ⟨by kernel_rfl, ?_⟩) ?_
        rotate_left
        · (intro V hSw; obtain ⟨hq0, hq1⟩ := HC.out V hSw; go_simp; try with_reducible rfl)
        try simp only [Act.put]
        refine wpE_takeF 12 ⟨some 32, _, _, _, _, _⟩ (v := ?_) (by decide) rfl (by kernel_rfl) (by kernel_rfl) (by kernel_rfl) (fun _ _ _ h => h) hS (Or.inl ⟨by kernel_rfl, ?_⟩) ?_
        rotate_left
        · (intro V hSw; obtain ⟨hq0, hq1⟩ := HC.out V hSw; go_simp; try with_reducible rfl)
        try simp only [Act.put]
        refine wpE_takeF 13 ⟨some 33, _, _, _, _, _⟩ (v := ?_) (by decide) rfl (by kernel_rfl) (by kernel_rfl) (by kernel_rfl) (fun _ _ _ h => h) hS (Or.inl ⟨by kernel_rfl, ?_⟩) ?_
        rotate_left
        · (intro V hSw; obtain ⟨hq0, hq1⟩ := HC.out V hSw; go_simp; try with_reducible rfl)
        try simp only [Act.put]
        refine wpE_takeF 14 ⟨some 34, _, _, _, _, _⟩ (v := ?_) (by decide) rfl (by kernel_rfl) (by kernel_rfl) (by kernel_rfl) (fun _ _ _ h => h) hS (Or.inl ⟨by kernel_rfl, ?_⟩) ?_
        rotate_left
        · (intro V hSw; obtain ⟨hq0, hq1⟩ := HC.out V hSw; go_simp; try with_reducible rfl)
        try simp only [Act.put]
        refine wpE_takeF 15 ⟨some 35, _, _, _, _, _⟩ (v := ?_) (by decide) rfl (by kernel_rfl) (by kernel_rfl) (by kernel_rfl) (fun _ _ _ h => h) hS (Or.inl ⟨by kernel_rfl, ?_⟩) ?_
        rotate_left
        · (intro V hSw; obtain ⟨hq0, hq1⟩ := HC.out V hSw; go_simp; try with_reducible rfl)
        try simp only [Act.put]
        refine wpE_takeF 16 ⟨some 36, _, _, _, _, _⟩ (v := ?_) (by decide) rfl (by kernel_rfl) (by kernel_rfl) (by kernel_rfl) (fun _ _ _ h => h) hS (Or.inl ⟨by kernel_rfl, ?_⟩) ?_
        rotate_left
        · (intro V hSw; obtain ⟨hq0, hq1⟩ := HC.out V hSw; go_simp; try with_reducible rfl)
        try simp only [Act.put]
        refine wpE_takeF 17 ⟨some 37, _, _, _, _, _⟩ (v := ?_) (by decide) rfl (by kernel_rfl) (by kernel_rfl) (by kernel_rfl) (fun _ _ _ h => h) hS (Or.inl ⟨by kernel_rfl, ?_⟩) ?_
        rotate_left
        · (intro V hSw; obtain ⟨hq0, hq1⟩ := HC.out V hSw; go_simp; try with_reducible rfl)
        try simp only [Act.put]
        refine wpE_takeF 18 ⟨some 38, _, _, _, _, _⟩ (v := ?_) (by decide) rfl (by kernel_rfl) (by kernel_rfl) (by kernel_rfl) (fun _ _ _ h => h) hS (Or.inl ⟨by kernel_rfl, ?_⟩) ?_
        rotate_left
        · (intro V hSw; obtain ⟨hq0, hq1⟩ := HC.out V hSw; go_simp; try with_reducible rfl)
        try simp only [Act.put]
        refine wpE_takeF 19 ⟨some 39, _, _, _, _, _⟩ (v := ?_) (by decide) rfl (by kernel_rfl) (by kernel_rfl) (by kernel_rfl) (fun _ _ _ h => h) hS (Or.inl ⟨by kernel_rfl, ?_⟩) ?_
        rotate_left
        · (intro V hSw; obtain ⟨hq0, hq1⟩ := HC.out V hSw; go_simp; try with_reducible rfl)
        try simp only [Act.put]
        refine wpE_done (by kernel_rfl) ?_ _
        try simp only [List.setIfInBounds_toArray, List.set_cons_succ, List.set_cons_zero]
        go_wp2
        rw [HP.out, HY.out]
        exact ⟨none, 0, rfl, OwnX.nil _ _, HBR.out.drew⟩
      · have hgd : decide ((252 : Int) < (a : Int) + 2 + (nl : Int) + (vl : Int)) = false := decide_eq_false (by omega)
        rw [if_neg (by omega)] at hsucc
        obtain ⟨p1, hp1⟩ : ∃ p1, p1 = (b.drop (a + 2)).take nl := ⟨_, rfl⟩
        obtain ⟨p2, hp2⟩ : ∃ p2, p2 = (b.drop (a + 2 + nl)).take vl := ⟨_, rfl⟩
        rw [← hp1, ← hp2] at hsucc
        have hconv1 : ∀ V, Below w.heap.size w V → (convert 34 9 (.slice (some ⟨b0, off + (a + 2), none⟩) nl (c - (a + 2)))).run Try.prog V = .ok (.string ⟨p1.toArray⟩) V := fun V hV => by
          rw [hp1]
          exact run_text V B _ nl _ _ (Holds.drop (k := a + 2) (m := nl) (H.out.below (hV.mono hB)) (by omega))
        have hconv2 : ∀ V, Below w.heap.size w V → (convert 34 9 (.slice (some ⟨b0, off + (a + 2 + nl), none⟩) vl (c - (a + 2 + nl)))).run Try.prog V = .ok (.string ⟨p2.toArray⟩) V := fun V hV => by
          rw [hp2]
          exact run_text V B _ vl _ _ (Holds.drop (k := a + 2 + nl) (m := vl) (H.out.below (hV.mono hB)) (by omega))
        have hs1 := fun V => run_slice_mid V b0 off 256 c (a + 2) nl ((a : Int) + 2) ((a : Int) + 2 + (nl : Int)) (by omega) (by omega) (by omega) (by omega) hc
        have hs2 := fun V => run_sliceAt_mid V b0 off 256 c (a + 2) nl ((a : Int) + 2) ((a : Int) + 2 + (nl : Int)) (by omega) (by omega) (by omega) (by omega) hc
        have hs3 := fun V => run_slice_mid V b0 off 256 c (a + 2 + nl) vl ((a : Int) + 2 + (nl : Int)) ((a : Int) + 2 + (nl : Int) + (vl : Int)) (by omega) (by omega) (by omega) (by omega) hc
        have hs4 := fun V => run_sliceAt_mid V b0 off 256 c (a + 2 + nl) vl ((a : Int) + 2 + (nl : Int)) ((a : Int) + 2 + (nl : Int) + (vl : Int)) (by omega) (by omega) (by omega) (by omega) hc
        obtain ⟨v', V4, hrun, hown4, hgr⟩ := run_appX wr.drew.drew.drew w.heap.size _ _ (HO.out.below (Below.refl _ wr).drew.drew.drew) ⟨p1, p2⟩ 22 (by have := HLK.out; omega) (by exact hwr)
        have hl4 : (l ++ [(⟨p1, p2⟩ : Pr)]).length = k + 1 := by rw [List.length_append, HLK.out]; rfl
        obtain ⟨A4, c4, rfl⟩ := hown4.shape
        rw [hl4] at hrun hown4 hgr
        have hlt4 : ∀ q, (Value.slice Al k cl).ownBlock = some q → w.heap.size ≤ q := fun q hq => (HO.out.lt q hq).1
        have hb4 : Below w.heap.size w V4 := HBR.out.drew.drew.drew.trans (hgr.below (by exact hwr) hlt4)
        obtain ⟨S, hS⟩ : ∃ S : ByteArray, S = ⟨p1.toArray⟩ := ⟨_, rfl⟩
        obtain ⟨U, hU⟩ : ∃ U : ByteArray, U = ⟨p2.toArray⟩ := ⟨_, rfl⟩
        rw [← hS] at hconv1
        rw [← hU] at hconv2
        dsimp only at hrun
        rw [← hS, ← hU] at hrun
        have hwn2 : IntKind.i64.wrap (2 + (nl : Int)) = 2 + (nl : Int) := by rw [IntKind.wrap_i64]; omega
        have hwn3 : IntKind.i64.wrap (2 + (nl : Int) + (vl : Int)) = 2 + (nl : Int) + (vl : Int) := by rw [IntKind.wrap_i64]; omega
        have hwn4 : IntKind.i64.wrap ((a : Int) + (2 + (nl : Int) + (vl : Int))) = (a : Int) + (2 + (nl : Int) + (vl : Int)) := by rw [IntKind.wrap_i64]; omega
        have HO4 := Lib.hid hown4; clear hown4
        have HB4 := Lib.hid hb4; clear hb4
        have HSUCC := Lib.hid hsucc; clear hsucc
        have HCONV1 := Lib.hid hconv1; clear hconv1
        have HCONV2 := Lib.hid hconv2; clear hconv2
        have HRUN := Lib.hid hrun
        clear hS hU hp1 hp2 hl4 hgr hlt4 hrun hnear hnear2
        refine wp_region_E (fun V => Below w.heap.size w V) 99 rfl ?_
        have hS := (show Below w.heap.size w wr.drew from HBR.out.drew)
        refine wpE_takeF 0 ⟨some 20, _, _, _, _, _⟩ (v := ?_) (by decide) rfl (by kernel_rfl) (by kernel_rfl) (by kernel_rfl) (fun _ _ _ h => h) hS (Or.inl ⟨by kernel_rfl, ?_⟩) ?_
        rotate_left
        · (intro V hSw; obtain ⟨hq0, hq1⟩ := HC.out V hSw; go_simp; try with_reducible rfl)
        try simp only [Act.put]
        refine wpE_takeF 1 ⟨some 21, _, _, _, _, _⟩ (v := ?_) (by decide) rfl (by kernel_rfl) (by kernel_rfl) (by kernel_rfl) (fun _ _ _ h => h) hS (Or.inl ⟨by kernel_rfl, ?_⟩) ?_
        rotate_left
        · (intro V hSw; obtain ⟨hq0, hq1⟩ := HC.out V hSw; go_simp; try with_reducible rfl)
        try simp only [Act.put]
        refine wpE_takeF 2 ⟨some 22, _, _, _, _, _⟩ (v := ?_) (by decide) rfl (by kernel_rfl) (by kernel_rfl) (by kernel_rfl) (fun _ _ _ h => h) hS (Or.inl ⟨by kernel_rfl, ?_⟩) ?_
        rotate_left
        · (intro V hSw; obtain ⟨hq0, hq1⟩ := HC.out V hSw; go_simp; try with_reducible rfl)
        try simp only [Act.put]
        refine wpE_takeF 3 ⟨some 23, _, _, _, _, _⟩ (v := ?_) (by decide) rfl (by kernel_rfl) (by kernel_rfl) (by kernel_rfl) (fun _ _ _ h => h) hS (Or.inl ⟨by kernel_rfl, ?_⟩) ?_
        rotate_left
        · (intro V hSw; obtain ⟨hq0, hq1⟩ := HC.out V hSw; go_simp; try with_reducible rfl)
        try simp only [Act.put]
        refine wpE_takeF 4 ⟨some 24, _, _, _, _, _⟩ (v := ?_) (by decide) rfl (by kernel_rfl) (by kernel_rfl) (by kernel_rfl) (fun _ _ _ h => h) hS (Or.inl ⟨by kernel_rfl, ?_⟩) ?_
        rotate_left
        · (intro V hSw; obtain ⟨hq0, hq1⟩ := HC.out V hSw; go_simp; try with_reducible rfl)
        try simp only [Act.put]
        refine wpE_takeF 5 ⟨some 25, _, _, _, _, _⟩ (v := ?_) (by decide) rfl (by kernel_rfl) (by kernel_rfl) (by kernel_rfl) (fun _ _ _ h => h) hS (Or.inl ⟨by kernel_rfl, ?_⟩) ?_
        rotate_left
        · (intro V hSw; obtain ⟨hq0, hq1⟩ := HC.out V hSw; go_simp; try with_reducible rfl)
        try simp only [Act.put]
        refine wpE_takeF 6 ⟨some 26, _, _, _, _, _⟩ (v := ?_) (by decide) rfl (by kernel_rfl) (by kernel_rfl) (by kernel_rfl) (fun _ _ _ h => h) hS (Or.inl ⟨by kernel_rfl, ?_⟩) ?_
        rotate_left
        · (intro V hSw; obtain ⟨hq0, hq1⟩ := HC.out V hSw; go_simp; try with_reducible rfl)
        try simp only [Act.put]
        refine wpE_takeF 7 ⟨some 27, _, _, _, _, _⟩ (v := ?_) (by decide) rfl (by kernel_rfl) (by kernel_rfl) (by kernel_rfl) (fun _ _ _ h => h) hS (Or.inl ⟨by kernel_rfl, ?_⟩) ?_
        rotate_left
        · (intro V hSw; obtain ⟨hq0, hq1⟩ := HC.out V hSw; go_simp; try with_reducible rfl)
        try simp only [Act.put]
        refine wpE_takeF 8 ⟨some 28, _, _, _, _, _⟩ (v := ?_) (by decide) rfl (by kernel_rfl) (by kernel_rfl) (by kernel_rfl) (fun _ _ _ h => h) hS (Or.inl ⟨by kernel_rfl, ?_⟩) ?_
        rotate_left
        · (intro V hSw; obtain ⟨hq0, hq1⟩ := HC.out V hSw; go_simp; try with_reducible rfl)
        try simp only [Act.put]
        refine wpE_takeF 9 ⟨some 29, _, _, _, _, _⟩ (v := ?_) (by decide) rfl (by kernel_rfl) (by kernel_rfl) (by kernel_rfl) (fun _ _ _ h => h) hS (Or.inl ⟨by kernel_rfl, ?_⟩) ?_
        rotate_left
        · (intro V hSw; obtain ⟨hq0, hq1⟩ := HC.out V hSw; go_simp; try with_reducible rfl)
        try simp only [Act.put]
        refine wpE_takeF 10 ⟨some 30, _, _, _, _, _⟩ (v := ?_) (by decide) rfl (by kernel_rfl) (by kernel_rfl) (by kernel_rfl) (fun _ _ _ h => h) hS (Or.inl ⟨by kernel_rfl, ?_⟩) ?_
        rotate_left
        · (intro V hSw; obtain ⟨hq0, hq1⟩ := HC.out V hSw; go_simp; try with_reducible rfl)
        try simp only [Act.put]
        refine wpE_takeF 11 ⟨some 31, _, _, _, _, _⟩ (v := ?_) (by decide) rfl (by kernel_rfl) (by kernel_rfl) (by kernel_rfl) (fun _ _ _ h => h) hS (Or.inl ⟨by kernel_rfl, ?_⟩) ?_
        rotate_left
        · (intro V hSw; obtain ⟨hq0, hq1⟩ := HC.out V hSw; go_simp; try with_reducible rfl)
        try simp only [Act.put]
        refine wpE_takeF 12 ⟨some 32, _, _, _, _, _⟩ (v := ?_) (by decide) rfl (by kernel_rfl) (by kernel_rfl) (by kernel_rfl) (fun _ _ _ h => h) hS (Or.inl ⟨by kernel_rfl, ?_⟩) ?_
        rotate_left
        · (intro V hSw; obtain ⟨hq0, hq1⟩ := HC.out V hSw; go_simp; try with_reducible rfl)
        try simp only [Act.put]
        refine wpE_takeF 13 ⟨some 33, _, _, _, _, _⟩ (v := ?_) (by decide) rfl (by kernel_rfl) (by kernel_rfl) (by kernel_rfl) (fun _ _ _ h => h) hS (Or.inl ⟨by kernel_rfl, ?_⟩) ?_
        rotate_left
        · (intro V hSw; obtain ⟨hq0, hq1⟩ := HC.out V hSw; go_simp; try with_reducible rfl)
        try simp only [Act.put]
        refine wpE_takeF 14 ⟨some 34, _, _, _, _, _⟩ (v := ?_) (by decide) rfl (by kernel_rfl) (by kernel_rfl) (by kernel_rfl) (fun _ _ _ h => h) hS (Or.inl ⟨by kernel_rfl, ?_⟩) ?_
        rotate_left
        · (intro V hSw; obtain ⟨hq0, hq1⟩ := HC.out V hSw; go_simp; try with_reducible rfl)
        try simp only [Act.put]
        refine wpE_takeF 15 ⟨some 35, _, _, _, _, _⟩ (v := ?_) (by decide) rfl (by kernel_rfl) (by kernel_rfl) (by kernel_rfl) (fun _ _ _ h => h) hS (Or.inl ⟨by kernel_rfl, ?_⟩) ?_
        rotate_left
        · (intro V hSw; obtain ⟨hq0, hq1⟩ := HC.out V hSw; go_simp; try with_reducible rfl)
        try simp only [Act.put]
        refine wpE_takeF 16 ⟨some 36, _, _, _, _, _⟩ (v := ?_) (by decide) rfl (by kernel_rfl) (by kernel_rfl) (by kernel_rfl) (fun _ _ _ h => h) hS (Or.inl ⟨by kernel_rfl, ?_⟩) ?_
        rotate_left
        · (intro V hSw; obtain ⟨hq0, hq1⟩ := HC.out V hSw; go_simp; try with_reducible rfl)
        try simp only [Act.put]
        refine wpE_takeF 17 ⟨some 37, _, _, _, _, _⟩ (v := ?_) (by decide) rfl (by kernel_rfl) (by kernel_rfl) (by kernel_rfl) (fun _ _ _ h => h) hS (Or.inl ⟨by kernel_rfl, ?_⟩) ?_
        rotate_left
        · (intro V hSw; obtain ⟨hq0, hq1⟩ := HC.out V hSw; go_simp; try with_reducible rfl)
        try simp only [Act.put]
        refine wpE_takeF 18 ⟨some 38, _, _, _, _, _⟩ (v := ?_) (by decide) rfl (by kernel_rfl) (by kernel_rfl) (by kernel_rfl) (fun _ _ _ h => h) hS (Or.inl ⟨by kernel_rfl, ?_⟩) ?_
        rotate_left
        · (intro V hSw; obtain ⟨hq0, hq1⟩ := HC.out V hSw; go_simp; try with_reducible rfl)
        try simp only [Act.put]
        refine wpE_takeF 19 ⟨some 39, _, _, _, _, _⟩ (v := ?_) (by decide) rfl (by kernel_rfl) (by kernel_rfl) (by kernel_rfl) (fun _ _ _ h => h) hS (Or.inl ⟨by kernel_rfl, ?_⟩) ?_
        rotate_left
        · (intro V hSw; obtain ⟨hq0, hq1⟩ := HC.out V hSw; go_simp; try with_reducible rfl)
        try simp only [Act.put]
        refine wpE_done (by kernel_rfl) ?_ _
        try simp only [List.setIfInBounds_toArray, List.set_cons_succ, List.set_cons_zero]
        clear hS
        go_wp2
        refine wp_region_E (fun V => Below w.heap.size w V) 99 rfl ?_
        have hS := (show Below w.heap.size w wr.drew.drew from HBR.out.drew.drew)
        refine wpE_takeF 0 ⟨some 40, _, _, _, _, _⟩ (v := ?_) (by decide) rfl (by kernel_rfl) (by kernel_rfl) (by kernel_rfl) (fun _ _ _ h => h) hS (Or.inl ⟨by kernel_rfl, ?_⟩) ?_
        rotate_left
        · (intro V hSw; obtain ⟨hq0, hq1⟩ := HC.out V hSw; go_simp; try with_reducible rfl)
        try simp only [Act.put]
        refine wpE_takeF 1 ⟨some 41, _, _, _, _, _⟩ (v := ?_) (by decide) rfl (by kernel_rfl) (by kernel_rfl) (by kernel_rfl) (fun _ _ _ h => h) hS (Or.inl ⟨by kernel_rfl, ?_⟩) ?_
        rotate_left
        · (intro V hSw; obtain ⟨hq0, hq1⟩ := HC.out V hSw; go_simp; try with_reducible rfl)
        try simp only [Act.put]
        refine wpE_takeF 2 ⟨some 42, _, _, _, _, _⟩ (v := ?_) (by decide) rfl (by kernel_rfl) (by kernel_rfl) (by kernel_rfl) (fun _ _ _ h => h) hS (Or.inl ⟨by kernel_rfl, ?_⟩) ?_
        rotate_left
        · (intro V hSw; obtain ⟨hq0, hq1⟩ := HC.out V hSw; go_simp; try with_reducible rfl)
        try simp only [Act.put]
        refine wpE_takeF 3 ⟨some 43, _, _, _, _, _⟩ (v := ?_) (by decide) rfl (by kernel_rfl) (by kernel_rfl) (by kernel_rfl) (fun _ _ _ h => h) hS (Or.inl ⟨by kernel_rfl, ?_⟩) ?_
        rotate_left
        · (intro V hSw; obtain ⟨hq0, hq1⟩ := HC.out V hSw; go_simp; try with_reducible rfl)
        try simp only [Act.put]
        refine wpE_takeF 4 ⟨some 44, _, _, _, _, _⟩ (v := ?_) (by decide) rfl (by kernel_rfl) (by kernel_rfl) (by kernel_rfl) (fun _ _ _ h => h) hS (Or.inl ⟨by kernel_rfl, ?_⟩) ?_
        rotate_left
        · (intro V hSw; obtain ⟨hq0, hq1⟩ := HC.out V hSw; go_simp; try with_reducible rfl)
        try simp only [Act.put]
        refine wpE_takeF 5 ⟨some 45, _, _, _, _, _⟩ (v := ?_) (by decide) rfl (by kernel_rfl) (by kernel_rfl) (by kernel_rfl) (fun _ _ _ h => h) hS (Or.inl ⟨by kernel_rfl, ?_⟩) ?_
        rotate_left
        · (intro V hSw; obtain ⟨hq0, hq1⟩ := HC.out V hSw; go_simp; try with_reducible rfl)
        try simp only [Act.put]
        refine wpE_takeF 6 ⟨some 46, _, _, _, _, _⟩ (v := ?_) (by decide) rfl (by kernel_rfl) (by kernel_rfl) (by kernel_rfl) (fun _ _ _ h => h) hS (Or.inl ⟨by kernel_rfl, ?_⟩) ?_
        rotate_left
        · (intro V hSw; obtain ⟨hq0, hq1⟩ := HC.out V hSw; go_simp; try with_reducible rfl)
        try simp only [Act.put]
        refine wpE_takeF 7 ⟨some 47, _, _, _, _, _⟩ (v := ?_) (by decide) rfl (by kernel_rfl) (by kernel_rfl) (by kernel_rfl) (fun _ _ _ h => h) hS (Or.inl ⟨by kernel_rfl, ?_⟩) ?_
        rotate_left
        · (intro V hSw; obtain ⟨hq0, hq1⟩ := HC.out V hSw; go_simp; try with_reducible rfl)
        try simp only [Act.put]
        refine wpE_takeF 8 ⟨some 48, _, _, _, _, _⟩ (v := ?_) (by decide) rfl (by kernel_rfl) (by kernel_rfl) (by kernel_rfl) (fun _ _ _ h => h) hS (Or.inl ⟨by kernel_rfl, ?_⟩) ?_
        rotate_left
        · (intro V hSw; obtain ⟨hq0, hq1⟩ := HC.out V hSw; go_simp; try with_reducible rfl)
        try simp only [Act.put]
        refine wpE_takeF 9 ⟨some 49, _, _, _, _, _⟩ (v := ?_) (by decide) rfl (by kernel_rfl) (by kernel_rfl) (by kernel_rfl) (fun _ _ _ h => h) hS (Or.inl ⟨by kernel_rfl, ?_⟩) ?_
        rotate_left
        · (intro V hSw; obtain ⟨hq0, hq1⟩ := HC.out V hSw; go_simp; try with_reducible rfl)
        try simp only [Act.put]
        refine wpE_takeF 10 ⟨some 50, _, _, _, _, _⟩ (v := ?_) (by decide) rfl (by kernel_rfl) (by kernel_rfl) (by kernel_rfl) (fun _ _ _ h => h) hS (Or.inl ⟨by kernel_rfl, ?_⟩) ?_
        rotate_left
        · (intro V hSw; obtain ⟨hq0, hq1⟩ := HC.out V hSw; go_simp; try with_reducible rfl)
        try simp only [Act.put]
        refine wpE_takeF 11 ⟨some 7, _, _, _, _, _⟩ (v := ?_) (by decide) rfl (by kernel_rfl) (by kernel_rfl) (by kernel_rfl) (fun _ _ _ h => h) hS (Or.inl ⟨by kernel_rfl, ?_⟩) ?_
        rotate_left
        · (intro V hSw; obtain ⟨hq0, hq1⟩ := HC.out V hSw; go_simp; try with_reducible rfl)
        try simp only [Act.put]
        refine wpE_takeF 12 ⟨some 8, _, _, _, _, _⟩ (v := ?_) (by decide) rfl (by kernel_rfl) (by kernel_rfl) (by kernel_rfl) (fun _ _ _ h => h) hS (Or.inl ⟨by kernel_rfl, ?_⟩) ?_
        rotate_left
        · (intro V hSw; obtain ⟨hq0, hq1⟩ := HC.out V hSw; go_simp; try with_reducible rfl)
        try simp only [Act.put]
        refine wpE_done (by kernel_rfl) ?_ _
        try simp only [List.setIfInBounds_toArray, List.set_cons_succ, List.set_cons_zero]
        clear hS hfd hfd2 hgd
        have hrun := HRUN.out
        go_wp2
        refine wp_region_E (fun V => Below w.heap.size w V) 99 rfl ?_
        have hS := (show Below w.heap.size w wr.drew.drew.drew from HBR.out.drew.drew.drew)
        refine wpE_takeF 0 ⟨some 51, _, _, _, _, _⟩ (v := ?_) (by decide) rfl (by kernel_rfl) (by kernel_rfl) (by kernel_rfl) (fun _ _ _ h => h) hS (Or.inl ⟨by kernel_rfl, ?_⟩) ?_
        rotate_left
        · (intro V hSw; have hc1 := HCONV1.out V hSw; have hc2 := HCONV2.out V hSw; go_simp; try with_reducible rfl)
        try simp only [Act.put]
        refine wpE_takeF 1 ⟨some 52, _, _, _, _, _⟩ (v := ?_) (by decide) rfl (by kernel_rfl) (by kernel_rfl) (by kernel_rfl) (fun _ _ _ h => h) hS (Or.inl ⟨by kernel_rfl, ?_⟩) ?_
        rotate_left
        · (intro V hSw; have hc1 := HCONV1.out V hSw; have hc2 := HCONV2.out V hSw; go_simp; try with_reducible rfl)
        try simp only [Act.put]
        refine wpE_takeF 2 ⟨some 53, _, _, _, _, _⟩ (v := ?_) (by decide) rfl (by kernel_rfl) (by kernel_rfl) (by kernel_rfl) (fun _ _ _ h => h) hS (Or.inl ⟨by kernel_rfl, ?_⟩) ?_
        rotate_left
        · (intro V hSw; have hc1 := HCONV1.out V hSw; have hc2 := HCONV2.out V hSw; go_simp; try with_reducible rfl)
        try simp only [Act.put]
        refine wpE_takeF 3 ⟨some 54, _, _, _, _, _⟩ (v := ?_) (by decide) rfl (by kernel_rfl) (by kernel_rfl) (by kernel_rfl) (fun _ _ _ h => h) hS (Or.inl ⟨by kernel_rfl, ?_⟩) ?_
        rotate_left
        · (intro V hSw; have hc1 := HCONV1.out V hSw; have hc2 := HCONV2.out V hSw; go_simp; try with_reducible rfl)
        try simp only [Act.put]
        refine wpE_takeF 4 ⟨some 55, _, _, _, _, _⟩ (v := ?_) (by decide) rfl (by kernel_rfl) (by kernel_rfl) (by kernel_rfl) (fun _ _ _ h => h) hS (Or.inl ⟨by kernel_rfl, ?_⟩) ?_
        rotate_left
        · (intro V hSw; have hc1 := HCONV1.out V hSw; have hc2 := HCONV2.out V hSw; go_simp; try with_reducible rfl)
        try simp only [Act.put]
        refine wpE_takeF 5 ⟨some 56, _, _, _, _, _⟩ (v := ?_) (by decide) rfl (by kernel_rfl) (by kernel_rfl) (by kernel_rfl) (fun _ _ _ h => h) hS (Or.inl ⟨by kernel_rfl, ?_⟩) ?_
        rotate_left
        · (intro V hSw; have hc1 := HCONV1.out V hSw; have hc2 := HCONV2.out V hSw; go_simp; try with_reducible rfl)
        try simp only [Act.put]
        refine wpE_takeF 6 ⟨some 57, _, _, _, _, _⟩ (v := ?_) (by decide) rfl (by kernel_rfl) (by kernel_rfl) (by kernel_rfl) (fun _ _ _ h => h) hS (Or.inl ⟨by kernel_rfl, ?_⟩) ?_
        rotate_left
        · (intro V hSw; have hc1 := HCONV1.out V hSw; have hc2 := HCONV2.out V hSw; go_simp; try with_reducible rfl)
        try simp only [Act.put]
        refine wpE_takeF 7 ⟨some 58, _, _, _, _, _⟩ (v := ?_) (by decide) rfl (by kernel_rfl) (by kernel_rfl) (by kernel_rfl) (fun _ _ _ h => h) hS (Or.inl ⟨by kernel_rfl, ?_⟩) ?_
        rotate_left
        · (intro V hSw; have hc1 := HCONV1.out V hSw; have hc2 := HCONV2.out V hSw; go_simp; try with_reducible rfl)
        try simp only [Act.put]
        refine wpE_takeF 8 ⟨some 59, _, _, _, _, _⟩ (v := ?_) (by decide) rfl (by kernel_rfl) (by kernel_rfl) (by kernel_rfl) (fun _ _ _ h => h) hS (Or.inl ⟨by kernel_rfl, ?_⟩) ?_
        rotate_left
        · (intro V hSw; have hc1 := HCONV1.out V hSw; have hc2 := HCONV2.out V hSw; go_simp; try with_reducible rfl)
        try simp only [Act.put]
        refine wpE_takeF 9 ⟨some 60, _, _, _, _, _⟩ (v := ?_) (by decide) rfl (by kernel_rfl) (by kernel_rfl) (by kernel_rfl) (fun _ _ _ h => h) hS (Or.inl ⟨by kernel_rfl, ?_⟩) ?_
        rotate_left
        · (intro V hSw; have hc1 := HCONV1.out V hSw; have hc2 := HCONV2.out V hSw; go_simp; try with_reducible rfl)
        try simp only [Act.put]
        refine wpE_takeF 10 ⟨some 61, _, _, _, _, _⟩ (v := ?_) (by decide) rfl (by kernel_rfl) (by kernel_rfl) (by kernel_rfl) (fun _ _ _ h => h) hS (Or.inl ⟨by kernel_rfl, ?_⟩) ?_
        rotate_left
        · (intro V hSw; have hc1 := HCONV1.out V hSw; have hc2 := HCONV2.out V hSw; go_simp; try with_reducible rfl)
        try simp only [Act.put]
        refine wpE_takeF 11 ⟨some 62, _, _, _, _, _⟩ (v := ?_) (by decide) rfl (by kernel_rfl) (by kernel_rfl) (by kernel_rfl) (fun _ _ _ h => h) hS (Or.inl ⟨by kernel_rfl, ?_⟩) ?_
        rotate_left
        · (intro V hSw; have hc1 := HCONV1.out V hSw; have hc2 := HCONV2.out V hSw; go_simp; try with_reducible rfl)
        try simp only [Act.put]
        refine wpE_takeF 12 ⟨some 63, _, _, _, _, _⟩ (v := ?_) (by decide) rfl (by kernel_rfl) (by kernel_rfl) (by kernel_rfl) (fun _ _ _ h => h) hS (Or.inl ⟨by kernel_rfl, ?_⟩) ?_
        rotate_left
        · (intro V hSw; have hc1 := HCONV1.out V hSw; have hc2 := HCONV2.out V hSw; go_simp; try with_reducible rfl)
        try simp only [Act.put]
        refine wpE_takeF 13 ⟨some 64, _, _, _, _, _⟩ (v := ?_) (by decide) rfl (by kernel_rfl) (by kernel_rfl) (by kernel_rfl) (fun _ _ _ h => h) hS (Or.inl ⟨by kernel_rfl, ?_⟩) ?_
        rotate_left
        · (intro V hSw; have hc1 := HCONV1.out V hSw; have hc2 := HCONV2.out V hSw; go_simp; try with_reducible rfl)
        try simp only [Act.put]
        refine wpE_takeF 14 ⟨some 65, _, _, _, _, _⟩ (v := ?_) (by decide) rfl (by kernel_rfl) (by kernel_rfl) (by kernel_rfl) (fun _ _ _ h => h) hS (Or.inl ⟨by kernel_rfl, ?_⟩) ?_
        rotate_left
        · (intro V hSw; have hc1 := HCONV1.out V hSw; have hc2 := HCONV2.out V hSw; go_simp; try with_reducible rfl)
        try simp only [Act.put]
        refine wpE_takeF 15 ⟨some 66, _, _, _, _, _⟩ (v := ?_) (by decide) rfl (by kernel_rfl) (by kernel_rfl) (by kernel_rfl) (fun _ _ _ h => h) hS (Or.inl ⟨by kernel_rfl, ?_⟩) ?_
        rotate_left
        · (intro V hSw; have hc1 := HCONV1.out V hSw; have hc2 := HCONV2.out V hSw; go_simp; try with_reducible rfl)
        try simp only [Act.put]
        refine wpE_takeF 16 ⟨some 67, _, _, _, _, _⟩ (v := ?_) (by decide) rfl (by kernel_rfl) (by kernel_rfl) (by kernel_rfl) (fun _ _ _ h => h) hS (Or.inl ⟨by kernel_rfl, ?_⟩) ?_
        rotate_left
        · (intro V hSw; have hc1 := HCONV1.out V hSw; have hc2 := HCONV2.out V hSw; go_simp; try with_reducible rfl)
        try simp only [Act.put]
        refine wpE_takeF 17 ⟨some 68, _, _, _, _, _⟩ (v := ?_) (by decide) rfl (by kernel_rfl) (by kernel_rfl) (by kernel_rfl) (fun _ _ _ h => h) hS (Or.inl ⟨by kernel_rfl, ?_⟩) ?_
        rotate_left
        · (intro V hSw; have hc1 := HCONV1.out V hSw; have hc2 := HCONV2.out V hSw; go_simp; try with_reducible rfl)
        try simp only [Act.put]
        refine wpE_takeF 18 ⟨some 69, _, _, _, _, _⟩ (v := ?_) (by decide) rfl (by kernel_rfl) (by kernel_rfl) (by kernel_rfl) (fun _ _ _ h => h) hS (Or.inl ⟨by kernel_rfl, ?_⟩) ?_
        rotate_left
        · (intro V hSw; have hc1 := HCONV1.out V hSw; have hc2 := HCONV2.out V hSw; go_simp; try with_reducible rfl)
        try simp only [Act.put]
        refine wpE_takeF 19 ⟨some 70, _, _, _, _, _⟩ (v := ?_) (by decide) rfl (by kernel_rfl) (by kernel_rfl) (by kernel_rfl) (fun _ _ _ h => h) hS (Or.inl ⟨by kernel_rfl, ?_⟩) ?_
        rotate_left
        · (intro V hSw; have hc1 := HCONV1.out V hSw; have hc2 := HCONV2.out V hSw; go_simp; try with_reducible rfl)
        try simp only [Act.put]
        refine wpE_takeF 20 ⟨some 71, _, _, _, _, _⟩ (v := ?_) (by decide) rfl (by kernel_rfl) (by kernel_rfl) (by kernel_rfl) (fun _ _ _ h => h) hS (Or.inl ⟨by kernel_rfl, ?_⟩) ?_
        rotate_left
        · (intro V hSw; have hc1 := HCONV1.out V hSw; have hc2 := HCONV2.out V hSw; go_simp; try with_reducible rfl)
        try simp only [Act.put]
        refine wpE_takeF 21 ⟨some 72, _, _, _, _, _⟩ (v := ?_) (by decide) rfl (by kernel_rfl) (by kernel_rfl) (by kernel_rfl) (fun _ _ _ h => h) hS (Or.inl ⟨by kernel_rfl, ?_⟩) ?_
        rotate_left
        · (intro V hSw; have hc1 := HCONV1.out V hSw; have hc2 := HCONV2.out V hSw; go_simp; try with_reducible rfl)
        try simp only [Act.put]
        refine wpE_takeF 22 ⟨some 73, _, _, _, _, _⟩ (v := ?_) (by decide) rfl (by kernel_rfl) (by kernel_rfl) (by kernel_rfl) (fun _ _ _ h => h) hS (Or.inl ⟨by kernel_rfl, ?_⟩) ?_
        rotate_left
        · (intro V hSw; have hc1 := HCONV1.out V hSw; have hc2 := HCONV2.out V hSw; go_simp; try with_reducible rfl)
        try simp only [Act.put]
        refine wpE_takeF 23 ⟨some 74, _, _, _, _, _⟩ (v := ?_) (by decide) rfl (by kernel_rfl) (by kernel_rfl) (by kernel_rfl) (fun _ _ _ h => h) hS (Or.inl ⟨by kernel_rfl, ?_⟩) ?_
        rotate_left
        · (intro V hSw; have hc1 := HCONV1.out V hSw; have hc2 := HCONV2.out V hSw; go_simp; try with_reducible rfl)
        try simp only [Act.put]
        refine wpE_one 24 (by kernel_rfl) rfl (fun K' hK' => ?_)
        go_simp
        refine hK'.out _ _ (show Below w.heap.size w _ from HBR.out.drew.drew.drew.alloc (by exact HBR.out.size) _) (fun hS => ?_)
        clear hK' K'
        try simp only [Act.put]
        refine wpE_one 25 (o := ⟨some 76, _, _, _, _, _⟩) (by kernel_rfl) rfl (fun K' hK' => ?_)
        refine step_builtin (by kernel_rfl) (.tmp 51) (.tmp 75) #[22, 22] rfl (.slice Al k cl) _ _ _ ?hva ?hvb hrun ?_
        case hva => go_simp; try with_reducible rfl
        case hvb => go_simp; try with_reducible rfl
        refine hK'.out _ _ HB4.out (fun hS => ?_)
        clear hK' K'
        try simp only [Act.put]
        refine wpE_takeF 26 ⟨some 4, _, _, _, _, _⟩ (v := ?_) (by decide) rfl (by kernel_rfl) (by kernel_rfl) (by kernel_rfl) (fun _ _ _ h => h) hS (Or.inl ⟨by kernel_rfl, ?_⟩) ?_
        rotate_left
        · (intro V hSw; go_simp; try with_reducible rfl)
        try simp only [Act.put]
        refine wpE_done (by kernel_rfl) ?_ _
        try simp only [List.setIfInBounds_toArray, List.set_cons_succ, List.set_cons_zero]
        clear hS hrun
        go_wp2
        go_roundw
        case rel => exact ⟨k + 1, a + 2 + nl + vl, A4, c4, _, by omega, by go_num, by congr 1; omega, rfl, HSUCC.out, HO4.out, HB4.out⟩
        case measure => simp [intOf]; omega
end Go.Proofs.Ytbagocghlijleaa.At
