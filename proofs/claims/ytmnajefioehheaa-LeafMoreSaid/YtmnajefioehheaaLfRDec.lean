/- The document's Decode. -/
import Derived.Test.YtmnajefioehheaaLfREnc
import Derived.Test.YtmnajefioehheaaLfDec
namespace Go.Proofs.Ytmnajefioehheaa.Lf
set_option maxRecDepth 20000
open Go.RowKit
open Go.Proofs.Ytmnajefioehheaa.Mem Go.Proofs.Ytmnajefioehheaa.Crc Go.Proofs.Ytmnajefioehheaa.Rec Go.Proofs.Ytmnajefioehheaa.Reg
attribute [local go_sem ↓] ldX_eq stX_eq

theorem run_slice_mid (W : World) (a off N c l m : Nat) (i j : Int) (hi : i = (l : Int)) (hj : j = ((l + m : Nat) : Int)) (hl : l + m ≤ N) (h0 : l < c) (hc : N ≤ c) :
    (Instr.slice 24 (.slice (some ⟨a, off, none⟩) N c) (some (.int .i64 i)) (some (.int .i64 j)) none).run Try.prog W = .ok (.slice (some ⟨a, off + l, none⟩) m (c - l)) W := by
  subst hi hj
  have h := run_slice_lh (P := Try.prog) W 24 (some ⟨a, off, none⟩) N c (by rw [Try.underlying24]; rfl) .i64 .i64 (l : Int) ((l + m : Nat) : Int) (by omega) (by omega) (by omega)
  rw [h]
  have hs : (sizeOf (Try.prog.elem 24)).run Try.prog W = .ok 1 W := by rfl
  rw [hs]
  simp only [Result.andThen, sliced, Int.toNat_natCast]
  rw [if_neg (by omega)]
  simp [Addr.add_mid]
theorem run_sliceAt_mid (W : World) (a off N c l m : Nat) (i j : Int) (hi : i = (l : Int)) (hj : j = ((l + m : Nat) : Int)) (hl : l + m ≤ N) (h0 : l < c) (hc : N ≤ c) :
    (Instr.sliceAt 24 (.slice (some ⟨a, off, none⟩) N c) (some (.int .i64 i)) (some (.int .i64 j)) none).run Try.prog W = .ok (.slice (some ⟨a, off + l, none⟩) m (c - l)) W := by
  rw [run_sliceAt_slice (P := Try.prog) W 24 _ _ _ _ (by rw [Try.underlying24]; rfl)]
  exact run_slice_mid W a off N c l m i j hi hj hl h0 hc
set_option maxRecDepth 100000 in
theorem rat_any (b0 off N c B l m : Nat) (i j : Int) (bs : List UInt8) (w : World) (h : Holds w B (some ⟨b0, off, none⟩) N bs) (hc : N ≤ c) (hN : N ≤ 1048576) (hi : i = (l : Int)) (hj : j = (m : Int)) (h0 : 0 < m) (hm : m ≤ 4) (hl : l + m ≤ N) :
    Calls Try.prog 27 #[.slice (some ⟨b0, off, none⟩) N c, .int .i64 i, .int .i64 j] w fun e w' => e = .returned (.int .i64 (num2 bs l m : Int)) ∧ w = w' := by
  subst hi hj
  have hd := Holds.drop (k := l) (m := m) h hl
  have hlt := numAt_lt ((bs.drop l).take m) m
  have hp : 2 ^ (8 * m) ≤ 2 ^ 32 := Nat.pow_le_pow_right (by omega) (by omega)
  have hnm : num2 bs l m = numAt ((bs.drop l).take m) m := by unfold num2 nmb; rw [hd.1]
  rw [hnm]
  obtain ⟨M, hM⟩ : ∃ M, numAt ((bs.drop l).take m) m = M := ⟨_, rfl⟩
  rw [hM] at hlt ⊢
  have hw : IntKind.i64.wrap (M : Int) = (M : Int) := by rw [IntKind.wrap_i64]; omega
  have hs : IntKind.i64.wrap ((l : Int) + (m : Int)) = ((l + m : Nat) : Int) := by rw [IntKind.wrap_i64]; omega
  have q1 := fun W => run_slice_mid W b0 off N c l m (l : Int) ((l + m : Nat) : Int) rfl rfl hl (by omega) hc
  have q2 := fun W => run_sliceAt_mid W b0 off N c l m (l : Int) ((l + m : Nat) : Int) rfl rfl hl (by omega) hc
  obtain ⟨E, hE⟩ : ∃ E : Int, E = ((l + m : Nat) : Int) := ⟨_, rfl⟩
  rw [← hE] at hs
  simp only [← hE] at q1 q2
  have HM := Lib.hid hM; clear hM hlt hp hnm
  have HD := Lib.hid hd; clear hd
  clear h hE hl h0 hc
  go_enter Try.func27, Try.ntmps27
  go_wp2_with fail
  with_reducible refine (refnumber_any _ m (c - l) B _ w HD.out (by omega)).mono ?_
  rintro e w1 ⟨rfl, rfl⟩
  rw [HM.out]
  go_wp2
  go_ret
  exact ⟨rfl, rfl⟩

theorem stR_succ {b : List UInt8} {k a : Nat} {l : List Nm} (h : stR b k = some (a, l)) : stR b (k + 1) = if 247 < a ∨ 252 < a + 5 + (b.getD (a + 4) 0).toNat then none
      else some (a + 5 + (b.getD (a + 4) 0).toNat, l ++ [⟨(b.drop (a + 5)).take (b.getD (a + 4) 0).toNat, (num2 b a 4 : Int)⟩]) := by
  rw [stR, h]
theorem stR_none {b : List UInt8} {k : Nat} (h : stR b k = none) : ∀ d, stR b (k + d) = none
  | 0 => h
  | d + 1 => by rw [show k + (d + 1) = k + d + 1 by omega, stR, stR_none h d]
theorem num2_lt (b : List UInt8) (i n : Nat) (h : n ≤ 4) : num2 b i n < 4294967296 := by
  unfold num2 nmb
  have h1 := numAt_lt ((b.drop i).take n) ((b.drop i).take n).length
  have hp : 2 ^ (8 * ((b.drop i).take n).length) ≤ 2 ^ 32 := Nat.pow_le_pow_right (by omega) (by rw [List.length_take]; omega)
  omega
theorem stR_inv (b : List UInt8) : ∀ k a l, stR b k = some (a, l) → l.length = k ∧ a ≤ 252 ∧ 4 + 5 * k ≤ a ∧ ∀ x ∈ l, x.rep
  | 0, a, l, h => by
    unfold stR at h
    injection h with h
    injection h with h1 h2
    subst h1 h2
    exact ⟨rfl, by omega, by omega, fun x hx => by cases hx⟩
  | k + 1, a, l, h => by
    cases hk : stR b k with
    | none => have := stR_none hk 1; rw [this] at h; cases h
    | some p =>
      obtain ⟨a', l'⟩ := p
      obtain ⟨h1, h2, h3, h4⟩ := stR_inv b k a' l' hk
      rw [stR_succ hk] at h
      split at h
      · cases h
      · rename_i hc
        injection h with h
        injection h with e1 e2
        subst e1 e2
        refine ⟨by rw [List.length_append, h1]; rfl, by omega, by omega, fun x hx => ?_⟩
        rcases List.mem_append.1 hx with hx | hx
        · exact h4 x hx
        · rw [List.mem_singleton.1 hx]
          have h5 := num2_lt b a' 4 (by omega)
          have h6 := (b.getD (a' + 4) 0).toNat_lt
          refine ⟨⟨?_, ?_⟩, ?_⟩
          · show _ ≤ ((num2 b a' 4 : Nat) : Int); omega
          · show ((num2 b a' 4 : Nat) : Int) ≤ _; omega
          · show ((b.drop (a' + 5)).take (b.getD (a' + 4) 0).toNat).length ≤ _
            rw [List.length_take]
            unfold maxLen
            omega

set_option maxRecDepth 100000 in
set_option maxHeartbeats 4000000 in
theorem rdecode_any (A : Option Addr) (n c B : Nat) (b : List UInt8) (w : World) (h : Holds w B A n b) (hB : B ≤ w.heap.size) (hc : n ≤ c) (hn : n ≤ 140737488355328) :
    Calls Try.prog 17 #[.slice A n c] w (Names2 w (decR b)) := by
  obtain ⟨y, hy⟩ : ∃ y, y = decR b := ⟨_, rfl⟩
  rw [← hy]
  have hbl := h.1
  by_cases h256 : n = 256
  rotate_left
  · have HY : Hid (y = ([], 13)) := Lib.hid (by rw [hy]; unfold decR; rw [if_neg (by omega)])
    have hne : ((n : Int) == 256) = false := beq_false_of_ne (by omega)
    have hne2 : ((n : Int) != 256) = true := bne_iff_ne.2 (by omega)
    clear hy h
    go_enter Try.func17, Try.ntmps17
    go_wp2
    go_ret2
    exact ⟨none, 0, by rw [HY.out]; rfl, by rw [HY.out]; exact OwnX.nil _ _, Below.refl _ _⟩
  · subst h256
    have hdec : y = (match stR b (manyR b) with | none => ([], 13) | some (_, l) => decL b l) := by rw [hy]; unfold decR; rw [if_pos hbl]; cases stR b (manyR b) <;> rfl
    clear hy
    obtain ⟨b0, off, rfl⟩ := Holds.addr h (by omega)
    have hb0B : b0 < B := by
      obtain ⟨b', off', e, h1, _⟩ := h.2 (by omega)
      injection e with e
      injection e with e1 e2
      rw [e1]; exact h1
    have hmany : ∀ V, Below w.heap.size w V → Calls Try.prog 27 #[.slice (some ⟨b0, off, none⟩) 256 c, .int .i64 0, .int .i64 2] V fun e w' => e = .returned (.int .i64 (manyR b : Int)) ∧ V = w' := fun V hV => rat_any b0 off 256 c B 0 2 0 2 b V (h.below (hV.mono hB)) hc (by omega) rfl rfl (by omega) (by omega) (by omega)
    have hmlt : manyR b < 65536 := by
      unfold manyR num2 nmb
      have h1 := numAt_lt ((b.drop 0).take 2) ((b.drop 0).take 2).length
      have hp : 2 ^ (8 * ((b.drop 0).take 2).length) ≤ 2 ^ 16 := Nat.pow_le_pow_right (by omega) (by rw [List.length_take]; omega)
      omega
    obtain ⟨M, hM⟩ : ∃ M, M = manyR b := ⟨_, rfl⟩
    rw [← hM] at hmany hdec hmlt
    clear hM
    have HDEC := Lib.hid hdec; clear hdec
    have HMANY := Lib.hid hmany; clear hmany
    have H := Lib.hid h; clear h
    have HBL := Lib.hid hbl; clear hbl
    go_enter Try.func17, Try.ntmps17
    go_wp2
    go_loopw [4, 5, 6] (fun lv av i wr => ∃ (k a : Nat) (Al : Option Addr) (cl : Nat) (l : List Nm), k ≤ M ∧ i = .int .i64 (k : Int) ∧ av = .int .i64 (a : Int) ∧ lv = .slice Al k cl ∧ stR b k = some (a, l) ∧ OwnX wr w.heap.size (.slice Al k cl) l ∧ Below w.heap.size w wr) (fun _ _ i _ => M - (intOf i).toNat)
    case atStart => exact ⟨0, 4, none, 0, [], Nat.zero_le _, rfl, rfl, rfl, rfl, OwnX.nil _ _, Below.refl _ _⟩
    case round =>
      obtain ⟨k, a, Al, cl, l, hk, rfl, rfl, rfl, hst, hown, hbr⟩ := hrel
      obtain ⟨hlk, ha252, hak, hrep⟩ := stR_inv b k a l hst
      have hmany := HMANY.out wr hbr
      have hwr : w.heap.size ≤ wr.heap.size := hbr.size
      have HST := Lib.hid hst; clear hst
      have HO := Lib.hid hown; clear hown
      have HBR := Lib.hid hbr; clear hbr
      have HREP := Lib.hid hrep; clear hrep
      have HLK := Lib.hid hlk; clear hlk
      have HCALL := Lib.hid hmany; clear hmany
      rcases Nat.lt_or_ge k M with hlt | hge
      rotate_left
      · obtain rfl : k = M := by omega
        have hy2 : y = decL b l := by rw [HDEC.out, HST.out]
        have henc := rencode_any Al k cl wr.heap.size l wr HO.out.reads (Nat.le_refl _) HREP.out (by omega)
        have HENC := Lib.hid henc; clear henc
        have HY2 := Lib.hid hy2; clear hy2
        have hkn : ¬ (k : Int) < (k : Int) := by omega
        go_wp2_with (first | (with_reducible refine HCALL.out.mono ?_; rintro E w1 ⟨rfl, rfl⟩) | fail)
        with_reducible refine HENC.out.mono ?_
        rintro E w2 ⟨A2, c2, rfl, ho2, hb2⟩
        have HB2 : Hid (Below w.heap.size w w2) := Lib.hid (HBR.out.trans (hb2.mono hwr))
        have HO2 := Lib.hid (HO.out.below hb2)
        have t1 := run_text w2 w2.heap.size A2 (enc l).1.length c2 (enc l).1 (Owned.reads ho2)
        have t2 := run_text w2 B (some ⟨b0, off, none⟩) 256 c b (H.out.below (HB2.out.mono hB))
        obtain ⟨S1, hS1⟩ : ∃ S : ByteArray, S = ⟨(enc l).1.toArray⟩ := ⟨_, rfl⟩
        obtain ⟨S2, hS2⟩ : ∃ S : ByteArray, S = ⟨b.toArray⟩ := ⟨_, rfl⟩
        rw [← hS1] at t1
        rw [← hS2] at t2
        have hl1 : S1.toList = (enc l).1 := by rw [hS1, text_list]
        have hl2 : S2.toList = b := by rw [hS2, text_list]
        clear hS1 hS2 ho2 hb2 HENC
        rcases Decidable.em (enc l = (b, 0)) with hyes | hno
        · have hq : (S1.toList == S2.toList) = true := by rw [hl1, hl2, hyes]; exact beq_iff_eq.2 rfl
          have hq2 : (S1.toList != S2.toList) = false := by rw [bne, hq]; rfl
          have hz : (enc l).2 = 0 := by rw [hyes]
          have HY : Hid (y = (l, 0)) := Lib.hid (by rw [HY2.out, decL_zero hyes])
          clear hyes hl1 hl2
          rw [hz]
          clear hz
          generalize (enc l).1.length = n2 at t1 ⊢
          go_wp2
          go_ret2
          refine ⟨Al, cl, ?_, ?_, HB2.out⟩
          · rw [HY.out, HLK.out]; rfl
          · rw [HY.out, HLK.out]; exact HO2.out
        · have HY : Hid (y = ([], 13)) := Lib.hid (by rw [HY2.out, decL_not hno])
          rcases enc_two l with hz | hz | hz
          · have hq : (S1.toList == S2.toList) = false := by rw [hl1, hl2]; exact beq_false_of_ne (fun e => hno (by rw [Prod.ext_iff]; exact ⟨e, hz⟩))
            have hq2 : (S1.toList != S2.toList) = true := by rw [bne, hq]; rfl
            rw [hz]
            clear hz hno hl1 hl2
            generalize (enc l).1.length = n2 at t1 ⊢
            go_wp2
            go_ret2
            exact ⟨none, 0, by rw [HY.out]; rfl, by rw [HY.out]; exact OwnX.nil _ _, HB2.out⟩
          · rw [hz]
            clear hz hno hl1 hl2 t1
            generalize (enc l).1.length = n2
            go_wp2
            go_ret2
            exact ⟨none, 0, by rw [HY.out]; rfl, by rw [HY.out]; exact OwnX.nil _ _, HB2.out⟩
          · rw [hz]
            clear hz hno hl1 hl2 t1
            generalize (enc l).1.length = n2
            go_wp2
            go_ret2
            exact ⟨none, 0, by rw [HY.out]; rfl, by rw [HY.out]; exact OwnX.nil _ _, HB2.out⟩
      have hkM : (k : Int) < (M : Int) := by omega
      obtain ⟨nl, hnl⟩ : ∃ nl, nl = (b.getD (a + 4) 0).toNat := ⟨_, rfl⟩
      have hnl256 : nl < 256 := by rw [hnl]; exact (b.getD (a + 4) 0).toNat_lt
      have hsucc := stR_succ HST.out
      rw [← hnl] at hsucc
      rcases Decidable.em (247 < a) with hfar | hnear
      · have HY : Hid (y = ([], 13)) := Lib.hid (by
          rw [if_pos (.inl hfar)] at hsucc
          have h1 := stR_none hsucc (M - (k + 1))
          rw [show k + 1 + (M - (k + 1)) = M by omega] at h1
          rw [HDEC.out, h1])
        clear hsucc hnl
        have hfd : decide ((247 : Int) < (a : Int)) = true := decide_eq_true (by omega)
        have hfd2 : (247 : Int) < (a : Int) := by omega
        go_wp2_with (with_reducible refine HCALL.out.mono ?_; rintro E w1 ⟨rfl, rfl⟩)
        go_ret2
        exact ⟨none, 0, by rw [HY.out]; rfl, by rw [HY.out]; exact OwnX.nil _ _, HBR.out⟩
      have hcell : ∀ V, Below w.heap.size w V → V.cell? ⟨b0, off + (a + 4), none⟩ = some (.int .u8 (nl : Int)) := fun V hV => by
        obtain ⟨b', off', e, _, h1⟩ := (H.out.below (hV.mono hB)).2 (by omega)
        injection e with e
        injection e with e1 e2
        subst e1 e2
        have hlb : a + 4 < b.length := by have := HBL.out; omega
        rw [h1 (a + 4) hlb, hnl, List.getD_eq_getElem?_getD, List.getElem?_eq_getElem hlb, Option.getD_some]
      have qv := hcell wr HBR.out
      have HNLV := Lib.hid hnl; clear hnl
      have hfd : decide ((247 : Int) < (a : Int)) = false := decide_eq_false (by omega)
      have hfd2 : ¬ (247 : Int) < (a : Int) := by omega
      rcases Decidable.em (252 < a + 5 + nl) with hfar | hnear2
      · have HY : Hid (y = ([], 13)) := Lib.hid (by
          rw [if_pos (.inr hfar)] at hsucc
          have h1 := stR_none hsucc (M - (k + 1))
          rw [show k + 1 + (M - (k + 1)) = M by omega] at h1
          rw [HDEC.out, h1])
        clear hsucc
        have hgd : decide ((252 : Int) < (a : Int) + 5 + (nl : Int)) = true := decide_eq_true (by omega)
        go_wp2_with (with_reducible refine HCALL.out.mono ?_; rintro E w1 ⟨rfl, rfl⟩)
        go_ret2
        exact ⟨none, 0, by rw [HY.out]; rfl, by rw [HY.out]; exact OwnX.nil _ _, HBR.out⟩
      · have hgd : decide ((252 : Int) < (a : Int) + 5 + (nl : Int)) = false := decide_eq_false (by omega)
        rw [if_neg (by omega)] at hsucc
        go_wp2_with (with_reducible refine HCALL.out.mono ?_; rintro E w1 ⟨rfl, rfl⟩)
        obtain ⟨ei, hei⟩ : ∃ ei, ei = num2 b a 4 := ⟨_, rfl⟩
        obtain ⟨part, hpart⟩ : ∃ part, part = (b.drop (a + 5)).take nl := ⟨_, rfl⟩
        have hat : ∀ V, Below w.heap.size w V → Calls Try.prog 27 #[.slice (some ⟨b0, off, none⟩) 256 c, .int .i64 (a : Int), .int .i64 4] V fun e w' => e = .returned (.int .i64 (ei : Int)) ∧ V = w' := fun V hV => by
          rw [hei]
          exact rat_any b0 off 256 c B a 4 (a : Int) 4 b V (H.out.below (hV.mono hB)) hc (by omega) rfl rfl (by omega) (by omega) (by omega)
        rw [← hei, ← hpart] at hsucc
        have hconv : ∀ V, Below w.heap.size w V → (convert 24 9 (.slice (some ⟨b0, off + (a + 5), none⟩) nl (c - (a + 5)))).run Try.prog V = .ok (.string ⟨part.toArray⟩) V := fun V hV => by
          rw [hpart]
          exact run_text V B _ nl _ _ (Holds.drop (k := a + 5) (m := nl) (H.out.below (hV.mono hB)) (by omega))
        have hwa5 : IntKind.i64.wrap ((a : Int) + 5) = (a : Int) + 5 := by rw [IntKind.wrap_i64]; omega
        have hwan : IntKind.i64.wrap ((a : Int) + 5 + (nl : Int)) = (a : Int) + 5 + (nl : Int) := by rw [IntKind.wrap_i64]; omega
        have hs1 := fun V => run_slice_mid V b0 off 256 c (a + 5) nl ((a : Int) + 5) ((a : Int) + 5 + (nl : Int)) (by omega) (by omega) (by omega) (by omega) hc
        have hs2 := fun V => run_sliceAt_mid V b0 off 256 c (a + 5) nl ((a : Int) + 5) ((a : Int) + 5 + (nl : Int)) (by omega) (by omega) (by omega) (by omega) hc
        obtain ⟨v', V4, hrun, hown4, hgr⟩ := run_appX wr.drew w.heap.size _ _ (HO.out.below (Below.refl _ wr).drew) ⟨part, (ei : Int)⟩ 22 (by have := HLK.out; omega) (by exact hwr)
        have hl4 : (l ++ [(⟨part, (ei : Int)⟩ : Nm)]).length = k + 1 := by rw [List.length_append, HLK.out]; rfl
        obtain ⟨A4, c4, rfl⟩ := hown4.shape
        rw [hl4] at hrun hown4 hgr
        have hlt4 : ∀ q, (Value.slice Al k cl).ownBlock = some q → w.heap.size ≤ q := fun q hq => (HO.out.lt q hq).1
        have hb4 : Below w.heap.size w V4 := HBR.out.drew.trans (hgr.below (by exact hwr) hlt4)
        obtain ⟨S, hS⟩ : ∃ S : ByteArray, S = ⟨part.toArray⟩ := ⟨_, rfl⟩
        rw [← hS] at hconv
        dsimp only at hrun
        rw [← hS] at hrun
        have HO4 := Lib.hid hown4; clear hown4
        have HB4 := Lib.hid hb4; clear hb4
        have HSUCC := Lib.hid hsucc; clear hsucc
        have HAT := Lib.hid hat; clear hat
        have HCONV := Lib.hid hconv; clear hconv
        clear hS hpart hei hl4 hgr hlt4 qv
        refine wp_region_E (fun V => Below w.heap.size w V) 99 rfl ?_
        have hS := (show Below w.heap.size w wr.drew from HBR.out.drew)
        refine wpE_takeF 0 ⟨some 39, _, _, _, _, _⟩ (v := ?_) (by decide) rfl (by kernel_rfl) (by kernel_rfl) (by kernel_rfl) (fun _ _ _ h => h) hS (Or.inl ⟨by kernel_rfl, ?_⟩) ?_
        rotate_left
        · (intro V hSw; go_simp; try with_reducible rfl)
        try simp only [Act.put]
        refine wpE_takeF 1 ⟨some 40, _, _, _, _, _⟩ (v := ?_) (by decide) rfl (by kernel_rfl) (by kernel_rfl) (by kernel_rfl) (fun _ _ _ h => h) hS (Or.inl ⟨by kernel_rfl, ?_⟩) ?_
        rotate_left
        · (intro V hSw; go_simp; try with_reducible rfl)
        try simp only [Act.put]
        refine wpE_takeF 2 ⟨some 41, _, _, _, _, _⟩ (v := ?_) (by decide) rfl (by kernel_rfl) (by kernel_rfl) (by kernel_rfl) (fun _ _ _ h => h) hS (Or.inl ⟨by kernel_rfl, ?_⟩) ?_
        rotate_left
        · (intro V hSw; go_simp; try with_reducible rfl)
        try simp only [Act.put]
        refine wpE_takeCF 3 ⟨some 42, _, _, _, _, _⟩ (v := .int .i64 (ei : Int)) (by decide) rfl (by kernel_rfl) (by kernel_rfl) (by kernel_rfl) (fun _ _ _ h => h) hS (yieldsC_of (by kernel_rfl) 27 _ _ _ _ rfl Try.func27 (by kernel_rfl) rfl #[.slice (some ⟨b0, off, none⟩) 256 c, .int .i64 (a : Int), .int .i64 4] ?hv (fun V hV => HAT.out V hV)) ?_
        case hv => simp only [List.map_toArray, List.map_cons, List.map_nil]; go_simp
        try simp only [Act.put]
        refine wpE_takeF 4 ⟨some 43, _, _, _, _, _⟩ (v := ?_) (by decide) rfl (by kernel_rfl) (by kernel_rfl) (by kernel_rfl) (fun _ _ _ h => h) hS (Or.inl ⟨by kernel_rfl, ?_⟩) ?_
        rotate_left
        · (intro V hSw; go_simp; try with_reducible rfl)
        try simp only [Act.put]
        refine wpE_takeF 5 ⟨some 44, _, _, _, _, _⟩ (v := ?_) (by decide) rfl (by kernel_rfl) (by kernel_rfl) (by kernel_rfl) (fun _ _ _ h => h) hS (Or.inl ⟨by kernel_rfl, ?_⟩) ?_
        rotate_left
        · (intro V hSw; go_simp; try with_reducible rfl)
        try simp only [Act.put]
        refine wpE_takeF 6 ⟨some 45, _, _, _, _, _⟩ (v := ?_) (by decide) rfl (by kernel_rfl) (by kernel_rfl) (by kernel_rfl) (fun _ _ _ h => h) hS (Or.inl ⟨by kernel_rfl, ?_⟩) ?_
        rotate_left
        · (intro V hSw; go_simp; try with_reducible rfl)
        try simp only [Act.put]
        refine wpE_takeF 7 ⟨some 46, _, _, _, _, _⟩ (v := ?_) (by decide) rfl (by kernel_rfl) (by kernel_rfl) (by kernel_rfl) (fun _ _ _ h => h) hS (Or.inl ⟨by kernel_rfl, ?_⟩) ?_
        rotate_left
        · (intro V hSw; go_simp; try with_reducible rfl)
        try simp only [Act.put]
        refine wpE_takeF 8 ⟨some 47, _, _, _, _, _⟩ (v := ?_) (by decide) rfl (by kernel_rfl) (by kernel_rfl) (by kernel_rfl) (fun _ _ _ h => h) hS (Or.inl ⟨by kernel_rfl, ?_⟩) ?_
        rotate_left
        · (intro V hSw; go_simp; try with_reducible rfl)
        try simp only [Act.put]
        refine wpE_takeF 9 ⟨some 48, _, _, _, _, _⟩ (v := ?_) (by decide) rfl (by kernel_rfl) (by kernel_rfl) (by kernel_rfl) (fun _ _ _ h => h) hS (Or.inl ⟨by kernel_rfl, ?_⟩) ?_
        rotate_left
        · (intro V hSw; go_simp; try with_reducible rfl)
        try simp only [Act.put]
        refine wpE_takeF 10 ⟨some 49, _, _, _, _, _⟩ (v := ?_) (by decide) rfl (by kernel_rfl) (by kernel_rfl) (by kernel_rfl) (fun _ _ _ h => h) hS (Or.inl ⟨by kernel_rfl, ?_⟩) ?_
        rotate_left
        · (intro V hSw; go_simp; try with_reducible rfl)
        try simp only [Act.put]
        refine wpE_takeF 11 ⟨some 50, _, _, _, _, _⟩ (v := ?_) (by decide) rfl (by kernel_rfl) (by kernel_rfl) (by kernel_rfl) (fun _ _ _ h => h) hS (Or.inl ⟨by kernel_rfl, ?_⟩) ?_
        rotate_left
        · (intro V hSw; have hq2 := HCONV.out V hSw; go_simp; try with_reducible rfl)
        try simp only [Act.put]
        refine wpE_takeF 12 ⟨some 51, _, _, _, _, _⟩ (v := ?_) (by decide) rfl (by kernel_rfl) (by kernel_rfl) (by kernel_rfl) (fun _ _ _ h => h) hS (Or.inl ⟨by kernel_rfl, ?_⟩) ?_
        rotate_left
        · (intro V hSw; have hq2 := HCONV.out V hSw; go_simp; try with_reducible rfl)
        try simp only [Act.put]
        refine wpE_takeF 13 ⟨some 52, _, _, _, _, _⟩ (v := ?_) (by decide) rfl (by kernel_rfl) (by kernel_rfl) (by kernel_rfl) (fun _ _ _ h => h) hS (Or.inl ⟨by kernel_rfl, ?_⟩) ?_
        rotate_left
        · (intro V hSw; go_simp; try with_reducible rfl)
        try simp only [Act.put]
        refine wpE_one 14 (by kernel_rfl) rfl (fun K' hK' => ?_)
        go_simp
        refine hK'.out _ _ (show Below w.heap.size w _ from HBR.out.drew.alloc (by have : wr.drew.heap.size = wr.heap.size := rfl; omega) _) (fun hS => ?_)
        clear hK' K'
        try simp only [Act.put]
        refine wpE_one 15 (o := ⟨some 54, _, _, _, _, _⟩) (by kernel_rfl) rfl (fun K' hK' => ?_)
        refine step_builtin (by kernel_rfl) (.tmp 39) (.tmp 53) #[22, 22] rfl (.slice Al k cl) _ _ _ ?hva ?hvb hrun ?_
        case hva => go_simp; try with_reducible rfl
        case hvb => go_simp; try with_reducible rfl
        refine hK'.out _ _ HB4.out (fun hS => ?_)
        clear hK' K'
        try simp only [Act.put]
        refine wpE_takeF 16 ⟨some 4, _, _, _, _, _⟩ (v := ?_) (by decide) rfl (by kernel_rfl) (by kernel_rfl) (by kernel_rfl) (fun _ _ _ h => h) hS (Or.inl ⟨by kernel_rfl, ?_⟩) ?_
        rotate_left
        · (intro V hSw; go_simp; try with_reducible rfl)
        try simp only [Act.put]
        refine wpE_done (by kernel_rfl) ?_ _
        try simp only [List.setIfInBounds_toArray, List.set_cons_succ, List.set_cons_zero]
        go_wp2
        go_roundw
        case rel => exact ⟨k + 1, a + 5 + nl, A4, c4, _, by omega, by go_num, by congr 1; omega, rfl, HSUCC.out, HO4.out, HB4.out⟩
        case measure => simp [intOf]; omega
end Go.Proofs.Ytmnajefioehheaa.Lf
