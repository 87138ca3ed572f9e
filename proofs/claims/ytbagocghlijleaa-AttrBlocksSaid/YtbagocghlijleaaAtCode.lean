/- The block of a right list that fits, and Encode: the program's calls. -/
import Derived.Test.YtbagocghlijleaaAtBuf
namespace Go.Proofs.Ytbagocghlijleaa.At
set_option maxRecDepth 20000
open Go.RowKit
open Go.Proofs.Ytbagocghlijleaa.Mem Go.Proofs.Ytbagocghlijleaa.Crc Go.Proofs.Ytbagocghlijleaa.Rec Go.Proofs.Ytbagocghlijleaa.Reg
open Go.Proofs.Ytbagocghlijleaa.Lf (less zeros)
attribute [local go_sem ↓] ldX_eq stX_eq

set_option maxRecDepth 100000 in
set_option maxHeartbeats 4000000 in
theorem coded_any (A : Option Addr) (n c B : Nat) (l : List Pr) (w : World) (h : HoldsX w B A n l) (hB : B ≤ w.heap.size) (hr : right l = true) (hs : sizeL l ≤ 250) :
    Calls Try.prog 32 #[.slice A n c] w (Made w (blockL l)) := by
  have hln := h.1
  have hok : ∀ x ∈ l, okP x = true := ((right_iff l).1 hr).1
  have h3 := sizeL_ge l hok
  obtain ⟨N, hN⟩ : ∃ N, N = l.length := ⟨_, rfl⟩
  rw [← hN] at h3 hln
  subst hln
  obtain ⟨Z, hZ⟩ : ∃ Z, Z = sizeL l := ⟨_, rfl⟩
  rw [← hZ] at h3 hs
  have HN := Lib.hid hN; clear hN
  have HZ := Lib.hid hZ; clear hZ
  have HOK := Lib.hid hok; clear hok
  have H := Lib.hid h; clear h
  have hmk := run_make_room w
  obtain ⟨r, hrr⟩ : ∃ r, r = w.heap.size := ⟨_, rfl⟩
  obtain ⟨W0, hW0⟩ : ∃ W0, W0 = w.alloc (.cells room256 5) := ⟨_, rfl⟩
  have hrow : RowB W0 r [] := ⟨by simp, room256, by rw [hW0, hrr]; exact heap_alloc_new w _, room_size, by simp⟩
  have hb0 : Below w.heap.size w W0 := by rw [hW0]; exact (Below.refl _ w).alloc (Nat.le_refl _) _
  rw [← hW0, ← hrr] at hmk
  obtain ⟨post, hpost⟩ : ∃ post, post = Made w (blockL l) := ⟨_, rfl⟩
  rw [← hpost]
  have HP := Lib.hid hpost; clear hpost
  have HR := Lib.hid hrr; clear hrr
  have HB0 := Lib.hid hb0; clear hb0
  have HBR : Hid (w.heap.size ≤ r) := Lib.hid (by have := HR.out; omega)
  clear hW0
  have hw1 : IntKind.u64.wrap (N : Int) = (N : Int) := by rw [IntKind.wrap_u64]; omega
  have p1 := putR2 r [] N W0 hrow (by simp) 34
  have P1 := Lib.hid p1; clear p1 hrow
  go_enter Try.func32, Try.ntmps32
  go_wp2_with fail
  with_reducible refine P1.out.mono ?_
  rintro E V1 ⟨A1, c1, W1, rfl, hrun, hr1, ht1⟩
  have HB1 : Hid (Below w.heap.size w W1) := Lib.hid (HB0.out.trans (ht1.below HB0.out.size HBR.out HBR.out))
  simp only [List.nil_append, List.length_nil, Nat.zero_add] at hrun hr1
  have hr1' : RowB W1 r (headB l 0) := by
    have e : headB l 0 = bytesL N 2 := by unfold headB; rw [← HN.out]; simp [codes]
    rw [e]; exact hr1
  have HR1 := Lib.hid hr1'; clear hr1' hr1 ht1 hmk P1
  go_wp2_with (at_builtin; refine wpList_apprun rfl _ _ _ _ (by rfl) _ _ (by rfl) (by rfl) _ _ hrun ?_)
  clear hrun
  go_wp2
  go_loopw [3, 15] (fun s i wr => ∃ k : Nat, k ≤ N ∧ s = .slice (some ⟨r, 0, none⟩) (headB l k).length 256 ∧ i = .int .i64 (k : Int) ∧ RowB wr r (headB l k) ∧ Below w.heap.size w wr) (fun _ i _ => N - (intOf i).toNat)
  case atStart => exact ⟨0, Nat.zero_le _, by rw [headB_len]; rfl, rfl, HR1.out, HB1.out⟩
  case round =>
    obtain ⟨k, hk, rfl, rfl, hrow, hbr2⟩ := hrel
    have HROW := Lib.hid hrow; clear hrow
    rcases Nat.lt_or_ge k N with hlt | hge
    · obtain ⟨b, off, rfl, hbB⟩ := H.out.addr (by omega)
      have hkl : k < l.length := by have := HN.out; omega
      obtain ⟨e, he⟩ : ∃ e, e = l[k] := ⟨_, rfl⟩
      have hh := H.out.below (hbr2.mono hB)
      have hld := run_ldX_at hh k hkl (off + k * 2) rfl
      rw [← he] at hld
      have hst := run_stX_new wr e
      obtain ⟨We, hWe⟩ : ∃ We, We = wr.alloc (.cells e.c 24) := ⟨_, rfl⟩
      have hvar : VarX We wr.heap.size e := by rw [hWe]; exact VarX.new wr e
      have hb1 : Below w.heap.size w We := by rw [hWe]; exact hbr2.alloc hbr2.size _
      have hrow1 : RowB We r (headB l k) := HROW.out.below (by rw [hWe]; exact (Below.refl _ wr).alloc (Nat.le_refl _) _)
      have hrlt : r < wr.heap.size := HROW.out.lt
      obtain ⟨m1, m2, m3⟩ := okP_iff.1 (HOK.out e (he ▸ List.getElem_mem hkl))
      have hnext : headB l (k + 1) = ((headB l k ++ bytesL e.t.length 1) ++ bytesL e.v.length 1) ++ e.t ++ e.v := by
        unfold headB
        rw [codes_take l k hkl, ← he]
        unfold codeE
        simp only [List.append_assoc]
      have hlen : (headB l k).length + 2 + e.t.length + e.v.length ≤ 252 := by
        have h1 := headB_len l (k + 1)
        rw [hnext] at h1
        simp only [List.length_append, bytesL_len] at h1
        have h2 : sizeL (l.take (k + 1)) ≤ sizeL l := by
          have h3 : sizeL l = sizeL (l.take (k + 1)) + sizeL (l.drop (k + 1)) := by rw [← sizeL_app, List.take_append_drop]
          omega
        have := HZ.out
        omega
      have hnl : (headB l (k + 1)).length = (headB l k).length + 1 + 1 + e.t.length + e.v.length := by rw [hnext]; simp only [List.length_append, bytesL_len]
      clear hh he
      have HNEXT := Lib.hid hnext; clear hnext
      have HNL := Lib.hid hnl; clear hnl
      generalize headB l k = P at hlen hrow1 HNEXT HNL HROW ⊢
      obtain ⟨S, hS⟩ : ∃ S : ByteArray, S = ⟨e.t.toArray⟩ := ⟨_, rfl⟩
      obtain ⟨U, hU⟩ : ∃ U : ByteArray, U = ⟨e.v.toArray⟩ := ⟨_, rfl⟩
      have hSs : S.size = e.t.length := by rw [hS, text_size]
      have hSd : S.data.toList = e.t := by rw [hS]
      have hUs : U.size = e.v.length := by rw [hU, text_size]
      have hUd : U.data.toList = e.v := by rw [hU]
      rw [← hSs, ← hUs] at hlen HNL
      rw [← hSd, ← hUd, show S.data.toList.length = S.size from Array.length_toList, show U.data.toList.length = U.size from Array.length_toList] at HNEXT
      have hws : IntKind.u64.wrap (S.size : Int) = (S.size : Int) := by rw [IntKind.wrap_u64]; omega
      have hwu : IntKind.u64.wrap (U.size : Int) = (U.size : Int) := by rw [IntKind.wrap_u64]; omega
      have hkeep : ∀ V, VarX V wr.heap.size e → V.cell? ⟨wr.heap.size, 0, none⟩ = some (.string S) ∧ V.cell? ⟨wr.heap.size, 1, none⟩ = some (.string U) := fun V hV => by
        have := hV.cells
        rw [← hS, ← hU] at this
        exact this
      have HKEEP := Lib.hid hkeep; clear hkeep
      obtain ⟨M, hM⟩ : ∃ M, M = P.length := ⟨_, rfl⟩
      have p3 := putR1 r P S.size We hrow1 (by omega) 34
      rw [← hM] at p3 hlen HNL ⊢
      have P3 := Lib.hid p3; clear p3
      have HM := Lib.hid hM; clear hM
      clear hS hU hSs hSd hUs hUd m1 m2 m3 hrow1
      have hk0 : (0 : Int) ≤ (k : Int) := by omega
      have hkn : (k : Int) < (N : Int) := by omega
      obtain ⟨q0, -⟩ := HKEEP.out _ hvar
      rw [hWe] at q0
      have HWE := Lib.hid hWe; clear hWe
      have HVAR := Lib.hid hvar; clear hvar
      have HB1e := Lib.hid hb1; clear hb1 hbr2
      have hWes : w.heap.size ≤ We.heap.size := HB1e.out.size
      obtain ⟨C, hC⟩ : ∃ C, C = e.c := ⟨_, rfl⟩
      rw [← hC] at hld hst q0 HWE
      have HC := Lib.hid hC; clear hC
      go_wp2_with fail
      rw [← HWE.out]
      with_reducible refine P3.out.mono ?_
      rintro E V3 ⟨A3, c3, W3, rfl, hrun, hr3, ht3⟩
      have HB3 : Hid (Below w.heap.size w W3) := Lib.hid (HB1e.out.trans (ht3.below hWes HBR.out HBR.out))
      have hv3 : VarX W3 wr.heap.size e := (ht3.block _ HVAR.out.lt (by omega) (by omega)).trans HVAR.out
      obtain ⟨-, q1⟩ := HKEEP.out _ hv3
      have p4 := putR1 r (P ++ bytesL S.size 1) U.size W3 hr3 (by rw [List.length_append, bytesL_len]; have := HM.out; omega) 34
      rw [List.length_append, bytesL_len, ← HM.out] at p4
      have P4 := Lib.hid p4; clear p4 hr3 P3 hld hst q0
      have HV3 := Lib.hid hv3; clear hv3
      clear ht3
      go_wp2_with (at_builtin; refine wpList_apprun rfl _ _ _ _ (by rfl) _ _ (by rfl) (by rfl) _ _ hrun ?_)
      clear hrun
      go_wp2_with fail
      with_reducible refine P4.out.mono ?_
      rintro E V4 ⟨A4, c4, W4, rfl, hrun, hr4, ht4⟩
      have HB4 : Hid (Below w.heap.size w W4) := Lib.hid (HB3.out.trans (ht4.below HB3.out.size HBR.out HBR.out))
      have hv4 : VarX W4 wr.heap.size e := (ht4.block _ HV3.out.lt (by omega) (by omega)).trans HV3.out
      obtain ⟨q0, -⟩ := HKEEP.out _ hv4
      have h4l : ((P ++ bytesL S.size 1) ++ bytesL U.size 1).length = M + 1 + 1 := by simp only [List.length_append, bytesL_len, ← HM.out]
      obtain ⟨W5, hrun5, hr5, ht5⟩ := run_addR_text hr4 S (by rw [h4l]; omega) 34 r
      have h5l : (((P ++ bytesL S.size 1) ++ bytesL U.size 1) ++ S.data.toList).length = M + 1 + 1 + S.size := by rw [List.length_append, h4l, show S.data.toList.length = S.size from Array.length_toList]
      have HB5 : Hid (Below w.heap.size w W5) := Lib.hid (HB4.out.trans (ht5.below HB4.out.size HBR.out HBR.out))
      have hv5 : VarX W5 wr.heap.size e := (ht5.block _ hv4.lt (by omega) (by omega)).trans hv4
      obtain ⟨-, q5⟩ := HKEEP.out _ hv5
      obtain ⟨W6, hrun6, hr6, ht6⟩ := run_addR_text hr5 U (by rw [h5l]; omega) 34 r
      have HB6 : Hid (Below w.heap.size w W6) := Lib.hid (HB5.out.trans (ht6.below HB5.out.size HBR.out HBR.out))
      have h6l : ((((P ++ bytesL S.size 1) ++ bytesL U.size 1) ++ S.data.toList) ++ U.data.toList).length = M + 1 + 1 + S.size + U.size := by rw [List.length_append, h5l, show U.data.toList.length = U.size from Array.length_toList]
      unfold slB at hrun5 hrun6
      rw [h4l, h5l] at hrun5
      rw [h5l, h6l] at hrun6
      rw [← HNEXT.out] at hr6
      have HR6 := Lib.hid hr6; clear hr6 hr5 hr4 ht4 ht5 ht6 hv4 hv5 h4l h5l h6l P4
      go_wp2_with (at_builtin; first | (refine wpList_apprun rfl _ _ _ _ (by rfl) _ _ (by rfl) (by rfl) _ _ hrun ?_) | (refine wpList_apprun rfl _ _ _ _ (by rfl) _ _ (by rfl) (by rfl) _ _ hrun5 ?_) | (refine wpList_apprun rfl _ _ _ _ (by rfl) _ _ (by rfl) (by rfl) _ _ hrun6 ?_))
      clear hrun hrun5 hrun6 q5 q0
      go_wp2
      go_roundw
      case rel => exact ⟨k + 1, by omega, by rw [HNL.out], by go_num, HR6.out, HB6.out⟩
      case measure => simp [intOf]; omega
    · obtain rfl : k = N := by omega
      have hP : headB l k = headB l l.length := by rw [HN.out]
      have hrow := HROW.out
      have hpl := headB_len l l.length
      rw [List.take_length, ← HZ.out] at hpl
      rw [hP] at hrow ⊢
      have hbd : body l = headB l l.length ++ zeros (250 - Z) := by unfold body; rw [← HZ.out]
      clear hP HROW
      generalize headB l l.length = P at hrow hpl hbd ⊢
      obtain ⟨V5, hrun, hr5, ht5⟩ := run_addR_zeros hrow (250 - Z) (by omega) 34 r
      rw [← hbd] at hrun hr5
      have hbl : (body l).length = 252 := body_len (by rw [← HZ.out]; exact hs)
      have HB5 : Hid (Below w.heap.size w V5) := Lib.hid (hbr2.trans (ht5.below hbr2.size HBR.out HBR.out))
      unfold slB at hrun
      rw [hpl, hbl, show ((250 - Z : Nat) : Int) = 252 - ((2 + Z : Nat) : Int) by omega] at hrun
      rw [hpl]
      have hsum := sum_any (some ⟨r, 0, none⟩) 252 256 (body l) V5 (by have := hr5.reads; rwa [hbl] at this) (by unfold maxLen; omega)
      obtain ⟨sm, hsm⟩ : ∃ sm, sm = Crc.sum (body l) := ⟨_, rfl⟩
      rw [← hsm] at hsum
      have hsl := sum_lt (body l)
      rw [← hsm] at hsl
      have hws : IntKind.u64.wrap (sm : Int) = (sm : Int) := by rw [IntKind.wrap_u64]; omega
      have HSUM := Lib.hid hsum; clear hsum
      have HR5 := Lib.hid hr5; clear hr5 ht5
      have HSM := Lib.hid hsm; clear hsm
      have HBL := Lib.hid hbl; clear hbl
      clear hbd hrow hpl hbr2
      obtain ⟨M, hM⟩ : ∃ M, M = 2 + Z := ⟨_, rfl⟩
      rw [← hM] at hrun ⊢
      have hM2 : (M : Int) ≤ 252 := by omega
      have hw9 : IntKind.i64.wrap (252 - (M : Int)) = 252 - (M : Int) := by rw [IntKind.wrap_i64]; omega
      clear hM
      have hkk : ¬ (k : Int) < (k : Int) := by omega
      go_wp2_with (at_builtin; refine wpList_apprun rfl _ _ _ _ (by rfl) _ _ (by rfl) (by rfl) _ _ hrun ?_)
      clear hrun
      go_wp2_with fail
      with_reducible refine HSUM.out.mono ?_
      rintro E V6 ⟨rfl, hb6⟩
      have HB6 : Hid (Below w.heap.size w V6) := Lib.hid (HB5.out.trans (hb6.mono HB5.out.size))
      have p7 := putR4 r (body l) sm V6 (HR5.out.below hb6) (by rw [HBL.out]; omega) 34
      rw [HBL.out] at p7
      have P7 := Lib.hid p7; clear p7 hb6 HSUM
      go_wp2_with fail
      with_reducible refine P7.out.mono ?_
      rintro E V7 ⟨A7, c7, W7, rfl, hrun, hr7, ht7⟩
      have HB7 : Hid (Below w.heap.size w W7) := Lib.hid (HB6.out.trans (ht7.below HB6.out.size HBR.out HBR.out))
      have HR7 := Lib.hid hr7; clear hr7 ht7 P7
      go_wp2_with (at_builtin; refine wpList_apprun rfl _ _ _ _ (by rfl) _ _ (by rfl) (by rfl) _ _ hrun ?_)
      clear hrun
      go_wp2
      rw [HP.out]
      have hix : blockL l = body l ++ bytesL sm 4 := by unfold blockL; rw [HSM.out]
      have hil : (blockL l).length = 256 := by rw [hix, List.length_append, HBL.out, bytesL_len]
      have ho := HR7.out.owned HBR.out
      rw [← hix, hil] at ho
      refine ⟨some ⟨r, 0, none⟩, 256, ?_, ?_, HB7.out⟩
      · rw [hil]; rfl
      · rw [hil]; exact ho

theorem owned_nil (w : World) (base : Nat) : Owned w base (.slice none 0 0) [] := ⟨rfl, .inl ⟨rfl, rfl⟩⟩
/-- Bytes and an error, as answered. -/
def Bytes2 (w : World) (y : List UInt8 × Int) (e : Ending) (w' : World) : Prop :=
  ∃ A c, e = .returned (.tuple #[.slice A y.1.length c, .int .i64 y.2]) ∧ Owned w' w.heap.size (.slice A y.1.length c) y.1 ∧ Below w.heap.size w w'
set_option maxRecDepth 100000 in
set_option maxHeartbeats 1000000 in
theorem encode_any (A : Option Addr) (n c B : Nat) (l : List Pr) (w : World) (h : HoldsX w B A n l) (hB : B ≤ w.heap.size) (hn : n ≤ 4398046511104) :
    Calls Try.prog 16 #[.slice A n c] w (Bytes2 w (enc l)) := by
  have hright := right_any A n c B l w h hB hn
  obtain ⟨post, hpost⟩ : ∃ post, post = Bytes2 w (enc l) := ⟨_, rfl⟩
  rw [← hpost]
  have HP := Lib.hid hpost; clear hpost
  cases hq : right l with
  | false =>
    rw [hq] at hright
    have HE := Lib.hid (enc_not hq)
    have HS := Lib.hid hright; clear hright h
    go_enter Try.func16, Try.ntmps16
    go_wp2_with (with_reducible refine HS.out.mono ?_; rintro E w1 ⟨rfl, hb⟩)
    rw [HP.out, HE.out]
    exact ⟨none, 0, rfl, owned_nil _ _, hb⟩
  | true =>
    rw [hq] at hright
    have hok := ((right_iff l).1 hq).1
    have hfit := fun V (hV : Below w.heap.size w V) => fits_any A n c B l V (h.below (hV.mono hB)) (Nat.le_trans hB hV.size) hok hn
    have hcoded := fun V (hV : Below w.heap.size w V) (hz : sizeL l ≤ 250) => coded_any A n c B l V (h.below (hV.mono hB)) (Nat.le_trans hB hV.size) hq hz
    have HS := Lib.hid hright; clear hright h
    have HF := Lib.hid hfit; clear hfit
    have HC := Lib.hid hcoded; clear hcoded hok
    by_cases hz : sizeL l ≤ 250
    · have HE := Lib.hid (enc_yes hq hz)
      have HC2 : Hid (∀ V, Below w.heap.size w V → Calls Try.prog 32 #[.slice A n c] V (Made V (blockL l))) := Lib.hid fun V hV => HC.out V hV hz
      clear HC
      simp only [decide_eq_true hz] at HF
      clear hz hq
      go_enter Try.func16, Try.ntmps16
      go_wp2_with fail
      with_reducible refine HS.out.mono ?_
      rintro E w1 ⟨rfl, hb1⟩
      have HB1 := Lib.hid hb1; clear hb1 HS
      go_wp2_with fail
      with_reducible refine (HF.out w1 HB1.out).mono ?_
      rintro E w2 ⟨rfl, hb2⟩
      have HB2 : Hid (Below w.heap.size w w2) := Lib.hid (HB1.out.trans (hb2.mono HB1.out.size))
      clear hb2
      go_wp2_with fail
      with_reducible refine (HC2.out w2 HB2.out).mono ?_
      rintro E w3 ⟨A', c', rfl, ho, hb3⟩
      have HB3 : Hid (Below w.heap.size w w3) := Lib.hid (HB2.out.trans (hb3.mono HB2.out.size))
      have HO := Lib.hid (Owned.mono ho HB2.out.size); clear ho hb3
      go_wp2
      rw [HP.out, HE.out]
      exact ⟨A', c', rfl, HO.out, HB3.out⟩
    · have HE := Lib.hid (enc_far hq (by omega))
      simp only [decide_eq_false hz] at HF
      clear hz hq HC
      go_enter Try.func16, Try.ntmps16
      go_wp2_with fail
      with_reducible refine HS.out.mono ?_
      rintro E w1 ⟨rfl, hb1⟩
      have HB1 := Lib.hid hb1; clear hb1 HS
      go_wp2_with fail
      with_reducible refine (HF.out w1 HB1.out).mono ?_
      rintro E w2 ⟨rfl, hb2⟩
      have HB2 : Hid (Below w.heap.size w w2) := Lib.hid (HB1.out.trans (hb2.mono HB1.out.size))
      clear hb2
      go_wp2
      rw [HP.out, HE.out]
      exact ⟨none, 0, rfl, owned_nil _ _, HB2.out⟩
end Go.Proofs.Ytbagocghlijleaa.At
