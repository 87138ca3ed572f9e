/- The list that a block tells, and Decode: the program's calls. -/
import Derived.Test.YtbagocghlijleaaAtTake
import Derived.Test.YtbagocghlijleaaAtDo
namespace Go.Proofs.Ytbagocghlijleaa.At
set_option maxRecDepth 20000
open Go.RowKit
open Go.Proofs.Ytbagocghlijleaa.Mem Go.Proofs.Ytbagocghlijleaa.Crc Go.Proofs.Ytbagocghlijleaa.Rec Go.Proofs.Ytbagocghlijleaa.Reg
open Go.Proofs.Ytbagocghlijleaa.Lf (less zeros nmb)
attribute [local go_sem ↓] ldX_eq stX_eq

set_option maxRecDepth 100000 in
set_option maxHeartbeats 8000000 in
theorem told_any (A : Option Addr) (c B : Nat) (b : List UInt8) (w : World) (h : Holds w B A 256 b) (hB : B ≤ w.heap.size) (hc : 256 ≤ c) :
    Calls Try.prog 35 #[.slice A 256 c] w fun e w' => ∃ A' c', e = .returned (.slice A' (toldP b).length c') ∧ OwnX w' w.heap.size (.slice A' (toldP b).length c') (toldP b) ∧ Below w.heap.size w w' := by
  have hbl := h.1
  obtain ⟨b0, off, rfl, hb0B, -⟩ := h.2 (by omega)
  have hs0 : ∀ W, (Instr.slice 34 (.slice (some ⟨b0, off, none⟩) 256 c) none (some (.int .i64 252)) none).run Try.prog W = .ok (.slice (some ⟨b0, off, none⟩) 252 c) W := fun W => run_slice_first W b0 off 256 c 252 252 rfl (by omega) (by omega)
  obtain ⟨g, hg⟩ : ∃ g, g = w.heap.size := ⟨_, rfl⟩
  obtain ⟨W0, hW0⟩ : ∃ W0, W0 = w.alloc (.cells #[.slice (some ⟨b0, off, none⟩) 252 c] 34) := ⟨_, rfl⟩
  have hz : W0.heap.size = w.heap.size + 1 := by rw [hW0]; simp
  have hb0 : Below w.heap.size w W0 := by rw [hW0]; exact (Below.refl _ w).alloc (Nat.le_refl _) _
  have hbox : W0.heap[w.heap.size]? = some (.cells #[.slice (some ⟨b0, off, none⟩) 252 c] 34 (0, 0)) := by rw [hW0]; exact heap_alloc_new w _
  have hrest0 : Rest W0 g B (b.take 252) := by
    have hl : (b.take 252).length = 252 := by rw [List.length_take]; omega
    refine ⟨b0, off, c, ⟨by rw [hl, hg]; exact hbox, ?_, by rw [hl]; omega, by rw [hl]; omega, by omega⟩⟩
    rw [hl]
    exact Holds.take (h.below (hb0.mono hB)) (by omega)
  have hgb : g < w.heap.size + 1 := by omega
  have hbg : w.heap.size ≤ g := by omega
  clear hbox
  have HW0 := Lib.hid hW0; clear hW0
  have HGG := Lib.hid hg; clear hg
  have HB0 := Lib.hid hb0; clear hb0
  have HREST0 := Lib.hid hrest0; clear hrest0 h
  have hW0s : w.heap.size + 1 ≤ W0.heap.size := by omega
  have htake := take2 g B _ W0 HREST0.out
  have HTAKE := Lib.hid htake; clear htake
  go_enter Try.func35, Try.ntmps35
  go_wp2_with fail
  rw [← HW0.out, ← HGG.out]
  clear hs0
  with_reducible refine HTAKE.out.mono ?_
  rintro E V1 ⟨A1, c1, rfl, hh1, hr1, ht1⟩
  have hV1 : w.heap.size + 1 ≤ V1.heap.size := Nat.le_trans hW0s ht1.size
  have HB1 : Hid (Below w.heap.size w V1) := Lib.hid (HB0.out.trans (ht1.below (by omega) hbg hbg))
  have hnum := numb_any A1 ((b.take 252).take 2).length c1 B ((b.take 252).take 2) V1 hh1 (by rw [List.length_take]; omega)
  obtain ⟨mny, hmny⟩ : ∃ mny, mny = nmb ((b.take 252).take 2) := ⟨_, rfl⟩
  rw [← hmny] at hnum
  have HMNY := Lib.hid hmny; clear hmny
  have HNUM := Lib.hid hnum; clear hnum
  have HR1 := Lib.hid hr1; clear hr1 ht1 hh1 HTAKE
  generalize ((b.take 252).take 2).length = tl0 at HNUM ⊢
  go_wp2_with fail
  with_reducible refine HNUM.out.mono ?_
  rintro E V2 ⟨rfl, rfl⟩
  clear HNUM
  obtain ⟨M, hM⟩ : ∃ M, M = min mny 83 := ⟨_, rfl⟩
  have hmin : ∀ (ts : Array TypeId) (t : TypeId) (W : World), (Builtin.min_ ts t #[.int .i64 (mny : Int), .int .i64 83]).run Try.prog W = .ok (.int .i64 (M : Int)) W := fun ts t W => by
    rw [run_min_int2]
    congr 2
    split <;> omega
  have htold : toldP b = (stP b M).2 := by unfold toldP; rw [hM, HMNY.out]; rfl
  have HTOLD := Lib.hid htold; clear htold
  have hM83 : M ≤ 83 := by omega
  clear hM HMNY
  go_wp2
  go_loopw [6, 19] (fun lv i wr => ∃ (k : Nat) (Al : Option Addr) (cl : Nat), k ≤ M ∧ i = .int .i64 (k : Int) ∧ lv = .slice Al k cl ∧ OwnX wr (w.heap.size + 1) (.slice Al k cl) (stP b k).2 ∧ Rest wr g B (stP b k).1 ∧ w.heap.size + 1 ≤ wr.heap.size ∧ Below w.heap.size w wr) (fun _ i _ => M - (intOf i).toNat)
  case atStart => exact ⟨0, none, 0, Nat.zero_le _, rfl, rfl, OwnX.nil _ _, HR1.out, hV1, HB1.out⟩
  case round =>
    clear HR1 HB1 HREST0
    obtain ⟨U0, hU0⟩ : ∃ U0, U0 = wr := ⟨_, rfl⟩
    subst hU0
    obtain ⟨k, Al, cl, hk, rfl, rfl, hown, hrest, hwr, hbr⟩ := hrel
    rcases Nat.lt_or_ge k M with hlt | hge
    rotate_left
    · obtain rfl : k = M := by omega
      have hkn : ¬ (k : Int) < (k : Int) := by omega
      have HO := Lib.hid (hown.mono (show w.heap.size ≤ w.heap.size + 1 by omega)); clear hown
      have HBR := Lib.hid hbr; clear hbr hrest
      have hsl := stP_len b k
      have HSL := Lib.hid hsl; clear hsl
      go_wp2
      go_ret
      refine ⟨Al, cl, ?_, ?_, HBR.out⟩
      · rw [HTOLD.out, HSL.out]; rfl
      · rw [HTOLD.out, HSL.out]; exact HO.out
    · have hkn : (k : Int) < (M : Int) := by omega
      obtain ⟨R, hR⟩ : ∃ R, R = (stP b k).1 := ⟨_, rfl⟩
      rw [← hR] at hrest
      have HRR := Lib.hid hR; clear hR
      have HOWN := Lib.hid hown; clear hown
      have HBR := Lib.hid hbr; clear hbr
      have htake := take1 g B R U0 hrest
      have HTAKE := Lib.hid htake; clear htake hrest
      go_wp2_with fail
      with_reducible refine HTAKE.out.mono ?_
      rintro E U1 ⟨A1, c1, rfl, hh1, hr1, ht1⟩
      have HO1 := Lib.hid (HOWN.out.tn ht1 hgb)
      have HU1 : Hid (w.heap.size + 1 ≤ U1.heap.size) := Lib.hid (Nat.le_trans hwr ht1.size)
      have HBU1 : Hid (Below w.heap.size w U1) := Lib.hid (HBR.out.trans (ht1.below (by omega) hbg hbg))
      have hnum := numb_any A1 (R.take 1).length c1 B (R.take 1) U1 hh1 (by rw [List.length_take]; omega)
      have hn255 := nmb_one R
      obtain ⟨nl, hnl⟩ : ∃ nl, nl = nmb (R.take 1) := ⟨_, rfl⟩
      rw [← hnl] at hnum hn255
      have HNL := Lib.hid hnl; clear hnl
      have HNUM := Lib.hid hnum; clear hnum
      have htake := take1 g B (R.drop 1) U1 hr1
      have HTAKE1 := Lib.hid htake; clear htake hr1 ht1 hh1 HTAKE
      generalize (R.take 1).length = tl1 at HNUM ⊢
      go_wp2_with fail
      with_reducible refine HNUM.out.mono ?_
      rintro E U1' ⟨rfl, rfl⟩
      clear HNUM
      go_wp2_with fail
      with_reducible refine HTAKE1.out.mono ?_
      rintro E U2 ⟨A2, c2, rfl, hh2, hr2, ht2⟩
      have HO2 := Lib.hid (HO1.out.tn ht2 hgb)
      have HU2 : Hid (w.heap.size + 1 ≤ U2.heap.size) := Lib.hid (Nat.le_trans HU1.out ht2.size)
      have HBU2 : Hid (Below w.heap.size w U2) := Lib.hid (HBU1.out.trans (ht2.below (by have := HU1.out; omega) hbg hbg))
      have hnum := numb_any A2 ((R.drop 1).take 1).length c2 B ((R.drop 1).take 1) U2 hh2 (by rw [List.length_take]; omega)
      have hv255 := nmb_one (R.drop 1)
      obtain ⟨vl, hvl⟩ : ∃ vl, vl = nmb ((R.drop 1).take 1) := ⟨_, rfl⟩
      rw [← hvl] at hnum hv255
      have HVL := Lib.hid hvl; clear hvl
      have HNUM := Lib.hid hnum; clear hnum
      have htake := take_any g B nl ((R.drop 1).drop 1) U2 hr2
      have HTAKE2 := Lib.hid htake; clear htake hr2 ht2 hh2 HTAKE1 HO1
      generalize ((R.drop 1).take 1).length = tl2 at HNUM ⊢
      go_wp2_with fail
      with_reducible refine HNUM.out.mono ?_
      rintro E U2' ⟨rfl, rfl⟩
      clear HNUM
      go_wp2_with fail
      with_reducible refine HTAKE2.out.mono ?_
      rintro E U3 ⟨A3, c3, rfl, hh3, hr3, ht3⟩
      have HO3 := Lib.hid (HO2.out.tn ht3 hgb)
      have HU3 : Hid (w.heap.size + 1 ≤ U3.heap.size) := Lib.hid (Nat.le_trans HU2.out ht3.size)
      have HBU3 : Hid (Below w.heap.size w U3) := Lib.hid (HBU2.out.trans (ht3.below (by have := HU2.out; omega) hbg hbg))
      obtain ⟨part, hpart⟩ : ∃ part, part = ((R.drop 1).drop 1).take nl := ⟨_, rfl⟩
      rw [← hpart] at hh3 ⊢
      have hconv3 := run_text U3 B A3 part.length c3 part hh3
      obtain ⟨SN, hSN⟩ : ∃ SN : ByteArray, SN = ⟨part.toArray⟩ := ⟨_, rfl⟩
      rw [← hSN] at hconv3
      have HPART := Lib.hid hpart; clear hpart
      have HSN := Lib.hid hSN; clear hSN
      have htake := take_any g B vl (((R.drop 1).drop 1).drop nl) U3 hr3
      have HTAKE3 := Lib.hid htake; clear htake hr3 ht3 hh3 HTAKE2 HO2
      generalize part.length = tl3 at hconv3 ⊢
      go_wp2_with fail
      clear hconv3
      with_reducible refine HTAKE3.out.mono ?_
      rintro E U4 ⟨A4, c4, rfl, hh4, hr4, ht4⟩
      have HO4 := Lib.hid (HO3.out.tn ht4 hgb)
      have HU4 : Hid (w.heap.size + 1 ≤ U4.heap.size) := Lib.hid (Nat.le_trans HU3.out ht4.size)
      have HBU4 : Hid (Below w.heap.size w U4) := Lib.hid (HBU3.out.trans (ht4.below (by have := HU3.out; omega) hbg hbg))
      obtain ⟨vpart, hvpart⟩ : ∃ vpart, vpart = (((R.drop 1).drop 1).drop nl).take vl := ⟨_, rfl⟩
      rw [← hvpart] at hh4 ⊢
      have hconv4 := run_text U4 B A4 vpart.length c4 vpart hh4
      obtain ⟨SV, hSV⟩ : ∃ SV : ByteArray, SV = ⟨vpart.toArray⟩ := ⟨_, rfl⟩
      rw [← hSV] at hconv4
      have hent : entP R = ⟨part, vpart⟩ := by unfold entP nameN valN; rw [HPART.out, hvpart, HNL.out, HVL.out]
      have hnext : (stP b (k + 1)).2 = (stP b k).2 ++ [⟨part, vpart⟩] := by rw [← hent, HRR.out]; rfl
      have hrestN : (stP b (k + 1)).1 = (((R.drop 1).drop 1).drop nl).drop vl := by rw [HVL.out, HNL.out, HRR.out]; rfl
      obtain ⟨v', U5, hrun, hown5, hgr⟩ := run_appX U4 (w.heap.size + 1) _ _ HO4.out ⟨part, vpart⟩ 22 (by rw [stP_len]; omega) HU4.out
      rw [← hnext] at hown5
      obtain ⟨A5, c5, rfl⟩ := hown5.shape
      rw [stP_len] at hrun hown5 hgr
      have hlt5 : ∀ q, (Value.slice Al k cl).ownBlock = some q → w.heap.size + 1 ≤ q := fun q hq => (HO4.out.lt q hq).1
      have hr5 : Rest U5 g B (stP b (k + 1)).1 := by
        rw [hrestN]
        exact hr4.grown hgr.1 (fun q hq => by have := hlt5 q hq; omega)
      have hb5 : Below w.heap.size w U5 := HBU4.out.trans (hgr.below (by have := HU4.out; omega) (fun q hq => by have := hlt5 q hq; omega))
      have HU5 : Hid (w.heap.size + 1 ≤ U5.heap.size) := Lib.hid (Nat.le_trans HU4.out hgr.1.size)
      dsimp only at hrun
      rw [← HSN.out, ← hSV] at hrun
      have HO5 := Lib.hid hown5; clear hown5
      have HR5 := Lib.hid hr5; clear hr5
      have HB5 := Lib.hid hb5; clear hb5
      clear hSV hvpart hent hnext hrestN hgr hlt5 hh4 hr4 ht4 HTAKE3 HO3
      generalize vpart.length = tl4 at hconv4 ⊢
      go_wp2_with (at_builtin; refine wpList_apprun rfl _ _ _ _ (by rfl) _ _ (by rfl) (by rfl) _ _ hrun ?_)
      go_wp2
      go_roundw
      case rel => exact ⟨k + 1, A5, c5, by omega, by go_num, rfl, HO5.out, HR5.out, HU5.out, HB5.out⟩
      case measure => simp [intOf]; omega

def eqB (a b : List UInt8) : Bool := decide (a = b)
theorem equal_any (A A' : Option Addr) (n n' c c' B B' : Nat) (bs bs' : List UInt8) (w : World) (h : Holds w B A n bs) (h' : Holds w B' A' n' bs') :
    Calls Try.prog 36 #[.slice A n c, .slice A' n' c'] w fun e w' => e = .returned (.bool (eqB bs bs')) ∧ w = w' := by
  have t1 := run_text w B A n c bs h
  have t2 := run_text w B' A' n' c' bs' h'
  clear h h'
  unfold eqB
  by_cases heq : bs = bs'
  · subst heq
    go_enter Try.func36, Try.ntmps36
    go_wp2
    go_ret
    exact ⟨by simp, rfl⟩
  · have hne : (⟨bs.toArray⟩ : ByteArray) ≠ ⟨bs'.toArray⟩ := by
      intro e
      injection e with e
      exact heq (by simpa using congrArg Array.toList e)
    have hd : decide (bs = bs') = false := by simpa using heq
    go_enter Try.func36, Try.ntmps36
    go_wp2
    go_ret
    exact ⟨by simp [heq], rfl⟩
theorem toldP_len (b : List UInt8) : (toldP b).length ≤ 83 := by unfold toldP; rw [stP_len]; omega
theorem enc_two (l : List Pr) : (enc l).2 = 0 ∨ (enc l).2 = 1 ∨ (enc l).2 = 15 := by
  unfold enc
  split
  · split
    · exact .inl rfl
    · exact .inr (.inr rfl)
  · exact .inr (.inl rfl)

set_option maxRecDepth 100000 in
set_option maxHeartbeats 1000000 in
theorem decode_any (A : Option Addr) (n c B : Nat) (b : List UInt8) (w : World) (h : Holds w B A n b) (hB : B ≤ w.heap.size) (hc : n ≤ c) (hn : n ≤ 140737488355328) :
    Calls Try.prog 18 #[.slice A n c] w (Pairs2 w (decP b)) := by
  obtain ⟨y, hy⟩ : ∃ y, y = decP b := ⟨_, rfl⟩
  rw [← hy]
  have hbl := h.1
  by_cases h256 : n = 256
  · subst h256
    have hdec : y = decL b (toldP b) := by rw [hy]; unfold decP; rw [if_pos hbl]
    clear hy
    have htold := told_any A c B b w h hB hc
    have hlen := toldP_len b
    obtain ⟨l, hl⟩ : ∃ l, l = toldP b := ⟨_, rfl⟩
    rw [← hl] at hdec htold hlen
    clear hl
    have HTOLD := Lib.hid htold; clear htold
    have HDEC := Lib.hid hdec; clear hdec
    have H := Lib.hid h; clear h
    go_enter Try.func18, Try.ntmps18
    go_wp2_with fail
    with_reducible refine HTOLD.out.mono ?_
    rintro E w1 ⟨A1, c1, rfl, ho1, hb1⟩
    have henc := encode_any A1 l.length c1 w1.heap.size l w1 ho1.reads (Nat.le_refl _) (by omega)
    obtain ⟨n1, hn1⟩ : ∃ n1, n1 = l.length := ⟨_, rfl⟩
    rw [← hn1] at henc ho1 hlen ⊢
    have HN1 := Lib.hid hn1; clear hn1
    have HENC := Lib.hid henc; clear henc HTOLD
    have HO1 := Lib.hid ho1; clear ho1
    have HB1 := Lib.hid hb1; clear hb1
    go_wp2_with fail
    with_reducible refine HENC.out.mono ?_
    rintro E w2 ⟨A2, c2, rfl, ho2, hb2⟩
    have hb2' : Below w.heap.size w w2 := HB1.out.trans (hb2.mono HB1.out.size)
    have ho1' := HO1.out.below hb2
    have HB2 := Lib.hid hb2'; clear hb2'
    have HO1' := Lib.hid ho1'; clear ho1'
    have heq := equal_any A A2 256 (enc l).1.length c c2 B w2.heap.size b (enc l).1 w2 (H.out.below (HB2.out.mono hB)) (Owned.reads ho2)
    clear hb2 ho2 HENC
    rcases Decidable.em (enc l = (b, 0)) with hyes | hno
    · have hq : eqB b (enc l).1 = true := by rw [hyes]; exact decide_eq_true rfl
      rw [hq] at heq
      have hz : (enc l).2 = 0 := by rw [hyes]
      have HY : Hid (y = (l, 0)) := Lib.hid (by rw [HDEC.out, decL_zero hyes])
      clear hyes hq
      rw [hz]
      clear hz
      generalize (enc l).1.length = n2 at heq ⊢
      have HEQ := Lib.hid heq; clear heq
      go_wp2_with (with_reducible refine HEQ.out.mono ?_; rintro E w3 ⟨rfl, rfl⟩)
      go_ret2
      refine ⟨A1, c1, ?_, ?_, HB2.out⟩
      · rw [HY.out, ← HN1.out]; rfl
      · rw [HY.out, ← HN1.out]; exact HO1'.out
    · have HY : Hid (y = ([], 13)) := Lib.hid (by rw [HDEC.out, decL_not hno])
      rcases enc_two l with hz | hz | hz
      · have hq : eqB b (enc l).1 = false := decide_eq_false (fun e => hno (by rw [Prod.ext_iff]; exact ⟨e.symm, hz⟩))
        rw [hq] at heq
        rw [hz]
        clear hz hq hno
        generalize (enc l).1.length = n2 at heq ⊢
        have HEQ := Lib.hid heq; clear heq
        go_wp2_with (with_reducible refine HEQ.out.mono ?_; rintro E w3 ⟨rfl, rfl⟩)
        go_ret2
        exact ⟨none, 0, by rw [HY.out]; rfl, by rw [HY.out]; exact OwnX.nil _ _, HB2.out⟩
      · rw [hz]
        clear hz hno heq
        generalize (enc l).1.length = n2
        go_wp2
        go_ret2
        exact ⟨none, 0, by rw [HY.out]; rfl, by rw [HY.out]; exact OwnX.nil _ _, HB2.out⟩
      · rw [hz]
        clear hz hno heq
        generalize (enc l).1.length = n2
        go_wp2
        go_ret2
        exact ⟨none, 0, by rw [HY.out]; rfl, by rw [HY.out]; exact OwnX.nil _ _, HB2.out⟩
  · have HY : Hid (y = ([], 13)) := Lib.hid (by rw [hy]; unfold decP; rw [if_neg (by omega)])
    have hne : ((n : Int) == 256) = false := beq_false_of_ne (by omega)
    have hne2 : ((n : Int) != 256) = true := bne_iff_ne.2 (by omega)
    clear hy h
    go_enter Try.func18, Try.ntmps18
    go_wp2
    go_ret2
    exact ⟨none, 0, by rw [HY.out]; rfl, by rw [HY.out]; exact OwnX.nil _ _, Below.refl _ _⟩
end Go.Proofs.Ytbagocghlijleaa.At
