/- The document's without, Drop and Get. -/
import Derived.Test.YtbagocghlijleaaAtRRight
import Derived.Test.YtbagocghlijleaaAtWo
import Derived.Test.YtbagocghlijleaaAtDo
namespace Go.Proofs.Ytbagocghlijleaa.At
set_option maxRecDepth 20000
set_option linter.unusedSimpArgs false
open Go.RowKit
open Go.Proofs.Ytbagocghlijleaa.Mem Go.Proofs.Ytbagocghlijleaa.Crc Go.Proofs.Ytbagocghlijleaa.Rec Go.Proofs.Ytbagocghlijleaa.Reg
open Go.Proofs.Ytbagocghlijleaa.Lf (less)
attribute [local go_sem ↓] ldX_eq stX_eq

/-- A list without a name, and whether it was there. -/
def Pairs1 (w : World) (l m : List Pr) (e : Ending) (w' : World) : Prop :=
  ∃ A c, e = .returned (.tuple #[.slice A m.length c, .bool (decide (m.length < l.length))]) ∧ OwnX w' w.heap.size (.slice A m.length c) m ∧ Below w.heap.size w w'
set_option maxRecDepth 100000 in
set_option maxHeartbeats 8000000 in
theorem rwithout_any (A : Option Addr) (n c B : Nat) (l : List Pr) (S : ByteArray) (w : World) (h : HoldsX w B A n l) (hB : B ≤ w.heap.size) (hn : n ≤ 4398046510976) :
    Calls Try.prog 28 #[.slice A n c, .string S] w (Pairs1 w l (woL l S.data.toList)) := by
  have hln := h.1
  obtain ⟨post, hpost⟩ : ∃ post, post = Pairs1 w l (woL l S.data.toList) := ⟨_, rfl⟩
  rw [← hpost]
  have HP := Lib.hid hpost; clear hpost
  have hh : ∀ V, Below w.heap.size w V → HoldsX V B A n l := fun V hV => h.below (hV.mono hB)
  have HH := Lib.hid hh; clear hh
  have H := Lib.hid h; clear h
  have HLN := Lib.hid hln; clear hln
  obtain ⟨t, ht⟩ : ∃ t, t = S.data.toList := ⟨_, rfl⟩
  rw [← ht] at HP
  have hst : S.toList = t := by rw [ht]; simp [ByteArray.toList_eq]
  have HST := Lib.hid hst; clear hst ht
  have hwl := fun k => Nat.le_trans (woL_len (l.take k) t) (show (l.take k).length ≤ k by rw [List.length_take]; omega)
  have HWL := Lib.hid hwl; clear hwl
  go_enter Try.func28, Try.ntmps28
  go_wp2
  go_loopw [6, 7] (fun lv i wr => ∃ (k : Nat) (Al : Option Addr) (cl : Nat), k ≤ n ∧ i = .int .i64 (k : Int) ∧ lv = .slice Al (woL (l.take k) t).length cl ∧ OwnX wr w.heap.size (.slice Al (woL (l.take k) t).length cl) (woL (l.take k) t) ∧ Below w.heap.size w wr) (fun _ i _ => n - (intOf i).toNat)
  case atStart => exact ⟨0, none, 0, Nat.zero_le _, rfl, rfl, OwnX.nil _ _, Below.refl _ _⟩
  case round =>
    obtain ⟨U0, hU0⟩ : ∃ U0, U0 = wr := ⟨_, rfl⟩
    subst hU0
    obtain ⟨k, Al, cl, hk, rfl, rfl, hown, hbr⟩ := hrel
    have HO := Lib.hid hown; clear hown
    have HBR := Lib.hid hbr; clear hbr
    rcases Nat.lt_or_ge k n with hlt | hge
    rotate_left
    · have hkn : ¬ (k : Int) < (n : Int) := by omega
      have hall : l.take k = l := List.take_of_length_le (by have := HLN.out; omega)
      rw [hall] at HO ⊢
      clear hall
      obtain ⟨m, hm⟩ : ∃ m, m = woL l t := ⟨_, rfl⟩
      rw [← hm] at HO HP ⊢
      clear hm
      obtain ⟨ml, hml⟩ : ∃ ml, ml = m.length := ⟨_, rfl⟩
      rw [← hml] at HO ⊢
      have HML := Lib.hid hml; clear hml
      go_wp2
      rw [HP.out]
      exact ⟨Al, cl, by rw [← HML.out, HLN.out], by rw [← HML.out]; exact HO.out, HBR.out⟩
    · obtain ⟨b, off, rfl, hbB⟩ := H.out.addr (by omega)
      have hkl : k < l.length := by have := HLN.out; omega
      obtain ⟨e, he⟩ : ∃ e, e = l[k] := ⟨_, rfl⟩
      obtain ⟨E, hE⟩ : ∃ E : ByteArray, E = ⟨e.t.toArray⟩ := ⟨_, rfl⟩
      obtain ⟨V, hV⟩ : ∃ V : ByteArray, V = ⟨e.v.toArray⟩ := ⟨_, rfl⟩
      have hEl : E.toList = e.t := by rw [hE, text_list]
      have hcell : U0.cell? ⟨b, off + k * 2, none⟩ = some (.string E) := by rw [hE, he]; exact ((HH.out U0 HBR.out).cell k hkl).1
      have hld : (ldX (.pointer (some ⟨b, off + k * 2, none⟩))).run Try.prog U0 = .ok (.agg #[.string E, .string V]) U0 := by
        have := run_ldX_at (HH.out U0 HBR.out) k hkl _ rfl
        rw [← he] at this
        rw [hE, hV]; exact this
      have hyes := fun h : (l[k]).t = t => woL_yes l t k hkl h
      have hno := fun h : (l[k]).t ≠ t => woL_no l t k hkl h
      rw [← he] at hyes hno
      have hk0 : (0 : Int) ≤ (k : Int) := by omega
      have hkn : (k : Int) < (n : Int) := by omega
      have HE := Lib.hid he; clear he
      have hwk := HWL.out k
      obtain ⟨m, hm⟩ : ∃ m, m = woL (l.take k) t := ⟨_, rfl⟩
      rw [← hm] at HO hyes hno hwk ⊢
      clear hm
      by_cases heq : e.t = t
      · have hq : (E.toList == S.toList) = true := by rw [hEl, HST.out, heq]; simp
        have hy := hyes heq
        have HY := Lib.hid hy; clear hy hyes hno hEl heq hE hV
        obtain ⟨ml, hml⟩ : ∃ ml, ml = m.length := ⟨_, rfl⟩
        rw [← hml] at HO ⊢
        have HML := Lib.hid hml; clear hml
        go_wp2
        go_roundw
        case rel => exact ⟨k + 1, Al, cl, by omega, by go_num, by rw [HY.out, ← HML.out], by rw [HY.out, ← HML.out]; exact HO.out, HBR.out⟩
        case measure => simp [intOf]; omega
      · have hq : (E.toList == S.toList) = false := by rw [hEl, HST.out]; simp [heq]
        have hy := hno heq
        obtain ⟨v', U5, hrun, hown5, hgr⟩ := run_appX U0 w.heap.size _ _ HO.out e 22 (by omega) HBR.out.size
        rw [← hy] at hown5
        obtain ⟨A5, c5, rfl⟩ := hown5.shape
        rw [← hE, ← hV] at hrun
        have hb5 : Below w.heap.size w U5 := HBR.out.trans (hgr.below HBR.out.size (fun q hq => (HO.out.lt q hq).1))
        have HB5 := Lib.hid hb5; clear hb5
        have HO5 := Lib.hid hown5; clear hown5 hgr hy hyes hno hEl heq hE hV
        obtain ⟨ml2, hml2⟩ : ∃ ml2, ml2 = (woL (l.take (k + 1)) t).length := ⟨_, rfl⟩
        rw [← hml2] at HO5 hrun
        have HML2 := Lib.hid hml2; clear hml2
        generalize m.length = ml at *
        go_wp2_with (at_builtin; refine wpList_apprun rfl _ _ _ _ (by rfl) _ _ (by rfl) (by rfl) _ _ hrun ?_)
        go_wp2
        go_roundw
        case rel => exact ⟨k + 1, A5, c5, by omega, by go_num, by rw [← HML2.out], by rw [← HML2.out]; exact HO5.out, HB5.out⟩
        case measure => simp [intOf]; omega

set_option maxRecDepth 100000 in
set_option maxHeartbeats 8000000 in
theorem rGet_any (A : Option Addr) (n c B : Nat) (l : List Pr) (S : ByteArray) (w : World) (h : HoldsX w B A n l) (hB : B ≤ w.heap.size) (hn : n ≤ 4398046511104) :
    Calls Try.prog 14 #[.slice A n c, .string S] w fun e w' => e = .returned (.tuple #[.string ⟨(getL l S.data.toList).1.toArray⟩, .int .i64 (getL l S.data.toList).2]) ∧ Below w.heap.size w w' := by
  have hln := h.1
  obtain ⟨t, ht⟩ : ∃ t, t = S.data.toList := ⟨_, rfl⟩
  have hst : S.toList = t := by rw [ht]; simp [ByteArray.toList_eq]
  rw [← ht]
  obtain ⟨post, hpost⟩ : ∃ post : Ending → World → Prop, post = fun e w' => e = .returned (.tuple #[.string ⟨(getL l t).1.toArray⟩, .int .i64 (getL l t).2]) ∧ Below w.heap.size w w' := ⟨_, rfl⟩
  rw [← hpost]
  have HP := Lib.hid hpost; clear hpost
  have hh : ∀ V, Below w.heap.size w V → HoldsX V B A n l := fun V hV => h.below (hV.mono hB)
  have HH := Lib.hid hh; clear hh
  have hright := rright_any A n c B l w h hB hn
  have HRIGHT := Lib.hid hright; clear hright
  have H := Lib.hid h; clear h
  have HLN := Lib.hid hln; clear hln
  have HST := Lib.hid hst; clear hst ht
  go_enter Try.func14, Try.ntmps14
  go_wp2_with fail
  with_reducible refine HRIGHT.out.mono ?_
  rintro E1 w1 ⟨rfl, hb1⟩
  have HB1 := Lib.hid hb1; clear hb1 HRIGHT
  obtain ⟨rt, hrt⟩ : ∃ rt, rt = right l := ⟨_, rfl⟩
  rw [← hrt]
  cases rt with
  | false =>
    have hg : getL l t = ([], 1) := by unfold getL; rw [if_neg (by rw [← hrt]; simp)]
    have HG := Lib.hid hg; clear hg hrt
    go_wp2
    rw [HP.out, HG.out]
    exact ⟨rfl, HB1.out⟩
  | true =>
  have HR : Hid (right l = true) := Lib.hid hrt.symm
  clear hrt
  go_wp2
  go_loopw [6] (fun i wr => ∃ k : Nat, k ≤ n ∧ i = .int .i64 (k : Int) ∧ (∀ j (hj : j < l.length), j < k → (l[j]).t ≠ t) ∧ Below w.heap.size w wr) (fun i _ => n - (intOf i).toNat)
  case atStart => exact ⟨0, Nat.zero_le _, rfl, fun j hj h => absurd h (by omega), HB1.out⟩
  case round =>
    obtain ⟨U0, hU0⟩ : ∃ U0, U0 = wr := ⟨_, rfl⟩
    subst hU0
    obtain ⟨k, hk, rfl, hno, hbr⟩ := hrel
    have HNO := Lib.hid hno; clear hno
    have HBR := Lib.hid hbr; clear hbr
    rcases Nat.lt_or_ge k n with hlt | hge
    rotate_left
    · have hkn : ¬ (k : Int) < (n : Int) := by omega
      have hg := (get_none HR.out (t := t) (fun x hx => by obtain ⟨i, hi, rfl⟩ := List.getElem_of_mem hx; exact HNO.out i hi (by have := HLN.out; omega))).1
      have HG := Lib.hid hg; clear hg
      go_wp2
      rw [HP.out, HG.out]
      exact ⟨rfl, HBR.out⟩
    · obtain ⟨b, off, rfl, hbB⟩ := H.out.addr (by omega)
      have hkl : k < l.length := by have := HLN.out; omega
      have hgo := get_of HR.out (List.getElem_mem hkl)
      obtain ⟨e, he⟩ : ∃ e, e = l[k] := ⟨_, rfl⟩
      obtain ⟨E, hE⟩ : ∃ E : ByteArray, E = ⟨e.t.toArray⟩ := ⟨_, rfl⟩
      obtain ⟨V, hV⟩ : ∃ V : ByteArray, V = ⟨e.v.toArray⟩ := ⟨_, rfl⟩
      have hEl : E.toList = e.t := by rw [hE, text_list]
      have hcell : U0.cell? ⟨b, off + k * 2, none⟩ = some (.string E) := by rw [hE, he]; exact ((HH.out U0 HBR.out).cell k hkl).1
      have hcell2 : U0.cell? ⟨b, off + k * 2 + 1, none⟩ = some (.string V) := by rw [hV, he]; exact ((HH.out U0 HBR.out).cell k hkl).2
      have hk0 : (0 : Int) ≤ (k : Int) := by omega
      have hkn : (k : Int) < (n : Int) := by omega
      rw [← he] at hgo
      have HE := Lib.hid he; clear he
      have HV := Lib.hid hV; clear hV
      by_cases heq : e.t = t
      · have hq : (E.toList == S.toList) = true := by rw [hEl, HST.out, heq]; simp
        rw [heq] at hgo
        have HG := Lib.hid hgo; clear hgo hEl heq hE
        go_wp2
        rw [HP.out, HG.out]
        exact ⟨by rw [HV.out]; rfl, HBR.out⟩
      · have hq : (E.toList == S.toList) = false := by rw [hEl, HST.out]; simp [heq]
        have hnx : ∀ j (hj : j < l.length), j < k + 1 → (l[j]).t ≠ t := fun j hj h => by
          rcases Nat.lt_or_ge j k with h | h
          · exact HNO.out j hj h
          · obtain rfl : j = k := by omega
            rw [← HE.out]; exact heq
        have HNX := Lib.hid hnx; clear hnx hgo hEl heq hE
        go_wp2
        go_roundw
        case rel => exact ⟨k + 1, by omega, by go_num, HNX.out, HBR.out⟩
        case measure => simp [intOf]; omega

set_option maxRecDepth 100000 in
set_option maxHeartbeats 8000000 in
theorem rDrop_any (A : Option Addr) (n c B : Nat) (l : List Pr) (S : ByteArray) (w : World) (h : HoldsX w B A n l) (hB : B ≤ w.heap.size) (hn : n ≤ 4398046510976) :
    Calls Try.prog 12 #[.slice A n c, .string S] w (Pairs2 w (dropL l S.data.toList)) := by
  obtain ⟨t, ht⟩ : ∃ t, t = S.data.toList := ⟨_, rfl⟩
  obtain ⟨post, hpost⟩ : ∃ post, post = Pairs2 w (dropL l t) := ⟨_, rfl⟩
  rw [← ht, ← hpost]
  have HP := Lib.hid hpost; clear hpost
  have hwo := fun V (hV : Below w.heap.size w V) => rwithout_any A n c B l S V (h.below (hV.mono hB)) (Nat.le_trans hB hV.size) hn
  rw [← ht] at hwo
  have HWO := Lib.hid hwo; clear hwo ht
  have hright := rright_any A n c B l w h hB (by omega)
  have HRIGHT := Lib.hid hright; clear hright h
  go_enter Try.func12, Try.ntmps12
  go_wp2_with fail
  with_reducible refine HRIGHT.out.mono ?_
  rintro E1 w1 ⟨rfl, hb1⟩
  have HB1 := Lib.hid hb1; clear hb1 HRIGHT
  obtain ⟨rt, hrt⟩ : ∃ rt, rt = right l := ⟨_, rfl⟩
  rw [← hrt]
  cases rt with
  | false =>
    have hg : dropL l t = ([], 1) := by unfold dropL; rw [if_neg (by rw [← hrt]; simp)]
    have HG := Lib.hid hg; clear hg hrt
    go_wp2
    rw [HP.out, HG.out]
    exact ⟨none, 0, rfl, OwnX.nil _ _, HB1.out⟩
  | true =>
  have hd := woL_drop hrt.symm t
  clear hrt
  have HD := Lib.hid hd; clear hd
  go_wp2_with fail
  with_reducible refine (HWO.out w1 HB1.out).mono ?_
  rintro E2 w2 ⟨A2, c2, rfl, ho2, hb2⟩
  have HB2 : Hid (Below w.heap.size w w2) := Lib.hid (HB1.out.trans (hb2.mono HB1.out.size))
  have HO2 : Hid (OwnX w2 w.heap.size _ _) := Lib.hid (ho2.mono HB1.out.size)
  clear ho2 hb2
  generalize woL l t = m at HD HO2 ⊢
  obtain ⟨q, hq⟩ : ∃ q, q = decide (m.length < l.length) := ⟨_, rfl⟩
  rw [← hq]
  have HQ := Lib.hid hq; clear hq
  cases q with
  | false =>
    have hg : dropL l t = ([], 15) := by rw [HD.out, if_neg (of_decide_eq_false HQ.out.symm)]
    have HG := Lib.hid hg; clear hg
    generalize m.length = ml at HO2 ⊢
    go_wp2
    rw [HP.out, HG.out]
    exact ⟨none, 0, rfl, OwnX.nil _ _, HB2.out⟩
  | true =>
    have hg : dropL l t = (m, 0) := by rw [HD.out, if_pos (of_decide_eq_true HQ.out.symm)]
    have HG := Lib.hid hg; clear hg
    obtain ⟨ml, hml⟩ : ∃ ml, ml = m.length := ⟨_, rfl⟩
    rw [← hml] at HO2 ⊢
    have HML := Lib.hid hml; clear hml
    go_wp2
    rw [HP.out, HG.out]
    exact ⟨A2, c2, by rw [HML.out]; rfl, by rw [← HML.out]; exact HO2.out, HB2.out⟩
end Go.Proofs.Ytbagocghlijleaa.At
