/- The program's Decode. -/
import Derived.Test.YtmnajefioehheaaLfTold
import Derived.Test.YtmnajefioehheaaLfEnc
namespace Go.Proofs.Ytmnajefioehheaa.Lf
set_option maxRecDepth 20000
open Go.RowKit
open Go.Proofs.Ytmnajefioehheaa.Mem Go.Proofs.Ytmnajefioehheaa.Crc Go.Proofs.Ytmnajefioehheaa.Rec Go.Proofs.Ytmnajefioehheaa.Reg
attribute [local go_sem ↓] ldX_eq stX_eq

def eqB (a b : List UInt8) : Bool := decide (a = b)
theorem equal_any (A A' : Option Addr) (n n' c c' B B' : Nat) (bs bs' : List UInt8) (w : World) (h : Holds w B A n bs) (h' : Holds w B' A' n' bs') :
    Calls Try.prog 26 #[.slice A n c, .slice A' n' c'] w fun e w' => e = .returned (.bool (eqB bs bs')) ∧ w = w' := by
  have t1 := run_text w B A n c bs h
  have t2 := run_text w B' A' n' c' bs' h'
  clear h h'
  unfold eqB
  by_cases heq : bs = bs'
  · subst heq
    go_enter Try.func26, Try.ntmps26
    go_wp2
    go_ret
    exact ⟨by simp, rfl⟩
  · have hne : (⟨bs.toArray⟩ : ByteArray) ≠ ⟨bs'.toArray⟩ := by
      intro e
      injection e with e
      exact heq (by simpa using congrArg Array.toList e)
    have hd : decide (bs = bs') = false := by simpa using heq
    go_enter Try.func26, Try.ntmps26
    go_wp2
    go_ret
    exact ⟨by simp [heq], rfl⟩
/-- Names and an error, as answered. -/
def Names2 (w : World) (y : List Nm × Int) (e : Ending) (w' : World) : Prop :=
  ∃ A c, e = .returned (.tuple #[.slice A y.1.length c, .int .i64 y.2]) ∧ OwnX w' w.heap.size (.slice A y.1.length c) y.1 ∧ Below w.heap.size w w'
theorem toldP_rep (b : List UInt8) : ∀ x ∈ toldP b, x.rep := stP_rep b _
theorem toldP_len (b : List UInt8) : (toldP b).length ≤ 41 := by unfold toldP; rw [stP_len]; omega
theorem enc_two (l : List Nm) : (enc l).2 = 0 ∨ (enc l).2 = 1 ∨ (enc l).2 = 9 := by
  unfold enc
  split
  · split
    · exact .inl rfl
    · exact .inr (.inr rfl)
  · exact .inr (.inl rfl)

set_option maxRecDepth 100000 in
set_option maxHeartbeats 1000000 in
theorem decode_any (A : Option Addr) (n c B : Nat) (b : List UInt8) (w : World) (h : Holds w B A n b) (hB : B ≤ w.heap.size) (hc : n ≤ c) (hn : n ≤ 140737488355328) :
    Calls Try.prog 16 #[.slice A n c] w (Names2 w (decP b)) := by
  obtain ⟨y, hy⟩ : ∃ y, y = decP b := ⟨_, rfl⟩
  rw [← hy]
  have hbl := h.1
  by_cases h256 : n = 256
  · subst h256
    have hdec : y = decL b (toldP b) := by rw [hy]; unfold decP; rw [if_pos hbl]
    clear hy
    have htold := told_any A c B b w h hB hc
    have hlen := toldP_len b
    have hrep := toldP_rep b
    obtain ⟨l, hl⟩ : ∃ l, l = toldP b := ⟨_, rfl⟩
    rw [← hl] at hdec htold hlen hrep
    clear hl
    have HTOLD := Lib.hid htold; clear htold
    have HDEC := Lib.hid hdec; clear hdec
    have H := Lib.hid h; clear h
    have HREP := Lib.hid hrep; clear hrep
    go_enter Try.func16, Try.ntmps16
    go_wp2_with fail
    with_reducible refine HTOLD.out.mono ?_
    rintro E w1 ⟨A1, c1, rfl, ho1, hb1⟩
    have henc := encode_any A1 l.length c1 w1.heap.size l w1 ho1.reads (Nat.le_refl _) HREP.out (by omega)
    obtain ⟨n1, hn1⟩ : ∃ n1, n1 = l.length := ⟨_, rfl⟩
    rw [← hn1] at henc ho1 hlen ⊢
    have HN1 := Lib.hid hn1; clear hn1
    have HENC := Lib.hid henc; clear henc HTOLD
    have HO1 := Lib.hid ho1; clear ho1
    have HB1 := Lib.hid hb1; clear hb1
    go_wp2_with fail
    with_reducible refine HENC.out.mono ?_
    rintro E w2 ⟨A2, c2, rfl, ho2, hb2⟩
    have hb2' : Below w.heap.size w w2 := HB1.out.trans (hb2.mono HB1.out.size)
    have ho1' := HO1.out.below hb2
    have HB2 := Lib.hid hb2'; clear hb2'
    have HO1' := Lib.hid ho1'; clear ho1'
    have heq := equal_any A A2 256 (enc l).1.length c c2 B w2.heap.size b (enc l).1 w2 (H.out.below (HB2.out.mono hB)) (Owned.reads ho2)
    clear hb2 ho2 HENC
    rcases Decidable.em (enc l = (b, 0)) with hyes | hno
    · have hq : eqB b (enc l).1 = true := by rw [hyes]; exact decide_eq_true rfl
      rw [hq] at heq
      have hz : (enc l).2 = 0 := by rw [hyes]
      have HY : Hid (y = (l, 0)) := Lib.hid (by rw [HDEC.out, decL_zero hyes])
      clear hyes hq
      rw [hz]
      clear hz
      generalize (enc l).1.length = n2 at heq ⊢
      have HEQ := Lib.hid heq; clear heq
      go_wp2_with (with_reducible refine HEQ.out.mono ?_; rintro E w3 ⟨rfl, rfl⟩)
      go_ret2
      refine ⟨A1, c1, ?_, ?_, HB2.out⟩
      · rw [HY.out, ← HN1.out]; rfl
      · rw [HY.out, ← HN1.out]; exact HO1'.out
    · have HY : Hid (y = ([], 13)) := Lib.hid (by rw [HDEC.out, decL_not hno])
      rcases enc_two l with hz | hz | hz
      · have hq : eqB b (enc l).1 = false := decide_eq_false (fun e => hno (by rw [Prod.ext_iff]; exact ⟨e.symm, hz⟩))
        rw [hq] at heq
        rw [hz]
        clear hz hq hno
        generalize (enc l).1.length = n2 at heq ⊢
        have HEQ := Lib.hid heq; clear heq
        go_wp2_with (with_reducible refine HEQ.out.mono ?_; rintro E w3 ⟨rfl, rfl⟩)
        go_ret2
        exact ⟨none, 0, by rw [HY.out]; rfl, by rw [HY.out]; exact OwnX.nil _ _, HB2.out⟩
      · rw [hz]
        clear hz hno heq
        generalize (enc l).1.length = n2
        go_wp2
        go_ret2
        exact ⟨none, 0, by rw [HY.out]; rfl, by rw [HY.out]; exact OwnX.nil _ _, HB2.out⟩
      · rw [hz]
        clear hz hno heq
        generalize (enc l).1.length = n2
        go_wp2
        go_ret2
        exact ⟨none, 0, by rw [HY.out]; rfl, by rw [HY.out]; exact OwnX.nil _ _, HB2.out⟩
  · have HY : Hid (y = ([], 13)) := Lib.hid (by rw [hy]; unfold decP; rw [if_neg (by omega)])
    have hne : ((n : Int) == 256) = false := beq_false_of_ne (by omega)
    have hne2 : ((n : Int) != 256) = true := bne_iff_ne.2 (by omega)
    clear hy h
    go_enter Try.func16, Try.ntmps16
    go_wp2
    go_ret2
    exact ⟨none, 0, by rw [HY.out]; rfl, by rw [HY.out]; exact OwnX.nil _ _, Below.refl _ _⟩
end Go.Proofs.Ytmnajefioehheaa.Lf
