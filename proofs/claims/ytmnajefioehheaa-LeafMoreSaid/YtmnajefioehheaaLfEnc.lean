/- The program's Encode. -/
import Derived.Test.YtmnajefioehheaaLfCoded
namespace Go.Proofs.Ytmnajefioehheaa.Lf
set_option maxRecDepth 20000
open Go.RowKit
open Go.Proofs.Ytmnajefioehheaa.Mem Go.Proofs.Ytmnajefioehheaa.Crc Go.Proofs.Ytmnajefioehheaa.Rec Go.Proofs.Ytmnajefioehheaa.Reg
attribute [local go_sem ↓] ldX_eq stX_eq

theorem owned_nil (w : World) (base : Nat) : Owned w base (.slice none 0 0) [] := ⟨rfl, .inl ⟨rfl, rfl⟩⟩
/-- Bytes and an error, as answered. -/
def Bytes2 (w : World) (y : List UInt8 × Int) (e : Ending) (w' : World) : Prop :=
  ∃ A c, e = .returned (.tuple #[.slice A y.1.length c, .int .i64 y.2]) ∧ Owned w' w.heap.size (.slice A y.1.length c) y.1 ∧ Below w.heap.size w w'
set_option maxRecDepth 100000 in
set_option maxHeartbeats 1000000 in
theorem encode_any (A : Option Addr) (n c B : Nat) (l : List Nm) (w : World) (h : HoldsX w B A n l) (hB : B ≤ w.heap.size) (hr : ∀ x ∈ l, x.rep) (hn : n ≤ 5864062014805) :
    Calls Try.prog 9 #[.slice A n c] w (Bytes2 w (enc l)) := by
  have hsize := size_any A n c B l w h hB hr hn
  have hln := h.1
  cases hq : right l with
  | false =>
    rw [size_not hq] at hsize
    rw [enc_not hq]
    have HS := Lib.hid hsize; clear hsize h
    go_enter Try.func9, Try.ntmps9
    go_wp2_with (with_reducible refine HS.out.mono ?_; rintro E w1 ⟨rfl, hb⟩)
    have HB := Lib.hid hb; clear hb
    go_ret2
    exact ⟨none, 0, rfl, owned_nil _ _, HB.out⟩
  | true =>
    rw [size_yes hq] at hsize
    have hfar := sizeL_far hq l.length
    rw [List.take_length, hln] at hfar
    by_cases hz : sizeL l ≤ 248
    · rw [enc_yes hq hz]
      have hcoded : ∀ V, Below w.heap.size w V → Calls Try.prog 18 #[.slice A n c, .int .i64 (sizeL l : Int)] V (Made V (blockL l)) := fun V hV => coded_any A n c B l V (h.below (hV.mono hB)) (Nat.le_trans hB hV.size) hq hz
      have HS := Lib.hid hsize; clear hsize
      have HC := Lib.hid hcoded; clear hcoded h
      generalize sizeL l = Z at HS HC hfar hz
      generalize blockL l = bs at HC ⊢
      go_enter Try.func9, Try.ntmps9
      go_wp2_with (first | (with_reducible refine HS.out.mono ?_; rintro E w1 ⟨rfl, hb⟩) | fail)
      have HB := Lib.hid hb; clear hb
      have hcall := HC.out _ HB.out
      have HCALL := Lib.hid hcall; clear hcall HC HS
      go_wp2_with fail
      with_reducible refine HCALL.out.mono ?_
      rintro E w2 ⟨A', c', rfl, ho, hb⟩
      have HB2 : Hid (Below w.heap.size w w2) := Lib.hid (HB.out.trans (hb.mono HB.out.size))
      have HO := Lib.hid (Owned.mono ho HB.out.size); clear ho hb
      go_wp2
      go_ret2
      exact ⟨A', c', rfl, HO.out, HB2.out⟩
    · rw [enc_far hq (by omega)]
      have HS := Lib.hid hsize; clear hsize h
      generalize sizeL l = Z at HS hfar hz
      go_enter Try.func9, Try.ntmps9
      go_wp2_with (with_reducible refine HS.out.mono ?_; rintro E w1 ⟨rfl, hb⟩)
      have HB := Lib.hid hb; clear hb
      go_ret2
      exact ⟨none, 0, rfl, owned_nil _ _, HB.out⟩
end Go.Proofs.Ytmnajefioehheaa.Lf
