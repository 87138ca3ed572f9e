/- The fixed fact of layer 7. -/
import Derived.Test.YtobnnflacdhjcaaBtRefW
namespace Go.Proofs.Ytobnnflacdhjcaa.Bits
set_option maxRecDepth 20000
open Go Go.RowKit
open Go.Proofs.Ytobnnflacdhjcaa.Mem Go.Proofs.Ytobnnflacdhjcaa.Bt Go.Proofs.Ytobnnflacdhjcaa.Rec

theorem six_long {x : Int} {m : Nat} (h : IsLong (bt [6]) 0 8 x m) : x = 3 ∧ m = 5 := by
  refine IsLong.one h (.inr ⟨3, rfl, by omega, by omega, by omega, fun i h1 h2 => ?_, fun s k h1 h2 h3 h4 => ?_⟩)
  · have : ∀ i : Fin 8, 3 ≤ i.1 → bt [6] i.1 = false := by decide +kernel
    exact this ⟨i, by omega⟩ h1
  · have b1 : bt [6] 1 = true := by decide +kernel
    have b2 : bt [6] 2 = true := by decide +kernel
    have n1 : ¬ (s ≤ 1 ∧ 1 < s + k) := fun e => by rw [h4 1 e.1 e.2] at b1; cases b1
    have n2 : ¬ (s ≤ 2 ∧ 2 < s + k) := fun e => by rw [h4 2 e.1 e.2] at b2; cases b2
    omega
theorem six_first {r : Int} (h : IsFst (fun i => bt [6] i == false) 1 8 r) : r = 3 :=
  IsFst.one h (.inr ⟨3, rfl, by omega, by omega, by decide +kernel, fun i h1 h2 => by
    have : ∀ i : Fin 3, 1 ≤ i.1 → (bt [6] i.1 == false) = false := by decide +kernel
    exact this ⟨i, h2⟩ h1⟩)
theorem six_fill {ys : List UInt8} (h : Filled [6] 6 8 true ys) : ys = [198] :=
  Filled.one h ⟨rfl, fun i hi => by
    have : ∀ i : Fin 8, bt [198] i.1 = if 6 ≤ i.1 ∧ i.1 < 8 then true else bt [6] i.1 := by decide +kernel
    exact this ⟨i, hi⟩⟩

set_option maxRecDepth 100000 in
set_option maxHeartbeats 2000000 in
theorem alive_any (w : World) :
    Calls Try.prog 9 #[] w fun e w' => e = .returned (.bool true) ∧ Below w.heap.size w w' := by
  go_enter Try.func9, Try.ntmps9
  go_wp2_with fail
  obtain ⟨w1, hw1⟩ : ∃ x, x = w.alloc (.cells #[.int .u8 6] 5) := ⟨_, rfl⟩
  have ho : Owned w1 w.heap.size (.slice (some ⟨w.heap.size, 0, none⟩) 1 1) [6] := hw1 ▸ owned_made w [6] w.heap.size (Nat.le_refl _) (by unfold maxLen; simp)
  have hb1 : Below w.heap.size w w1 := hw1 ▸ (Below.refl _ w).alloc (Nat.le_refl _) _
  rw [← hw1]
  have HH := fun (V : World) (hb : Below w1.heap.size w1 V) => (Owned.reads ho).below hb
  have HO := Lib.hid HH; clear HH ho hw1
  have HB1 := Lib.hid hb1; clear hb1
  have g1 : getB [6] 1 = true := by decide +kernel
  have g8 : getB [6] 8 = false := by decide +kernel
  with_reducible refine (long_any _ 1 1 w1.heap.size [6] 0 8 w1 (HO.out w1 (Below.refl _ _)) (Nat.le_refl _) (by omega)).mono ?_
  rintro e w2 ⟨x, m, hL, rfl, hb2⟩
  obtain ⟨rfl, rfl⟩ := six_long hL
  clear hL
  have hc2 := get_any _ 1 1 w1.heap.size [6] 1 w2 (HO.out w2 hb2) (by omega)
  have hc3 := get_any _ 1 1 w1.heap.size [6] 8 w2 (HO.out w2 hb2) (by omega)
  rw [g1] at hc2
  rw [g8] at hc3
  have HC2 := Lib.hid hc2; clear hc2
  have HC3 := Lib.hid hc3; clear hc3
  have HB2 := Lib.hid hb2; clear hb2
  go_wp2_with fail
  with_reducible refine HC2.out.mono ?_
  rintro e w3 ⟨rfl, rfl⟩
  go_wp2_with fail
  with_reducible refine HC3.out.mono ?_
  rintro e w3 ⟨rfl, rfl⟩
  go_wp2_with fail
  with_reducible refine (count_any _ 1 1 w1.heap.size [6] 0 8 w2 (HO.out w2 HB2.out) HB2.out.size (by omega)).mono ?_
  rintro e w3 ⟨rfl, hb3⟩
  rw [show (cnt (bt [6]) (0 : Int).toNat (hiN 1 8 - (0 : Int).toNat)) = 2 by decide +kernel]
  have HB3 := Lib.hid (HB2.out.trans (hb3.mono HB2.out.size)); clear hb3 HC2 HC3
  go_wp2_with fail
  with_reducible refine (first_any _ 1 1 w1.heap.size [6] 1 8 false w3 (HO.out w3 HB3.out) HB3.out.size (by omega)).mono ?_
  rintro e w4 ⟨r, hr, rfl, hb4⟩
  obtain rfl := six_first hr
  clear hr
  have HB4 := Lib.hid (HB3.out.trans (hb4.mono HB3.out.size)); clear hb4
  go_wp2_with fail
  with_reducible refine (fill_any _ 1 1 w1.heap.size [6] 6 10 true w4 (HO.out w4 HB4.out) HB4.out.size (by omega)).mono ?_
  rintro e w5 ⟨ys, hf, A, c, rfl, ho5, hb5⟩
  obtain rfl := six_fill hf
  have ht := fun W => run_text W w5.heap.size A 1 c [198]
  have ht5 := run_text w5 w5.heap.size A 1 c [198] (Owned.reads ho5)
  have HB5 : Hid (Below w.heap.size w w5) := Lib.hid ((HB1.out.trans (HB4.out.mono HB1.out.size)).trans (hb5.mono (by have := HB1.out.size; have := HB4.out.size; omega)))
  clear ht ho5 hb5 hf
  go_wp2
  go_ret
  exact ⟨rfl, HB5.out⟩
end Go.Proofs.Ytobnnflacdhjcaa.Bits
