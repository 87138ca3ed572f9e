/- The closures that read: 'take' and 'get', over a variable (its block g) that holds what is left of the bytes. -/
import Derived.Test.YtmnajefioehheaaLfPut
namespace Go.Proofs.Ytmnajefioehheaa.Lf
set_option maxRecDepth 20000
open Go.RowKit
open Go.Proofs.Ytmnajefioehheaa.Mem Go.Proofs.Ytmnajefioehheaa.Crc Go.Proofs.Ytmnajefioehheaa.Rec Go.Proofs.Ytmnajefioehheaa.Reg
attribute [local go_sem ↓] ldX_eq stX_eq

theorem run_slice_rest (W : World) (a off N c l : Nat) (i : Int) (hi : i = (l : Int)) (hl : l ≤ N) (hc : N < c) :
    (Instr.slice 24 (.slice (some ⟨a, off, none⟩) N c) (some (.int .i64 i)) none none).run Try.prog W = .ok (.slice (some ⟨a, off + l, none⟩) (N - l) (c - l)) W := by
  subst hi
  have h := run_slice_l (P := Try.prog) W 24 (some ⟨a, off, none⟩) N c (by rw [Try.underlying24]; rfl) .i64 (l : Int) (by omega) (by omega)
  rw [h]
  have hs : (sizeOf (Try.prog.elem 24)).run Try.prog W = .ok 1 W := by rfl
  rw [hs]
  simp only [Result.andThen, sliced, Int.toNat_natCast]
  rw [if_neg (by omega)]
  simp [Addr.add_mid]
theorem run_slice_first (W : World) (a off N c m : Nat) (j : Int) (hj : j = (m : Int)) (hl : m ≤ c) (h0 : 0 < c) :
    (Instr.slice 24 (.slice (some ⟨a, off, none⟩) N c) none (some (.int .i64 j)) none).run Try.prog W = .ok (.slice (some ⟨a, off, none⟩) m c) W := by
  subst hj
  have h := run_slice_h (P := Try.prog) W 24 (some ⟨a, off, none⟩) N c (by rw [Try.underlying24]; rfl) .i64 (m : Int) (by omega) (by omega)
  rw [h]
  have hs : (sizeOf (Try.prog.elem 24)).run Try.prog W = .ok 1 W := by rfl
  rw [hs]
  simp only [Result.andThen, sliced, Int.toNat_natCast]
  rw [if_neg (by omega)]
  simp [Addr.add_mid]

/-- What is left. -/
structure Rst (w : World) (g b0 off c B : Nat) (bs : List UInt8) : Prop where
  box : w.heap[g]? = some (.cells #[.slice (some ⟨b0, off, none⟩) bs.length c] 24 (0, 0))
  holds : Holds w B (some ⟨b0, off, none⟩) bs.length bs
  room : bs.length < c
  len : bs.length ≤ 252
  base : B ≤ g
def Rest (w : World) (g B : Nat) (bs : List UInt8) : Prop := ∃ b0 off c, Rst w g b0 off c B bs
theorem Rst.below {w w' : World} {g b0 off c B : Nat} {bs : List UInt8} (h : Rst w g b0 off c B bs) (hb : Below w.heap.size w w') : Rst w' g b0 off c B bs := by
  have hlt : g < w.heap.size := (Array.getElem?_eq_some_iff.1 h.box).1
  exact ⟨(hb.block g hlt).trans h.box, h.holds.below (hb.mono (Nat.le_trans h.base (by omega))), h.room, h.len, h.base⟩
theorem Rest.below {w w' : World} {g B : Nat} {bs : List UInt8} (h : Rest w g B bs) (hb : Below w.heap.size w w') : Rest w' g B bs := by
  obtain ⟨b0, off, c, h⟩ := h
  exact ⟨b0, off, c, h.below hb⟩
theorem Rest.lt {w : World} {g B : Nat} {bs : List UInt8} (h : Rest w g B bs) : g < w.heap.size := by
  obtain ⟨b0, off, c, h⟩ := h
  exact (Array.getElem?_eq_some_iff.1 h.box).1
theorem Rest.base {w : World} {g B : Nat} {bs : List UInt8} (h : Rest w g B bs) : B ≤ g := by
  obtain ⟨b0, off, c, h⟩ := h
  exact h.base

set_option maxRecDepth 100000 in
set_option maxHeartbeats 1000000 in
theorem take_any (g B n : Nat) (bs : List UInt8) (w : World) (h : Rest w g B bs) :
    Calls Try.prog 33 #[.int .i64 (n : Int), .pointer (some ⟨g, 0, none⟩)] w fun e w' => ∃ A c, e = .returned (.slice A (bs.take n).length c) ∧ Holds w' B A (bs.take n).length (bs.take n) ∧ Rest w' g B (bs.drop n) ∧ Tn g g w w' := by
  obtain ⟨b0, off, c, h⟩ := h
  obtain ⟨N, hN⟩ : ∃ N, N = bs.length := ⟨_, rfl⟩
  obtain ⟨m, hm⟩ : ∃ m, m = min n N := ⟨_, rfl⟩
  have hmN : m ≤ N := by omega
  have hNc : N < c := by rw [hN]; exact h.room
  have hN2 : N ≤ 252 := by rw [hN]; exact h.len
  have htl : (bs.take n).length = m := by rw [List.length_take]; omega
  have hbox := h.box
  rw [← hN] at hbox
  have hmin : ∀ (ts : Array TypeId) (t : TypeId) (W : World), (Builtin.min_ ts t #[.int .i64 (n : Int), .int .i64 (N : Int)]).run Try.prog W = .ok (.int .i64 (m : Int)) W := fun ts t W => by
    rw [run_min_int2]
    congr 2
    split <;> omega
  have s1 : ∀ W, (Instr.slice 24 (.slice (some ⟨b0, off, none⟩) N c) none (some (.int .i64 (m : Int))) none).run Try.prog W = .ok (.slice (some ⟨b0, off, none⟩) m c) W := fun W => run_slice_first W b0 off N c m m rfl (by omega) (by omega)
  have s2 : ∀ W, (Instr.slice 24 (.slice (some ⟨b0, off, none⟩) N c) (some (.int .i64 (m : Int))) none none).run Try.prog W = .ok (.slice (some ⟨b0, off + m, none⟩) (N - m) (c - m)) W := fun W => run_slice_rest W b0 off N c m m rfl hmN hNc
  have q0 : w.cell? ⟨g, 0, none⟩ = some (.slice (some ⟨b0, off, none⟩) N c) := cell_of_row w g 0 _ _ _ hbox
  have q1 : w.frozen? ⟨g, 0, none⟩ = false := frozen_of_row w g 0 _ _ hbox
  have hbx : (w.setCell ⟨g, 0, none⟩ (.slice (some ⟨b0, off + m, none⟩) (N - m) (c - m))).heap[g]? = some (.cells #[.slice (some ⟨b0, off + m, none⟩) (N - m) (c - m)] 24 (0, 0)) := heap_setCell_same w g 0 _ _ _ hbox
  have htn := Tn.setCell g g w (.slice (some ⟨b0, off + m, none⟩) (N - m) (c - m))
  have hlt : g < w.heap.size := (Array.getElem?_eq_some_iff.1 hbox).1
  have hbB := htn.below (B := B) (Nat.le_trans h.base (by omega)) h.base h.base
  have hh := h.holds.below hbB
  have hrest : Rest (w.setCell ⟨g, 0, none⟩ (.slice (some ⟨b0, off + m, none⟩) (N - m) (c - m))) g B (bs.drop n) := by
    have hl : (bs.drop n).length = N - m := by rw [List.length_drop]; omega
    refine ⟨b0, off + m, c - m, ⟨by rw [hl]; exact hbx, ?_, by rw [hl]; omega, by rw [hl]; omega, h.base⟩⟩
    have h1 := Holds.drop (k := m) (m := N - m) hh (by omega)
    have e : (bs.drop m).take (N - m) = bs.drop n := by
      rw [List.take_of_length_le (by rw [List.length_drop]; omega)]
      rcases Nat.le_total n N with h2 | h2
      · rw [show m = n by omega]
      · rw [List.drop_eq_nil_of_le (by omega), List.drop_eq_nil_of_le (by omega)]
    rw [e] at h1
    rwa [hl]
  have htake : Holds (w.setCell ⟨g, 0, none⟩ (.slice (some ⟨b0, off + m, none⟩) (N - m) (c - m))) B (some ⟨b0, off, none⟩) (bs.take n).length (bs.take n) := by
    have h1 := Holds.take (k := m) hh (by omega)
    have e : bs.take m = bs.take n := by
      rcases Nat.le_total n N with h2 | h2
      · rw [show m = n by omega]
      · rw [List.take_of_length_le (by omega), List.take_of_length_le (by omega)]
    rw [e] at h1
    rwa [htl]
  have HREST := Lib.hid hrest; clear hrest
  have HTAKE := Lib.hid htake; clear htake
  have HTL := Lib.hid htl; clear htl
  have HTN := Lib.hid htn; clear htn
  clear hm hN hbox hbx hbB hh h
  go_enter Try.func33, Try.ntmps33
  go_wp2
  go_ret
  exact ⟨some ⟨b0, off, none⟩, c, by rw [HTL.out]; rfl, HTAKE.out, HREST.out, HTN.out⟩

/-- The variable that holds 'take'. -/
def takeV (g : Nat) : Value := .func (.func 33) #[] #[.pointer (some ⟨g, 0, none⟩)]
set_option maxRecDepth 100000 in
set_option maxHeartbeats 1000000 in
theorem get_any (g gt B n : Nat) (bs : List UInt8) (w : World) (h : Rest w g B bs) (ht : w.heap[gt]? = some (.cells #[takeV g] 56 (0, 0))) (hn : n ≤ 4) :
    Calls Try.prog 34 #[.int .i64 (n : Int), .pointer (some ⟨gt, 0, none⟩)] w fun e w' => e = .returned (.int .i64 (nmb (bs.take n) : Int)) ∧ Rest w' g B (bs.drop n) ∧ Tn g g w w' := by
  have hcall := take_any g B n bs w h
  have q0 : w.cell? ⟨gt, 0, none⟩ = some (takeV g) := cell_of_row w gt 0 _ _ _ ht
  unfold takeV at q0
  have HC := Lib.hid hcall; clear hcall h ht
  go_enter Try.func34, Try.ntmps34
  go_wp2_with fail
  with_reducible refine HC.out.mono ?_
  rintro E w1 ⟨A, c, rfl, hh, hr, ht⟩
  have HR := Lib.hid hr; clear hr
  have HT := Lib.hid ht; clear ht
  have hle : (bs.take n).length ≤ 4 := by rw [List.length_take]; omega
  have hnum := number_any A (bs.take n).length c B (bs.take n) w1 hh (by omega)
  have hlt := numAt_lt (bs.take n) (bs.take n).length
  have hpow : 2 ^ (8 * (bs.take n).length) ≤ 2 ^ 32 := Nat.pow_le_pow_right (by omega) (by omega)
  have hlt2 : nmb (bs.take n) < 4294967296 := Nat.lt_of_lt_of_le hlt hpow
  have hq : numAt (bs.take n) (bs.take n).length = nmb (bs.take n) := rfl
  rw [hq] at hnum
  obtain ⟨L, hL⟩ : ∃ L, L = (bs.take n).length := ⟨_, rfl⟩
  rw [← hL] at hnum ⊢
  have hw : IntKind.i64.wrap (nmb (bs.take n) : Int) = (nmb (bs.take n) : Int) := by rw [IntKind.wrap_i64]; omega
  have HN := Lib.hid hnum; clear hnum hlt hpow hq
  obtain ⟨v, hv⟩ : ∃ v, v = nmb (bs.take n) := ⟨_, rfl⟩
  rw [← hv] at HN hlt2 hw
  have HV := Lib.hid hv; clear hv
  clear hlt2 hL hle hh
  go_wp2_with (with_reducible refine HN.out.mono ?_; rintro E w2 ⟨rfl, rfl⟩)
  go_ret
  exact ⟨by rw [← HV.out]; rfl, HR.out, HT.out⟩
end Go.Proofs.Ytmnajefioehheaa.Lf
