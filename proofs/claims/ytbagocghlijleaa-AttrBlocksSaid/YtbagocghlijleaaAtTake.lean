/- What is taken of the bytes that are left, and the number that bytes stand for. -/
import Derived.Test.YtbagocghlijleaaAtCode
import Derived.Laws.EntriesVeiled
namespace Go.Proofs.Ytbagocghlijleaa.At
set_option maxRecDepth 20000
open Go.RowKit
open Go.Proofs.Ytbagocghlijleaa.Mem Go.Proofs.Ytbagocghlijleaa.Crc Go.Proofs.Ytbagocghlijleaa.Rec Go.Proofs.Ytbagocghlijleaa.Reg
open Go.Proofs.Ytbagocghlijleaa.Lf (less zeros nmb)
attribute [local go_sem ↓] ldX_eq stX_eq

theorem run_slice_rest (W : World) (a off N c l : Nat) (i : Int) (hi : i = (l : Int)) (hl : l ≤ N) (hc : N < c) :
    (Instr.slice 34 (.slice (some ⟨a, off, none⟩) N c) (some (.int .i64 i)) none none).run Try.prog W = .ok (.slice (some ⟨a, off + l, none⟩) (N - l) (c - l)) W := by
  subst hi
  have h := run_slice_l (P := Try.prog) W 34 (some ⟨a, off, none⟩) N c (by rw [Try.underlying34]; rfl) .i64 (l : Int) (by omega) (by omega)
  rw [h]
  have hs : (sizeOf (Try.prog.elem 34)).run Try.prog W = .ok 1 W := by rfl
  rw [hs]
  simp only [Result.andThen, sliced, Int.toNat_natCast]
  rw [if_neg (by omega)]
  simp [Addr.add_mid]
theorem run_slice_first (W : World) (a off N c m : Nat) (j : Int) (hj : j = (m : Int)) (hl : m ≤ c) (h0 : 0 < c) :
    (Instr.slice 34 (.slice (some ⟨a, off, none⟩) N c) none (some (.int .i64 j)) none).run Try.prog W = .ok (.slice (some ⟨a, off, none⟩) m c) W := by
  subst hj
  have h := run_slice_h (P := Try.prog) W 34 (some ⟨a, off, none⟩) N c (by rw [Try.underlying34]; rfl) .i64 (m : Int) (by omega) (by omega)
  rw [h]
  have hs : (sizeOf (Try.prog.elem 34)).run Try.prog W = .ok 1 W := by rfl
  rw [hs]
  simp only [Result.andThen, sliced, Int.toNat_natCast]
  rw [if_neg (by omega)]
  simp [Addr.add_mid]

/-- What is left. -/
structure Rst (w : World) (g b0 off c B : Nat) (bs : List UInt8) : Prop where
  box : w.heap[g]? = some (.cells #[.slice (some ⟨b0, off, none⟩) bs.length c] 34 (0, 0))
  holds : Holds w B (some ⟨b0, off, none⟩) bs.length bs
  room : bs.length < c
  len : bs.length ≤ 252
  base : B ≤ g
def Rest (w : World) (g B : Nat) (bs : List UInt8) : Prop := ∃ b0 off c, Rst w g b0 off c B bs
theorem Rst.below {w w' : World} {g b0 off c B : Nat} {bs : List UInt8} (h : Rst w g b0 off c B bs) (hb : Below w.heap.size w w') : Rst w' g b0 off c B bs := by
  have hlt : g < w.heap.size := (Array.getElem?_eq_some_iff.1 h.box).1
  exact ⟨(hb.block g hlt).trans h.box, h.holds.below (hb.mono (Nat.le_trans h.base (by omega))), h.room, h.len, h.base⟩
theorem Rest.below {w w' : World} {g B : Nat} {bs : List UInt8} (h : Rest w g B bs) (hb : Below w.heap.size w w') : Rest w' g B bs := by
  obtain ⟨b0, off, c, h⟩ := h
  exact ⟨b0, off, c, h.below hb⟩
theorem Rest.lt {w : World} {g B : Nat} {bs : List UInt8} (h : Rest w g B bs) : g < w.heap.size := by
  obtain ⟨b0, off, c, h⟩ := h
  exact (Array.getElem?_eq_some_iff.1 h.box).1
theorem Rest.base {w : World} {g B : Nat} {bs : List UInt8} (h : Rest w g B bs) : B ≤ g := by
  obtain ⟨b0, off, c, h⟩ := h
  exact h.base

set_option maxRecDepth 100000 in
set_option maxHeartbeats 1000000 in
theorem take_any (g B n : Nat) (bs : List UInt8) (w : World) (h : Rest w g B bs) :
    Calls Try.prog 46 #[.int .i64 (n : Int), .pointer (some ⟨g, 0, none⟩)] w fun e w' => ∃ A c, e = .returned (.slice A (bs.take n).length c) ∧ Holds w' B A (bs.take n).length (bs.take n) ∧ Rest w' g B (bs.drop n) ∧ Tn g g w w' := by
  obtain ⟨b0, off, c, h⟩ := h
  obtain ⟨N, hN⟩ : ∃ N, N = bs.length := ⟨_, rfl⟩
  obtain ⟨m, hm⟩ : ∃ m, m = min n N := ⟨_, rfl⟩
  have hmN : m ≤ N := by omega
  have hNc : N < c := by rw [hN]; exact h.room
  have hN2 : N ≤ 252 := by rw [hN]; exact h.len
  have htl : (bs.take n).length = m := by rw [List.length_take]; omega
  have hbox := h.box
  rw [← hN] at hbox
  have hmin : ∀ (ts : Array TypeId) (t : TypeId) (W : World), (Builtin.min_ ts t #[.int .i64 (n : Int), .int .i64 (N : Int)]).run Try.prog W = .ok (.int .i64 (m : Int)) W := fun ts t W => by
    rw [run_min_int2]
    congr 2
    split <;> omega
  have s1 : ∀ W, (Instr.slice 34 (.slice (some ⟨b0, off, none⟩) N c) none (some (.int .i64 (m : Int))) none).run Try.prog W = .ok (.slice (some ⟨b0, off, none⟩) m c) W := fun W => run_slice_first W b0 off N c m m rfl (by omega) (by omega)
  have s2 : ∀ W, (Instr.slice 34 (.slice (some ⟨b0, off, none⟩) N c) (some (.int .i64 (m : Int))) none none).run Try.prog W = .ok (.slice (some ⟨b0, off + m, none⟩) (N - m) (c - m)) W := fun W => run_slice_rest W b0 off N c m m rfl hmN hNc
  have q0 : w.cell? ⟨g, 0, none⟩ = some (.slice (some ⟨b0, off, none⟩) N c) := cell_of_row w g 0 _ _ _ hbox
  have q1 : w.frozen? ⟨g, 0, none⟩ = false := frozen_of_row w g 0 _ _ hbox
  have hbx : (w.setCell ⟨g, 0, none⟩ (.slice (some ⟨b0, off + m, none⟩) (N - m) (c - m))).heap[g]? = some (.cells #[.slice (some ⟨b0, off + m, none⟩) (N - m) (c - m)] 34 (0, 0)) := heap_setCell_same w g 0 _ _ _ hbox
  have htn := Tn.setCell g g w (.slice (some ⟨b0, off + m, none⟩) (N - m) (c - m))
  have hlt : g < w.heap.size := (Array.getElem?_eq_some_iff.1 hbox).1
  have hbB := htn.below (B := B) (Nat.le_trans h.base (by omega)) h.base h.base
  have hh := h.holds.below hbB
  have hrest : Rest (w.setCell ⟨g, 0, none⟩ (.slice (some ⟨b0, off + m, none⟩) (N - m) (c - m))) g B (bs.drop n) := by
    have hl : (bs.drop n).length = N - m := by rw [List.length_drop]; omega
    refine ⟨b0, off + m, c - m, ⟨by rw [hl]; exact hbx, ?_, by rw [hl]; omega, by rw [hl]; omega, h.base⟩⟩
    have h1 := Holds.drop (k := m) (m := N - m) hh (by omega)
    have e : (bs.drop m).take (N - m) = bs.drop n := by
      rw [List.take_of_length_le (by rw [List.length_drop]; omega)]
      rcases Nat.le_total n N with h2 | h2
      · rw [show m = n by omega]
      · rw [List.drop_eq_nil_of_le (by omega), List.drop_eq_nil_of_le (by omega)]
    rw [e] at h1
    rwa [hl]
  have htake : Holds (w.setCell ⟨g, 0, none⟩ (.slice (some ⟨b0, off + m, none⟩) (N - m) (c - m))) B (some ⟨b0, off, none⟩) (bs.take n).length (bs.take n) := by
    have h1 := Holds.take (k := m) hh (by omega)
    have e : bs.take m = bs.take n := by
      rcases Nat.le_total n N with h2 | h2
      · rw [show m = n by omega]
      · rw [List.take_of_length_le (by omega), List.take_of_length_le (by omega)]
    rw [e] at h1
    rwa [htl]
  have HREST := Lib.hid hrest; clear hrest
  have HTAKE := Lib.hid htake; clear htake
  have HTL := Lib.hid htl; clear htl
  have HTN := Lib.hid htn; clear htn
  clear hm hN hbox hbx hbB hh h
  go_enter Try.func46, Try.ntmps46
  go_wp2
  go_ret
  exact ⟨some ⟨b0, off, none⟩, c, by rw [HTL.out]; rfl, HTAKE.out, HREST.out, HTN.out⟩


set_option maxRecDepth 100000 in
set_option maxHeartbeats 1000000 in
theorem numb_any (A : Option Addr) (n c B : Nat) (bs : List UInt8) (w : World) (h : Holds w B A n bs) (hn : n ≤ 4) :
    Calls Try.prog 47 #[.slice A n c] w fun e w' => e = .returned (.int .i64 (nmb bs : Int)) ∧ w = w' := by
  have hnum := number_any A n c B bs w h (by omega)
  have hbl := h.1
  have hlt := numAt_lt bs bs.length
  have hpow : 2 ^ (8 * bs.length) ≤ 2 ^ 32 := Nat.pow_le_pow_right (by omega) (by omega)
  have hlt2 : nmb bs < 4294967296 := Nat.lt_of_lt_of_le hlt hpow
  have hq : numAt bs n = nmb bs := by rw [← hbl]; rfl
  rw [hq] at hnum
  obtain ⟨v, hv⟩ : ∃ v, v = nmb bs := ⟨_, rfl⟩
  rw [← hv] at hnum hlt2 ⊢
  have hw : IntKind.i64.wrap (v : Int) = (v : Int) := by rw [IntKind.wrap_i64]; omega
  have HN := Lib.hid hnum; clear hnum hlt hpow hq hv h hbl
  go_enter Try.func47, Try.ntmps47
  go_wp2_with (with_reducible refine HN.out.mono ?_; rintro E w2 ⟨rfl, rfl⟩)
  go_ret
  exact ⟨rfl, rfl⟩
theorem take2 (g B : Nat) (bs : List UInt8) (w : World) (h : Rest w g B bs) :
    Calls Try.prog 46 #[.int .i64 2, .pointer (some ⟨g, 0, none⟩)] w fun e w' => ∃ A c, e = .returned (.slice A (bs.take 2).length c) ∧ Holds w' B A (bs.take 2).length (bs.take 2) ∧ Rest w' g B (bs.drop 2) ∧ Tn g g w w' := take_any g B 2 bs w h
theorem take1 (g B : Nat) (bs : List UInt8) (w : World) (h : Rest w g B bs) :
    Calls Try.prog 46 #[.int .i64 1, .pointer (some ⟨g, 0, none⟩)] w fun e w' => ∃ A c, e = .returned (.slice A (bs.take 1).length c) ∧ Holds w' B A (bs.take 1).length (bs.take 1) ∧ Rest w' g B (bs.drop 1) ∧ Tn g g w w' := take_any g B 1 bs w h
theorem nmb_one (r : List UInt8) : nmb (r.take 1) ≤ 255 := by
  have h1 := numAt_lt (r.take 1) (r.take 1).length
  have hp : 2 ^ (8 * (r.take 1).length) ≤ 2 ^ 8 := Nat.pow_le_pow_right (by omega) (by rw [List.length_take]; omega)
  unfold nmb
  omega
theorem stP_len (b : List UInt8) : ∀ k, (stP b k).2.length = k
  | 0 => rfl
  | k + 1 => by unfold stP; rw [List.length_append, stP_len b k]; rfl
theorem OwnX.tn {w w' : World} {base g : Nat} {v : Value} {l : List Pr} (h : OwnX w base v l) (ht : Tn g g w w') (hg : g < base) : OwnX w' base v l :=
  h.kept fun k hk => ht.block k (h.lt k hk).2 (by have := (h.lt k hk).1; omega) (by have := (h.lt k hk).1; omega)
theorem Rest.grown {w w' : World} {g B : Nat} {bs : List UInt8} {row : Option Nat} (h : Rest w g B bs) (hg : w.grownBy w' row) (hr : ∀ k, row = some k → g < k) : Rest w' g B bs := by
  obtain ⟨b0, off, c, h⟩ := h
  have hlt : g < w.heap.size := (Array.getElem?_eq_some_iff.1 h.box).1
  have hkeep : ∀ i, i ≤ g → w'.heap[i]? = w.heap[i]? := fun i hi => hg.block i (by omega) (fun e => by have := hr i e.symm; omega)
  have hb : Below B w w' := ⟨hg.os, hg.tape, hg.output, hg.size, fun i hi => hkeep i (by have := h.base; omega)⟩
  exact ⟨b0, off, c, ⟨(hkeep g (Nat.le_refl _)).trans h.box, h.holds.below hb, h.room, h.len, h.base⟩⟩
end Go.Proofs.Ytbagocghlijleaa.At
