/- The fixed fact of layer 8; spans compared. -/
import Derived.Test.YtnkiblifnknbkaaBdTake
namespace Go.Proofs.Ytnkiblifnknbkaa.Buddy
set_option maxRecDepth 20000
open Go Go.RowKit
open Go.Proofs.Ytnkiblifnknbkaa.Mem Go.Proofs.Ytnkiblifnknbkaa.Bt Go.Proofs.Ytnkiblifnknbkaa.Rec Go.Proofs.Ytnkiblifnknbkaa.Bits Go.Proofs.Ytnkiblifnknbkaa.Bd

def eqS (x y : Value) : Sem Value := binOp .eql 27 x y
theorem eqS_eq (x y : Value) : binOp .eql 27 x y = eqS x y := rfl
theorem run_eqS (w : World) (s l s' l' : Int) : (eqS (.agg (spanV s l)) (.agg (spanV s' l'))).run Try.prog w = .ok (.bool (decide (s = s' ∧ l = l'))) w := by
  have u3 := Try.underlying3
  have hS : Try.prog.underlying 27 = some (.struct (Try.prog.fieldsOf 27)) := by kernel_rfl
  have hp : Try.prog.stoodInHeld 27 = false := by kernel_rfl
  unfold eqS spanV
  rw [run_eql_struct, show (10000 : Nat) = 9999 + 1 from rfl, run_equalIn_agg w 9999 27 _ _ hS hp]
  simp only [Program.fieldsOf, Try.underlying27]
  by_cases h1 : s = s'
  · by_cases h2 : l = l'
    · go_simp
    · go_simp
  · go_simp
attribute [local go_sem ↓] ldS_eq stS_eq eqS_eq shlN_eq

theorem find0 : IsFind (bt [0]) 8 2 0 ((0 : Nat) : Int) := by
  have hc : Ch (bt [0]) 8 2 0 := ⟨⟨0, rfl⟩, by decide +kernel⟩
  exact .inr ⟨0, rfl, hc, .inl ⟨Nat.le_refl _, fun b _ _ => Nat.zero_le b⟩⟩
theorem take0 {r : Option (Nat × Nat)} (h : IsTake (bt [0]) 8 (leastO 3) 0 r) : r = some (0, 2) :=
  take_unique h ⟨Nat.le_refl _, find0, fun j h1 h2 => by have : leastO 3 = 2 := rfl; omega⟩
theorem fill0 : fillL [0] ((0 : Nat) : Int) ((0 + min 3 (2 ^ 2) : Nat) : Int) true = [7] :=
  Filled.one (fillL_ok [0] _ _ true) ⟨rfl, fun i hi => by
    have : ∀ i : Fin 8, bt [7] i.1 = if ((0 : Nat) : Int).toNat ≤ i.1 ∧ i.1 < hiN ([0] : List UInt8).length ((0 + min 3 (2 ^ 2) : Nat) : Int) then true else bt [0] i.1 := by decide +kernel
    exact this ⟨i, hi⟩⟩
theorem cnts7 : cnts (chunksL (bt [7]) 8) = #[.int .i64 1, .int .i64 0, .int .i64 1, .int .i64 0, .int .i64 0, .int .i64 0, .int .i64 0] := by
  have h0 : many (chunksL (bt [7]) 8) 0 = 1 := by decide +kernel
  have h1 : many (chunksL (bt [7]) 8) 1 = 0 := by decide +kernel
  have h2 : many (chunksL (bt [7]) 8) 2 = 1 := by decide +kernel
  have h3 : many (chunksL (bt [7]) 8) 3 = 0 := by decide +kernel
  have h4 : many (chunksL (bt [7]) 8) 4 = 0 := by decide +kernel
  have h5 : many (chunksL (bt [7]) 8) 5 = 0 := by decide +kernel
  have h6 : many (chunksL (bt [7]) 8) 6 = 0 := by decide +kernel
  simp [cnts, h0, h1, h2, h3, h4, h5, h6]

set_option maxRecDepth 100000 in
set_option maxHeartbeats 2000000 in
theorem alive_any (w : World) :
    Calls Try.prog 10 #[] w fun e w' => e = .returned (.bool true) ∧ Below w.heap.size w w' := by
  go_enter Try.func10, Try.ntmps10
  go_wp2_with fail
  obtain ⟨w1, hw1⟩ : ∃ x, x = w.alloc (.cells #[.int .u8 0] 5) := ⟨_, rfl⟩
  have ho : Owned w1 w.heap.size (.slice (some ⟨w.heap.size, 0, none⟩) 1 1) [0] := hw1 ▸ owned_made w [0] w.heap.size (Nat.le_refl _) (by unfold maxLen; simp)
  have hb1 : Below w.heap.size w w1 := hw1 ▸ (Below.refl _ w).alloc (Nat.le_refl _) _
  rw [← hw1]
  have hh := Owned.reads ho
  have htk : Calls Try.prog 11 #[.slice (some ⟨w.heap.size, 0, none⟩) 1 1, .int .i64 8, .int .i64 3, .int .i64 0] w1 _ := take_run (some ⟨w.heap.size, 0, none⟩) 1 1 w1.heap.size [0] w1 8 3 0 hh (Nat.le_refl _) (by omega) (by omega) (by omega) (by omega) (by omega)
  have HB1 := Lib.hid hb1; clear hb1 ho hw1 hh
  with_reducible refine htk.mono ?_
  clear htk
  rintro e w2 ⟨r, hr, hout⟩
  obtain rfl := take0 hr
  obtain ⟨-, A2, c2, rfl, hb2, ho2, -⟩ := hout
  rw [fill0] at ho2
  have hb2' : Below w.heap.size w w2 := HB1.out.trans (hb2.mono HB1.out.size)
  obtain ⟨b, off, u, rfl, hu, hc0⟩ := holds_cell (Owned.reads ho2) 0 (by omega)
  have hu7 : u = 7 := hu.symm
  subst hu7
  have hbb : b < w2.heap.size := block_lt_of_cell hc0
  have q := run_stS_new w2 0 3
  clear hr hu ho2 hb2 HB1
  have HB2 := Lib.hid hb2'; clear hb2'
  have HC0 := Lib.hid hc0; clear hc0
  go_wp2_with fail
  obtain ⟨w3, hw3⟩ : ∃ x, x = w2.alloc (.cells (spanV 0 3) 27) := ⟨_, rfl⟩
  obtain ⟨w4, hw4⟩ : ∃ x, x = w3.alloc (.cells #[.int .u8 7] 5) := ⟨_, rfl⟩
  have hs3 : w3.heap.size = w2.heap.size + 1 := by rw [hw3]; simp
  have hrow3 : w3.heap[w2.heap.size]? = some (.cells (spanV 0 3) 27 (0, 0)) := by rw [hw3]; exact heap_alloc_new w2 _
  have ho4 : Owned w4 w3.heap.size (.slice (some ⟨w3.heap.size, 0, none⟩) 1 1) [7] := hw4 ▸ owned_made w3 [7] w3.heap.size (Nat.le_refl _) (by unfold maxLen; simp)
  have hb34 : Below w3.heap.size w3 w4 := hw4 ▸ (Below.refl _ w3).alloc (Nat.le_refl _) _
  have hb23 : Below w2.heap.size w2 w3 := hw3 ▸ (Below.refl _ w2).alloc (Nat.le_refl _) _
  rw [← hw3, ← hw4]
  have hcall : Calls Try.prog 15 #[.slice (some ⟨w3.heap.size, 0, none⟩) 1 1, .int .i64 8] w4 _ := orders_ok (some ⟨w3.heap.size, 0, none⟩) 1 1 w4.heap.size [7] 8 w4 (Owned.reads ho4) (Nat.le_refl _) (by omega) (by omega)
  rw [cnts7, hs3] at hcall
  have HC := Lib.hid hcall; clear hcall ho4
  have hb4 : Below w2.heap.size w2 w4 := hb23.trans (hb34.mono (by omega))
  have hrow4 := (hb34.block w2.heap.size (by omega)).trans hrow3
  have HB4 := Lib.hid hb4; clear hb4 hb34 hb23 hw3 hw4 hrow3
  have HR4 := Lib.hid hrow4; clear hrow4
  with_reducible refine HC.out.mono ?_
  rintro e w5 ⟨M, hM, rfl, hrow, hb5⟩
  have hs4 := HB4.out.size
  have hrow5 := (hb5.block w2.heap.size (by have := (Array.getElem?_eq_some_iff.1 HR4.out).1; exact this)).trans HR4.out
  have l1 := run_ldS w5 w2.heap.size 0 3 hrow5
  have l2 : (eqS (.agg (spanV 0 3)) (.agg #[.int .i64 0, .int .i64 3])).run Try.prog w5 = .ok (.bool true) w5 := run_eqS w5 0 3 0 3
  have hb25 : Below w2.heap.size w2 w5 := HB4.out.trans (hb5.mono hs4)
  have c0 : w5.cell? ⟨b, off, none⟩ = some (.int .u8 7) := (hb25.cell (p := ⟨b, off, none⟩) hbb).trans HC0.out
  have c0' : w5.cell? ⟨b, off + 0, none⟩ = some (.int .u8 7) := c0
  have c1 : w5.cell? ⟨M, 0, none⟩ = some (.int .i64 1) := cell_of_row w5 M 0 _ _ _ hrow
  have c2' : w5.cell? ⟨M, 2, none⟩ = some (.int .i64 1) := cell_of_row w5 M 2 _ _ _ hrow
  have HBF := Lib.hid (HB2.out.trans (hb25.mono HB2.out.size))
  clear hb5 hb25 HC hrow hrow5
  go_wp2
  go_ret
  exact ⟨rfl, HBF.out⟩
end Go.Proofs.Ytnkiblifnknbkaa.Buddy
