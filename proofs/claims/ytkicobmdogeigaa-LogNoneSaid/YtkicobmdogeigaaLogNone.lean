/- A log that is none refuses records, and no call of it panics: proved for every record. -/
import Derived.Test.YtkicobmdogeigaaLgAlive
import Derived.Test.YtkicobmdogeigaaLgNil
import Derived.Test.YtkicobmdogeigaaRcWide
namespace Go.Proofs.Ytkicobmdogeigaa.LogNone
set_option maxRecDepth 20000
open Go.ChangeShapes Go.WideShapes Go.ChangeAt Go.RowKit
open Go.Proofs.Ytkicobmdogeigaa.Mem Go.Proofs.Ytkicobmdogeigaa.Lift Go.Proofs.Ytkicobmdogeigaa.Log
open Go.Proofs.Ytkicobmdogeigaa.Rec (txn_open_wide txn_weights)

set_option maxRecDepth 100000 in
set_option maxHeartbeats 4000000 in
theorem walk (sq : Int) (Aw : Option Addr) (nw cw : Nat) (Ar : Option Addr) (nr cr : Nat) (w : World) :
    Calls Try.prog 9 #[.agg #[.int .u64 sq, .slice Aw nw cw, .slice Ar nr cr]] w fun e w' => e = .returned (.bool true) ∧ Below w.heap.size w w' := by
  have hb1 : Below w.heap.size w (w.alloc (.cells #[.int .u64 sq, .slice Aw nw cw, .slice Ar nr cr] 67)) := (Below.refl _ w).alloc (Nat.le_refl _) _
  have hx1 : (w.alloc (.cells #[.int .u64 sq, .slice Aw nw cw, .slice Ar nr cr] 67)).heap[w.heap.size]? = some (.cells #[.int .u64 sq, .slice Aw nw cw, .slice Ar nr cr] 67 (0, 0)) := heap_alloc_new w _
  have HB1 := Lib.hid hb1; clear hb1
  have HX1 := Lib.hid hx1; clear hx1
  go_enter Try.func9, Try.ntmps9
  go_wp2_with fail
  generalize w.alloc (.cells #[.int .u64 sq, .slice Aw nw cw, .slice Ar nr cr] 67) = W at HB1 HX1 ⊢
  refine (alive_any _).mono ?_
  rintro e w1 ⟨rfl, hb⟩
  have hx2 := (hb.block _ (Array.getElem?_eq_some_iff.1 HX1.out).1).trans HX1.out
  have e1 : w1.cell? ⟨w.heap.size, 1, none⟩ = some (.slice Aw nw cw) := cell_of_row w1 _ 1 _ _ _ hx2
  have e2 : w1.cell? ⟨w.heap.size, 2, none⟩ = some (.slice Ar nr cr) := cell_of_row w1 _ 2 _ _ _ hx2
  have HB2 : Hid (Below w.heap.size w w1) := Lib.hid (HB1.out.trans (hb.mono HB1.out.size))
  clear hb hx2 HX1 HB1
  go_wp2_with fail
  refine (append_nil _ _ _).mono ?_
  rintro e w2 ⟨rfl, rfl⟩
  clear e1 e2
  go_wp2_with fail
  refine (home_nil _).mono ?_
  rintro e w2 ⟨rfl, rfl⟩
  go_wp2_with fail
  refine (sync_nil _).mono ?_
  rintro e w2 ⟨rfl, rfl⟩
  go_wp2_with fail
  refine (next_nil _).mono ?_
  rintro e w2 ⟨rfl, rfl⟩
  go_wp2_with fail
  refine (room_nil _).mono ?_
  rintro e w2 ⟨rfl, rfl⟩
  go_wp2
  go_ret
  exact ⟨rfl, HB2.out⟩

theorem walks : Walks 9 Try.f9 All := by
  intro H enc W base args ds p hval hA hsz _
  rw [Try.params9] at hA hval hsz
  obtain ⟨v0, vs0, d0, ds0, p0, q0, hargs, rfl, rfl, h0, r0⟩ := trodAll_cons hA
  obtain ⟨rfl, rfl, rfl⟩ := trodAll_nil r0
  obtain rfl : args = #[v0] := by cases args; simp_all
  obtain ⟨t, Aw, nw, cw, Ar, nr, cr, rfl, ht, hW⟩ := txn_open_wide (hval 0 _ v0 rfl rfl) h0 (txn_weights hsz (j := 0) rfl rfl)
  exact walk (t.seq : Int) Aw nw cw Ar nr cr W

set_option maxRecDepth 100000 in
theorem proved : Rows.LogNoneSaid :=
  OpenClaim.holds_of_wide 9 Try.f9 rfl rfl rfl rfl rfl rfl rfl ⟨rfl, rfl, rfl, rfl, rfl⟩ rfl rfl rfl rfl rfl (by kernel_rfl) Try.func9 (by kernel_rfl)
    (of_decide_eq_true (by kernel_rfl)) (by unfold Func.isWrapper; first | (rw [if_pos (by decide +kernel)]; kernel_rfl) | (rw [if_neg (by decide +kernel)]; exact ⟨rfl, rfl⟩))
    (fun os started H enc _ => lifted (s := Rows.logNoneSpec) walks (by kernel_rfl) rfl rfl (fun H ds hl => by match ds, hl with | [d1], _ => rfl) (by kernel_rfl) Try.func9 os started H enc
      (ChangeSpec.witness6 (enc := enc) (C := Try.checked) false ⟨#[], #[.agg #[.int .u64 0, .slice none 0 0, .slice none 0 0]], []⟩ 8 (by kernel_rfl) (by kernel_rfl) (by kernel_rfl) (by kernel_rfl)))
#print axioms proved
end Go.Proofs.Ytkicobmdogeigaa.LogNone
