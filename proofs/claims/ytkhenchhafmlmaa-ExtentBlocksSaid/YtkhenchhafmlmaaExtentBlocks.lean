/- ExtentBlocks: for every list of extents, every extent and every bound, block by block a put adds just its own blocks, a cut takes just those named, and a mark turns them written; and what they answer is right. -/
import Derived.Test.YtkhenchhafmlmaaExAlive
import Derived.Test.YtkhenchhafmlmaaExCalls
import Derived.Test.YtkhenchhafmlmaaExMark
import Derived.Test.YtkhenchhafmlmaaExLaws
import Derived.Test.YtkhenchhafmlmaaExBlk111
import Derived.Test.YtkhenchhafmlmaaExBlk110
import Derived.Test.YtkhenchhafmlmaaExBlk101
import Derived.Test.YtkhenchhafmlmaaExBlk100
import Derived.Test.YtkhenchhafmlmaaExBlk01
import Derived.Test.YtkhenchhafmlmaaExBlk00
namespace Go.Proofs.Ytkhenchhafmlmaa.ExtentBlocks
set_option maxRecDepth 20000
open Go.ChangeShapes Go.WideShapes Go.ChangeAt Go.RowKit
open Go.Proofs.Ytkhenchhafmlmaa.Mem Go.Proofs.Ytkhenchhafmlmaa.Crc Go.Proofs.Ytkhenchhafmlmaa.Rec Go.Proofs.Ytkhenchhafmlmaa.Ex Go.Proofs.Ytkhenchhafmlmaa.Lift Go.Proofs.Ytkhenchhafmlmaa.Reg
attribute [local go_sem ↓] ldX_eq stX_eq eqX_eq neqX_eq ldS_eq eqS_eq neqS_eq

set_option maxRecDepth 100000 in
set_option maxHeartbeats 16000000 in
theorem walk (A : Option Addr) (n c : Nat) (l : List X) (e : X) (to : Int) (w : World) (h : HoldsX w w.heap.size A n l) (hr : ∀ x ∈ l, x.rep) (he : e.rep) (hc : n ≤ c) :
    Calls Try.prog 5 #[.slice A n c, .agg e.c, .int .i64 to] w fun E w' => E = .returned (.bool true) ∧ Below w.heap.size w w' := by
  by_cases hrl0 : right l = true
  · by_cases hA : (putL l e).2 = 0
    · by_cases hB : (cutL l e.a to).2.2 = 0
      · by_cases hC : (markL l e.a to).2 = 0
        · exact ExBlk111.walk A n c l e to w h hr he hc hrl0 hC hA hB
        · exact ExBlk110.walk A n c l e to w h hr he hc hrl0 hC hA hB
      · by_cases hC : (markL l e.a to).2 = 0
        · exact ExBlk101.walk A n c l e to w h hr he hc hrl0 hC hA hB
        · exact ExBlk100.walk A n c l e to w h hr he hc hrl0 hC hA hB
    · by_cases hB : (cutL l e.a to).2.2 = 0
      · exact ExBlk01.walk A n c l e to w h hr he hc hrl0 hA hB
      · exact ExBlk00.walk A n c l e to w h hr he hc hrl0 hA hB
  have hrl1 : right l = false := by simpa using hrl0
  clear hrl0
  obtain ⟨W, hW⟩ : ∃ W, W = w.alloc (.cells e.c 24) := ⟨_, rfl⟩
  have hbw : Below w.heap.size w W := by rw [hW]; exact (Below.refl _ _).alloc (Nat.le_refl _) _
  have hve : VarX W w.heap.size e := hW ▸ VarX.new w e
  have hz : W.heap.size = w.heap.size + 1 := by rw [hW]; simp
  have hh : ∀ V, Below W.heap.size W V → HoldsX V w.heap.size A n l ∧ w.heap.size ≤ V.heap.size := fun V hV => ⟨h.below (hbw.trans (hV.mono hbw.size)), by have := hV.size; omega⟩
  have hld : ∀ V, Below W.heap.size W V → (ldX (.pointer (some ⟨w.heap.size, 0, none⟩))).run Try.prog V = .ok (.agg e.c) V ∧ V.cell? ⟨w.heap.size, 0, none⟩ = some (.int .i64 e.a) ∧ V.cell? ⟨w.heap.size, 1, none⟩ = some (.int .i64 e.s) ∧ V.cell? ⟨w.heap.size, 2, none⟩ = some (.int .i64 e.n) ∧ V.cell? ⟨w.heap.size, 3, none⟩ = some (.bool e.u) := fun V hV => by
    have hv : VarX V w.heap.size e := hve.keep hV (by omega)
    exact ⟨hv.load, hv.cells.1, hv.cells.2.1, hv.cells.2.2.1, hv.cells.2.2.2⟩
  have HH := Lib.hid hh; clear hh
  have HLD := Lib.hid hld; clear hld
  have HBW := Lib.hid hbw; clear hbw
  have HWE := Lib.hid hW; clear hW hve h hz
  have hchk := fun V (hV : Below W.heap.size W V) => check_any A n c w.heap.size l V (HH.out V hV).1 (HH.out V hV).2 hr hc
  · have hrl := hrl1
    clear hrl1
    have hch : chkX l = 1 := by unfold chkX; rw [hrl]; rfl
    have hnd : needL l = -1 := by unfold needL; rw [hrl]; rfl
    have hneed := fun V (hV : Below W.heap.size W V) => need_any A n c w.heap.size l V (HH.out V hV).1 (HH.out V hV).2 hr hc
    rw [hch] at hchk
    rw [hnd] at hneed
    have HCHK := Lib.hid hchk; clear hchk
    have HNEED := Lib.hid hneed; clear hneed hr he hrl hch hnd HLD
    generalize e.c = EC at HWE ⊢
    go_enter Try.func5, Try.ntmps5
    go_wp2_with fail
    rw [← HWE.out]
    with_reducible refine (alive_any W).mono ?_
    rintro E w1 ⟨rfl, hb1⟩
    have HB1 := Lib.hid hb1; clear hb1
    go_wp2_with fail
    with_reducible refine (HCHK.out w1 HB1.out).mono ?_
    rintro E w2 ⟨rfl, hb2⟩
    have HB2 : Hid (Below W.heap.size W w2) := Lib.hid (HB1.out.trans (hb2.mono HB1.out.size))
    clear hb2
    go_wp2_with fail
    with_reducible refine (HNEED.out w2 HB2.out).mono ?_
    rintro E w3 ⟨rfl, hb3⟩
    have HB3 : Hid (Below w.heap.size w w3) := Lib.hid (HBW.out.trans ((HB2.out.trans (hb3.mono HB2.out.size)).mono HBW.out.size))
    clear hb3
    go_wp2
    go_ret
    exact ⟨rfl, HB3.out⟩

theorem walks : Walks 5 Try.f5 All := by
  intro H enc W base args ds p hval hA hsz _
  rw [Try.params5] at hA hval hsz
  obtain ⟨v0, vs0, d0, ds0, p0, q0, hargs, rfl, rfl, h0, r0⟩ := trodAll_cons hA
  obtain ⟨v1, vs1, d1, ds1, p1, q1, rfl, rfl, rfl, h1, r1⟩ := trodAll_cons r0
  obtain ⟨v2, vs2, d2, ds2, p2, q2, rfl, rfl, rfl, h2, r2⟩ := trodAll_cons r1
  obtain ⟨rfl, rfl, rfl⟩ := trodAll_nil r2
  obtain rfl : args = #[v0, v1, v2] := by cases args; simp_all
  obtain ⟨A, n, c, l, rfl, hl, hr, hn, hc⟩ := exts_open (hval 0 _ v0 rfl rfl) h0 _ (reach_exts hsz (j := 0) rfl rfl)
  obtain ⟨e, rfl, he⟩ := ext_by_value (hval 1 _ v1 rfl rfl) h1
  obtain ⟨x2, rfl, rfl, rfl, hx2⟩ := open_int Try.underlying3 (hval 2 _ v2 rfl rfl) h2
  have bx2 := bounds_i64 hx2
  exact walk A n c l e x2 W hl hr he hn

set_option maxRecDepth 100000 in
theorem proved : Rows.ExtentBlocksSaid :=
  OpenClaim.holds_of_wide 5 Try.f5 rfl rfl rfl rfl rfl rfl rfl ⟨rfl, rfl, rfl, rfl, rfl⟩ rfl rfl rfl rfl rfl (by kernel_rfl) Try.func5 (by kernel_rfl)
    (of_decide_eq_true (by kernel_rfl)) (by unfold Func.isWrapper; first | (rw [if_pos (by decide +kernel)]; kernel_rfl) | (rw [if_neg (by decide +kernel)]; exact ⟨rfl, rfl⟩))
    (fun os started H enc _ => lifted (s := Rows.extentBlocksSpec) walks (by kernel_rfl) rfl rfl (fun H ds hl => by match ds, hl with | [d1, d2, d3], _ => rfl) (by kernel_rfl) Try.func5 os started H enc
      (ChangeSpec.witness6 (enc := enc) (C := Try.checked) false ⟨#[], #[.slice none 0 0, .agg #[.int .i64 0, .int .i64 0, .int .i64 0, .bool false], .int .i64 0], []⟩ 8 (by kernel_rfl) (by kernel_rfl) (by kernel_rfl) (by kernel_rfl)))
#print axioms proved
end Go.Proofs.Ytkhenchhafmlmaa.ExtentBlocks
