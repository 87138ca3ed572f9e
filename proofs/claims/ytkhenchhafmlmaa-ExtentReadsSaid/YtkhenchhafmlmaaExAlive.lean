/- The fixed fact of layer 10. -/
import Derived.Test.YtkhenchhafmlmaaExSpan
import Derived.Test.YtkhenchhafmlmaaExPut
namespace Go.Proofs.Ytkhenchhafmlmaa.Ex
set_option maxRecDepth 20000
open Go.RowKit
open Go.Proofs.Ytkhenchhafmlmaa.Mem Go.Proofs.Ytkhenchhafmlmaa.Crc Go.Proofs.Ytkhenchhafmlmaa.Rec Go.Proofs.Ytkhenchhafmlmaa.Reg
attribute [local go_sem ↓] ldX_eq stX_eq eqX_eq neqX_eq ldS_eq eqS_eq neqS_eq

theorem alive_put : putL [⟨2, 52, 3, false⟩] ⟨0, 50, 2, false⟩ = ([⟨0, 50, 5, false⟩], 0) := by decide +kernel
theorem alive_cut : cutL [⟨0, 50, 5, false⟩] 1 3 = ([⟨0, 50, 1, false⟩, ⟨3, 53, 2, false⟩], [(51, 2)], 0) := by decide +kernel

set_option maxRecDepth 100000 in
set_option maxHeartbeats 1000000 in
theorem alive_any (w : World) :
    Calls Try.prog 11 #[] w fun e w' => e = .returned (.bool true) ∧ Below w.heap.size w w' := by
  obtain ⟨W, hW⟩ : ∃ W, W = w.alloc (.cells #[.int .i64 2, .int .i64 52, .int .i64 3, .bool false] 24) := ⟨_, rfl⟩
  have hv : VarX W w.heap.size ⟨2, 52, 3, false⟩ := hW ▸ heap_alloc_new w _
  have hb : Below w.heap.size w W := hW ▸ (Below.refl _ w).alloc (Nat.le_refl _) _
  have hone : HoldsX W W.heap.size (some ⟨w.heap.size, 0, none⟩) 1 [⟨2, 52, 3, false⟩] := ⟨rfl, fun _ => ⟨w.heap.size, 0, rfl, hv.lt, fun j hj k hk => by
    have : j = 0 := by simpa using hj
    subst this
    rw [show 0 + 0 * 4 + k = k by omega, cell_of_row _ _ k _ _ _ hv]; rfl⟩⟩
  have hrep : ∀ x : X, 0 ≤ x.a ∧ x.a ≤ 100 → 0 ≤ x.s ∧ x.s ≤ 100 → 0 ≤ x.n ∧ x.n ≤ 100 → x.rep := fun x h1 h2 h3 => ⟨⟨by omega, by omega⟩, ⟨by omega, by omega⟩, ⟨by omega, by omega⟩⟩
  have hput := put_any (some ⟨w.heap.size, 0, none⟩) 1 1 W.heap.size [⟨2, 52, 3, false⟩] ⟨0, 50, 2, false⟩ W hone (Nat.le_refl _) (fun x hx => by rw [List.mem_singleton.1 hx]; exact hrep _ (by simp) (by simp) (by simp)) (hrep _ (by simp) (by simp) (by simp)) (Nat.le_refl _)
  rw [alive_put] at hput
  have hput' : Calls Try.prog 13 #[.slice (some ⟨w.heap.size, 0, none⟩) 1 1, .agg #[.int .i64 0, .int .i64 50, .int .i64 2, .bool false]] W _ := hput
  have HPUT := Lib.hid hput'; clear hput' hput
  have HB := Lib.hid hb; clear hb
  have HWE := Lib.hid hW; clear hW hv hone hrep
  go_enter Try.func11, Try.ntmps11
  go_wp2_with fail
  rw [← HWE.out]
  with_reducible refine HPUT.out.mono ?_
  rintro E V ⟨A, c, rfl, ho, hb⟩
  have HBV : Hid (Below w.heap.size w V) := Lib.hid (HB.out.trans (hb.mono HB.out.size))
  have HO := Lib.hid ho
  have hfit := ho.fits
  have hcut := cut_any A 1 c V.heap.size [⟨0, 50, 5, false⟩] 1 3 V ho.reads (Nat.le_refl _) (fun x hx => by rw [List.mem_singleton.1 hx]; exact ⟨⟨by simp, by simp⟩, ⟨by simp, by simp⟩, ⟨by simp, by simp⟩⟩) hfit.2.1
  rw [alive_cut] at hcut
  have HCUT := Lib.hid hcut; clear hcut hfit ho hb HPUT
  go_wp2_with fail
  with_reducible refine HCUT.out.mono ?_
  rintro E V2 ⟨A1, c1, A2, c2, rfl, ho1, ho2, hb2⟩
  have HB2 : Hid (Below w.heap.size w V2) := Lib.hid (HBV.out.trans (hb2.mono HBV.out.size))
  have r0 := (HO.out.reads).below hb2
  have r1 := ho1.reads
  have r2 := ho2.reads
  dsimp only at r0 r1 r2 ⊢
  obtain ⟨b0, off0, rfl, -⟩ := r0.addr (by simp)
  obtain ⟨b1, off1, rfl, -⟩ := r1.addr (by simp)
  obtain ⟨b2, off2, rfl, -⟩ := r2.addr (by simp)
  have q0 := run_ldX_at r0 0 (by simp) off0 (by omega)
  have q1 := run_ldX_at r1 1 (by simp) (off1 + 4) (by omega)
  have q2 := run_ldS_at r2 0 (by simp) off2 (by omega)
  simp only [List.getElem_cons_zero, List.getElem_cons_succ] at q0 q1 q2
  have e0 := run_eqX V2 ⟨0, 50, 5, false⟩ ⟨0, 50, 5, false⟩
  have e1 := run_eqX V2 ⟨3, 53, 2, false⟩ ⟨3, 53, 2, false⟩
  have e2 := run_eqS V2 (51, 2) (51, 2)
  rw [decide_eq_true rfl] at e0 e1 e2
  simp only [X.c, spanV] at q0 q1 q2 e0 e1 e2
  clear r0 r1 r2 ho1 ho2 hb2 HO HCUT HBV
  go_wp2
  go_ret
  exact ⟨rfl, HB2.out⟩
end Go.Proofs.Ytkhenchhafmlmaa.Ex
