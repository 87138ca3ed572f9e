/- An extent's bytes: the program's call and the document's. -/
import Derived.Test.YtkhenchhafmlmaaExCode
import Derived.Test.YtkhenchhafmlmaaExMem
import Derived.Test.YtkhenchhafmlmaaReg
import Derived.RegionTactic
import Derived.ChangeAlike
import Derived.Deep.RegionWith
import Derived.Deep.DrawnRows
import Derived.LoopTactic
namespace Go.Proofs.Ytkhenchhafmlmaa.Ex
set_option maxRecDepth 20000
open Go.RowKit
open Go.Proofs.Ytkhenchhafmlmaa.Mem Go.Proofs.Ytkhenchhafmlmaa.Crc Go.Proofs.Ytkhenchhafmlmaa.Rec Go.Proofs.Ytkhenchhafmlmaa.Reg
attribute [local go_sem ↓] ldX_eq stX_eq

set_option maxRecDepth 100000 in
set_option maxHeartbeats 2000000 in
theorem coded_any (e : X) (he : e.may = true) (w : World) :
    Calls Try.prog 68 #[.agg e.c] w fun E w' => ∃ A c, E = .returned (.slice A 12 c) ∧ Owned w' w.heap.size (.slice A 12 c) (encX e) ∧ Below w.heap.size w w' := by
  have hem := may_iff.1 he
  obtain ⟨na, hna⟩ : ∃ k : Nat, e.a = (k : Int) := ⟨e.a.toNat, by omega⟩
  obtain ⟨ns, hns⟩ : ∃ k : Nat, e.s = (k : Int) := ⟨e.s.toNat, by omega⟩
  obtain ⟨nn, hnn⟩ : ∃ k : Nat, e.n = (k : Int) := ⟨e.n.toNat, by omega⟩
  obtain ⟨eu, heu⟩ : ∃ eu, e.u = eu := ⟨_, rfl⟩
  have hcell : ∀ V, VarX V w.heap.size e → V.cell? ⟨w.heap.size, 0, none⟩ = some (.int .i64 (na : Int)) ∧ V.cell? ⟨w.heap.size, 1, none⟩ = some (.int .i64 (ns : Int)) ∧ V.cell? ⟨w.heap.size, 2, none⟩ = some (.int .i64 (nn : Int)) ∧ V.cell? ⟨w.heap.size, 3, none⟩ = some (.bool eu) := fun V hV => by
    have := hV.cells
    rw [hna, hns, hnn, heu] at this
    exact this
  have u1 : IntKind.u64.wrap (na : Int) = (na : Int) := by rw [IntKind.wrap_u64]; omega
  have u2 : IntKind.u64.wrap (ns : Int) = (ns : Int) := by rw [IntKind.wrap_u64]; omega
  have u3 : IntKind.u64.wrap (nn : Int) = (nn : Int) := by rw [IntKind.wrap_u64]; omega
  have henc : encX e = bytesL na 4 ++ (bytesL ns 4 ++ (bytesL nn 2 ++ [flagB eu, 0])) := by
    unfold encX
    rw [hna, hns, hnn, heu]; rfl
  have hy0 : over (List.replicate 12 (0 : UInt8)) 0 (bytesL na 4) = bytesL na 4 ++ List.replicate 8 0 := by
    have := over_zeros [] 12 0 (bytesL na 4) rfl
    rwa [List.nil_append, List.nil_append, bytesL_len] at this
  have hy1 : over (bytesL na 4 ++ List.replicate 8 (0 : UInt8)) 4 (bytesL ns 4) = (bytesL na 4 ++ bytesL ns 4) ++ List.replicate 4 0 := by
    have := over_zeros (bytesL na 4) 8 4 (bytesL ns 4) (bytesL_len _ _)
    rwa [bytesL_len] at this
  have hy2 : over ((bytesL na 4 ++ bytesL ns 4) ++ List.replicate 4 (0 : UInt8)) 8 (bytesL nn 2) = ((bytesL na 4 ++ bytesL ns 4) ++ bytesL nn 2) ++ List.replicate 2 0 := by
    have := over_zeros (bytesL na 4 ++ bytesL ns 4) 4 8 (bytesL nn 2) (by simp [bytesL_len])
    rwa [bytesL_len] at this
  have HY0 := Lib.hid hy0; clear hy0
  have HY1 := Lib.hid hy1; clear hy1
  have HY2 := Lib.hid hy2; clear hy2
  have HENC := Lib.hid henc; clear henc
  have HC := Lib.hid hcell; clear hcell
  obtain ⟨C, hC⟩ : ∃ C, C = e.c := ⟨_, rfl⟩
  rw [← hC]
  have hmk : ∀ W, (Instr.makeSlice 46 (.int .i64 12) (.int .i64 12)).run Try.prog W = .ok (.slice (some ⟨W.heap.size, 0, none⟩) 12 12) (W.alloc (.cells ((List.replicate 12 (0 : UInt8)).map byteV).toArray 5)) := run_makeZ 12 (by omega)
  have HMK := Lib.hid hmk; clear hmk
  have hx0 : VarX (w.alloc (.cells C 24)) w.heap.size e := by rw [hC]; exact VarX.new w e
  have hb0 : Below w.heap.size w (w.alloc (.cells C 24)) := (Below.refl _ _).alloc (Nat.le_refl _) _
  have hz0 : (w.alloc (.cells C 24)).heap.size = w.heap.size + 1 := by simp
  have HX0 := Lib.hid hx0; clear hx0
  have HB0 := Lib.hid hb0; clear hb0
  have HZ0 := Lib.hid hz0; clear hz0
  have HLT : Hid (w.heap.size < w.heap.size + 1) := Lib.hid (Nat.lt_succ_self _)
  clear hC hem he hna hns hnn heu
  go_enter Try.func68, Try.ntmps68
  go_wp2_with fail
  rw [HMK.out]
  simp only [Result.andThen]
  rw [Oper.upon_value]
  generalize w.alloc (.cells C 24) = w0 at HX0 HZ0 HB0 ⊢
  obtain ⟨w1, hw1⟩ : ∃ y, y = w0.alloc (.cells ((List.replicate 12 (0 : UInt8)).map byteV).toArray 5) := ⟨_, rfl⟩
  have ho1 : Owned w1 (w.heap.size + 1) (.slice (some ⟨w.heap.size + 1, 0, none⟩) 12 12) (List.replicate 12 0) := by
    rw [hw1, ← HZ0.out]
    have := owned_made w0 (List.replicate 12 (0 : UInt8)) w0.heap.size (Nat.le_refl _) (by unfold maxLen; rw [List.length_replicate]; omega)
    rwa [List.length_replicate] at this
  have HBw1 : Hid (Below w.heap.size w w1) := Lib.hid (by rw [hw1]; exact HB0.out.alloc HB0.out.size _)
  have HVw1 : Hid (VarX w1 w.heap.size e) := Lib.hid (by rw [hw1]; exact HX0.out.alloc _)
  have HZw1 : Hid (w.heap.size + 1 ≤ w1.heap.size) := Lib.hid (by rw [hw1]; have := HZ0.out; simp; omega)
  have HOw1 := Lib.hid ho1; clear ho1
  rw [HZ0.out, ← hw1]
  clear hw1 HB0 HX0 HZ0 HMK
  go_wp2_with fail
  have HOd : Hid (Owned w1.drew (w.heap.size + 1) (.slice (some ⟨w.heap.size + 1, 0, none⟩) 12 12) _) := HOw1
  have HVd : Hid (VarX w1.drew w.heap.size e) := HVw1
  have HBd : Hid (Below w.heap.size w w1.drew) := Lib.hid HBw1.out.drew
  have HZd : Hid (w.heap.size + 1 ≤ w1.drew.heap.size) := HZw1
  obtain ⟨c0, c1, c2, c3⟩ := HC.out _ HVd.out
  clear HOw1 HVw1 HBw1 HZw1
  go_region_with (go_at_call 67; refine (bytes_laid _ na 4 rfl _ (w.heap.size + 1) (w.heap.size + 1) 12 12 _ 0 12 12 HOd.out HZd.out (by omega) (by omega) (by omega) (by omega)).mono ?_; rintro E w4 ⟨A4, c4, w5, rfl, hrun5, ho5, hb5⟩; rw [HY0.out] at ho5; have HOw5 := Lib.hid ho5; have HBw5 : Hid (Below w.heap.size w w5) := Lib.hid (HBd.out.trans (hb5.mono (by omega))); have HZw5 : Hid (w.heap.size + 1 ≤ w5.heap.size) := Lib.hid (Nat.le_trans HZd.out hb5.size); have HVw5 : Hid (VarX w5 w.heap.size e) := Lib.hid (HVd.out.keep hb5 HLT.out); clear ho5 hb5)
  clear hrun5 c0 c1 c2 c3 HOd HVd HBd HZd
  go_wp2_with fail
  have HOd : Hid (Owned w5.drew (w.heap.size + 1) (.slice (some ⟨w.heap.size + 1, 0, none⟩) 12 12) _) := HOw5
  have HVd : Hid (VarX w5.drew w.heap.size e) := HVw5
  have HBd : Hid (Below w.heap.size w w5.drew) := Lib.hid HBw5.out.drew
  have HZd : Hid (w.heap.size + 1 ≤ w5.drew.heap.size) := HZw5
  obtain ⟨c0, c1, c2, c3⟩ := HC.out _ HVd.out
  clear HOw5 HVw5 HBw5 HZw5
  go_region_with (go_at_call 67; refine (bytes_laid _ ns 4 rfl _ (w.heap.size + 1) (w.heap.size + 1) 12 12 _ 4 8 8 HOd.out HZd.out (by omega) (by omega) (by omega) (by omega)).mono ?_; rintro E w4 ⟨A4, c4, w6, rfl, hrun5, ho5, hb5⟩; rw [HY1.out] at ho5; have HOw6 := Lib.hid ho5; have HBw6 : Hid (Below w.heap.size w w6) := Lib.hid (HBd.out.trans (hb5.mono (by omega))); have HZw6 : Hid (w.heap.size + 1 ≤ w6.heap.size) := Lib.hid (Nat.le_trans HZd.out hb5.size); have HVw6 : Hid (VarX w6 w.heap.size e) := Lib.hid (HVd.out.keep hb5 HLT.out); clear ho5 hb5)
  clear hrun5 c0 c1 c2 c3 HOd HVd HBd HZd
  go_wp2_with fail
  have HOd : Hid (Owned w6.drew (w.heap.size + 1) (.slice (some ⟨w.heap.size + 1, 0, none⟩) 12 12) _) := HOw6
  have HVd : Hid (VarX w6.drew w.heap.size e) := HVw6
  have HBd : Hid (Below w.heap.size w w6.drew) := Lib.hid HBw6.out.drew
  have HZd : Hid (w.heap.size + 1 ≤ w6.drew.heap.size) := HZw6
  obtain ⟨c0, c1, c2, c3⟩ := HC.out _ HVd.out
  clear HOw6 HVw6 HBw6 HZw6
  go_region_with (go_at_call 67; refine (bytes_laid _ nn 2 rfl _ (w.heap.size + 1) (w.heap.size + 1) 12 12 _ 8 4 4 HOd.out HZd.out (by omega) (by omega) (by omega) (by omega)).mono ?_; rintro E w4 ⟨A4, c4, w7, rfl, hrun5, ho5, hb5⟩; rw [HY2.out] at ho5; have HOw7 := Lib.hid ho5; have HBw7 : Hid (Below w.heap.size w w7) := Lib.hid (HBd.out.trans (hb5.mono (by omega))); have HZw7 : Hid (w.heap.size + 1 ≤ w7.heap.size) := Lib.hid (Nat.le_trans HZd.out hb5.size); have HVw7 : Hid (VarX w7 w.heap.size e) := Lib.hid (HVd.out.keep hb5 HLT.out); clear ho5 hb5)
  clear hrun5 c0 c1 c2 c3 HOd HVd HBd HZd
  obtain ⟨c0, c1, c2, c3⟩ := HC.out _ HVw7.out
  clear c0 c1 c2
  obtain ⟨_, _, e0, -, -, -, hrow⟩ := Owned.row HOw7.out (by simp [bytesL_len])
  have hlen : ((bytesL na 4 ++ bytesL ns 4) ++ bytesL nn 2 ++ List.replicate 2 (0 : UInt8)).length = 12 := by simp [bytesL_len]
  rw [hlen] at e0
  injection e0 with e1 e2 e3
  injection e1 with e1
  injection e1 with e1
  subst e1
  subst e3
  clear e2
  obtain ⟨z0, f0, hr⟩ := hrow 10 (by rw [hlen]; omega)
  obtain ⟨r1, r2⟩ := hr 1
  have hset : ((bytesL na 4 ++ bytesL ns 4) ++ bytesL nn 2 ++ List.replicate 2 (0 : UInt8)).set 10 1 = bytesL na 4 ++ (bytesL ns 4 ++ (bytesL nn 2 ++ [flagB true, 0])) := by
    rw [List.set_append_right _ _ (by simp [bytesL_len])]
    simp [bytesL_len, flagB, List.replicate]
  rw [hset] at r1
  have hz : byteV (((bytesL na 4 ++ bytesL ns 4) ++ bytesL nn 2 ++ List.replicate 2 (0 : UInt8))[10]'(by rw [hlen]; omega)) = .int .u8 0 := by
    rw [List.getElem_append_right (by simp [bytesL_len])]
    simp [bytesL_len, byteV]
  rw [hz] at z0
  have hkeep : encX e = bytesL na 4 ++ bytesL ns 4 ++ bytesL nn 2 ++ List.replicate 2 (0 : UInt8) ∨ eu = true := by
    cases eu with
    | true => exact .inr rfl
    | false => exact .inl (by rw [HENC.out]; simp [flagB, List.replicate])
  clear hrow hr hset hz hlen
  have hv1 : byteV 1 = .int .u8 1 := rfl
  rw [hv1] at r1 r2
  have R1 := Lib.hid r1; clear r1
  have R2 := Lib.hid r2; clear r2 hv1
  have HK := Lib.hid hkeep; clear hkeep
  cases eu with
  | true =>
    go_wp2
    go_ret
    exact ⟨some ⟨w.heap.size + 1, 0, none⟩, 12, rfl, by rw [HENC.out]; exact Owned.mono R1.out (Nat.le_succ _), HBw7.out.trans (R2.out.mono (Nat.le_succ _))⟩
  | false =>
    have hk : encX e = bytesL na 4 ++ bytesL ns 4 ++ bytesL nn 2 ++ List.replicate 2 (0 : UInt8) := by
      rcases HK.out with h | h
      · exact h
      · cases h
    have HK2 := Lib.hid hk; clear hk
    go_wp2
    go_ret
    exact ⟨some ⟨w.heap.size + 1, 0, none⟩, 12, rfl, by rw [HK2.out]; exact Owned.mono HOw7.out (Nat.le_succ _), HBw7.out⟩
end Go.Proofs.Ytkhenchhafmlmaa.Ex
