/- The fixed fact of layer 11. -/
import Derived.Test.YtmnajefioehheaaLfDec
import Derived.Test.YtmnajefioehheaaLfRDec
import Derived.Test.YtmnajefioehheaaLfArg
namespace Go.Proofs.Ytmnajefioehheaa.Lf
set_option maxRecDepth 20000
open Go.RowKit
open Go.Proofs.Ytmnajefioehheaa.Mem Go.Proofs.Ytmnajefioehheaa.Crc Go.Proofs.Ytmnajefioehheaa.Rec Go.Proofs.Ytmnajefioehheaa.Reg
attribute [local go_sem ↓] ldX_eq stX_eq eqX_eq neqX_eq

def oneA : List Nm := [⟨[97], 5⟩]
theorem oneA_right : right oneA = true := by decide +kernel
theorem oneA_size : sizeL oneA = 6 := rfl
theorem oneA_body : (body oneA)[4]? = some 5 := by decide +kernel
theorem oneA_byte : (blockL oneA)[4]? = some 5 := by
  unfold blockL
  rw [List.getElem?_append_left (by rw [body_len (by rw [oneA_size]; omega)]; omega)]
  exact oneA_body
theorem oneA_enc : enc oneA = (blockL oneA, 0) := enc_yes oneA_right (by rw [oneA_size]; omega)
theorem oneA_len : (blockL oneA).length = 256 := blockL_len (by rw [oneA_size]; omega)
theorem may_a : may [97] = true := by decide +kernel
theorem may_dots : may [46, 46] = false := by decide +kernel

set_option maxRecDepth 100000 in
set_option maxHeartbeats 2000000 in
theorem alive_any (w : World) :
    Calls Try.prog 8 #[] w fun e w' => e = .returned (.bool true) ∧ Below w.heap.size w w' := by
  obtain ⟨W, hW⟩ : ∃ W, W = w.alloc (.cells #[.string ⟨#[97]⟩, .int .i64 5] 40) := ⟨_, rfl⟩
  have hv : VarX W w.heap.size ⟨[97], 5⟩ := hW ▸ heap_alloc_new w _
  have hb : Below w.heap.size w W := hW ▸ (Below.refl _ w).alloc (Nat.le_refl _) _
  have hone : HoldsX W W.heap.size (some ⟨w.heap.size, 0, none⟩) 1 oneA := ⟨rfl, fun _ => ⟨w.heap.size, 0, rfl, hv.lt, fun j hj k hk => by
    have : j = 0 := by unfold oneA at hj; simpa using hj
    subst this
    rw [show 0 + 0 * 2 + k = k by omega, cell_of_row _ _ k _ _ _ hv]; rfl⟩⟩
  have hrep : ∀ x ∈ oneA, x.rep := fun x hx => by
    unfold oneA at hx
    rw [List.mem_singleton.1 hx]
    exact ⟨⟨by simp, by simp⟩, by unfold maxLen; simp⟩
  have henc := encode_any (some ⟨w.heap.size, 0, none⟩) 1 1 W.heap.size oneA W hone (Nat.le_refl _) hrep (by omega)
  rw [oneA_enc] at henc
  have hmay1 : ∀ V, Calls Try.prog 13 #[.string ⟨#[97]⟩] V fun E w' => E = .returned (.bool true) ∧ w' = V := fun V => by
    have := may_any ⟨#[97]⟩ (by unfold maxLen; decide) V
    rwa [show may (⟨#[97]⟩ : ByteArray).data.toList = true from may_a] at this
  have hmay2 : ∀ V, Calls Try.prog 13 #[.string ⟨#[46, 46]⟩] V fun E w' => E = .returned (.bool false) ∧ w' = V := fun V => by
    have := may_any ⟨#[46, 46]⟩ (by unfold maxLen; decide) V
    rwa [show may (⟨#[46, 46]⟩ : ByteArray).data.toList = false from may_dots] at this
  have HM1 := Lib.hid hmay1; clear hmay1
  have HM2 := Lib.hid hmay2; clear hmay2
  have HENC := Lib.hid henc; clear henc
  have HB := Lib.hid hb; clear hb
  have HWE := Lib.hid hW; clear hW hv hone hrep
  go_enter Try.func8, Try.ntmps8
  go_wp2_with fail
  rw [← HWE.out]
  with_reducible refine HENC.out.mono ?_
  rintro E V1 ⟨A1, c1, rfl, ho1, hb1⟩
  have HB1 : Hid (Below w.heap.size w V1) := Lib.hid (HB.out.trans (hb1.mono HB.out.size))
  dsimp only at ho1 ⊢
  have hdec := decode_any A1 (blockL oneA).length c1 V1.heap.size (blockL oneA) V1 (Owned.reads ho1) (Nat.le_refl _) (Owned.fits ho1).1 (by rw [oneA_len]; omega)
  rw [decP_of oneA_enc, oneA_len] at hdec
  rw [oneA_len] at ho1 ⊢
  have HDEC := Lib.hid hdec; clear hdec HENC hb1
  have HO1 := Lib.hid ho1; clear ho1
  go_wp2_with fail
  with_reducible refine HDEC.out.mono ?_
  rintro E V2 ⟨A2, c2, rfl, ho2, hb2⟩
  have HB2 : Hid (Below w.heap.size w V2) := Lib.hid (HB1.out.trans (hb2.mono HB1.out.size))
  dsimp only at ho2 ⊢
  have hl1 : oneA.length = 1 := rfl
  rw [hl1] at ho2 ⊢
  have hsz := size_any A2 1 c2 V2.heap.size oneA V2 ho2.reads (Nat.le_refl _) (fun x hx => by
    unfold oneA at hx
    rw [List.mem_singleton.1 hx]
    exact ⟨⟨by simp, by simp⟩, by unfold maxLen; simp⟩) (by omega)
  rw [size_yes oneA_right, oneA_size] at hsz
  have hr1 := (Owned.reads HO1.out).below hb2
  have hV12 : V1.heap.size ≤ V2.heap.size := hb2.size
  have HSZ := Lib.hid hsz; clear hsz HDEC
  have HO2 := Lib.hid ho2; clear ho2
  have HR1 := Lib.hid hr1; clear hr1 hb2
  go_wp2_with fail
  with_reducible refine HSZ.out.mono ?_
  rintro E V3 ⟨rfl, hb3⟩
  have HB3 : Hid (Below w.heap.size w V3) := Lib.hid (HB2.out.trans (hb3.mono HB2.out.size))
  have r2 := HO2.out.reads.below hb3
  have r1 : Holds V3 V1.heap.size A1 256 (blockL oneA) := HR1.out.below (hb3.mono hV12)
  obtain ⟨b1, off1, rfl, -, hc1⟩ := r1.2 (by omega)
  have q1 : V3.cell? ⟨b1, off1 + 4, none⟩ = some (.int .u8 5) := by
    have hlt : 4 < (blockL oneA).length := by rw [oneA_len]; omega
    have h4 : (blockL oneA)[4] = 5 := by
      have := oneA_byte
      rw [List.getElem?_eq_getElem hlt] at this
      injection this
    rw [hc1 4 hlt, h4]; rfl
  obtain ⟨b2, off2, rfl, -⟩ := r2.addr (by omega)
  have q2 : V3.cell? ⟨b2, off2, none⟩ = some (.string ⟨#[97]⟩) := by
    have := (r2.cell 0 (by rw [hl1]; omega)).1
    rwa [Nat.zero_mul, Nat.add_zero] at this
  clear hc1 r1 r2 HR1 HO2 HO1 HSZ hb3 hV12 hl1
  go_wp2_with (first | (with_reducible refine (HM1.out _).mono ?_; rintro E w' ⟨rfl, rfl⟩) | (with_reducible refine (HM2.out _).mono ?_; rintro E w' ⟨rfl, rfl⟩))
  go_ret
  exact ⟨rfl, HB3.out⟩
end Go.Proofs.Ytmnajefioehheaa.Lf
