/- The fixed fact of layer 9. -/
import Derived.Test.YtbppgihbnjnapaaInArg
namespace Go.Proofs.Ytbppgihbnjnapaa.Ino
set_option maxRecDepth 20000
open Go.RowKit
open Go.Proofs.Ytbppgihbnjnapaa.Mem Go.Proofs.Ytbppgihbnjnapaa.Crc Go.Proofs.Ytbppgihbnjnapaa.Rec
attribute [local go_sem ↓] Go.wp_at_zero Go.wp_at_succ ldI_eq stI_eq

def xA : In := ⟨1, 1, 0, false, 0, List.replicate 60 0⟩
theorem xA_may : xA.may = true := by decide
theorem dec_13 {bs : List UInt8} {n : Int} (hn : 0 ≤ n ∧ n ≤ 1048576) (h : (dec bs n).2 ≠ 0) : dec bs n = (in0, 13) := by
  rcases dec_two bs n with e | e | e
  · exfalso
    unfold dec at e
    rw [if_pos hn] at e
    split at e
    · split at e <;> simp at e
    · simp at e
  · exact e
  · exact absurd e h
theorem xA_two (h : 2 < (code xA 5).length) : (code xA 5)[2] = 1 := by
  have : (code xA 5)[2]? = some 1 := by rw [code_split]; rfl
  rw [List.getElem?_eq_getElem h] at this
  exact Option.some.inj this

set_option maxRecDepth 100000 in
theorem alive_any (w : World) :
    Calls Try.prog 8 #[] w fun e w' => e = .returned (.bool true) ∧ Below w.heap.size w w' := by
  have e5 : enc xA 5 = (code xA 5, 0) := enc_may xA 5 (by omega) xA_may
  have d5 : dec (code xA 5) 5 = (xA, 0) := dec_code xA 5 (by omega) xA_may
  have d6 : dec (code xA 5) 6 = (in0, 13) := dec_13 (by omega) (by
    have := dec_other (x := xA) (n := 5) (m := 6) (by rw [e5]) (by decide) (by omega)
    rwa [e5] at this)
  have hcl : (code xA 5).length = 128 := code_len xA 5 (may_body xA_may)
  have hmk := run_makeZ 60 (by omega) w
  obtain ⟨w1, hw1⟩ : ∃ y, y = w.alloc (.cells ((List.replicate 60 (0 : UInt8)).map byteV).toArray 5) := ⟨_, rfl⟩
  have ho1 : Owned w1 w.heap.size (.slice (some ⟨w.heap.size, 0, none⟩) 60 60) (List.replicate 60 0) := by
    rw [hw1]
    have := owned_made w (List.replicate 60 (0 : UInt8)) w.heap.size (Nat.le_refl _) (by unfold maxLen; rw [List.length_replicate]; omega)
    rwa [List.length_replicate] at this
  have hb1 : Below w.heap.size w w1 := by rw [hw1]; exact (Below.refl _ _).alloc (Nat.le_refl _) _
  have henc := encode_any xA (some ⟨w.heap.size, 0, none⟩) 60 w1.heap.size 5 w1 (by exact Owned.reads ho1) (Nat.le_refl _)
  rw [e5] at henc
  unfold Encd at henc
  rw [hcl] at henc
  have henc' : Calls Try.prog 10 #[.agg #[.int .i64 1, .int .i64 1, .int .i64 0, .bool false, .int .i64 0, .slice (some ⟨w.heap.size, 0, none⟩) 60 60], .int .i64 5] w1 _ := henc
  rw [← hw1] at hmk
  have hmk' : (Instr.makeSlice 22 (.int .i64 60) (.int .i64 60)).run Try.prog w = .ok (.slice (some ⟨w.heap.size, 0, none⟩) 60 60) w1 := hmk
  have HENC := Lib.hid henc'; clear henc' henc
  have HB1 := Lib.hid hb1; clear hb1 hmk ho1 hw1
  have D5 := Lib.hid d5; clear d5
  have D6 := Lib.hid d6; clear d6
  have HCL := Lib.hid hcl; clear hcl e5
  obtain ⟨CD, hCD⟩ : ∃ CD, CD = code xA 5 := ⟨_, rfl⟩
  rw [← hCD] at HENC D5 D6 HCL
  have h2 : ∀ h : 2 < CD.length, CD[2] = 1 := by rw [hCD]; exact xA_two
  have HC2 := Lib.hid h2; clear h2 hCD
  go_enter Try.func8, Try.ntmps8
  go_wp2_with fail
  with_reducible refine HENC.out.mono ?_
  rintro e w2 ⟨A, c, rfl, ho2, hb2⟩
  have HB2 : Hid (Below w.heap.size w w2) := Lib.hid (HB1.out.trans (hb2.mono HB1.out.size))
  have HO2 := Lib.hid ho2
  have hf := Owned.fits ho2
  have HF := Lib.hid hf.1
  clear ho2 hb2 hf HENC hmk'
  go_wp2_with fail
  have hdec := decode_any A 128 c w2.heap.size CD 5 w2 (Owned.reads HO2.out) HF.out (Nat.le_refl _)
  rw [D5.out] at hdec
  have HDEC := Lib.hid hdec; clear hdec
  with_reducible refine HDEC.out.mono ?_
  rintro e w3 ⟨A3, c3, rfl, ho3, hb3⟩
  have hv3 := run_stI_new w3 xA A3 c3
  obtain ⟨w4, hw4⟩ : ∃ y, y = w3.alloc (.cells (xA.c A3 c3) 24) := ⟨_, rfl⟩
  have HV4 : Hid (VarI w4 w3.heap.size xA A3 c3) := Lib.hid (hw4 ▸ VarI.new w3 xA A3 c3)
  have HB4 : Hid (Below w.heap.size w w4) := Lib.hid (hw4 ▸ (HB2.out.trans (hb3.mono HB2.out.size)).alloc (Nat.le_trans HB2.out.size hb3.size) _)
  have HO4 := Lib.hid (show Owned w4 w1.heap.size _ CD from hw4 ▸ Owned.keep HO2.out (hb3.alloc hb3.size _) (Nat.le_refl _))
  rw [← hw4] at hv3
  clear hw4 ho3 hb3 HDEC HB2 HO2
  go_wp2_with fail
  have hdec := decode_any A 128 c w4.heap.size CD 6 w4 (Owned.reads HO4.out) HF.out (Nat.le_refl _)
  rw [D6.out] at hdec
  have HDEC := Lib.hid hdec; clear hdec
  with_reducible refine HDEC.out.mono ?_
  rintro e w5 ⟨A5, c5, rfl, ho5, hb5⟩
  have hv5 := run_stI_new w5 in0 A5 c5
  obtain ⟨w6, hw6⟩ : ∃ y, y = w5.alloc (.cells (in0.c A5 c5) 24) := ⟨_, rfl⟩
  have hv6 : VarI w6 w3.heap.size xA A3 c3 := hw6 ▸ (HV4.out.keep hb5 HV4.out.lt).alloc _
  have HB6 : Hid (Below w.heap.size w w6) := Lib.hid (hw6 ▸ (HB4.out.trans (hb5.mono HB4.out.size)).alloc (Nat.le_trans HB4.out.size hb5.size) _)
  have ho6 : Owned w6 w1.heap.size _ CD := hw6 ▸ Owned.keep HO4.out (hb5.alloc hb5.size _) (Nat.le_refl _)
  rw [← hw6] at hv5
  obtain ⟨g, cap, hv, _, _, _, hcell⟩ := Owned.row ho6 (by rw [HCL.out]; omega)
  have hc2 := (hcell 2 (by rw [HCL.out]; omega)).1
  rw [HC2.out] at hc2
  rw [HCL.out] at hv
  injection hv with e1 e2 e3
  subst e1 e3
  have hc2' : w6.cell? ⟨g, 2, none⟩ = some (.int .u8 1) := hc2
  obtain ⟨q0, -⟩ := hv6.cells
  have q0' : w6.cell? ⟨w3.heap.size, 0, none⟩ = some (.int .i64 1) := q0
  clear hw6 ho5 hb5 HDEC ho6 hcell hc2 hv6 q0 e2 HO4 HV4 HB4 hv3
  go_wp2
  go_ret
  exact ⟨rfl, HB6.out⟩
end Go.Proofs.Ytbppgihbnjnapaa.Ino
