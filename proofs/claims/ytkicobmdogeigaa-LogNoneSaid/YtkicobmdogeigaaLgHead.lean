/- Contract of the program's making the head of an area. -/
import Derived.Test.YtkicobmdogeigaaRcPlain
import Derived.RegionTactic
import Derived.ChangeAlike
import Derived.Deep.RegionWith
import Derived.Deep.OwnRows
namespace Go.Proofs.Ytkicobmdogeigaa.Log
set_option maxRecDepth 20000
open Go.RowKit
open Go.Proofs.Ytkicobmdogeigaa.Mem Go.Proofs.Ytkicobmdogeigaa.Crc Go.Proofs.Ytkicobmdogeigaa.Rec

def markH : List UInt8 := [85, 76, 79, 71, 3, 0, 0, 0]
def hd1 : List UInt8 := over (List.replicate 256 0) 0 markH
def hd2 (seq : Nat) : List UInt8 := over hd1 8 (bytesL seq 8)
def hd3 (seq pl : Nat) : List UInt8 := over (hd2 seq) 16 (bytesL pl 4)
/-- The block that is a head with that Seq and that place. -/
def headH (seq pl : Nat) : List UInt8 := over (hd3 seq pl) 20 (bytesL (sum ((hd3 seq pl).take 20)) 4)
theorem hd1_len : hd1.length = 256 := by
  unfold hd1
  rw [over_len _ _ _ (by rw [List.length_replicate]; show 0 + 8 ≤ 256; omega), List.length_replicate]
theorem hd2_len (seq : Nat) : (hd2 seq).length = 256 := by
  unfold hd2
  rw [over_len _ _ _ (by rw [hd1_len, bytesL_len]; omega), hd1_len]
theorem hd3_len (seq pl : Nat) : (hd3 seq pl).length = 256 := by
  unfold hd3
  rw [over_len _ _ _ (by rw [hd2_len, bytesL_len]; omega), hd2_len]
theorem headH_len (seq pl : Nat) : (headH seq pl).length = 256 := by
  unfold headH
  rw [over_len _ _ _ (by rw [hd3_len, bytesL_len]; omega), hd3_len]
theorem hd1_eq : hd1 = markH ++ (List.replicate 8 0 ++ List.replicate 240 0) := by
  unfold hd1
  rw [show (256 : Nat) = 8 + 248 from rfl, zeros_add, show (248 : Nat) = 8 + 240 from rfl, zeros_add]
  exact over_mid [] (List.replicate 8 0) _ markH 0 rfl (by simp [markH])
theorem hd2_eq (seq : Nat) : hd2 seq = (markH ++ bytesL seq 8) ++ (List.replicate 4 0 ++ List.replicate 236 0) := by
  unfold hd2
  rw [hd1_eq, over_mid markH _ _ _ 8 rfl (by rw [bytesL_len, List.length_replicate]), List.append_assoc]
  rfl
theorem hd3_eq (seq pl : Nat) : hd3 seq pl = (markH ++ bytesL seq 8 ++ bytesL pl 4) ++ (List.replicate 4 0 ++ List.replicate 232 0) := by
  unfold hd3
  rw [hd2_eq, over_mid _ _ _ _ 16 (by rw [List.length_append, bytesL_len]; rfl) (by rw [bytesL_len, List.length_replicate]), List.append_assoc, List.append_assoc, List.append_assoc]
  rfl
theorem headH_eq (seq pl : Nat) : headH seq pl = (markH ++ bytesL seq 8 ++ bytesL pl 4) ++ (bytesL (sum (markH ++ bytesL seq 8 ++ bytesL pl 4)) 4 ++ List.replicate 232 0) := by
  have h20 : (markH ++ bytesL seq 8 ++ bytesL pl 4).length = 20 := by
    rw [List.length_append, List.length_append, bytesL_len, bytesL_len]; rfl
  unfold headH
  rw [hd3_eq, List.take_left' h20, over_mid _ _ _ _ 20 h20.symm (by rw [bytesL_len, List.length_replicate])]

set_option maxRecDepth 100000 in
set_option maxHeartbeats 1000000 in
theorem head_any (seq pl : Nat) (w : World) (hp : pl < 9223372036854775808) :
    Calls Try.prog 86 #[.int .u64 (seq : Int), .int .i64 (pl : Int)] w (Made w (headH seq pl)) := by
  have hol := headH_len seq pl
  unfold Made
  rw [hol]
  clear hol
  have hpw : IntKind.u64.wrap (pl : Int) = (pl : Int) := by rw [IntKind.wrap_u64]; omega
  have HPW := Lib.hid hpw; clear hpw
  obtain ⟨Z, hZ⟩ : ∃ Z, Z = List.replicate 256 (0 : UInt8) := ⟨_, rfl⟩
  have hmk : ∀ W, (Instr.makeSlice 33 (.int .i64 256) (.int .i64 256)).run Try.prog W = .ok (.slice (some ⟨W.heap.size, 0, none⟩) 256 256) (W.alloc (.cells (Z.map byteV).toArray 5)) := by
    rw [hZ]
    exact run_makeZ 256 (by omega)
  have hZl : Z.length = 256 := by rw [hZ, List.length_replicate]
  have ho := owned_made w Z w.heap.size (Nat.le_refl _) (by unfold maxLen; rw [hZl]; omega)
  have hb := (Below.refl w.heap.size w).alloc (Nat.le_refl _) (.cells (Z.map byteV).toArray 5)
  have h1 : over Z 0 markH = hd1 := by rw [hZ]; rfl
  have H1 := Lib.hid h1; clear h1
  have HZL := Lib.hid hZl; clear hZl
  clear hZ
  have HMK := Lib.hid hmk; clear hmk
  have HO := Lib.hid ho; clear ho
  have HB := Lib.hid hb; clear hb
  go_enter Try.func86, Try.ntmps86
  go_wp2_with fail
  rw [HMK.out]
  simp only [Result.andThen]
  rw [Oper.upon_value]
  generalize w.alloc (.cells (Z.map byteV).toArray 5) = w1 at HO HB ⊢
  have ho := HO.out
  obtain ⟨w2, hrun, ho2, hb2⟩ := run_copy_const w1 3 w.heap.size w.heap.size _ _ Z markH 256 256 ho (by show 0 < 8; omega) (by show 8 ≤ 256; omega) (by rw [HZL.out]; show 8 ≤ 256; omega)
  clear ho
  have hrun' : (Builtin.copy_ #[33, 9] 3 #[.slice (some ⟨w.heap.size, 0, none⟩) 256 256, .string ⟨#[85, 76, 79, 71, 3, 0, 0, 0]⟩]).run Try.prog w1 = .ok (goInt 8) w2 := hrun
  clear hrun
  rw [HZL.out, H1.out] at ho2
  have HO2 : Hid (Owned w2.drew w.heap.size (.slice (some ⟨w.heap.size, 0, none⟩) 256 256) hd1) := Lib.hid ho2
  have HB2 : Hid (Below w.heap.size w w2.drew) := Lib.hid (HB.out.trans hb2).drew
  clear ho2 hb2 HO HB HMK
  go_wp2_with fail
  clear hrun'
  go_region_with (go_at_call 99; refine (bytes_laid _ seq 8 rfl _ w.heap.size w.heap.size 256 256 hd1 8 248 248 HO2.out HB2.out.size (by omega) (by omega) (by omega) (by omega)).mono ?_; rintro e w4 ⟨A4, c4, w5, rfl, hrun5, ho5, hb5⟩; have HO5 : Hid (Owned w5.drew w.heap.size (.slice (some ⟨w.heap.size, 0, none⟩) 256 256) (hd2 seq)) := Lib.hid ho5; have HB5 : Hid (Below w.heap.size w w5.drew) := Lib.hid (HB2.out.trans hb5).drew; clear ho5 hb5)
  all_goals
    go_wp2_with fail
    clear hrun5
    go_region_with (go_at_call 99; refine (bytes_laid _ pl 4 HPW.out _ w.heap.size w.heap.size 256 256 (hd2 seq) 16 240 240 HO5.out HB5.out.size (by omega) (by omega) (by omega) (by omega)).mono ?_; rintro e w6 ⟨A6, c6, w7, rfl, hrun7, ho7, hb7⟩; have HO7 : Hid (Owned w7.drew w.heap.size (.slice (some ⟨w.heap.size, 0, none⟩) 256 256) (hd3 seq pl)) := Lib.hid ho7; have HB7 : Hid (Below w.heap.size w w7.drew) := Lib.hid (HB5.out.trans hb7).drew; clear ho7 hb7)
    all_goals
      go_wp2_with fail
      clear hrun7
      have HR7 : Hid (Holds w7.drew w7.drew.heap.size (some ⟨w.heap.size, 0, none⟩) 20 ((hd3 seq pl).take 20)) := Lib.hid ((Owned.reads HO7.out).take (by omega))
      go_region_with
        (first
          | (go_at_call 100
             refine (sum_any (some ⟨w.heap.size, 0, none⟩) 20 256 ((hd3 seq pl).take 20) _ HR7.out (by unfold maxLen; omega)).mono ?_
             rintro e w8 ⟨rfl, hb8⟩
             have HO8 := Lib.hid (Owned.keep HO7.out hb8 (Nat.le_refl _))
             have HB8 : Hid (Below w.heap.size w w8) := Lib.hid (HB7.out.trans (hb8.mono HB7.out.size))
             clear hb8)
          | (go_at_call 99
             refine (bytes_laid _ (sum ((hd3 seq pl).take 20)) 4 (wrap_sum _) _ w.heap.size w.heap.size 256 256 (hd3 seq pl) 20 236 236 HO8.out HB8.out.size (by omega) (by omega) (by omega) (by omega)).mono ?_
             rintro e w9 ⟨A9, c9, w10, rfl, hrun10, ho10, hb10⟩
             have HO10 : Hid (Owned w10 w.heap.size (.slice (some ⟨w.heap.size, 0, none⟩) 256 256) (headH seq pl)) := Lib.hid ho10
             have HB10 : Hid (Below w.heap.size w w10) := Lib.hid (HB8.out.trans hb10)
             clear ho10 hb10))
      all_goals
        go_wp2
        go_ret
        exact ⟨_, _, rfl, HO10.out, HB10.out⟩
end Go.Proofs.Ytkicobmdogeigaa.Log
