/- Contract of the program's making one of the record's own blocks. -/
import Derived.Test.YtbmbolgmeehloaaRcByte
import Derived.RegionTactic
import Derived.ChangeAlike
import Derived.Deep.RegionWith
import Derived.Deep.OwnRows
namespace Go.Proofs.Ytbmbolgmeehloaa.Rec
set_option maxRecDepth 20000
open Go.RowKit
open Go.Proofs.Ytbmbolgmeehloaa.Mem Go.Proofs.Ytbmbolgmeehloaa.Crc

def own3 (kind : UInt8) (seq : Nat) : List UInt8 := over ((over (List.replicate 256 0) 0 markL).set 4 kind) 8 (bytesL seq 8)
def own4 (kind : UInt8) (seq : Nat) (rest : List UInt8) : List UInt8 := over (own3 kind seq) 16 rest
def ownL (kind : UInt8) (seq : Nat) (rest : List UInt8) : List UInt8 := over (own4 kind seq rest) 252 (bytesL (sum ((own4 kind seq rest).take 252)) 4)
theorem own2_len : (over (List.replicate 256 0) 0 markL).length = 256 := by
  rw [over_len _ _ _ (by rw [List.length_replicate]; show 0 + 4 ≤ 256; omega), List.length_replicate]
theorem own3_len (kind : UInt8) (seq : Nat) : (own3 kind seq).length = 256 := by
  unfold own3
  rw [over_len _ _ _ (by rw [List.length_set, own2_len, bytesL_len]; omega), List.length_set, own2_len]
theorem own4_len (kind : UInt8) (seq : Nat) (rest : List UInt8) (h : rest.length ≤ 236) : (own4 kind seq rest).length = 256 := by
  unfold own4
  rw [over_len _ _ _ (by rw [own3_len]; omega), own3_len]
theorem ownL_len (kind : UInt8) (seq : Nat) (rest : List UInt8) (h : rest.length ≤ 236) : (ownL kind seq rest).length = 256 := by
  unfold ownL
  rw [over_len _ _ _ (by rw [own4_len _ _ _ h, bytesL_len]; omega), own4_len _ _ _ h]

set_option maxRecDepth 100000 in
set_option maxHeartbeats 1000000 in
theorem own_any (kind : UInt8) (seq : Nat) (A : Option Addr) (n c B : Nat) (rest : List UInt8) (w : World) (h : Holds w B A n rest) (h0 : 0 < n) (hn : n ≤ 236) (hB : B ≤ w.heap.size) :
    Calls Try.prog 96 #[.int .u8 (kind.toNat : Int), .int .u64 (seq : Int), .slice A n c] w (Made w (ownL kind seq rest)) := by
  have hl := h.1
  have hol := ownL_len kind seq rest (by omega)
  unfold Made
  rw [hol]
  have HL := Lib.hid hl; clear hl
  clear hol
  obtain ⟨Z, hZ⟩ : ∃ Z, Z = List.replicate 256 (0 : UInt8) := ⟨_, rfl⟩
  have hmk : ∀ W, (Instr.makeSlice 33 (.int .i64 256) (.int .i64 256)).run Try.prog W = .ok (.slice (some ⟨W.heap.size, 0, none⟩) 256 256) (W.alloc (.cells (Z.map byteV).toArray 5)) := by
    rw [hZ]
    exact run_makeZ 256 (by omega)
  have hZl : Z.length = 256 := by rw [hZ, List.length_replicate]
  have ho := owned_made w Z w.heap.size (Nat.le_refl _) (by unfold maxLen; rw [hZl]; omega)
  have hb := (Below.refl w.heap.size w).alloc (Nat.le_refl _) (.cells (Z.map byteV).toArray 5)
  have hg0 : w.heap.size < (w.alloc (.cells (Z.map byteV).toArray 5)).heap.size := by simp
  have hl2 : (over Z 0 markL).length = 256 := by rw [hZ]; exact own2_len
  have h3 : over ((over Z 0 markL).set 4 kind) 8 (bytesL seq 8) = own3 kind seq := by rw [hZ]; rfl
  have H3 := Lib.hid h3; clear h3
  have HZL := Lib.hid hZl; clear hZl
  have HL2 := Lib.hid hl2; clear hl2
  clear hZ
  have HMK := Lib.hid hmk; clear hmk
  have HO := Lib.hid ho; clear ho
  have HB := Lib.hid hb; clear hb
  have HG := Lib.hid hg0; clear hg0
  have H := Lib.hid h; clear h
  go_enter Try.func96, Try.ntmps96
  go_wp2_with fail
  rw [HMK.out]
  simp only [Result.andThen]
  rw [Oper.upon_value]
  generalize w.alloc (.cells (Z.map byteV).toArray 5) = w1 at HO HB HG ⊢
  have ho := HO.out
  obtain ⟨w2, hrun, ho2, hb2⟩ := run_copy_const w1 3 w.heap.size w.heap.size _ _ Z markL 256 256 ho (by show 0 < 4; omega) (by show 4 ≤ 256; omega) (by rw [HZL.out]; show 4 ≤ 256; omega)
  clear ho
  have hrun' : (Builtin.copy_ #[33, 9] 3 #[.slice (some ⟨w.heap.size, 0, none⟩) 256 256, .string ⟨#[85, 76, 79, 71]⟩]).run Try.prog w1 = .ok (goInt 4) w2 := hrun
  clear hrun
  rw [HZL.out] at ho2
  obtain ⟨g', cap', hv, -, hgl, -, hrow⟩ := Owned.row ho2 (by rw [HL2.out]; omega)
  injection hv with e1 e2 e3
  clear e2
  injection e1 with e1
  injection e1 with e1
  subst e1 e3
  obtain ⟨hc4, hf4, hset⟩ := hrow 4 (by rw [HL2.out]; omega)
  obtain ⟨ho3, hb3⟩ := hset kind
  have HO3 := Lib.hid ho3; clear ho3
  have HB3 : Hid (Below w.heap.size w (w2.setCell ⟨w.heap.size, 4, none⟩ (byteV kind))) := Lib.hid (HB.out.trans (hb2.trans hb3))
  obtain ⟨u4, hd4⟩ : ∃ u, w2.cell? ⟨w.heap.size, 4, none⟩ = some (byteV u) := ⟨_, hc4⟩
  clear hset hrow ho2 hb2 hb3 hc4
  go_wp2_with fail
  have HC := Lib.hid hrun'; clear hrun'
  clear hd4 hf4
  have HO3a : Hid (Owned (w2.setCell ⟨w.heap.size, 4, none⟩ (.int .u8 (kind.toNat : Int))) w.heap.size (.slice (some ⟨w.heap.size, 0, none⟩) 256 256) ((over Z 0 markL).set 4 kind)) := HO3
  have HB3a : Hid (Below w.heap.size w (w2.setCell ⟨w.heap.size, 4, none⟩ (.int .u8 (kind.toNat : Int)))) := HB3
  clear HO3 HB3
  have HO3 := HO3a
  have HB3 := HB3a
  clear HO3a HB3a
  generalize w2.setCell ⟨w.heap.size, 4, none⟩ (.int .u8 (kind.toNat : Int)) = w3 at HO3 HB3 ⊢
  obtain ⟨b2, hb2⟩ : ∃ b, b = (over Z 0 markL).set 4 kind := ⟨_, rfl⟩
  rw [← hb2] at HO3 H3
  clear hb2 HL2 HZL HMK HO HB HG HC
  have HO3' : Hid (Owned w3.drew w.heap.size (.slice (some ⟨w.heap.size, 0, none⟩) 256 256) b2) := HO3
  have HZ3 : Hid (w.heap.size ≤ w3.drew.heap.size) := Lib.hid HB3.out.size
  go_region_with (go_at_call 99; refine (bytes_laid _ seq 8 rfl _ w.heap.size w.heap.size 256 256 b2 8 248 248 HO3'.out HZ3.out (by omega) (by omega) (by omega) (by omega)).mono ?_; rintro e w4 ⟨A4, c4, w5, rfl, hrun5, ho5, hb5⟩; have HO5 := Lib.hid ho5; have HB5 := Lib.hid hb5; clear ho5 hb5)
  all_goals
    clear hrun5
    have HB5w : Hid (Below w.heap.size w w5) := Lib.hid (HB3.out.drew.trans HB5.out)
    obtain ⟨w6, hrun6, ho6, hb6⟩ := run_copy_bytes w5 3 w.heap.size w.heap.size 256 256 (over b2 8 (bytesL seq 8)) rest 16 240 240 HO5.out B A n c (H.out.below (HB5w.out.mono hB)) h0 (by omega) (by omega)
    rw [H3.out] at ho6
    obtain ⟨b4, hb4⟩ : ∃ b, b = own4 kind seq rest := ⟨_, rfl⟩
    have ho6' : Owned w6 w.heap.size (.slice (some ⟨w.heap.size, 0, none⟩) 256 256) b4 := by rw [hb4]; exact ho6
    have hend : over b4 252 (bytesL (sum (b4.take 252)) 4) = ownL kind seq rest := by rw [hb4]; rfl
    have HEND := Lib.hid hend; clear hend
    have HO6 := Lib.hid ho6'; clear ho6 ho6' hb4
    have HB6 : Hid (Below w.heap.size w w6) := Lib.hid (HB5w.out.trans hb6)
    clear hb6
    go_wp2_with fail
    clear hrun6
    have HO6' : Hid (Owned w6.drew w.heap.size (.slice (some ⟨w.heap.size, 0, none⟩) 256 256) b4) := HO6
    have HB6' : Hid (Below w.heap.size w w6.drew) := Lib.hid HB6.out.drew
    have HR6 : Hid (Holds w6.drew w6.drew.heap.size (some ⟨w.heap.size, 0, none⟩) 252 (b4.take 252)) := Lib.hid ((Owned.reads HO6'.out).take (by omega))
    go_region_with
      (first
        | (go_at_call 100
           refine (sum_any (some ⟨w.heap.size, 0, none⟩) 252 256 (b4.take 252) _ HR6.out (by unfold maxLen; omega)).mono ?_
           rintro e w7 ⟨rfl, hb7⟩
           have HO7 := Lib.hid (Owned.keep HO6'.out hb7 (Nat.le_refl _))
           have HB7 : Hid (Below w.heap.size w w7) := Lib.hid (HB6'.out.trans (hb7.mono HB6'.out.size))
           clear hb7)
        | (go_at_call 99
           refine (bytes_laid _ (sum (b4.take 252)) 4 (wrap_sum _) _ w.heap.size w.heap.size 256 256 b4 252 4 4 HO7.out HB7.out.size (by omega) (by omega) (by omega) (by omega)).mono ?_
           rintro e w8 ⟨A8, c8, w9, rfl, hrun9, ho9, hb9⟩
           have HO9 := Lib.hid ho9
           have HB9 : Hid (Below w.heap.size w w9) := Lib.hid (HB7.out.trans hb9)
           clear ho9 hb9))
    all_goals
      clear hrun9
      go_wp2
      go_ret
      have ho := HO9.out
      rw [HEND.out] at ho
      exact ⟨_, _, rfl, ho, HB9.out⟩
end Go.Proofs.Ytbmbolgmeehloaa.Rec
