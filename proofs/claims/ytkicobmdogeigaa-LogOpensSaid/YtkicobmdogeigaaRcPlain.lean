/- Plain words on a record's blocks: what one of its own blocks is, byte by byte. -/
import Derived.Test.YtkicobmdogeigaaRcTxn
namespace Go.Proofs.Ytkicobmdogeigaa.Rec
set_option maxRecDepth 20000
open Go.RowKit
open Go.Proofs.Ytkicobmdogeigaa.Mem Go.Proofs.Ytkicobmdogeigaa.Crc

theorem over_mid (a b c y : List UInt8) (k : Nat) (hk : k = a.length) (h : y.length = b.length) : over (a ++ (b ++ c)) k y = a ++ (y ++ c) := by
  subst hk
  unfold over
  rw [List.take_left, h, ← List.append_assoc a b c, List.drop_left' (by simp)]
def headL (kind : UInt8) (seq : Nat) : List UInt8 := markL ++ [kind, 0, 0, 0] ++ bytesL seq 8
theorem headL_len (kind : UInt8) (seq : Nat) : (headL kind seq).length = 16 := by
  unfold headL
  simp only [List.length_append, bytesL_len]; rfl
theorem zeros_add (a b : Nat) : List.replicate (a + b) (0 : UInt8) = List.replicate a 0 ++ List.replicate b 0 := (List.replicate_append_replicate).symm
theorem own1_eq : over (List.replicate 256 0) 0 markL = markL ++ List.replicate 252 0 := by
  have h := over_mid [] (List.replicate 4 0) (List.replicate 252 0) markL 0 rfl rfl
  rw [← zeros_add] at h
  exact h
theorem own2_eq (kind : UInt8) : (over (List.replicate 256 0) 0 markL).set 4 kind = (markL ++ [kind, 0, 0, 0]) ++ (List.replicate 8 0 ++ List.replicate 240 0) := by
  rw [own1_eq, ← zeros_add, show (252 : Nat) = 4 + 248 from rfl, zeros_add]
  rfl
theorem own3_eq (kind : UInt8) (seq : Nat) : own3 kind seq = headL kind seq ++ List.replicate 240 0 := by
  unfold own3
  rw [own2_eq, over_mid _ _ _ _ 8 rfl (by rw [bytesL_len, List.length_replicate])]
  unfold headL
  rw [List.append_assoc, List.append_assoc, List.append_assoc]
theorem own4_eq (kind : UInt8) (seq : Nat) (rest : List UInt8) (h : rest.length ≤ 236) : own4 kind seq rest = (headL kind seq ++ rest ++ List.replicate (236 - rest.length) 0) ++ (List.replicate 4 0 ++ []) := by
  unfold own4
  rw [own3_eq, show (240 : Nat) = rest.length + (240 - rest.length) by omega, zeros_add, over_mid _ _ _ _ 16 (headL_len _ _).symm (by rw [List.length_replicate])]
  rw [show 240 - rest.length = (236 - rest.length) + 4 by omega, zeros_add]
  simp only [List.append_assoc, List.append_nil]
/-- The first 252 bytes of one of the record's own blocks. -/
def ownP (kind : UInt8) (seq : Nat) (rest : List UInt8) : List UInt8 := headL kind seq ++ rest ++ List.replicate (236 - rest.length) 0
theorem ownP_len (kind : UInt8) (seq : Nat) (rest : List UInt8) (h : rest.length ≤ 236) : (ownP kind seq rest).length = 252 := by
  unfold ownP
  simp only [List.length_append, headL_len, List.length_replicate]; omega
theorem ownL_eq (kind : UInt8) (seq : Nat) (rest : List UInt8) (h : rest.length ≤ 236) : ownL kind seq rest = ownP kind seq rest ++ bytesL (sum (ownP kind seq rest)) 4 := by
  have hl := ownP_len kind seq rest h
  have e : own4 kind seq rest = ownP kind seq rest ++ (List.replicate 4 0 ++ []) := own4_eq kind seq rest h
  unfold ownL
  rw [e, List.take_left' hl, over_mid _ _ _ _ 252 hl.symm (by rw [bytesL_len]; rfl)]
  rw [List.append_nil]
theorem bareL_eq (bs : List UInt8) (h : looks bs = true) : bareL bs = [0, 0, 0, 0] ++ bs.drop 4 := by
  unfold bareL
  rw [h]
  rfl
theorem bareL_not (bs : List UInt8) (h : looks bs = false) : bareL bs = bs := by
  unfold bareL
  rw [h]; rfl
end Go.Proofs.Ytkicobmdogeigaa.Rec
