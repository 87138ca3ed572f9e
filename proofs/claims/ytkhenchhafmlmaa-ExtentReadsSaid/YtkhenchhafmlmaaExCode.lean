/- Roots and nodes in plain words: an extent's bytes, a list's, a node's, a root's. -/
import Derived.Test.YtkhenchhafmlmaaNums
import Derived.Test.YtkhenchhafmlmaaRcMem
import Derived.Test.YtkhenchhafmlmaaExPlain
import Derived.Test.YtkhenchhafmlmaaBurst
namespace Go.Proofs.Ytkhenchhafmlmaa.Ex
set_option maxRecDepth 20000
open Go.Proofs.Ytkhenchhafmlmaa.Mem Go.Proofs.Ytkhenchhafmlmaa.Crc Go.Proofs.Ytkhenchhafmlmaa.Rec Go.Proofs.Ytkhenchhafmlmaa.Bst
theorem over_zeros (p : List UInt8) (n k : Nat) (y : List UInt8) (hk : p.length = k) : over (p ++ List.replicate n 0) k y = (p ++ y) ++ List.replicate (n - y.length) 0 := by
  unfold over
  subst hk
  rw [List.take_left', List.drop_append, List.drop_of_length_le (by omega), List.drop_replicate]
  · simp [Nat.add_sub_cancel_left]
  · rfl
def flagB (u : Bool) : UInt8 := if u then 1 else 0
def encX (e : X) : List UInt8 := bytesL e.a.toNat 4 ++ (bytesL e.s.toNat 4 ++ (bytesL e.n.toNat 2 ++ [flagB e.u, 0]))
theorem encX_len (e : X) : (encX e).length = 12 := by unfold encX; simp [bytesL_len]
def encs (l : List X) : List UInt8 := l.flatMap encX
theorem encs_len : ∀ l : List X, (encs l).length = l.length * 12
  | [] => rfl
  | e :: l => by
    have := encs_len l
    unfold encs at this ⊢
    rw [List.flatMap_cons, List.length_append, encX_len, this, List.length_cons]; omega
theorem encs_snoc (l : List X) (e : X) : encs (l ++ [e]) = encs l ++ encX e := by unfold encs; simp
def padB (b : List UInt8) (n : Nat) : List UInt8 := b ++ List.replicate (n - b.length) 0
theorem padB_len (b : List UInt8) (n : Nat) (h : b.length ≤ n) : (padB b n).length = n := by unfold padB; simp; omega
def headB (n : Nat) (f : UInt8) : List UInt8 := [UInt8.ofNat n, 0, f, 0]
/-- So many bytes, which begin with these extents. -/
def holdB (l : List X) (size : Nat) : List UInt8 := padB (headB l.length 0 ++ encs l) size
theorem holdB_len (l : List X) (size : Nat) (h : 4 + l.length * 12 ≤ size) : (holdB l size).length = size := padB_len _ _ (by simp [headB, encs_len]; omega)
def nodeB (l : List X) : List UInt8 := holdB l 252 ++ bytesL (sum (holdB l 252)) 4
theorem nodeB_len (l : List X) (h : l.length ≤ 20) : (nodeB l).length = 256 := by unfold nodeB; rw [List.length_append, holdB_len _ _ (by omega), bytesL_len]
def blkB (bs : List Int) : List UInt8 := bs.flatMap fun b => bytesL b.toNat 4
theorem blkB_len : ∀ l : List Int, (blkB l).length = l.length * 4
  | [] => rfl
  | e :: l => by
    have := blkB_len l
    unfold blkB at this ⊢
    rw [List.flatMap_cons, List.length_append, bytesL_len, this, List.length_cons]; omega
theorem blkB_snoc (l : List Int) (e : Int) : blkB (l ++ [e]) = blkB l ++ bytesL e.toNat 4 := by unfold blkB; simp
def nameB (bs : List Int) : List UInt8 := padB (headB bs.length 1 ++ blkB bs) 60
theorem nameB_len (l : List Int) (h : l.length ≤ 14) : (nameB l).length = 60 := padB_len _ _ (by simp [headB, blkB_len]; omega)
/-- The part of a list that its i-th node holds. -/
def partX (l : List X) (i : Nat) : List X := (l.drop (i * 20)).take 20
def manyX (n : Nat) : Nat := (n + 19) / 20
def nodesB (l : List X) : List (List UInt8) := (List.range (manyX l.length)).map fun i => nodeB (partX l i)
theorem nodesB_len (l : List X) : (nodesB l).length = manyX l.length := by simp [nodesB]
theorem partX_len (l : List X) (i : Nat) : (partX l i).length ≤ 20 := by unfold partX; rw [List.length_take]; omega
theorem bytes2 (n : Nat) (h : n < 256) : bytesL n 2 = [UInt8.ofNat n, 0] := by
  unfold bytesL byteN
  have h2 : UInt8.ofNat (n / 2 ^ (8 * 1)) = 0 := by
    rw [Nat.div_eq_of_lt (by omega)]; rfl
  simp only [List.range_succ, List.range_zero, List.map_cons, List.map_nil, List.nil_append, List.singleton_append]
  simp [h2]
theorem head_bytes (n : Nat) (h : n < 256) : headB n 0 = bytesL n 2 ++ [0, 0] := by rw [bytes2 n h]; rfl
theorem head_bytes1 (n : Nat) (h : n < 256) : headB n 1 = bytesL n 2 ++ bytesL 1 2 := by rw [bytes2 n h, bytes2 1 (by omega)]; rfl
/-- Behind k extents. -/
theorem hold_step (p : List X) (e : X) (m size : Nat) : over (padB (headB m 0 ++ encs p) size) (4 + p.length * 12) (encX e) = padB (headB m 0 ++ encs (p ++ [e])) size := by
  unfold padB
  have hl : (headB m 0 ++ encs p).length = 4 + p.length * 12 := by simp [headB, encs_len]; omega
  rw [over_zeros _ _ _ _ hl, encX_len, encs_snoc, hl]
  rw [show (headB m 0 ++ (encs p ++ encX e)).length = 4 + p.length * 12 + 12 by rw [← List.append_assoc, List.length_append, hl, encX_len]]
  rw [Nat.sub_sub]
  simp only [List.append_assoc]
theorem name_step (p : List Int) (e : Int) (m size : Nat) : over (padB (headB m 1 ++ blkB p) size) (4 + p.length * 4) (bytesL e.toNat 4) = padB (headB m 1 ++ blkB (p ++ [e])) size := by
  unfold padB
  have hl : (headB m 1 ++ blkB p).length = 4 + p.length * 4 := by simp [headB, blkB_len]; omega
  rw [over_zeros _ _ _ _ hl, bytesL_len, blkB_snoc, hl]
  rw [show (headB m 1 ++ (blkB p ++ bytesL e.toNat 4)).length = 4 + p.length * 4 + 4 by rw [← List.append_assoc, List.length_append, hl, bytesL_len]]
  rw [Nat.sub_sub]
  simp only [List.append_assoc]
theorem hold_start (m size : Nat) (hm : m < 256) (h : 4 ≤ size) : over (List.replicate size 0) 0 (bytesL m 2) = padB (headB m 0 ++ encs []) size := by
  have := over_zeros [] size 0 (bytesL m 2) rfl
  rw [List.nil_append, List.nil_append, bytesL_len] at this
  rw [this, head_bytes m hm]
  unfold padB encs
  rw [List.flatMap_nil, List.append_nil, List.append_assoc]
  congr 1
  rw [show ([0, 0] : List UInt8) = List.replicate 2 0 from rfl, List.replicate_append_replicate]
  congr 1
  simp [bytesL_len]; omega
theorem name_start (m : Nat) (hm : m < 256) : over (over (List.replicate 60 0) 0 (bytesL m 2)) 2 (bytesL 1 2) = padB (headB m 1 ++ blkB []) 60 := by
  have := over_zeros [] 60 0 (bytesL m 2) rfl
  rw [List.nil_append, List.nil_append, bytesL_len] at this
  rw [this, over_zeros _ _ _ _ (bytesL_len _ _), bytesL_len, head_bytes1 m hm]
  unfold padB blkB
  rw [List.flatMap_nil, List.append_nil]
  congr 1
end Go.Proofs.Ytkhenchhafmlmaa.Ex
