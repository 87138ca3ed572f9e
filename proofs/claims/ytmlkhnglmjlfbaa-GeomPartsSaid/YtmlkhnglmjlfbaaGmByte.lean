/- The library's comparing of bytes; the bytes of a superblock. -/
import Derived.Test.YtmlkhnglmjlfbaaRcMem
import Derived.Test.YtmlkhnglmjlfbaaGmIs
import Derived.WalkSpells
namespace Go.Proofs.Ytmlkhnglmjlfbaa.Gm
set_option maxRecDepth 20000
open Go.RowKit
open Go.Proofs.Ytmlkhnglmjlfbaa.Mem Go.Proofs.Ytmlkhnglmjlfbaa.Crc Go.Proofs.Ytmlkhnglmjlfbaa.Rec

def eqB (a b : List UInt8) : Bool := decide (a = b)

theorem equal_any (A A' : Option Addr) (n n' c c' B B' : Nat) (bs bs' : List UInt8) (w : World) (h : Holds w B A n bs) (h' : Holds w B' A' n' bs') :
    Calls Try.prog 26 #[.slice A n c, .slice A' n' c'] w fun e w' => e = .returned (.bool (eqB bs bs')) ∧ w = w' := by
  have t1 := run_text w B A n c bs h
  have t2 := run_text w B' A' n' c' bs' h'
  clear h h'
  unfold eqB
  by_cases heq : bs = bs'
  · subst heq
    go_enter Try.func26, Try.ntmps26
    go_wp2
    go_ret
    exact ⟨by simp, rfl⟩
  · have hne : (⟨bs.toArray⟩ : ByteArray) ≠ ⟨bs'.toArray⟩ := by
      intro e
      injection e with e
      exact heq (by simpa using congrArg Array.toList e)
    have hd : decide (bs = bs') = false := by simpa using heq
    go_enter Try.func26, Try.ntmps26
    go_wp2
    go_ret
    exact ⟨by simp [heq], rfl⟩


/-! ### The bytes of a superblock -/
def mark8 : List UInt8 := [85, 67, 70, 84, 1, 0, 0, 0]
/-- A geometry's numbers, in their order in a superblock. -/
def numsOf (b : Nat) : List Nat := [b, b / 4, 1, 2, 3, 3 + (b / 4 + 1) / 2, 32 + b / 32, 3 + (b / 4 + 1) / 2 + (32 + b / 32)]
def lay8 (b : Nat) : Array Value := ((numsOf b).map fun n : Nat => Value.int .i64 (n : Int)).toArray
theorem lay8_eq (b : Nat) : (lay (b : Int)).c = lay8 b := by simp [lay, Gm.c, lay8, numsOf]
/-- The mark and the first k numbers. -/
def pre (b : Nat) : Nat → List UInt8
  | 0 => mark8
  | k + 1 => pre b k ++ bytesL ((numsOf b).getD k 0) 4
def sup (b : Nat) : List UInt8 := (pre b 8 ++ bytesL (sum (pre b 8)) 4) ++ List.replicate 212 0
theorem pre_len (b : Nat) : ∀ k, (pre b k).length = 8 + 4 * k
  | 0 => rfl
  | k + 1 => by
    show (pre b k ++ bytesL _ 4).length = _
    rw [List.length_append, pre_len b k, bytesL_len]; omega
theorem sup_len (b : Nat) : (sup b).length = 256 := by
  unfold sup
  rw [List.length_append, List.length_append, pre_len, bytesL_len, List.length_replicate]
theorem over_zeros (p : List UInt8) (n k : Nat) (y : List UInt8) (hk : p.length = k) : over (p ++ List.replicate n 0) k y = (p ++ y) ++ List.replicate (n - y.length) 0 := by
  unfold over
  subst hk
  rw [List.take_left', List.drop_append, List.drop_of_length_le (by omega), List.drop_replicate]
  · simp [Nat.add_sub_cancel_left]
  · rfl

set_option maxRecDepth 100000 in
theorem numbers_any (b : Nat) (w : World) :
    Calls Try.prog 28 #[.agg (lay (b : Int)).c] w fun e w' => e = .returned (.agg (lay8 b)) ∧ Below w.heap.size w w' := by
  rw [lay8_eq]
  unfold lay8
  simp only [numsOf, List.map_cons, List.map_nil]
  go_enter Try.func28, Try.ntmps28
  go_wp2
  exact bodyPost_ret (results_cell_row rfl _ _ (w.heap.size + 1) _ _ (0, 0) _ rfl (heap_alloc2_new w _ _) Try.underlying56 rfl (by kernel_rfl)) rfl ⟨rfl, ((Below.refl _ _).alloc (Nat.le_refl _) _).alloc (by simp) _⟩
end Go.Proofs.Ytmlkhnglmjlfbaa.Gm
