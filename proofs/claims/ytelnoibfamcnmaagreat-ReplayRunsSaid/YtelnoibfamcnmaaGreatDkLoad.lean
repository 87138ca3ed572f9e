/- Contracts of the program's and the document's loading of an image. -/
import Derived.Test.YtelnoibfamcnmaaGreatDkApi
namespace Go.Proofs.YtelnoibfamcnmaaGreat.Disk
set_option maxRecDepth 20000
open Go.RowKit
open Go.Proofs.YtelnoibfamcnmaaGreat.Mem
attribute [local go_sem ↓] Go.wp_at_zero Go.wp_at_succ ldW_eq stW_eq newW_eq mkW_eq oneW_eq

def loadable (N : Nat) : Bool := decide (N % 256 = 0) && (decide (1 ≤ N / 256) && decide (N / 256 ≤ 1024))

def chunks (bs : List UInt8) (n : Nat) : List (List UInt8) := (List.range n).map fun i => (bs.drop (i * 256)).take 256
def loaded (bs : List UInt8) (n : Nat) : Dk.Dk := { stable := chunks bs n }

/-- The document's disk behind its loading. -/
def RefNew (w : World) (bs : List UInt8) (e : Ending) (w' : World) : Prop :=
  ∃ r A c, e = .returned (.tuple #[ptr r, .int .i64 0]) ∧ w'.heap[r]? = some (.cells #[.slice A bs.length c, .slice none 0 0, .slice none 0 0, .bool false, .int .i64 0] 87 (0, 0)) ∧ Owned w' w.heap.size (.slice A bs.length c) bs ∧ w.heap.size ≤ r ∧ Below w.heap.size w w'
set_option maxRecDepth 100000 in
theorem refload_ok (a : Addr) (N n c B : Nat) (bs : List UInt8) (w : World) (hn : N = 256 * n) (h1 : 1 ≤ n) (h2 : n ≤ 1024) (h : Holds w B (some a) N bs) (hB : B ≤ w.heap.size) :
    Calls Tryz.prog 9 #[.slice (some a) N c] w (RefNew w bs) := by
  obtain rfl : bs.length = N := h.1
  have hq : (bs.length : Int) / 256 = (n : Int) := by omega
  have hne : ((bs.length : Int) != (n : Int) * 256) = false := by simp; omega
  have hne2 : (bs.length : Int) = (n : Int) * 256 := by omega
  have ho := owned_made w [] w.heap.size (Nat.le_refl _) (by unfold maxLen; simp)
  have HN := Lib.hid hn; clear hn
  have HN2 := Lib.hid hne2; clear hne2
  go_enter Tryz.func9, Tryz.ntmps9
  go_wp2_with (at_builtin; refine wpList_addall rfl _ _ rfl w.heap.size _ [] rfl ho B (some a) bs.length c bs rfl ?c1 ?c2 ?c3 ?_)
  case c1 => exact h.below (((Below.refl w.heap.size w).alloc (Nat.le_refl _) _).mono hB)
  case c2 => have := HN.out; simp; omega
  case c3 => simp
  intro v w2 ho2 hb2
  obtain ⟨A2, c2, rfl, -⟩ := Owned.holds ho2
  have HO := Lib.hid ho2; clear ho2
  have HB := Lib.hid hb2; clear hb2
  clear ho
  go_wp2
  go_ret2
  have hb := ((Below.refl w.heap.size w).alloc (Nat.le_refl _) (.cells (List.map byteV []).toArray 5)).trans HB.out
  exact ⟨w2.heap.size, A2, c2, rfl, heap_alloc_new w2 _, World.ownsRow.alloc HO.out _, hb.size, hb.alloc hb.size _⟩
end Go.Proofs.YtelnoibfamcnmaaGreat.Disk
