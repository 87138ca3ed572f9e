/- A slice of deeds among the arguments: what it is, its first forty, and the numbers that a statement makes small. -/
import Derived.Test.YtelnoibfamcnmaaDeed
import Derived.Test.YtelnoibfamcnmaaDkApi
import Derived.Laws.BitsAllLaws
namespace Go.Proofs.Ytelnoibfamcnmaa.Disk
set_option maxRecDepth 20000
open Go.ChangeShapes Go.WideShapes Go.ChangeAt Go.RowKit Go.Deep
open Go.Proofs.Ytelnoibfamcnmaa.Mem Go.Proofs.Ytelnoibfamcnmaa.Lift

structure DeedR where
  op : Int
  blk : Int
  fill : UInt8
  short : Bool
  A : Option Addr
  n : Nat
  c : Nat
  bs : List UInt8
def DeedR.cells (x : DeedR) : Array Value := deedV x.op x.blk x.fill x.short x.A x.n x.c
def DeedR.Is (w : World) (B : Nat) (x : DeedR) : Prop := IsDeed w B x.cells x.op x.blk x.fill x.short x.A x.n x.c x.bs
theorem DeedR.Is.below {w w' : World} {B : Nat} {x : DeedR} (h : x.Is w B) (hb : Below B w w') : x.Is w' B := ⟨h.cells, h.op, h.blk, h.bits.below hb, h.fits⟩

/-- A slice of deeds, all below block B. -/
def Deeds (w : World) (B : Nat) (A : Option Addr) (n : Nat) (xs : List DeedR) : Prop :=
  xs.length = n ∧ (0 < n → ∃ b off, A = some ⟨b, off, none⟩ ∧ b < B ∧ ∀ j, (h : j < xs.length) → ∀ k, k < 5 → w.cell? ⟨b, off + j * 5 + k, none⟩ = xs[j].cells[k]?) ∧ ∀ x ∈ xs, x.Is w B
theorem Deeds.below {w w' : World} {B : Nat} {A : Option Addr} {n : Nat} {xs : List DeedR} (h : Deeds w B A n xs) (hb : Below B w w') : Deeds w' B A n xs :=
  ⟨h.1, fun hn => by
    obtain ⟨b, off, e, hl, hc⟩ := h.2.1 hn
    exact ⟨b, off, e, hl, fun j hj k hk => (hb.cell (p := ⟨b, off + j * 5 + k, none⟩) hl).trans (hc j hj k hk)⟩, fun x hx => (h.2.2 x hx).below hb⟩
theorem Deeds.take {w : World} {B : Nat} {A : Option Addr} {n k : Nat} {xs : List DeedR} (h : Deeds w B A n xs) (hk : k ≤ n) : Deeds w B A k (xs.take k) :=
  ⟨by rw [List.length_take, h.1]; omega, fun h0 => by
    obtain ⟨b, off, e, hl, hc⟩ := h.2.1 (by omega)
    refine ⟨b, off, e, hl, fun j hj q hq => ?_⟩
    rw [List.length_take] at hj
    rw [List.getElem_take]
    exact hc j (by omega) q hq, fun x hx => h.2.2 x (List.mem_of_mem_take hx)⟩

theorem exists_list {α : Type} {p : Nat → α → Prop} : ∀ n, (∀ i, i < n → ∃ x, p i x) → ∃ l : List α, l.length = n ∧ ∀ i, (h : i < l.length) → p i l[i]
  | 0, _ => ⟨[], rfl, fun i h => absurd h (by simp)⟩
  | n + 1, h => by
    obtain ⟨l, hl, hp⟩ := exists_list n (fun i hi => h i (by omega))
    obtain ⟨x, hx⟩ := h n (by omega)
    refine ⟨l ++ [x], by simp [hl], fun i hi => ?_⟩
    by_cases e : i < l.length
    · rw [List.getElem_append_left e]; exact hp i e
    · have : i = n := by simp at hi; omega
      subst this
      rw [List.getElem_append_right (by omega)]
      simp [hl]; exact hx

def fewN (n : Nat) : Nat := if n > 40 then 40 else n
theorem few_any (A : Option Addr) (n c : Nat) (w : World) (hc : n ≤ c) (hm : c ≤ maxLen) (hA : 0 < n → ∃ b off, A = some ⟨b, off, none⟩) :
    Calls Try.prog 17 #[.slice A n c] w fun e w' => e = .returned (.slice A (fewN n) c) ∧ w = w' := by
  unfold maxLen at hm
  unfold fewN
  by_cases h : n > 40
  · rw [if_pos h]
    have q : (Instr.slice 22 (.slice A n c) none (some (.int .i64 40)) none).run Try.prog w = .ok (.slice A 40 c) w := by
      have h := run_slice_h (P := Try.prog) w 22 A n c (by rw [Try.underlying22]; rfl) .i64 40 (by omega) (by omega)
      rw [h]
      have hs : (sizeOf (Try.prog.elem 22)).run Try.prog w = .ok 5 w := by rfl
      rw [hs]
      obtain ⟨b, off, rfl⟩ := hA (by omega)
      simp [Result.andThen, sliced, Addr.add_mid]
    have q2 : (Instr.sliceAt 22 (.slice A n c) none (some (.int .i64 40)) none).run Try.prog w = .ok (.slice A 40 c) w := by
      rw [run_sliceAt_slice (P := Try.prog) w 22 _ _ _ _ (by rw [Try.underlying22]; rfl)]
      exact q
    go_enter Try.func17, Try.ntmps17
    go_wp2
    go_ret
    exact ⟨rfl, rfl⟩
  · rw [if_neg h]
    go_enter Try.func17, Try.ntmps17
    go_wp2
    go_ret
    exact ⟨rfl, rfl⟩

/-- A deed's write, of a whole block or of one byte less. -/
def put (d : Dk.Dk) (i : Nat) (fill : UInt8) (short : Bool) : Dk.Dk := if short then d else d.write i (dataL fill false)
def putR (short : Bool) : Int := if short then 1 else 0
/-- Two disks of the program beside each other, and two rows of bytes that neither owns; all made since w. -/
structure Two (w W : World) (p1 : Nat) (d1 : Dk.Dk) (c1 : Nat) (F1 : Nat → Prop) (p2 : Nat) (d2 : Dk.Dk) (c2 : Nat) (F2 : Nat → Prop) (ba bb : Nat) (da db : List UInt8) : Prop where
  one : DiskAt W p1 d1 c1 F1
  two : DiskAt W p2 d2 c2 F2
  apart : ∀ q, F1 q → ¬ F2 q
  low1 : ∀ q, F1 q → w.heap.size ≤ q
  low2 : ∀ q, F2 q → w.heap.size ≤ q
  ra : W.rangeAt ba 0 (da.map byteV)
  rb : W.rangeAt bb 0 (db.map byteV)
  na : ba < W.heap.size ∧ ¬ F1 ba ∧ ¬ F2 ba
  nb : bb < W.heap.size ∧ ¬ F1 bb ∧ ¬ F2 bb
  below : Below w.heap.size w W
theorem Two.first {w W W' : World} {p1 c1 c1' p2 c2 ba bb : Nat} {d1 d1' d2 : Dk.Dk} {F1 F1' F2 : Nat → Prop} {da db : List UInt8} (h : Two w W p1 d1 c1 F1 p2 d2 c2 F2 ba bb da db) (hd : DiskAt W' p1 d1' c1' F1')
    (hf : ∀ k, F1' k → F1 k ∨ W.heap.size ≤ k) (ht : Turns F1 W W') : Two w W' p1 d1' c1' F1' p2 d2 c2 F2 ba bb da db := by
  have hs := h.below.size
  have hl := h.two.lt
  have hW := ht.size
  refine ⟨hd, h.two.turns ht (fun q h2 h1 => h.apart q h1 h2), fun q h1 h2 => ?_, fun q h1 => ?_, h.low2, range_turns h.ra ht h.na.1 h.na.2.1, range_turns h.rb ht h.nb.1 h.nb.2.1, ⟨by have := h.na.1; omega, fun e => ?_, h.na.2.2⟩, ⟨by have := h.nb.1; omega, fun e => ?_, h.nb.2.2⟩, h.below.trans (ht.below h.low1 hs)⟩
  · rcases hf q h1 with e | e
    · exact h.apart q e h2
    · have := hl q h2; omega
  · rcases hf q h1 with e | e
    · exact h.low1 q e
    · omega
  · rcases hf _ e with e | e
    · exact h.na.2.1 e
    · have := h.na.1; omega
  · rcases hf _ e with e | e
    · exact h.nb.2.1 e
    · have := h.nb.1; omega
theorem Two.next {w W W' : World} {p1 c1 p2 c2 ba bb : Nat} {d1 d2 : Dk.Dk} {F1 F2 : Nat → Prop} {da db : List UInt8} (h : Two w W p1 d1 c1 F1 p2 d2 c2 F2 ba bb da db) (ht : Turns (fun _ => False) W W') : Two w W' p1 d1 c1 F1 p2 d2 c2 F2 ba bb da db := by
  have hs := h.below.size
  have hW := ht.size
  exact ⟨h.one.turns ht (fun _ _ e => e), h.two.turns ht (fun _ _ e => e), h.apart, h.low1, h.low2, range_turns h.ra ht h.na.1 (fun e => e), range_turns h.rb ht h.nb.1 (fun e => e), ⟨by have := h.na.1; omega, h.na.2⟩, ⟨by have := h.nb.1; omega, h.nb.2⟩,
    h.below.trans (ht.below (fun _ e => e.elim) hs)⟩
end Go.Proofs.Ytelnoibfamcnmaa.Disk
