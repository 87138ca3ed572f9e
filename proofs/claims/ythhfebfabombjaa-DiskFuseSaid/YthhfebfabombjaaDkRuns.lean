/- Runs of deeds, with a fuse and without one; two disks beside each other. -/
import Derived.Test.YthhfebfabombjaaDeeds
import Derived.Test.YthhfebfabombjaaDkGhost
namespace Go.Proofs.Ythhfebfabombjaa.Disk
open Go.ChangeShapes Go.WideShapes Go.ChangeAt Go.RowKit Go.Deep
open Go.Proofs.Ythhfebfabombjaa.Mem Go.Proofs.Ythhfebfabombjaa.Lift

/-- What a deed of the fuse's law does: a whole write, or a flush. -/
def opOf (x : DeedR) : Option Dk.Wr := if bits .and .i64 x.op 1 = 0 then some ((bits .and .i64 x.blk 3).toNat, dataL x.fill false) else none
def run (d : Dk.Dk) (l : List (Option Dk.Wr)) : Dk.Dk := l.foldl Dk.Dk.deed d
theorem run_snoc (d : Dk.Dk) (l : List (Option Dk.Wr)) (x : Option Dk.Wr) : run d (l ++ [x]) = (run d l).deed x := by unfold run; rw [List.foldl_append]; rfl
theorem opOf_fits (x : DeedR) (w : Dk.Wr) (h : opOf x = some w) : w.1 < 4 ∧ w.2.length = 256 := by
  unfold opOf at h
  split at h
  · injection h with h
    subst h
    obtain ⟨k, hk, he⟩ := and_mask x.blk 3 2 rfl (by omega)
    have he : bits .and .i64 x.blk 3 = (k : Int) := he
    refine ⟨?_, by rw [dataL_len]; rfl⟩
    show (bits .and .i64 x.blk 3).toNat < 4
    rw [he]; omega
  · cases h
theorem run_size (l : List (Option Dk.Wr)) : ∀ d : Dk.Dk, (run d l).stable.length = d.stable.length := by
  induction l with
  | nil => intro d; rfl
  | cons x r ih => intro d; show (run (d.deed x) r).stable.length = _; rw [ih, Dk.size_deed]
theorem run_ok (l : List (Option Dk.Wr)) : ∀ d : Dk.Dk, d.Ok → (∀ w, some w ∈ l → w.1 < d.stable.length ∧ w.2.length = 256) → (run d l).Ok := by
  induction l with
  | nil => intro d h _; exact h
  | cons x r ih =>
    intro d h hl
    refine ih (d.deed x) (Dk.deed_ok d h x (fun w e => hl w (by rw [e]; simp))) (fun w hw => ?_)
    rw [Dk.size_deed]; exact hl w (by simp [hw])
theorem run_read (l : List (Option Dk.Wr)) : ∀ d e : Dk.Dk, d.Ok → e.Ok → d.stable.length = e.stable.length → (∀ w, some w ∈ l → w.1 < d.stable.length ∧ w.2.length = 256) → (∀ i, d.read i = e.read i) → ∀ i, (run d l).read i = (run e l).read i := by
  induction l with
  | nil => intro d e _ _ _ _ h; exact h
  | cons x r ih =>
    intro d e hd he hs hl h
    refine ih (d.deed x) (e.deed x) (Dk.deed_ok d hd x (fun w q => hl w (by rw [q]; simp))) (Dk.deed_ok e he x (fun w q => by rw [← hs]; exact hl w (by rw [q]; simp))) (by rw [Dk.size_deed, Dk.size_deed]; exact hs) (fun w hw => ?_) (fun i => ?_)
    · rw [Dk.size_deed]; exact hl w (by simp [hw])
    · rw [Dk.read_deed d hd, Dk.read_deed e he, h]
theorem blown_run (d : Dk.Dk) (l : List (Option Dk.Wr)) : ∀ g : List Dk.Wr, (run { d with ghosts := g, fuse := some 0 } l).stable = d.stable ∧ (run { d with ghosts := g, fuse := some 0 } l).pend = d.pend := by
  induction l with
  | nil => intro g; exact ⟨rfl, rfl⟩
  | cons x r ih =>
    intro g
    show (run (Dk.Dk.deed { d with ghosts := g, fuse := some 0 } x) r).stable = _ ∧ (run (Dk.Dk.deed { d with ghosts := g, fuse := some 0 } x) r).pend = _
    rw [Dk.deed_blown]
    exact ih _
theorem fused_run (l : List (Option Dk.Wr)) : ∀ (n : Nat) (d : Dk.Dk), d.fuse = none → (run (d.fused (some n)) l).stable = (run d (l.take n)).stable ∧ (run (d.fused (some n)) l).pend = (run d (l.take n)).pend := by
  induction l with
  | nil => intro n d _; rw [List.take_nil]; exact ⟨rfl, rfl⟩
  | cons x r ih =>
    intro n d hf
    cases n with
    | zero => exact blown_run d (x :: r) d.ghosts
    | succ n =>
      show (run ((d.fused (some (n + 1))).deed x) r).stable = (run (d.deed x) (r.take n)).stable ∧ (run ((d.fused (some (n + 1))).deed x) r).pend = (run (d.deed x) (r.take n)).pend
      rw [Dk.deed_fused d hf]
      exact ih n (d.deed x) (Dk.deed_free d hf x)
theorem run_free (l : List (Option Dk.Wr)) : ∀ d : Dk.Dk, d.fuse = none → (run d l).fuse = none := by
  induction l with
  | nil => intro d h; exact h
  | cons x r ih => intro d h; exact ih _ (Dk.deed_free d h x)
theorem setFuse_new (n k : Nat) : (Dk.Dk.new k).setFuse (n : Int) = (Dk.Dk.new k).fused (some n) := by
  unfold Dk.Dk.setFuse Dk.Dk.blown Dk.Dk.new Dk.Dk.fused
  simp
theorem crash_same (d e : Dk.Dk) (h1 : d.stable = e.stable) (h2 : d.pend = e.pend) (bits : List UInt8) : d.crash bits = e.crash bits := by
  unfold Dk.Dk.crash; rw [h1, h2]

/-- Two disks of the program beside each other, made since w. -/
structure Pair (w W : World) (p1 : Nat) (d1 : Dk.Dk) (c1 : Nat) (F1 : Nat → Prop) (p2 : Nat) (d2 : Dk.Dk) (c2 : Nat) (F2 : Nat → Prop) : Prop where
  one : DiskAt W p1 d1 c1 F1
  two : DiskAt W p2 d2 c2 F2
  apart : ∀ q, F1 q → ¬ F2 q
  low1 : ∀ q, F1 q → w.heap.size ≤ q
  low2 : ∀ q, F2 q → w.heap.size ≤ q
  below : Below w.heap.size w W
theorem Pair.first {w W W' : World} {p1 c1 c1' p2 c2 : Nat} {d1 d1' d2 : Dk.Dk} {F1 F1' F2 : Nat → Prop} (h : Pair w W p1 d1 c1 F1 p2 d2 c2 F2) (hd : DiskAt W' p1 d1' c1' F1')
    (hf : ∀ k, F1' k → F1 k ∨ W.heap.size ≤ k) (ht : Turns F1 W W') : Pair w W' p1 d1' c1' F1' p2 d2 c2 F2 := by
  have hs := h.below.size
  have hl := h.two.lt
  refine ⟨hd, h.two.turns ht (fun q h2 h1 => h.apart q h1 h2), fun q h1 h2 => ?_, fun q h1 => ?_, h.low2, h.below.trans (ht.below h.low1 hs)⟩
  · rcases hf q h1 with e | e
    · exact h.apart q e h2
    · have := hl q h2; omega
  · rcases hf q h1 with e | e
    · exact h.low1 q e
    · omega
theorem Pair.swap {w W : World} {p1 c1 p2 c2 : Nat} {d1 d2 : Dk.Dk} {F1 F2 : Nat → Prop} (h : Pair w W p1 d1 c1 F1 p2 d2 c2 F2) : Pair w W p2 d2 c2 F2 p1 d1 c1 F1 :=
  ⟨h.two, h.one, fun q h2 h1 => h.apart q h1 h2, h.low2, h.low1, h.below⟩
theorem Pair.second {w W W' : World} {p1 c1 p2 c2 c2' : Nat} {d1 d2 d2' : Dk.Dk} {F1 F2 F2' : Nat → Prop} (h : Pair w W p1 d1 c1 F1 p2 d2 c2 F2) (hd : DiskAt W' p2 d2' c2' F2')
    (hf : ∀ k, F2' k → F2 k ∨ W.heap.size ≤ k) (ht : Turns F2 W W') : Pair w W' p1 d1 c1 F1 p2 d2' c2' F2' := (h.swap.first hd hf ht).swap
theorem Pair.next {w W W' : World} {p1 c1 p2 c2 : Nat} {d1 d2 : Dk.Dk} {F1 F2 : Nat → Prop} (h : Pair w W p1 d1 c1 F1 p2 d2 c2 F2) (ht : Turns (fun _ => False) W W') : Pair w W' p1 d1 c1 F1 p2 d2 c2 F2 :=
  ⟨h.one.turns ht (fun _ _ e => e), h.two.turns ht (fun _ _ e => e), h.apart, h.low1, h.low2, h.below.trans (ht.below (fun _ e => e.elim) h.below.size)⟩
theorem Pair.more {w W : World} {p1 c1 c1' p2 c2 c2' : Nat} {d1 d2 : Dk.Dk} {F1 F2 : Nat → Prop} (h : Pair w W p1 d1 c1 F1 p2 d2 c2 F2) (h1 : c1 ≤ c1') (h2 : c2 ≤ c2') : Pair w W p1 d1 c1' F1 p2 d2 c2' F2 :=
  ⟨h.one.more h1, h.two.more h2, h.apart, h.low1, h.low2, h.below⟩
theorem Pair.load {w W : World} {p1 c1 p2 c2 : Nat} {d1 d2 : Dk.Dk} {F1 F2 : Nat → Prop} (h : Pair w W p1 d1 c1 F1 p2 d2 c2 F2) {p3 c3 : Nat} {d3 : Dk.Dk} {F3 : Nat → Prop} {W' : World} (hd : DiskAt W' p3 d3 c3 F3) (hF : ∀ k, F3 k → W.heap.size ≤ k) (hb : Below W.heap.size W W') :
    Pair w W' p1 d1 c1 F1 p3 d3 c3 F3 :=
  ⟨h.one.turns (G := fun _ => False) (Turns.of_below hb) (fun _ _ e => e), hd, fun q h1 h3 => by have := h.one.lt q h1; have := hF q h3; omega, h.low1, fun q h3 => by have := hF q h3; have := h.below.size; omega, h.below.trans (hb.mono h.below.size)⟩

/-- What a deed's variable holds. -/
abbrev Five (V : World) (bx : Nat) (x : DeedR) : Prop :=
  V.cell? ⟨bx, 0, none⟩ = some (.int .i64 x.op) ∧ V.cell? ⟨bx, 1, none⟩ = some (.int .i64 x.blk) ∧ V.cell? ⟨bx, 2, none⟩ = some (.int .u8 (x.fill.toNat : Int)) ∧ V.cell? ⟨bx, 3, none⟩ = some (.bool false) ∧ V.cell? ⟨bx, 4, none⟩ = some (.slice x.A x.n x.c)
theorem Five.turns {V V' : World} {bx : Nat} {x : DeedR} {F : Nat → Prop} (h : Five V bx x) (ht : Turns F V V') (hb : bx < V.heap.size) (hF : ¬ F bx) : Five V' bx x := by
  have e := ht.block bx hb hF
  exact ⟨(World.cell?_of_block (a := ⟨bx, 0, none⟩) e).trans h.1, (World.cell?_of_block (a := ⟨bx, 1, none⟩) e).trans h.2.1, (World.cell?_of_block (a := ⟨bx, 2, none⟩) e).trans h.2.2.1, (World.cell?_of_block (a := ⟨bx, 3, none⟩) e).trans h.2.2.2.1, (World.cell?_of_block (a := ⟨bx, 4, none⟩) e).trans h.2.2.2.2⟩
theorem opOf_write (x : DeedR) (k : Nat) (h1 : bits .and .i64 x.op 1 = 0) (h2 : bits .and .i64 x.blk 3 = (k : Int)) : opOf x = some (k, dataL x.fill false) := by
  unfold opOf; rw [if_pos h1, h2]; rfl
theorem opOf_flush (x : DeedR) (h1 : bits .and .i64 x.op 1 = 1) : opOf x = none := by
  unfold opOf; rw [if_neg (by rw [h1]; decide)]
theorem run_step (D : Dk.Dk) (ys : List DeedR) (k : Nat) (hk : k < ys.length) : run D ((ys.map opOf).take (k + 1)) = (run D ((ys.map opOf).take k)).deed (opOf ys[k]) := by
  rw [take_snoc _ k (by simpa using hk), run_snoc]; simp
end Go.Proofs.Ythhfebfabombjaa.Disk
