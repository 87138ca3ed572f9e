/- A slice of deeds among the arguments: what it is, its first forty, and the numbers that a statement makes small. -/
import Derived.Test.YtkgpdpmdkkmifaaDeed
import Derived.Test.YtkgpdpmdkkmifaaDkApi
import Derived.Laws.BitsAllLaws
namespace Go.Proofs.Ytkgpdpmdkkmifaa.Disk
set_option maxRecDepth 20000
open Go.ChangeShapes Go.WideShapes Go.ChangeAt Go.RowKit Go.Deep
open Go.Proofs.Ytkgpdpmdkkmifaa.Mem Go.Proofs.Ytkgpdpmdkkmifaa.Lift

structure DeedR where
  op : Int
  blk : Int
  fill : UInt8
  short : Bool
  A : Option Addr
  n : Nat
  c : Nat
  bs : List UInt8
def DeedR.cells (x : DeedR) : Array Value := deedV x.op x.blk x.fill x.short x.A x.n x.c
def DeedR.Is (w : World) (B : Nat) (x : DeedR) : Prop := IsDeed w B x.cells x.op x.blk x.fill x.short x.A x.n x.c x.bs
theorem DeedR.Is.below {w w' : World} {B : Nat} {x : DeedR} (h : x.Is w B) (hb : Below B w w') : x.Is w' B := ⟨h.cells, h.op, h.blk, h.bits.below hb, h.fits⟩

/-- A slice of deeds, all below block B. -/
def Deeds (w : World) (B : Nat) (A : Option Addr) (n : Nat) (xs : List DeedR) : Prop :=
  xs.length = n ∧ (0 < n → ∃ b off, A = some ⟨b, off, none⟩ ∧ b < B ∧ ∀ j, (h : j < xs.length) → ∀ k, k < 5 → w.cell? ⟨b, off + j * 5 + k, none⟩ = xs[j].cells[k]?) ∧ ∀ x ∈ xs, x.Is w B
theorem Deeds.below {w w' : World} {B : Nat} {A : Option Addr} {n : Nat} {xs : List DeedR} (h : Deeds w B A n xs) (hb : Below B w w') : Deeds w' B A n xs :=
  ⟨h.1, fun hn => by
    obtain ⟨b, off, e, hl, hc⟩ := h.2.1 hn
    exact ⟨b, off, e, hl, fun j hj k hk => (hb.cell (p := ⟨b, off + j * 5 + k, none⟩) hl).trans (hc j hj k hk)⟩, fun x hx => (h.2.2 x hx).below hb⟩
theorem Deeds.take {w : World} {B : Nat} {A : Option Addr} {n k : Nat} {xs : List DeedR} (h : Deeds w B A n xs) (hk : k ≤ n) : Deeds w B A k (xs.take k) :=
  ⟨by rw [List.length_take, h.1]; omega, fun h0 => by
    obtain ⟨b, off, e, hl, hc⟩ := h.2.1 (by omega)
    refine ⟨b, off, e, hl, fun j hj q hq => ?_⟩
    rw [List.length_take] at hj
    rw [List.getElem_take]
    exact hc j (by omega) q hq, fun x hx => h.2.2 x (List.mem_of_mem_take hx)⟩

theorem exists_list {α : Type} {p : Nat → α → Prop} : ∀ n, (∀ i, i < n → ∃ x, p i x) → ∃ l : List α, l.length = n ∧ ∀ i, (h : i < l.length) → p i l[i]
  | 0, _ => ⟨[], rfl, fun i h => absurd h (by simp)⟩
  | n + 1, h => by
    obtain ⟨l, hl, hp⟩ := exists_list n (fun i hi => h i (by omega))
    obtain ⟨x, hx⟩ := h n (by omega)
    refine ⟨l ++ [x], by simp [hl], fun i hi => ?_⟩
    by_cases e : i < l.length
    · rw [List.getElem_append_left e]; exact hp i e
    · have : i = n := by simp at hi; omega
      subst this
      rw [List.getElem_append_right (by omega)]
      simp [hl]; exact hx

theorem deeds_of {H : Type} {enc : TypeId × Value → H} {W : World} {base : Nat} {v : Value} {d : DataW H} {p : List MemPlace} (hv : Value.okWide Try.prog W .any base 22 v)
    (h : DataW.Trod enc Try.prog W 0 (fun _ => true) true 22 v d p) : ∃ A n c xs, v = .slice A n c ∧ Deeds W W.heap.size A n xs ∧ n ≤ c ∧ c ≤ maxLen := by
  obtain ⟨A, n, c, rfl⟩ := okWide_slice Try.underlying22 hv
  obtain ⟨fuel, hf⟩ := h
  rcases open_slice Try.underlying22 hf with ⟨hcs, _⟩ | ⟨a, len, cap, m, k, D, Pl, hcs, _, hl, hm, hmm, _, hel⟩
  · simp [Value.cells] at hcs
    obtain ⟨rfl, rfl, rfl⟩ := hcs
    exact ⟨none, 0, 0, [], rfl, ⟨rfl, fun h => absurd h (by omega), fun x hx => by cases hx⟩, Nat.le_refl _, Nat.zero_le _⟩
  · simp [Value.cells] at hcs
    obtain ⟨rfl, rfl, rfl⟩ := hcs
    have hC : Try.prog.cellsOf 35 = 5 := by kernel_rfl
    rw [hC] at hel
    rw [if_pos rfl] at hmm
    obtain rfl : c = m := hmm.symm
    obtain ⟨xs, hxl, hxs⟩ := exists_list (p := fun i (x : DeedR) => x.Is W W.heap.size ∧ ∀ q, q < 5 → W.cell? ((a.add (i * 5)).add q) = x.cells[q]?) n (fun i hi => by
      obtain ⟨cs', hc, ht⟩ := hel i (by omega)
      obtain ⟨_, hcl, hat⟩ := World.cells?_some hc
      obtain ⟨op, blk, fill, short, A', n', c', bs, hd⟩ := deed_of_trod ht
      refine ⟨⟨op, blk, fill, short, A', n', c', bs⟩, ⟨rfl, hd.op, hd.blk, hd.bits, hd.fits⟩, fun q hq => ?_⟩
      rw [hat q hq]
      have := congrArg (fun a : Array Value => a[q]?) hd.cells
      simpa [DeedR.cells] using this)
    obtain ⟨b, off, spot⟩ := a
    by_cases h0 : 0 < n
    · have h00 := (hxs 0 (by omega)).2 0 (by omega)
      have hspot : spot = none := by
        have := World.cell?_spot (h00.trans (show (xs[0]'(by omega)).cells[0]? = some _ from rfl))
        simpa [Addr.add] using this
      subst hspot
      have hbl := block_lt_of_cell (h00.trans (show (xs[0]'(by omega)).cells[0]? = some _ from rfl))
      rw [Addr.add_mid, Addr.add_mid] at hbl
      refine ⟨_, n, c, xs, rfl, ⟨hxl, fun _ => ⟨b, off, rfl, hbl, fun j hj q hq => ?_⟩, fun x hx => ?_⟩, hl, hm⟩
      · have := (hxs j hj).2 q hq
        rwa [Addr.add_mid, Addr.add_mid] at this
      · obtain ⟨j, hj, rfl⟩ := List.getElem_of_mem hx
        exact (hxs j hj).1
    · have hn : n = 0 := by omega
      subst hn
      have : xs = [] := List.eq_nil_of_length_eq_zero hxl
      subst this
      exact ⟨_, 0, c, [], rfl, ⟨rfl, fun h => absurd h (by omega), fun x hx => by cases hx⟩, Nat.zero_le _, hm⟩

def fewN (n : Nat) : Nat := if n > 40 then 40 else n
theorem few_any (A : Option Addr) (n c : Nat) (w : World) (hc : n ≤ c) (hm : c ≤ maxLen) (hA : 0 < n → ∃ b off, A = some ⟨b, off, none⟩) :
    Calls Try.prog 8 #[.slice A n c] w fun e w' => e = .returned (.slice A (fewN n) c) ∧ w = w' := by
  unfold maxLen at hm
  unfold fewN
  by_cases h : n > 40
  · rw [if_pos h]
    have q : (Instr.slice 22 (.slice A n c) none (some (.int .i64 40)) none).run Try.prog w = .ok (.slice A 40 c) w := by
      have h := run_slice_h (P := Try.prog) w 22 A n c (by rw [Try.underlying22]; rfl) .i64 40 (by omega) (by omega)
      rw [h]
      have hs : (sizeOf (Try.prog.elem 22)).run Try.prog w = .ok 5 w := by rfl
      rw [hs]
      obtain ⟨b, off, rfl⟩ := hA (by omega)
      simp [Result.andThen, sliced, Addr.add_mid]
    have q2 : (Instr.sliceAt 22 (.slice A n c) none (some (.int .i64 40)) none).run Try.prog w = .ok (.slice A 40 c) w := by
      rw [run_sliceAt_slice (P := Try.prog) w 22 _ _ _ _ (by rw [Try.underlying22]; rfl)]
      exact q
    go_enter Try.func8, Try.ntmps8
    go_wp2
    go_ret
    exact ⟨rfl, rfl⟩
  · rw [if_neg h]
    go_enter Try.func8, Try.ntmps8
    go_wp2
    go_ret
    exact ⟨rfl, rfl⟩

theorem and_mask (x : Int) (m s : Nat) (hm : m = 2 ^ s - 1) (hs : s ≤ 8) : ∃ k : Nat, k < 2 ^ s ∧ bits .and .i64 x (m : Int) = (k : Int) := by
  have hp : 2 ^ s ≤ 2 ^ 8 := Nat.pow_le_pow_right (by omega) hs
  have h1 : 0 < 2 ^ s := Nat.two_pow_pos s
  have e : (BitVec.ofInt 64 (m : Int)).toNat = m := by
    rw [BitVec.ofInt_natCast, BitVec.toNat_ofNat]; exact Nat.mod_eq_of_lt (by omega)
  have hk : (BitVec.ofInt 64 x &&& BitVec.ofInt 64 (m : Int)).toNat < 2 ^ s := by
    rw [BitVec.toNat_and, e]
    exact Nat.and_lt_two_pow _ (by omega)
  refine ⟨_, hk, ?_⟩
  show IntKind.i64.wrap ((BitVec.ofInt 64 x &&& BitVec.ofInt 64 (m : Int)).toNat : Int) = _
  exact IntWalk.i64_in _ (by omega)

/-- A deed's write, of a whole block or of one byte less. -/
def put (d : Dk.Dk) (i : Nat) (fill : UInt8) (short : Bool) : Dk.Dk := if short then d else d.write i (dataL fill false)
def putR (short : Bool) : Int := if short then 1 else 0
theorem put_size (d : Dk.Dk) (i : Nat) (fill : UInt8) (short : Bool) : (put d i fill short).stable.length = d.stable.length := by
  unfold put; split
  · rfl
  · exact Dk.size_write d i _
theorem put_free (d : Dk.Dk) (i : Nat) (fill : UInt8) (short : Bool) (h : d.fuse = none) : (put d i fill short).fuse = none := by
  unfold put; split
  · exact h
  · unfold Dk.Dk.write; rw [if_neg (by unfold Dk.Dk.blown; rw [h]; simp)]; show d.fuse.map _ = none; rw [h]; rfl
theorem write_data_d (ii : Int) (i : Nat) (hii : ii = (i : Int)) (b : Nat) (fill : UInt8) (short : Bool) (d : Dk.Dk) (p c : Nat) (F : Nat → Prop) (w : World) (h : DiskAt w p d c F) (hb : d.blown = false) (hi : i < d.stable.length)
    (hd : w.heap[b]? = some (.cells ((dataL fill short).map byteV).toArray 5 (0, 0))) (hc : c ≤ 1048576) :
    Calls Try.prog 17 #[ptr p, .int .i64 ii, .slice (some ⟨b, 0, none⟩) (dataL fill short).length (dataL fill short).length] w (Now w p (put d i fill short) (c + 1) F (.int .i64 (putR short))) := by
  cases short
  · have hl : (dataL fill false).length = 256 := by rw [dataL_len]; rfl
    rw [hl]
    exact write_d ii i hii b 0 256 _ d p c F w h hb hi hl (range_of_heap hd) hc
  · have hl : (dataL fill true).length = 255 := by rw [dataL_len]; rfl
    rw [hl]
    refine (write_short_d ii i hii _ 255 255 d p c F w h hi (by omega)).mono ?_
    rintro e w' ⟨he, rfl⟩
    exact ⟨F, he, h.more (by omega), fun k hk => .inl hk, Turns.refl _ _⟩

/-- Two disks of the program beside each other, and two rows of bytes that neither owns; all made since w. -/
structure Two (w W : World) (p1 : Nat) (d1 : Dk.Dk) (c1 : Nat) (F1 : Nat → Prop) (p2 : Nat) (d2 : Dk.Dk) (c2 : Nat) (F2 : Nat → Prop) (ba bb : Nat) (da db : List UInt8) : Prop where
  one : DiskAt W p1 d1 c1 F1
  two : DiskAt W p2 d2 c2 F2
  apart : ∀ q, F1 q → ¬ F2 q
  low1 : ∀ q, F1 q → w.heap.size ≤ q
  low2 : ∀ q, F2 q → w.heap.size ≤ q
  ra : W.rangeAt ba 0 (da.map byteV)
  rb : W.rangeAt bb 0 (db.map byteV)
  na : ba < W.heap.size ∧ ¬ F1 ba ∧ ¬ F2 ba
  nb : bb < W.heap.size ∧ ¬ F1 bb ∧ ¬ F2 bb
  below : Below w.heap.size w W
theorem Two.first {w W W' : World} {p1 c1 c1' p2 c2 ba bb : Nat} {d1 d1' d2 : Dk.Dk} {F1 F1' F2 : Nat → Prop} {da db : List UInt8} (h : Two w W p1 d1 c1 F1 p2 d2 c2 F2 ba bb da db) (hd : DiskAt W' p1 d1' c1' F1')
    (hf : ∀ k, F1' k → F1 k ∨ W.heap.size ≤ k) (ht : Turns F1 W W') : Two w W' p1 d1' c1' F1' p2 d2 c2 F2 ba bb da db := by
  have hs := h.below.size
  have hl := h.two.lt
  have hW := ht.size
  refine ⟨hd, h.two.turns ht (fun q h2 h1 => h.apart q h1 h2), fun q h1 h2 => ?_, fun q h1 => ?_, h.low2, range_turns h.ra ht h.na.1 h.na.2.1, range_turns h.rb ht h.nb.1 h.nb.2.1, ⟨by have := h.na.1; omega, fun e => ?_, h.na.2.2⟩, ⟨by have := h.nb.1; omega, fun e => ?_, h.nb.2.2⟩, h.below.trans (ht.below h.low1 hs)⟩
  · rcases hf q h1 with e | e
    · exact h.apart q e h2
    · have := hl q h2; omega
  · rcases hf q h1 with e | e
    · exact h.low1 q e
    · omega
  · rcases hf _ e with e | e
    · exact h.na.2.1 e
    · have := h.na.1; omega
  · rcases hf _ e with e | e
    · exact h.nb.2.1 e
    · have := h.nb.1; omega
theorem Two.swap {w W : World} {p1 c1 p2 c2 ba bb : Nat} {d1 d2 : Dk.Dk} {F1 F2 : Nat → Prop} {da db : List UInt8} (h : Two w W p1 d1 c1 F1 p2 d2 c2 F2 ba bb da db) : Two w W p2 d2 c2 F2 p1 d1 c1 F1 ba bb da db :=
  ⟨h.two, h.one, fun q h2 h1 => h.apart q h1 h2, h.low2, h.low1, h.ra, h.rb, ⟨h.na.1, h.na.2.2, h.na.2.1⟩, ⟨h.nb.1, h.nb.2.2, h.nb.2.1⟩, h.below⟩
theorem Two.second {w W W' : World} {p1 c1 p2 c2 c2' ba bb : Nat} {d1 d2 d2' : Dk.Dk} {F1 F2 F2' : Nat → Prop} {da db : List UInt8} (h : Two w W p1 d1 c1 F1 p2 d2 c2 F2 ba bb da db) (hd : DiskAt W' p2 d2' c2' F2')
    (hf : ∀ k, F2' k → F2 k ∨ W.heap.size ≤ k) (ht : Turns F2 W W') : Two w W' p1 d1 c1 F1 p2 d2' c2' F2' ba bb da db := (h.swap.first hd hf ht).swap
theorem Two.next {w W W' : World} {p1 c1 p2 c2 ba bb : Nat} {d1 d2 : Dk.Dk} {F1 F2 : Nat → Prop} {da db : List UInt8} (h : Two w W p1 d1 c1 F1 p2 d2 c2 F2 ba bb da db) (ht : Turns (fun _ => False) W W') : Two w W' p1 d1 c1 F1 p2 d2 c2 F2 ba bb da db := by
  have hs := h.below.size
  have hW := ht.size
  exact ⟨h.one.turns ht (fun _ _ e => e), h.two.turns ht (fun _ _ e => e), h.apart, h.low1, h.low2, range_turns h.ra ht h.na.1 (fun e => e), range_turns h.rb ht h.nb.1 (fun e => e), ⟨by have := h.na.1; omega, h.na.2⟩, ⟨by have := h.nb.1; omega, h.nb.2⟩,
    h.below.trans (ht.below (fun _ e => e.elim) hs)⟩
end Go.Proofs.Ytkgpdpmdkkmifaa.Disk
