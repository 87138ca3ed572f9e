/- Contracts of the small calls of the program's disk: whether a number may be, whether a block is there, whether the fuse is blown, the bit of a list, the fuse's burning, and a disk that is made anew. -/
import Derived.Test.YtelnoibfamcnmaaGreatMem
import Derived.Maps.OwnSet
import Derived.Laws.CopyOwn
import Derived.Deep.MidRow
import Derived.WalkSpells
import Derived.WalkLawsBesides
import Derived.Lib.Hide
import Derived.Deep.OwnRows
namespace Go.Proofs.YtelnoibfamcnmaaGreat.Dk
set_option maxRecDepth 20000

abbrev Blk := List UInt8
abbrev Wr := Nat × Blk

structure Dk where
  stable : List Blk
  pend : List Wr := []
  ghosts : List Wr := []
  fuse : Option Nat := none

/-- What is read of block i over what lies below: the last write counts. -/
def last (b : Blk) (ws : List Wr) (i : Nat) : Blk := ws.foldl (fun b w => if w.1 = i then w.2 else b) b

theorem last_nil (b : Blk) (i : Nat) : last b [] i = b := rfl
theorem last_cons (b : Blk) (w : Wr) (r : List Wr) (i : Nat) : last b (w :: r) i = last (if w.1 = i then w.2 else b) r i := rfl
theorem last_append (b : Blk) (x y : List Wr) (i : Nat) : last b (x ++ y) i = last (last b x i) y i := List.foldl_append
theorem last_snoc (b : Blk) (x : List Wr) (w : Wr) (i : Nat) : last b (x ++ [w]) i = if w.1 = i then w.2 else last b x i := last_append b x [w] i

def Dk.blown (d : Dk) : Bool := d.fuse == some 0
def Dk.read (d : Dk) (i : Nat) : Blk := last (last (d.stable.getD i []) d.pend i) d.ghosts i
def Dk.image (d : Dk) : List Blk := (List.range d.stable.length).map d.read
def Dk.tick (d : Dk) : Dk := { d with fuse := d.fuse.map (· - 1) }

/-- A write of a whole block to a block that is there. -/
def Dk.write (d : Dk) (i : Nat) (data : Blk) : Dk :=
  if d.blown then { d with ghosts := d.ghosts ++ [(i, data)] } else { d with pend := d.pend ++ [(i, data)], fuse := d.fuse.map (· - 1) }

def applyAll (st : List Blk) (ws : List Wr) : List Blk := ws.foldl (fun s w => s.set w.1 w.2) st
def Dk.flush (d : Dk) : Dk :=
  if d.blown then d else { d with stable := applyAll d.stable d.pend, pend := [], fuse := d.fuse.map (· - 1) }

/-- Number k of a list of bits. -/
def bit (bits : List UInt8) (k : Nat) : Bool := match bits[k / 8]? with
  | some c => decide (c.toNat / 2 ^ (k % 8) % 2 = 1)
  | none => false

def settleFrom (bits : List UInt8) : Nat → List Blk → List Wr → List Blk
  | _, st, [] => st
  | k, st, w :: r => settleFrom bits (k + 1) (if bit bits k then st.set w.1 w.2 else st) r
def later (bits : List UInt8) : Nat → List Wr → Nat → Bool
  | _, [], _ => false
  | k, w :: r, b => (bit bits k && w.1 == b) || later bits (k + 1) r b
def keepFrom (bits : List UInt8) : Nat → List Wr → List Wr
  | _, [] => []
  | k, w :: r => if bit bits k || later bits (k + 1) r w.1 then keepFrom bits (k + 1) r else w :: keepFrom bits (k + 1) r
def Dk.settle (d : Dk) (bits : List UInt8) : Dk :=
  if d.blown then d else { d with stable := settleFrom bits 0 d.stable d.pend, pend := keepFrom bits 0 d.pend }

/-- Sector s of a block laid over another. -/
def sect (b data : Blk) (s : Nat) : Blk := b.take (64 * s) ++ (data.drop (64 * s)).take 64 ++ b.drop (64 * s + 64)
def tear (bits : List UInt8) (k : Nat) (data : Blk) : Nat → Blk → Blk
  | 0, b => b
  | s + 1, b => if bit bits (4 * k + s) then sect (tear bits k data s b) data s else tear bits k data s b
def crashFrom (bits : List UInt8) : Nat → List Blk → List Wr → List Blk
  | _, st, [] => st
  | k, st, w :: r => crashFrom bits (k + 1) (st.set w.1 (tear bits k w.2 4 (st.getD w.1 []))) r
def Dk.crash (d : Dk) (bits : List UInt8) : Dk := { stable := crashFrom bits 0 d.stable d.pend }

def Dk.setFuse (d : Dk) (n : Int) : Dk := if d.blown then d else { d with fuse := if n < 0 then none else some n.toNat }

def zeros : Blk := List.replicate 256 0
def Dk.new (n : Nat) : Dk := { stable := List.replicate n zeros }

/-- The states that there are. -/
structure Dk.Ok (d : Dk) : Prop where
  len : ∀ b ∈ d.stable, b.length = 256
  pend : ∀ w ∈ d.pend, w.1 < d.stable.length ∧ w.2.length = 256
  ghosts : ∀ w ∈ d.ghosts, w.1 < d.stable.length ∧ w.2.length = 256
  hid : d.ghosts ≠ [] → d.fuse = some 0

theorem Dk.Ok.none (d : Dk) (h : d.Ok) (hb : d.blown = false) : d.ghosts = [] := by
  by_cases e : d.ghosts = []
  · exact e
  · have := h.hid e
    simp [Dk.blown, this] at hb

theorem new_ok (n : Nat) : (Dk.new n).Ok := by
  refine ⟨fun b hb => ?_, fun w hw => by simp [Dk.new] at hw, fun w hw => by simp [Dk.new] at hw, fun h => by simp [Dk.new] at h⟩
  simp [Dk.new] at hb
  rw [hb.2]
  exact List.length_replicate

theorem apply_len : ∀ (ws : List Wr) (st : List Blk), (applyAll st ws).length = st.length
  | [], _ => rfl
  | w :: r, st => by
    show (applyAll (st.set w.1 w.2) r).length = _
    rw [apply_len r]; simp
theorem crash_len (bits : List UInt8) : ∀ (ws : List Wr) (k : Nat) (st : List Blk), (crashFrom bits k st ws).length = st.length
  | [], _, _ => rfl
  | w :: r, k, st => by
    unfold crashFrom
    rw [crash_len bits r]; simp

theorem getD_set (st : List Blk) (j i : Nat) (b : Blk) (hj : j < st.length) : (st.set j b).getD i [] = if j = i then b else st.getD i [] := by
  simp only [List.getD, List.getElem?_set]
  by_cases h : j = i
  · subst h; simp [hj]
  · simp [h]

theorem apply_get : ∀ (ws : List Wr) (st : List Blk) (i : Nat), (∀ w ∈ ws, w.1 < st.length) → (applyAll st ws).getD i [] = last (st.getD i []) ws i
  | [], _, _, _ => rfl
  | w :: r, st, i, h => by
    show (applyAll (st.set w.1 w.2) r).getD i [] = _
    rw [apply_get r _ i (fun x hx => by rw [List.length_set]; exact h x (by simp [hx])), getD_set _ _ _ _ (h w (by simp)), last_cons]

theorem read_flush (d : Dk) (h : d.Ok) (i : Nat) : d.flush.read i = d.read i := by
  unfold Dk.flush
  by_cases hb : d.blown = true
  · rw [if_pos hb]
  · rw [if_neg hb]
    simp only [Dk.read, last_nil]
    rw [apply_get d.pend d.stable i fun w hw => (h.pend w hw).1]

theorem read_write (d : Dk) (h : d.Ok) (j : Nat) (data : Blk) (i : Nat) : (d.write j data).read i = if j = i then data else d.read i := by
  unfold Dk.write
  by_cases hb : d.blown = true
  · rw [if_pos hb]
    simp only [Dk.read, last_snoc]
  · rw [if_neg hb]
    have hg := h.none d (by simpa using hb)
    simp only [Dk.read, hg, last_nil, last_snoc]

theorem size_write (d : Dk) (j : Nat) (data : Blk) : (d.write j data).stable.length = d.stable.length := by unfold Dk.write; split <;> rfl
theorem size_flush (d : Dk) : d.flush.stable.length = d.stable.length := by
  unfold Dk.flush; split
  · rfl
  · exact apply_len _ _
theorem size_crash (d : Dk) (bits : List UInt8) : (d.crash bits).stable.length = d.stable.length := crash_len _ _ _ _
theorem image_eq (d e : Dk) (hs : d.stable.length = e.stable.length) (h : ∀ i, d.read i = e.read i) : d.image = e.image := by
  unfold Dk.image
  rw [hs]
  exact List.map_congr_left fun i _ => h i

theorem image_flush (d : Dk) (h : d.Ok) : d.flush.image = d.image := image_eq _ _ (size_flush d) (read_flush d h)
theorem map_getD (st : List Blk) : (List.range st.length).map (fun i => st.getD i []) = st := by
  apply List.ext_getElem
  · simp
  · intro i h1 h2
    simp [List.getD, h2]

theorem image_calm (d : Dk) (hp : d.pend = []) (hg : d.ghosts = []) : d.image = d.stable := by
  unfold Dk.image
  have e : d.read = fun i => d.stable.getD i [] := by
    funext i
    simp only [Dk.read, hp, hg, last_nil]
  rw [e, map_getD]

/-- Flushed: the stable bytes are what is read. -/
theorem stable_flush (d : Dk) (h : d.Ok) (hb : d.blown = false) : d.flush.stable = d.image := by
  have hc := image_calm d.flush (by unfold Dk.flush; rw [if_neg (by simp [hb])]) (by unfold Dk.flush; rw [if_neg (by simp [hb])]; exact h.none d hb)
  rw [← hc, image_flush d h]
theorem pend_flush (d : Dk) (hb : d.blown = false) : d.flush.pend = [] := by unfold Dk.flush; rw [if_neg (by simp [hb])]
/-! ### Every operation leaves a state that there is -/
theorem write_ok (d : Dk) (h : d.Ok) (j : Nat) (data : Blk) (hj : j < d.stable.length) (hd : data.length = 256) : (d.write j data).Ok := by
  unfold Dk.write
  by_cases hb : d.blown = true
  · rw [if_pos hb]
    refine ⟨h.len, h.pend, fun w hw => ?_, fun _ => by simpa [Dk.blown] using hb⟩
    rcases List.mem_append.1 hw with h1 | h1
    · exact h.ghosts w h1
    · simp at h1; subst h1; exact ⟨hj, hd⟩
  · rw [if_neg hb]
    have hg := h.none d (by simpa using hb)
    refine ⟨h.len, fun w hw => ?_, h.ghosts, fun hne => absurd hg hne⟩
    rcases List.mem_append.1 hw with h1 | h1
    · exact h.pend w h1
    · simp at h1; subst h1; exact ⟨hj, hd⟩
theorem set_len (st : List Blk) (j : Nat) (b : Blk) (h : ∀ x ∈ st, x.length = 256) (hb : b.length = 256) : ∀ x ∈ st.set j b, x.length = 256 := by
  intro x hx
  rcases List.mem_or_eq_of_mem_set hx with h1 | h1
  · exact h x h1
  · rw [h1]; exact hb
theorem apply_ok : ∀ (ws : List Wr) (st : List Blk), (∀ x ∈ st, x.length = 256) → (∀ w ∈ ws, w.2.length = 256) → ∀ x ∈ applyAll st ws, x.length = 256
  | [], _, h, _ => h
  | w :: r, st, h, hw => apply_ok r _ (set_len st w.1 w.2 h (hw w (by simp))) fun x hx => hw x (by simp [hx])
theorem flush_ok (d : Dk) (h : d.Ok) : d.flush.Ok := by
  unfold Dk.flush
  by_cases hb : d.blown = true
  · rw [if_pos hb]; exact h
  · rw [if_neg hb]
    have hg := h.none d (by simpa using hb)
    exact ⟨apply_ok _ _ h.len fun w hw => (h.pend w hw).2, fun w hw => by simp at hw, fun w hw => by rw [hg] at hw; simp at hw, fun hne => absurd hg hne⟩
theorem sect_len (b data : Blk) (s : Nat) (hb : b.length = 256) (hd : data.length = 256) (hs : s < 4) : (sect b data s).length = 256 := by
  simp [sect, hb, hd]; omega
theorem tear_len (bits : List UInt8) (k : Nat) (data : Blk) (hd : data.length = 256) : ∀ (s : Nat) (b : Blk), s ≤ 4 → b.length = 256 → (tear bits k data s b).length = 256
  | 0, _, _, h => h
  | s + 1, b, hs, h => by
    unfold tear
    split
    · exact sect_len _ _ _ (tear_len bits k data hd s b (by omega) h) hd (by omega)
    · exact tear_len bits k data hd s b (by omega) h
theorem crash_all (bits : List UInt8) : ∀ (ws : List Wr) (k : Nat) (st : List Blk), (∀ x ∈ st, x.length = 256) → (∀ w ∈ ws, w.1 < st.length ∧ w.2.length = 256) → ∀ x ∈ crashFrom bits k st ws, x.length = 256
  | [], _, _, h, _ => h
  | w :: r, k, st, h, hw => by
    unfold crashFrom
    have h0 := hw w (by simp)
    refine crash_all bits r (k + 1) _ (set_len st w.1 _ h (tear_len bits k w.2 h0.2 4 _ (Nat.le_refl _) ?_)) fun x hx => by rw [List.length_set]; exact hw x (by simp [hx])
    have e : st.getD w.1 [] = st[w.1]'h0.1 := by simp [List.getD, h0.1]
    rw [e]
    exact h _ (List.getElem_mem _)
theorem crash_ok (d : Dk) (h : d.Ok) (bits : List UInt8) : (d.crash bits).Ok :=
  ⟨crash_all bits _ _ _ h.len h.pend, fun w hw => by simp [Dk.crash] at hw, fun w hw => by simp [Dk.crash] at hw, fun hne => by simp [Dk.crash] at hne⟩
theorem fuse_ok (d : Dk) (h : d.Ok) (n : Int) : (d.setFuse n).Ok := by
  unfold Dk.setFuse
  by_cases hb : d.blown = true
  · rw [if_pos hb]; exact h
  · rw [if_neg hb]
    have hg := h.none d (by simpa using hb)
    exact ⟨h.len, h.pend, h.ghosts, fun hne => absurd hg hne⟩
theorem read_len (d : Dk) (h : d.Ok) (i : Nat) (hi : i < d.stable.length) : (d.read i).length = 256 := by
  have key : ∀ (ws : List Wr) (b : Blk), b.length = 256 → (∀ w ∈ ws, w.2.length = 256) → (last b ws i).length = 256 := by
    intro ws
    induction ws with
    | nil => intro b hb _; exact hb
    | cons w r ih =>
      intro b hb hw
      rw [last_cons]
      refine ih _ ?_ fun x hx => hw x (by simp [hx])
      split
      · exact hw w (by simp)
      · exact hb
  refine key _ _ (key _ _ ?_ fun w hw => (h.pend w hw).2) fun w hw => (h.ghosts w hw).2
  have e : d.stable.getD i [] = d.stable[i] := by simp [List.getD, hi]
  rw [e]
  exact h.len _ (List.getElem_mem _)

/-! ### Tears -/
def secOf (b : Blk) (s : Nat) : Blk := (b.drop (64 * s)).take 64
/-! ### A blown fuse -/
/-- One deed of a run: a write, or a flush. -/
def Dk.deed (d : Dk) : Option Wr → Dk
  | some w => d.write w.1 w.2
  | none => d.flush
def writesOf : List (Option Wr) → List Wr
  | [] => []
  | some w :: r => w :: writesOf r
  | none :: r => writesOf r
def Fits (d : Dk) (l : List (Option Wr)) : Prop := ∀ w, some w ∈ l → w.1 < d.stable.length ∧ w.2.length = 256

theorem size_deed (d : Dk) (x : Option Wr) : (d.deed x).stable.length = d.stable.length := by
  cases x with
  | none => exact size_flush d
  | some w => exact size_write d _ _

/-- The same disk with another fuse. -/
def Dk.fused (d : Dk) (n : Option Nat) : Dk := { d with fuse := n }
theorem deed_free (d : Dk) (hf : d.fuse = none) (x : Option Wr) : (d.deed x).fuse = none := by
  cases x with
  | none => simp [Dk.deed, Dk.flush, Dk.blown, hf]
  | some w => simp [Dk.deed, Dk.write, Dk.blown, hf]
end Go.Proofs.YtelnoibfamcnmaaGreat.Dk

namespace Go.Proofs.YtelnoibfamcnmaaGreat.Disk
set_option maxRecDepth 20000
open Go.RowKit
open Go.Proofs.YtelnoibfamcnmaaGreat.Mem

/-- Outside the blocks F, and among the blocks that were there, the world w' is as w was. -/
structure Turns (F : Nat → Prop) (w w' : World) : Prop where
  os : w'.os = w.os
  tape : w'.tape = w.tape
  output : w'.output = w.output
  size : w.heap.size ≤ w'.heap.size
  block : ∀ k, k < w.heap.size → ¬ F k → w'.heap[k]? = w.heap[k]?

theorem Turns.refl (F : Nat → Prop) (w : World) : Turns F w w := ⟨rfl, rfl, rfl, Nat.le_refl _, fun _ _ _ => rfl⟩
theorem Turns.trans {F G : Nat → Prop} {a b c : World} (h : Turns F a b) (k : Turns G b c) (hg : ∀ i, i < a.heap.size → G i → F i) : Turns F a c :=
  ⟨k.os.trans h.os, k.tape.trans h.tape, k.output.trans h.output, Nat.le_trans h.size k.size, fun i hi hf => (k.block i (Nat.lt_of_lt_of_le hi h.size) (fun e => hf (hg i hi e))).trans (h.block i hi hf)⟩
theorem Turns.mono {F G : Nat → Prop} {a b : World} (h : Turns G a b) (hg : ∀ i, i < a.heap.size → G i → F i) : Turns F a b :=
  ⟨h.os, h.tape, h.output, h.size, fun i hi hf => h.block i hi (fun e => hf (hg i hi e))⟩
theorem Turns.below {F : Nat → Prop} {w w' : World} (h : Turns F w w') {B : Nat} (hB : ∀ k, F k → B ≤ k) (hs : B ≤ w.heap.size) : Below B w w' :=
  ⟨h.os, h.tape, h.output, h.size, fun k hk => h.block k (by omega) (fun e => by have := hB k e; omega)⟩
theorem Turns.of_below {F : Nat → Prop} {w w' : World} (h : Below w.heap.size w w') : Turns F w w' := ⟨h.os, h.tape, h.output, h.size, fun k hk _ => h.block k hk⟩
theorem Turns.drew {F : Nat → Prop} {a w : World} (h : Turns F a w) : Turns F a w.drew := ⟨h.os, h.tape, h.output, h.size, h.block⟩
theorem Turns.alloc {F : Nat → Prop} {a w : World} (h : Turns F a w) (o : Obj) : Turns F a (w.alloc o) :=
  h.trans (G := fun _ => False) ⟨rfl, rfl, rfl, by simp, fun k hk _ => Below.heap_alloc _ _ _ (by omega)⟩ (fun _ _ h => h.elim)
theorem Turns.setCell {F : Nat → Prop} {a w : World} (h : Turns F a w) {p : Addr} (hp : p.block < a.heap.size → F p.block) (u : Value) : Turns F a (w.setCell p u) :=
  h.trans (G := fun k => k = p.block) ⟨rfl, rfl, rfl, by simp [World.setCell], fun k hk hf => Below.heap_setCell _ _ _ _ hf⟩ (fun i hi e => by subst e; exact hp hi)
theorem Turns.grown {F : Nat → Prop} {a w w' : World} {row : Option Nat} (h : Turns F a w) (hg : w.grownBy w' row) (hr : ∀ k, row = some k → k < a.heap.size → F k) : Turns F a w' :=
  h.trans (G := fun k => row = some k) ⟨hg.os, hg.tape, hg.output, hg.size, fun k hk hf => hg.block k hk (fun e => hf e.symm)⟩ (fun i hi e => hr i e hi)
theorem Turns.setRow {F : Nat → Prop} {a w : World} (h : Turns F a w) (g : Nat) (cs : Array Value) (hp : g < a.heap.size → F g) : Turns F a (w.setRow g cs) :=
  h.trans (G := fun k => k = g) ⟨rfl, rfl, rfl, by simp [World.setRow], fun k hk hf => setRow_other w g k cs hf⟩ (fun i hi e => by subst e; exact hp hi)

/-- A row in a block of its own: its value, and the cells that it has, whatever its room. -/
def Row (w : World) (e : TypeId) (size : Nat) (v : Value) (n : Nat) (xs : List Value) : Prop := w.ownsRow 0 e size v n xs

theorem Row.lt {w : World} {e : TypeId} {size : Nat} {v : Value} {n : Nat} {xs : List Value} (h : Row w e size v n xs) {k : Nat} (hk : v.ownBlock = some k) : k < w.heap.size := (World.ownsRow.lt h k hk).2
theorem Row.turns {w w' : World} {e : TypeId} {size : Nat} {v : Value} {n : Nat} {xs : List Value} (h : Row w e size v n xs) {F : Nat → Prop} (hb : Turns F w w') (hF : ∀ k, v.ownBlock = some k → ¬ F k) : Row w' e size v n xs := by
  obtain ⟨h1, h2⟩ := h
  refine ⟨h1, ?_⟩
  rcases h2 with h2 | ⟨g, cap, cur, rfl, hg, hh, r⟩
  · exact .inl h2
  · exact .inr ⟨g, cap, cur, rfl, hg, (hb.block g (Array.getElem?_eq_some_iff.1 hh).1 (hF g rfl)).trans hh, r⟩
theorem Row.holds {w : World} {v : Value} {bs : List UInt8} (h : Row w 5 1 v bs.length (bs.map byteV)) : ∃ A c, v = .slice A bs.length c ∧ Holds w w.heap.size A bs.length bs := Owned.holds (base := 0) h

/-- The device's table: by block, the place of its last write. -/
def keyL (b : Nat) : Lit := .int .i64 (b : Int)
def placeD (k : Nat) : DataW Unit := .lit (.int .i64 (k : Int))
def lastD (bs : List Nat) : DataW Unit := bs.zipIdx.foldl (fun D x => D.put (keyL x.1) (placeD x.2)) (.map [])
def lastAt (bs : List Nat) (b : Nat) : Option Nat := bs.zipIdx.foldl (fun o x => if x.1 = b then some x.2 else o) none

theorem lastD_snoc (bs : List Nat) (b : Nat) : lastD (bs ++ [b]) = (lastD bs).put (keyL b) (placeD bs.length) := by
  simp [lastD, List.zipIdx_append, List.foldl_append]
theorem lastAt_snoc (bs : List Nat) (c b : Nat) : lastAt (bs ++ [c]) b = if c = b then some bs.length else lastAt bs b := by
  simp [lastAt, List.zipIdx_append, List.foldl_append]
theorem rev_ind {α : Type} {p : List α → Prop} (h0 : p []) (h1 : ∀ l x, p l → p (l ++ [x])) : ∀ l, p l := by
  intro l
  have : ∀ n, ∀ l : List α, l.length = n → p l := by
    intro n
    induction n with
    | zero => intro l hl; rw [List.eq_nil_of_length_eq_zero hl]; exact h0
    | succ n ih =>
      intro l hl
      have hne : l ≠ [] := by intro e; subst e; simp at hl
      have := h1 l.dropLast (l.getLast hne) (ih _ (by simp; omega))
      rwa [List.dropLast_concat_getLast hne] at this
  exact this l.length l rfl
theorem key_inj {a b : Nat} : keyL a = keyL b ↔ a = b := by
  unfold keyL
  constructor
  · intro h; injection h with _ h; omega
  · intro h; rw [h]
theorem lastD_isMap (bs : List Nat) : Maps.IsMap (lastD bs) := by
  induction bs using rev_ind with
  | h0 => exact ⟨[], rfl⟩
  | h1 l x ih => rw [lastD_snoc]; exact ih.put _ _
theorem lastD_has (b : Nat) (bs : List Nat) : Maps.has (lastD bs) (keyL b) = (lastAt bs b).isSome := by
  induction bs using rev_ind with
  | h0 => rfl
  | h1 l x ih =>
    rw [lastD_snoc, lastAt_snoc]
    by_cases h : x = b
    · subst h
      rw [if_pos rfl, Maps.has_put_same (lastD_isMap l) (by unfold keyL; trivial)]; rfl
    · rw [if_neg h, Maps.has_put_other (by rw [Ne, key_inj]; exact fun e => h e.symm), ih]
theorem lastD_at (b : Nat) (bs : List Nat) : (lastD bs).atKey (keyL b) (.lit (.int .i64 0)) = placeD ((lastAt bs b).getD 0) := by
  induction bs using rev_ind with
  | h0 => rfl
  | h1 l x ih =>
    rw [lastD_snoc, lastAt_snoc]
    by_cases h : x = b
    · subst h
      rw [if_pos rfl, Maps.atKey_put_same (lastD_isMap l) (by unfold keyL; trivial)]; rfl
    · rw [if_neg h, Maps.atKey_put_other (by rw [Ne, key_inj]; exact fun e => h e.symm), ih]
theorem lastAt_lt (b k : Nat) (bs : List Nat) (h : lastAt bs b = some k) : k < bs.length ∧ bs[k]? = some b := by
  induction bs using rev_ind with
  | h0 => cases h
  | h1 l x ih =>
    rw [lastAt_snoc] at h
    split at h
    · rename_i e
      injection h with h
      subst h e
      simp
    · obtain ⟨h1, h2⟩ := ih h
      refine ⟨by simp; omega, ?_⟩
      rw [List.getElem?_append_left h1]; exact h2

/-- What a write is: its block's number and its bytes. -/
abbrev Wr := Nat × List UInt8
def wcells (x : Wr) : List Value := .int .i64 (x.1 : Int) :: x.2.map byteV
def flat (ws : List Wr) : List Value := ws.flatMap wcells
def nums (ws : List Wr) : List Nat := ws.map (·.1)
theorem wcells_len (x : Wr) (h : x.2.length = 256) : (wcells x).length = 257 := by simp [wcells, h]
theorem flat_len (ws : List Wr) (h : ∀ x ∈ ws, x.2.length = 256) : (flat ws).length = ws.length * 257 := by
  induction ws with
  | nil => rfl
  | cons x r ih =>
    have h1 := ih (fun y hy => h y (by simp [hy]))
    have h2 := wcells_len x (h x (by simp))
    simp only [flat, List.flatMap_cons, List.length_append, List.length_cons] at h1 ⊢
    omega
theorem flat_snoc (ws : List Wr) (x : Wr) : flat (ws ++ [x]) = flat ws ++ wcells x := by simp [flat]
theorem flat_one (ws : List Wr) : ∀ v ∈ flat ws, v.oneCell' = true := by
  intro v hv
  obtain ⟨x, _, hx⟩ := List.mem_flatMap.1 hv
  unfold wcells at hx
  rcases List.mem_cons.1 hx with e | e
  · subst e; rfl
  · obtain ⟨c, _, rfl⟩ := List.mem_map.1 e; rfl
theorem flat_get (ws : List Wr) (h : ∀ x ∈ ws, x.2.length = 256) (k : Nat) (hk : k < ws.length) (j : Nat) (hj : j < 257) : (flat ws)[k * 257 + j]? = (wcells ws[k])[j]? := by
  induction ws generalizing k with
  | nil => simp at hk
  | cons x r ih =>
    have h2 := wcells_len x (h x (by simp))
    simp only [flat, List.flatMap_cons]
    cases k with
    | zero => rw [Nat.zero_mul, Nat.zero_add, List.getElem?_append_left (by omega)]; rfl
    | succ k =>
      rw [List.getElem?_append_right (by rw [h2]; omega), h2, show (k + 1) * 257 + j - 257 = k * 257 + j by omega]
      exact ih (fun y hy => h y (by simp [hy])) k (by simpa using hk)

/-- What the device's own blocks hold: its stable bytes, its writes, how many are pending, its fuse. -/
structure Low where
  st : List UInt8
  ws : List Wr
  pend : Nat
  fused : Bool
  left : Nat
def headOf (vs vw : Value) (m : Nat) (L : Low) : Array Value := #[vs, vw, .int .i64 (L.pend : Int), .map (some m), .bool L.fused, .int .i64 (L.left : Int)]
theorem intKey : Maps.Keyed Tryz.prog 3 := Maps.int_keyed Tryz.underlying3
structure LowAt (w : World) (p : Nat) (L : Low) (vs vw : Value) (m : Nat) : Prop where
  head : w.heap[p]? = some (.cells (headOf vs vw m L) 80 (0, 0))
  st : Row w 5 1 vs L.st.length (L.st.map byteV)
  ws : Row w 83 257 vw L.ws.length (flat L.ws)
  last : w.ownsMap Tryz.prog 3 (plainElem Tryz.prog 3) m L.ws.length (lastD (nums L.ws))
def Foot (p m : Nat) (vs vw : Value) (k : Nat) : Prop := k = p ∨ k = m ∨ vs.ownBlock = some k ∨ vw.ownBlock = some k

theorem LowAt.p_lt {w : World} {p m : Nat} {L : Low} {vs vw : Value} (h : LowAt w p L vs vw m) : p < w.heap.size := (Array.getElem?_eq_some_iff.1 h.head).1
theorem LowAt.foot_lt {w : World} {p m : Nat} {L : Low} {vs vw : Value} (h : LowAt w p L vs vw m) (k : Nat) (hk : Foot p m vs vw k) : k < w.heap.size := by
  rcases hk with rfl | rfl | hk | hk
  · exact h.p_lt
  · exact h.last.lt
  · exact h.st.lt hk
  · exact h.ws.lt hk
theorem LowAt.turns {w w' : World} {p m : Nat} {L : Low} {vs vw : Value} (h : LowAt w p L vs vw m) {F : Nat → Prop} (hb : Turns F w w') (hF : ∀ k, Foot p m vs vw k → ¬ F k) : LowAt w' p L vs vw m := by
  refine ⟨(hb.block p h.p_lt (hF p (.inl rfl))).trans h.head, h.st.turns hb (fun k hk => hF k (.inr (.inr (.inl hk)))), h.ws.turns hb (fun k hk => hF k (.inr (.inr (.inr hk)))), ?_⟩
  obtain ⟨es, clock, h1, h2⟩ := h.last
  exact ⟨es, clock, (hb.block m h.last.lt (hF m (.inr (.inl rfl)))).trans h1, h2⟩
/-- No two of the device's blocks are one. -/
theorem row_type {w : World} {e : TypeId} {size n : Nat} {v : Value} {xs : List Value} (h : Row w e size v n xs) {k : Nat} (hk : v.ownBlock = some k) : ∃ cur, w.heap[k]? = some (.cells cur e (0, 0)) := by
  rcases h.2 with ⟨rfl, _⟩ | ⟨g, cap, cur, rfl, _, hh, _⟩
  · cases hk
  · simp [Value.ownBlock] at hk; subst hk; exact ⟨cur, hh⟩
theorem LowAt.apart {w : World} {p m : Nat} {L : Low} {vs vw : Value} (h : LowAt w p L vs vw m) : p ≠ m ∧ vs.ownBlock ≠ some p ∧ vw.ownBlock ≠ some p ∧ vs.ownBlock ≠ some m ∧ vw.ownBlock ≠ some m ∧ (∀ k, vs.ownBlock = some k → vw.ownBlock ≠ some k) := by
  obtain ⟨es, clock, h1, _⟩ := h.last
  have hp := h.head
  refine ⟨?_, ?_, ?_, ?_, ?_, ?_⟩
  · rintro rfl; rw [h1] at hp; cases hp
  · intro e; obtain ⟨cur, hc⟩ := row_type h.st e; rw [hc] at hp; cases hp
  · intro e; obtain ⟨cur, hc⟩ := row_type h.ws e; rw [hc] at hp; cases hp
  · intro e; obtain ⟨cur, hc⟩ := row_type h.st e; rw [hc] at h1; cases h1
  · intro e; obtain ⟨cur, hc⟩ := row_type h.ws e; rw [hc] at h1; cases h1
  · intro k e e'; obtain ⟨cur, hc⟩ := row_type h.st e; obtain ⟨cur', hc'⟩ := row_type h.ws e'; rw [hc] at hc'; cases hc'
/-- A field of the struct, as the walk asks for it. -/
theorem LowAt.field {w : World} {p m : Nat} {L : Low} {vs vw : Value} (h : LowAt w p L vs vw m) (j : Nat) : w.cell? ⟨p, j, none⟩ = (headOf vs vw m L)[j]? := cell_of_row w p j _ _ _ h.head
theorem LowAt.f0 {w : World} {p m : Nat} {L : Low} {vs vw : Value} (h : LowAt w p L vs vw m) : w.cell? ⟨p, 0, none⟩ = some vs := h.field 0
theorem LowAt.f1 {w : World} {p m : Nat} {L : Low} {vs vw : Value} (h : LowAt w p L vs vw m) : w.cell? ⟨p, 1, none⟩ = some vw := h.field 1
theorem LowAt.f2 {w : World} {p m : Nat} {L : Low} {vs vw : Value} (h : LowAt w p L vs vw m) : w.cell? ⟨p, 2, none⟩ = some (.int .i64 (L.pend : Int)) := h.field 2
theorem LowAt.f3 {w : World} {p m : Nat} {L : Low} {vs vw : Value} (h : LowAt w p L vs vw m) : w.cell? ⟨p, 3, none⟩ = some (.map (some m)) := h.field 3
theorem LowAt.f4 {w : World} {p m : Nat} {L : Low} {vs vw : Value} (h : LowAt w p L vs vw m) : w.cell? ⟨p, 4, none⟩ = some (.bool L.fused) := h.field 4
theorem LowAt.f5 {w : World} {p m : Nat} {L : Low} {vs vw : Value} (h : LowAt w p L vs vw m) : w.cell? ⟨p, 5, none⟩ = some (.int .i64 (L.left : Int)) := h.field 5
theorem LowAt.open_ {w : World} {p m : Nat} {L : Low} {vs vw : Value} (h : LowAt w p L vs vw m) (j : Nat) : w.frozen? ⟨p, j, none⟩ = false := frozen_of_row w p j _ _ h.head
end Go.Proofs.YtelnoibfamcnmaaGreat.Disk

namespace Go.Proofs.YtelnoibfamcnmaaGreat.Disk
set_option maxRecDepth 20000
open Go.RowKit
open Go.Proofs.YtelnoibfamcnmaaGreat.Mem
open Go.ChangeMaps Go.MapKept

def mayB (n : Int) : Bool := decide (1 ≤ n) && decide (n ≤ 1024)
theorem mayBe_any (n : Int) (w : World) : Calls Tryz.prog 47 #[.int .i64 n] w fun e w' => e = .returned (.bool (mayB n)) ∧ w = w' := by
  unfold mayB
  by_cases h1 : 1 ≤ n
  · by_cases h2 : n ≤ 1024
    all_goals
      go_enter Tryz.func47, Tryz.ntmps47
      go_wp2
      go_ret
      exact ⟨by simp [h1, h2], rfl⟩
  · have hd : decide (1 ≤ n) = false := by simpa using h1
    go_enter Tryz.func47, Tryz.ntmps47
    go_wp2
    go_ret
    exact ⟨by simp, rfl⟩

def Low.blown (L : Low) : Bool := L.fused && decide (L.left = 0)

theorem blown_any (L : Low) (p m : Nat) (vs vw : Value) (w : World) (h : LowAt w p L vs vw m) :
    Calls Tryz.prog 55 #[.pointer (some ⟨p, 0, none⟩)] w fun e w' => e = .returned (.bool L.blown) ∧ w = w' := by
  have h4 := h.f4
  have h5 := h.f5
  clear h
  unfold Low.blown
  generalize L.fused = b at h4 ⊢
  generalize L.left = n at h5 ⊢
  cases b
  all_goals
    go_enter Tryz.func55, Tryz.ntmps55
    go_wp2
    go_ret
    exact ⟨by simp; try (rw [Bool.eq_iff_iff]; simp), rfl⟩

/-- What is left when an operation was made. -/
def Low.burnt (L : Low) : Low := if L.fused then { L with left := L.left - 1 } else L
theorem turns_cell (w : World) (p j : Nat) (u : Value) : Turns (fun k => k = p) w (w.setCell ⟨p, j, none⟩ u) := (Turns.refl (fun k => k = p) w).setCell (p := ⟨p, j, none⟩) (fun _ => rfl) u
theorem LowAt.store {w : World} {p m : Nat} {L L' : Low} {vs vw vs' vw' : Value} (h : LowAt w p L vs vw m) (j : Nat) (u : Value) (he : (headOf vs vw m L).setIfInBounds j u = headOf vs' vw' m L')
    (hs : Row w 5 1 vs' L'.st.length (L'.st.map byteV)) (hw : Row w 83 257 vw' L'.ws.length (flat L'.ws)) (hd : nums L'.ws = nums L.ws)
    (ns : vs'.ownBlock ≠ some p) (nw : vw'.ownBlock ≠ some p) : LowAt (w.setCell ⟨p, j, none⟩ u) p L' vs' vw' m := by
  have ht : Turns (fun k => k = p) w (w.setCell ⟨p, j, none⟩ u) := turns_cell w p j u
  refine ⟨?_, hs.turns ht (fun k hk e => ns (by rw [hk, e])), hw.turns ht (fun k hk e => nw (by rw [hk, e])), ?_⟩
  · rw [heap_setCell_same w p j _ _ u h.head, he]
  · have hl : L'.ws.length = L.ws.length := by have := congrArg List.length hd; simpa [nums] using this
    rw [hl, hd]
    obtain ⟨es, clock, h1, h2⟩ := h.last
    exact ⟨es, clock, (ht.block m h.last.lt (fun e => h.apart.1 e.symm)).trans h1, h2⟩
theorem LowAt.number {w : World} {p m : Nat} {L L' : Low} {vs vw : Value} (h : LowAt w p L vs vw m) (j : Nat) (u : Value) (he : (headOf vs vw m L).setIfInBounds j u = headOf vs vw m L') (es : L'.st = L.st) (ew : L'.ws = L.ws) :
    LowAt (w.setCell ⟨p, j, none⟩ u) p L' vs vw m :=
  h.store j u he (by rw [es]; exact h.st) (by rw [ew]; exact h.ws) (by rw [ew]) h.apart.2.1 h.apart.2.2.1

theorem burn_any (L : Low) (p m : Nat) (vs vw : Value) (w : World) (h : LowAt w p L vs vw m) (hb : L.blown = false) (hl : L.left ≤ 9223372036854775807) :
    Calls Tryz.prog 56 #[.pointer (some ⟨p, 0, none⟩)] w fun e w' => e = .returned (.tuple #[]) ∧ LowAt w' p L.burnt vs vw m ∧ Turns (fun k => k = p) w w' := by
  have h4 := h.f4
  have h5 := h.f5
  have hz := h.open_ 5
  unfold Low.burnt
  cases hf : L.fused
  · rw [hf] at h4
    have H := Lib.hid h; clear h
    have HF := Lib.hid hf; clear hf
    have HB := Lib.hid hb; clear hb
    go_enter Tryz.func56, Tryz.ntmps56
    go_wp2
    go_end0
    exact ⟨rfl, H.out, Turns.refl _ _⟩
  · rw [hf] at h4
    have hp : 1 ≤ L.left := by
      simp [Low.blown, hf] at hb; omega
    have H := Lib.hid h; clear h
    have HF := Lib.hid hf; clear hf
    have HB := Lib.hid hb; clear hb
    go_enter Tryz.func56, Tryz.ntmps56
    go_wp2
    go_end0
    refine ⟨rfl, H.out.number 5 _ ?_ rfl rfl, turns_cell _ _ _ _⟩
    simp [headOf, HF.out]
    omega

theorem size_any (L : Low) (p m n : Nat) (vs vw : Value) (w : World) (h : LowAt w p L vs vw m) (hn : L.st.length = 256 * n) (hm : n ≤ 1024) :
    Calls Tryz.prog 74 #[.pointer (some ⟨p, 0, none⟩)] w fun e w' => e = .returned (.int .i64 (n : Int)) ∧ w = w' := by
  have h0 := h.f0
  obtain ⟨A, c, rfl, _⟩ := h.st.holds
  rw [hn] at h0
  clear h hn
  go_enter Tryz.func74, Tryz.ntmps74
  go_wp2
  go_ret
  exact ⟨rfl, rfl⟩
theorem size_nil (w : World) : Calls Tryz.prog 74 #[.pointer none] w fun e w' => e = .returned (.int .i64 0) ∧ w = w' := by
  go_enter Tryz.func74, Tryz.ntmps74
  go_wp2
  go_ret
  exact ⟨rfl, rfl⟩
def hasB (n : Nat) (i : Int) : Bool := decide (0 ≤ i) && decide (i < (n : Int))
theorem has_any (i : Int) (L : Low) (p m n : Nat) (vs vw : Value) (w : World) (h : LowAt w p L vs vw m) (hn : L.st.length = 256 * n) (hm : n ≤ 1024) :
    Calls Tryz.prog 57 #[.pointer (some ⟨p, 0, none⟩), .int .i64 i] w fun e w' => e = .returned (.bool (hasB n i)) ∧ w = w' := by
  unfold hasB
  have HN := Lib.hid hn; clear hn
  by_cases h1 : 0 ≤ i
  · go_enter Tryz.func57, Tryz.ntmps57
    go_wp2_with fail
    refine (size_any L p m n vs vw _ h HN.out hm).mono ?_
    rintro e w' ⟨rfl, rfl⟩
    go_wp2
    go_ret
    exact ⟨by simp [h1], rfl⟩
  · have hd : decide (0 ≤ i) = false := by simpa using h1
    go_enter Tryz.func57, Tryz.ntmps57
    go_wp2
    go_ret
    exact ⟨by simp, rfl⟩
theorem pending_any (L : Low) (p m : Nat) (vs vw : Value) (w : World) (h : LowAt w p L vs vw m) :
    Calls Tryz.prog 13 #[.pointer (some ⟨p, 0, none⟩)] w fun e w' => e = .returned (.int .i64 (L.pend : Int)) ∧ w = w' := by
  have h0 := h.f2
  clear h
  go_enter Tryz.func13, Tryz.ntmps13
  go_wp2
  go_ret
  exact ⟨rfl, rfl⟩
theorem bit_one : ∀ u : Fin 256, ∀ s : Fin 8, (bits .and .u8 ((u.val : Int) / 2 ^ s.val) 1 == 1) = decide (u.val / 2 ^ s.val % 2 = 1) := by decide +kernel
theorem isOne_any (A : Option Addr) (nb c B k : Nat) (bs : List UInt8) (w : World) (h : Holds w B A nb bs) (hm : nb ≤ maxLen) (hk : k ≤ 4398046511104) :
    Calls Tryz.prog 34 #[.slice A nb c, .int .i64 (k : Int)] w fun e w' => e = .returned (.bool (Dk.bit bs k)) ∧ w = w' := by
  unfold maxLen at hm
  obtain ⟨hl, hc⟩ := h
  unfold Dk.bit
  by_cases h1 : k / 8 < nb
  · obtain ⟨b, off, rfl, _, hcell⟩ := hc (by omega)
    have hcell := hcell (k / 8) (by omega)
    rw [List.getElem?_eq_getElem (by omega)]
    have hlt := (bs[k / 8]'(by omega)).toNat_lt
    generalize bs[k / 8]'(by omega) = u at hcell hlt ⊢
    have HL := Lib.hid hl; clear hl
    go_enter Tryz.func34, Tryz.ntmps34
    go_wp2
    go_ret
    exact ⟨by rw [show (bits .and .u8 ((u.toNat : Int) / 2 ^ (k % 8)) 1 == 1) = decide (u.toNat / 2 ^ (k % 8) % 2 = 1) from bit_one ⟨u.toNat, hlt⟩ ⟨k % 8, by omega⟩]; rfl, rfl⟩
  · have hd : decide (k / 8 < nb) = false := by simpa using h1
    rw [List.getElem?_eq_none (by omega)]
    have HL := Lib.hid hl; clear hl
    clear hc
    go_enter Tryz.func34, Tryz.ntmps34
    go_wp2
    go_ret
    exact ⟨by simp, rfl⟩

theorem run_clear (w : World) (m : Nat) (es : Array MapEntry) (clock : Nat) (h : w.heap[m]? = some (.map es clock)) :
    (Builtin.clear_ #[78] 0 #[Value.map (some m)]).run Tryz.prog w = .ok (.tuple #[]) (setBlock w m (.map #[] clock)) := by
  simp [Builtin.clear_, run_underlying Tryz.underlying78, MapKept.run_getObj_map h, MapKept.run_setObj_map _ h, Result.andThen]
  rfl

set_option maxRecDepth 20000 in
theorem forget_any (L : Low) (p m : Nat) (vs vw : Value) (w : World) (h : LowAt w p L vs vw m) :
    Calls Tryz.prog 36 #[.pointer (some ⟨p, 0, none⟩)] w fun e w' => e = .returned (.tuple #[]) ∧ LowAt w' p { L with ws := [], pend := 0 } vs (.slice none 0 0) m ∧ Turns (fun k => k = p ∨ k = m) w w' := by
  have h3 := h.f3
  have f1 := h.open_ 1
  have f2 := h.open_ 2
  have c1 := h.f1
  have c2 := h.f2
  have ha := h.apart
  obtain ⟨es, clock, hm, -⟩ := h.last
  have hW : ((w.setCell ⟨p, 1, none⟩ (.slice none 0 0)).setCell ⟨p, 2, none⟩ (.int .i64 0)).heap[m]? = some (.map es clock) := by
    rw [Below.heap_setCell _ _ _ _ (fun e => ha.1 e.symm), Below.heap_setCell _ _ _ _ (fun e => ha.1 e.symm)]; exact hm
  have hq := run_clear _ m es clock hW
  have ht : Turns (fun k => k = p ∨ k = m) w (setBlock ((w.setCell ⟨p, 1, none⟩ (.slice none 0 0)).setCell ⟨p, 2, none⟩ (.int .i64 0)) m (.map #[] clock)) := by
    refine (((Turns.refl (fun k => k = p ∨ k = m) w).setCell (fun _ => .inl rfl) _).setCell (fun _ => .inl rfl) _).trans (G := fun k => k = m) ⟨rfl, rfl, rfl, by simp [setBlock], fun i _ hi => heap_setBlock_other hW _ hi⟩ (fun _ _ e => .inr e)
  have hL : LowAt (setBlock ((w.setCell ⟨p, 1, none⟩ (.slice none 0 0)).setCell ⟨p, 2, none⟩ (.int .i64 0)) m (.map #[] clock)) p { L with ws := [], pend := 0 } vs (.slice none 0 0) m := by
    refine ⟨?_, h.st.turns ht (fun k hk e => ?_), World.ownsRow_nil _ _ _ _, #[], clock, heap_setBlock_same hW _, ⟨by simp, stamped_empty clock, by simp⟩, Nat.le_refl _, rfl⟩
    · rw [heap_setBlock_other hW _ ha.1]
      rw [heap_setCell_same _ p 2 _ _ _ (heap_setCell_same w p 1 _ _ _ h.head)]
      rfl
    · rcases e with e | e
      · subst e; exact ha.2.1 hk
      · subst e; exact ha.2.2.2.1 hk
  clear h hW hm ha
  have HT := Lib.hid ht; clear ht
  have HL := Lib.hid hL; clear hL
  have HQ := Lib.hid hq; clear hq
  go_enter Tryz.func36, Tryz.ntmps36
  go_wp2
  rw [HQ.out]
  simp only [Result.andThen]
  rw [Oper.upon_value]
  go_wp2
  go_end0
  exact ⟨rfl, HL.out, HT.out⟩

/-- A disk's blocks lie where they didn't before, and nothing else has turned. -/
def NewLow (w : World) (L : Low) (e : Ending) (w' : World) : Prop := ∃ p m vs vw, e = .returned (.pointer (some ⟨p, 0, none⟩)) ∧ LowAt w' p L vs vw m ∧ (∀ k, Foot p m vs vw k → w.heap.size ≤ k) ∧ Below w.heap.size w w'
theorem made_any (n : Nat) (w : World) (hn : n ≤ 1024) :
    Calls Tryz.prog 48 #[.int .i64 (n : Int)] w (NewLow w { st := List.replicate (256 * n) 0, ws := [], pend := 0, fused := false, left := 0 }) := by
  have hq : (Instr.makeSlice 25 (.int .i64 ((n : Int) * 256)) (.int .i64 ((n : Int) * 256))).run Tryz.prog w = .ok (.slice (some ⟨w.heap.size, 0, none⟩) (256 * n) (256 * n)) (w.alloc (.cells (madeCells #[.int .u8 0] (256 * n)) 5)) := by
    rw [show ((n : Int) * 256) = ((256 * n : Nat) : Int) by omega]
    exact run_make_row' 25 5 (.int .u8 0) 1 Tryz.underlying25 info_u8 rfl .i64 .i64 (256 * n) (by omega) (by omega) w
  have hmc : madeCells #[.int .u8 0] (256 * n) = ((List.replicate (256 * n) (0 : UInt8)).map byteV).toArray := by
    apply Array.ext_getElem?
    intro j
    simp only [madeCells, byteV, Array.getElem?_map, List.map_replicate, List.getElem?_toArray, List.getElem?_replicate]
    by_cases hj : j < 256 * n
    · have : j % 1 = 0 := by omega
      simp [hj, this]
    · simp [hj]
  rw [hmc] at hq
  have HQ := Lib.hid hq; clear hq hmc
  have hmm := @run_makeMap Tryz.prog
  go_enter Tryz.func48, Tryz.ntmps48
  go_wp2
  rw [HQ.out]
  simp only [Result.andThen]
  rw [Oper.upon_value]
  obtain ⟨w1, hw1⟩ : ∃ w1, w1 = w.alloc (.cells ((List.replicate (256 * n) (0 : UInt8)).map byteV).toArray 5) := ⟨_, rfl⟩
  rw [← hw1]
  have HW := Lib.hid hw1; clear hw1
  go_wp2
  go_ret
  have hr : Row w1 5 1 (.slice (some ⟨w.heap.size, 0, none⟩) (256 * n) (256 * n)) (256 * n) ((List.replicate (256 * n) (0 : UInt8)).map byteV) := by
    have h := owned_made w (List.replicate (256 * n) 0) 0 (Nat.zero_le _) (by unfold maxLen; simp; omega)
    rw [← HW.out] at h
    simpa [Owned, Row] using h
  have hs : w1.heap.size = w.heap.size + 1 := by rw [HW.out]; simp
  have hb1 : Below w.heap.size w w1 := by rw [HW.out]; exact (Below.refl _ _).alloc (Nat.le_refl _) _
  have hmm' := World.ownsMap_made w1 Tryz.prog 3 (plainElem (H := Unit) Tryz.prog 3)
  refine ⟨w1.heap.size + 1, w1.heap.size, .slice (some ⟨w.heap.size, 0, none⟩) (256 * n) (256 * n), .slice none 0 0, rfl, ⟨?_, ?_, World.ownsRow_nil _ _ _ _, hmm'.alloc _⟩, ?_, ?_⟩
  · exact heap_alloc2_new w1 _ _
  · show Row _ _ _ _ (List.replicate (256 * n) 0).length _
    rw [List.length_replicate]
    exact (World.ownsRow.alloc hr _).alloc _
  · intro k hk
    rcases hk with rfl | rfl | hk | hk
    · omega
    · omega
    · simp [Value.ownBlock] at hk; omega
    · cases hk
  · exact (hb1.alloc (by omega) _).alloc (by simp; omega) _
end Go.Proofs.YtelnoibfamcnmaaGreat.Disk
