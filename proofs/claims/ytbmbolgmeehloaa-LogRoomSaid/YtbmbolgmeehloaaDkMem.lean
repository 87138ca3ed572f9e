/- Words for the memory of a disk: which blocks a call may have turned, rows laid over in the midst, the table that says by block where its last write stands, and what the device's struct holds. Proved for every world. -/
import Derived.Test.YtbmbolgmeehloaaMem
import Derived.Maps.OwnSet
import Derived.Laws.CopyOwn
import Derived.Deep.MidRow
namespace Go.Proofs.Ytbmbolgmeehloaa.Disk
set_option maxRecDepth 20000
open Go.RowKit
open Go.Proofs.Ytbmbolgmeehloaa.Mem

/-- Outside the blocks F, and among the blocks that were there, the world w' is as w was. -/
structure Turns (F : Nat → Prop) (w w' : World) : Prop where
  os : w'.os = w.os
  tape : w'.tape = w.tape
  output : w'.output = w.output
  size : w.heap.size ≤ w'.heap.size
  block : ∀ k, k < w.heap.size → ¬ F k → w'.heap[k]? = w.heap[k]?

theorem Turns.refl (F : Nat → Prop) (w : World) : Turns F w w := ⟨rfl, rfl, rfl, Nat.le_refl _, fun _ _ _ => rfl⟩
theorem Turns.trans {F G : Nat → Prop} {a b c : World} (h : Turns F a b) (k : Turns G b c) (hg : ∀ i, i < a.heap.size → G i → F i) : Turns F a c :=
  ⟨k.os.trans h.os, k.tape.trans h.tape, k.output.trans h.output, Nat.le_trans h.size k.size, fun i hi hf => (k.block i (Nat.lt_of_lt_of_le hi h.size) (fun e => hf (hg i hi e))).trans (h.block i hi hf)⟩
theorem Turns.mono {F G : Nat → Prop} {a b : World} (h : Turns G a b) (hg : ∀ i, i < a.heap.size → G i → F i) : Turns F a b :=
  ⟨h.os, h.tape, h.output, h.size, fun i hi hf => h.block i hi (fun e => hf (hg i hi e))⟩
theorem Turns.below {F : Nat → Prop} {w w' : World} (h : Turns F w w') {B : Nat} (hB : ∀ k, F k → B ≤ k) (hs : B ≤ w.heap.size) : Below B w w' :=
  ⟨h.os, h.tape, h.output, h.size, fun k hk => h.block k (by omega) (fun e => by have := hB k e; omega)⟩
theorem Turns.of_below {F : Nat → Prop} {w w' : World} (h : Below w.heap.size w w') : Turns F w w' := ⟨h.os, h.tape, h.output, h.size, fun k hk _ => h.block k hk⟩
theorem Turns.drew {F : Nat → Prop} {a w : World} (h : Turns F a w) : Turns F a w.drew := ⟨h.os, h.tape, h.output, h.size, h.block⟩
theorem Turns.alloc {F : Nat → Prop} {a w : World} (h : Turns F a w) (o : Obj) : Turns F a (w.alloc o) :=
  h.trans (G := fun _ => False) ⟨rfl, rfl, rfl, by simp, fun k hk _ => Below.heap_alloc _ _ _ (by omega)⟩ (fun _ _ h => h.elim)
theorem Turns.setCell {F : Nat → Prop} {a w : World} (h : Turns F a w) {p : Addr} (hp : p.block < a.heap.size → F p.block) (u : Value) : Turns F a (w.setCell p u) :=
  h.trans (G := fun k => k = p.block) ⟨rfl, rfl, rfl, by simp [World.setCell], fun k hk hf => Below.heap_setCell _ _ _ _ hf⟩ (fun i hi e => by subst e; exact hp hi)
theorem Turns.grown {F : Nat → Prop} {a w w' : World} {row : Option Nat} (h : Turns F a w) (hg : w.grownBy w' row) (hr : ∀ k, row = some k → k < a.heap.size → F k) : Turns F a w' :=
  h.trans (G := fun k => row = some k) ⟨hg.os, hg.tape, hg.output, hg.size, fun k hk hf => hg.block k hk (fun e => hf e.symm)⟩ (fun i hi e => hr i e hi)
theorem Turns.setRow {F : Nat → Prop} {a w : World} (h : Turns F a w) (g : Nat) (cs : Array Value) (hp : g < a.heap.size → F g) : Turns F a (w.setRow g cs) :=
  h.trans (G := fun k => k = g) ⟨rfl, rfl, rfl, by simp [World.setRow], fun k hk hf => setRow_other w g k cs hf⟩ (fun i hi e => by subst e; exact hp hi)

/-- A row in a block of its own: its value, and the cells that it has, whatever its room. -/
def Row (w : World) (e : TypeId) (size : Nat) (v : Value) (n : Nat) (xs : List Value) : Prop := w.ownsRow 0 e size v n xs

theorem Row.lt {w : World} {e : TypeId} {size : Nat} {v : Value} {n : Nat} {xs : List Value} (h : Row w e size v n xs) {k : Nat} (hk : v.ownBlock = some k) : k < w.heap.size := (World.ownsRow.lt h k hk).2
theorem Row.turns {w w' : World} {e : TypeId} {size : Nat} {v : Value} {n : Nat} {xs : List Value} (h : Row w e size v n xs) {F : Nat → Prop} (hb : Turns F w w') (hF : ∀ k, v.ownBlock = some k → ¬ F k) : Row w' e size v n xs := by
  obtain ⟨h1, h2⟩ := h
  refine ⟨h1, ?_⟩
  rcases h2 with h2 | ⟨g, cap, cur, rfl, hg, hh, r⟩
  · exact .inl h2
  · exact .inr ⟨g, cap, cur, rfl, hg, (hb.block g (Array.getElem?_eq_some_iff.1 hh).1 (hF g rfl)).trans hh, r⟩
theorem Row.holds {w : World} {v : Value} {bs : List UInt8} (h : Row w 5 1 v bs.length (bs.map byteV)) : ∃ A c, v = .slice A bs.length c ∧ Holds w w.heap.size A bs.length bs := Owned.holds (base := 0) h

/-- The device's table: by block, the place of its last write. -/
def keyL (b : Nat) : Lit := .int .i64 (b : Int)
def placeD (k : Nat) : DataW Unit := .lit (.int .i64 (k : Int))
def lastD (bs : List Nat) : DataW Unit := bs.zipIdx.foldl (fun D x => D.put (keyL x.1) (placeD x.2)) (.map [])
def lastAt (bs : List Nat) (b : Nat) : Option Nat := bs.zipIdx.foldl (fun o x => if x.1 = b then some x.2 else o) none

theorem lastD_snoc (bs : List Nat) (b : Nat) : lastD (bs ++ [b]) = (lastD bs).put (keyL b) (placeD bs.length) := by
  simp [lastD, List.zipIdx_append, List.foldl_append]
theorem lastAt_snoc (bs : List Nat) (c b : Nat) : lastAt (bs ++ [c]) b = if c = b then some bs.length else lastAt bs b := by
  simp [lastAt, List.zipIdx_append, List.foldl_append]
theorem rev_ind {α : Type} {p : List α → Prop} (h0 : p []) (h1 : ∀ l x, p l → p (l ++ [x])) : ∀ l, p l := by
  intro l
  have : ∀ n, ∀ l : List α, l.length = n → p l := by
    intro n
    induction n with
    | zero => intro l hl; rw [List.eq_nil_of_length_eq_zero hl]; exact h0
    | succ n ih =>
      intro l hl
      have hne : l ≠ [] := by intro e; subst e; simp at hl
      have := h1 l.dropLast (l.getLast hne) (ih _ (by simp; omega))
      rwa [List.dropLast_concat_getLast hne] at this
  exact this l.length l rfl
theorem key_inj {a b : Nat} : keyL a = keyL b ↔ a = b := by
  unfold keyL
  constructor
  · intro h; injection h with _ h; omega
  · intro h; rw [h]
theorem lastD_isMap (bs : List Nat) : Maps.IsMap (lastD bs) := by
  induction bs using rev_ind with
  | h0 => exact ⟨[], rfl⟩
  | h1 l x ih => rw [lastD_snoc]; exact ih.put _ _
theorem lastD_has (b : Nat) (bs : List Nat) : Maps.has (lastD bs) (keyL b) = (lastAt bs b).isSome := by
  induction bs using rev_ind with
  | h0 => rfl
  | h1 l x ih =>
    rw [lastD_snoc, lastAt_snoc]
    by_cases h : x = b
    · subst h
      rw [if_pos rfl, Maps.has_put_same (lastD_isMap l) (by unfold keyL; trivial)]; rfl
    · rw [if_neg h, Maps.has_put_other (by rw [Ne, key_inj]; exact fun e => h e.symm), ih]
theorem lastD_at (b : Nat) (bs : List Nat) : (lastD bs).atKey (keyL b) (.lit (.int .i64 0)) = placeD ((lastAt bs b).getD 0) := by
  induction bs using rev_ind with
  | h0 => rfl
  | h1 l x ih =>
    rw [lastD_snoc, lastAt_snoc]
    by_cases h : x = b
    · subst h
      rw [if_pos rfl, Maps.atKey_put_same (lastD_isMap l) (by unfold keyL; trivial)]; rfl
    · rw [if_neg h, Maps.atKey_put_other (by rw [Ne, key_inj]; exact fun e => h e.symm), ih]
theorem lastAt_lt (b k : Nat) (bs : List Nat) (h : lastAt bs b = some k) : k < bs.length ∧ bs[k]? = some b := by
  induction bs using rev_ind with
  | h0 => cases h
  | h1 l x ih =>
    rw [lastAt_snoc] at h
    split at h
    · rename_i e
      injection h with h
      subst h e
      simp
    · obtain ⟨h1, h2⟩ := ih h
      refine ⟨by simp; omega, ?_⟩
      rw [List.getElem?_append_left h1]; exact h2

/-- What a write is: its block's number and its bytes. -/
abbrev Wr := Nat × List UInt8
def wcells (x : Wr) : List Value := .int .i64 (x.1 : Int) :: x.2.map byteV
def flat (ws : List Wr) : List Value := ws.flatMap wcells
def nums (ws : List Wr) : List Nat := ws.map (·.1)
theorem wcells_len (x : Wr) (h : x.2.length = 256) : (wcells x).length = 257 := by simp [wcells, h]
theorem flat_len (ws : List Wr) (h : ∀ x ∈ ws, x.2.length = 256) : (flat ws).length = ws.length * 257 := by
  induction ws with
  | nil => rfl
  | cons x r ih =>
    have h1 := ih (fun y hy => h y (by simp [hy]))
    have h2 := wcells_len x (h x (by simp))
    simp only [flat, List.flatMap_cons, List.length_append, List.length_cons] at h1 ⊢
    omega
theorem flat_snoc (ws : List Wr) (x : Wr) : flat (ws ++ [x]) = flat ws ++ wcells x := by simp [flat]
theorem flat_one (ws : List Wr) : ∀ v ∈ flat ws, v.oneCell' = true := by
  intro v hv
  obtain ⟨x, _, hx⟩ := List.mem_flatMap.1 hv
  unfold wcells at hx
  rcases List.mem_cons.1 hx with e | e
  · subst e; rfl
  · obtain ⟨c, _, rfl⟩ := List.mem_map.1 e; rfl
theorem flat_get (ws : List Wr) (h : ∀ x ∈ ws, x.2.length = 256) (k : Nat) (hk : k < ws.length) (j : Nat) (hj : j < 257) : (flat ws)[k * 257 + j]? = (wcells ws[k])[j]? := by
  induction ws generalizing k with
  | nil => simp at hk
  | cons x r ih =>
    have h2 := wcells_len x (h x (by simp))
    simp only [flat, List.flatMap_cons]
    cases k with
    | zero => rw [Nat.zero_mul, Nat.zero_add, List.getElem?_append_left (by omega)]; rfl
    | succ k =>
      rw [List.getElem?_append_right (by rw [h2]; omega), h2, show (k + 1) * 257 + j - 257 = k * 257 + j by omega]
      exact ih (fun y hy => h y (by simp [hy])) k (by simpa using hk)

/-- What the device's own blocks hold: its stable bytes, its writes, how many are pending, its fuse. -/
structure Low where
  st : List UInt8
  ws : List Wr
  pend : Nat
  fused : Bool
  left : Nat
def headOf (vs vw : Value) (m : Nat) (L : Low) : Array Value := #[vs, vw, .int .i64 (L.pend : Int), .map (some m), .bool L.fused, .int .i64 (L.left : Int)]
theorem intKey : Maps.Keyed Try.prog 3 := Maps.int_keyed Try.underlying3
structure LowAt (w : World) (p : Nat) (L : Low) (vs vw : Value) (m : Nat) : Prop where
  head : w.heap[p]? = some (.cells (headOf vs vw m L) 92 (0, 0))
  st : Row w 5 1 vs L.st.length (L.st.map byteV)
  ws : Row w 96 257 vw L.ws.length (flat L.ws)
  last : w.ownsMap Try.prog 3 (plainElem Try.prog 3) m L.ws.length (lastD (nums L.ws))
def Foot (p m : Nat) (vs vw : Value) (k : Nat) : Prop := k = p ∨ k = m ∨ vs.ownBlock = some k ∨ vw.ownBlock = some k

theorem LowAt.p_lt {w : World} {p m : Nat} {L : Low} {vs vw : Value} (h : LowAt w p L vs vw m) : p < w.heap.size := (Array.getElem?_eq_some_iff.1 h.head).1
theorem LowAt.foot_lt {w : World} {p m : Nat} {L : Low} {vs vw : Value} (h : LowAt w p L vs vw m) (k : Nat) (hk : Foot p m vs vw k) : k < w.heap.size := by
  rcases hk with rfl | rfl | hk | hk
  · exact h.p_lt
  · exact h.last.lt
  · exact h.st.lt hk
  · exact h.ws.lt hk
theorem LowAt.turns {w w' : World} {p m : Nat} {L : Low} {vs vw : Value} (h : LowAt w p L vs vw m) {F : Nat → Prop} (hb : Turns F w w') (hF : ∀ k, Foot p m vs vw k → ¬ F k) : LowAt w' p L vs vw m := by
  refine ⟨(hb.block p h.p_lt (hF p (.inl rfl))).trans h.head, h.st.turns hb (fun k hk => hF k (.inr (.inr (.inl hk)))), h.ws.turns hb (fun k hk => hF k (.inr (.inr (.inr hk)))), ?_⟩
  obtain ⟨es, clock, h1, h2⟩ := h.last
  exact ⟨es, clock, (hb.block m h.last.lt (hF m (.inr (.inl rfl)))).trans h1, h2⟩
/-- No two of the device's blocks are one. -/
theorem row_type {w : World} {e : TypeId} {size n : Nat} {v : Value} {xs : List Value} (h : Row w e size v n xs) {k : Nat} (hk : v.ownBlock = some k) : ∃ cur, w.heap[k]? = some (.cells cur e (0, 0)) := by
  rcases h.2 with ⟨rfl, _⟩ | ⟨g, cap, cur, rfl, _, hh, _⟩
  · cases hk
  · simp [Value.ownBlock] at hk; subst hk; exact ⟨cur, hh⟩
theorem LowAt.apart {w : World} {p m : Nat} {L : Low} {vs vw : Value} (h : LowAt w p L vs vw m) : p ≠ m ∧ vs.ownBlock ≠ some p ∧ vw.ownBlock ≠ some p ∧ vs.ownBlock ≠ some m ∧ vw.ownBlock ≠ some m ∧ (∀ k, vs.ownBlock = some k → vw.ownBlock ≠ some k) := by
  obtain ⟨es, clock, h1, _⟩ := h.last
  have hp := h.head
  refine ⟨?_, ?_, ?_, ?_, ?_, ?_⟩
  · rintro rfl; rw [h1] at hp; cases hp
  · intro e; obtain ⟨cur, hc⟩ := row_type h.st e; rw [hc] at hp; cases hp
  · intro e; obtain ⟨cur, hc⟩ := row_type h.ws e; rw [hc] at hp; cases hp
  · intro e; obtain ⟨cur, hc⟩ := row_type h.st e; rw [hc] at h1; cases h1
  · intro e; obtain ⟨cur, hc⟩ := row_type h.ws e; rw [hc] at h1; cases h1
  · intro k e e'; obtain ⟨cur, hc⟩ := row_type h.st e; obtain ⟨cur', hc'⟩ := row_type h.ws e'; rw [hc] at hc'; cases hc'
/-- A field of the struct, as the walk asks for it. -/
theorem LowAt.field {w : World} {p m : Nat} {L : Low} {vs vw : Value} (h : LowAt w p L vs vw m) (j : Nat) : w.cell? ⟨p, j, none⟩ = (headOf vs vw m L)[j]? := cell_of_row w p j _ _ _ h.head
theorem LowAt.f0 {w : World} {p m : Nat} {L : Low} {vs vw : Value} (h : LowAt w p L vs vw m) : w.cell? ⟨p, 0, none⟩ = some vs := h.field 0
theorem LowAt.f1 {w : World} {p m : Nat} {L : Low} {vs vw : Value} (h : LowAt w p L vs vw m) : w.cell? ⟨p, 1, none⟩ = some vw := h.field 1
theorem LowAt.f2 {w : World} {p m : Nat} {L : Low} {vs vw : Value} (h : LowAt w p L vs vw m) : w.cell? ⟨p, 2, none⟩ = some (.int .i64 (L.pend : Int)) := h.field 2
theorem LowAt.f3 {w : World} {p m : Nat} {L : Low} {vs vw : Value} (h : LowAt w p L vs vw m) : w.cell? ⟨p, 3, none⟩ = some (.map (some m)) := h.field 3
theorem LowAt.f4 {w : World} {p m : Nat} {L : Low} {vs vw : Value} (h : LowAt w p L vs vw m) : w.cell? ⟨p, 4, none⟩ = some (.bool L.fused) := h.field 4
theorem LowAt.f5 {w : World} {p m : Nat} {L : Low} {vs vw : Value} (h : LowAt w p L vs vw m) : w.cell? ⟨p, 5, none⟩ = some (.int .i64 (L.left : Int)) := h.field 5
theorem LowAt.open_ {w : World} {p m : Nat} {L : Low} {vs vw : Value} (h : LowAt w p L vs vw m) (j : Nat) : w.frozen? ⟨p, j, none⟩ = false := frozen_of_row w p j _ _ h.head
end Go.Proofs.Ytbmbolgmeehloaa.Disk
