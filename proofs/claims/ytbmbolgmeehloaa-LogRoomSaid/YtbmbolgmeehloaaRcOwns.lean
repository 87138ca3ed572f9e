/- A record that a call has made itself: its Writes in a row of the call's own, each with bytes in a row of their own, no two in one; and what bytes tell of a record, in plain words. -/
import Derived.Test.YtbmbolgmeehloaaRcTxn
import Derived.Deep.AppendLies
namespace Go.Proofs.Ytbmbolgmeehloaa.Rec
set_option maxRecDepth 20000
open Go.RowKit
open Go.Proofs.Ytbmbolgmeehloaa.Mem Go.Proofs.Ytbmbolgmeehloaa.Crc

theorem info_wt : (Try.prog.info? 83).map (fun i => (i.zero, i.size, i.bytes)) = some (some (.agg #[.int .i64 0, .slice none 0 0]), 2, 32) := by kernel_rfl
theorem info_int : (Try.prog.info? 3).map (fun i => (i.zero, i.size, i.bytes)) = some (some (.int .i64 0), 1, 8) := by kernel_rfl

/-- The cells of Writes whose bytes lie in these slices. -/
def wcells : List Wt → List Value → List Value
  | x :: r, v :: vs => .int .i64 x.1 :: v :: wcells r vs
  | _, _ => []
theorem wcells_len : ∀ (ws : List Wt) (vs : List Value), vs.length = ws.length → (wcells ws vs).length = ws.length * 2
  | [], [], _ => rfl
  | x :: r, v :: vs, h => by
    have := wcells_len r vs (by simpa using h)
    simp only [wcells, List.length_cons, this]; omega
  | [], _ :: _, h => by simp at h
  | _ :: _, [], h => by simp at h
theorem wcells_snoc : ∀ (ws : List Wt) (vs : List Value) (x : Wt) (v : Value), vs.length = ws.length → wcells (ws ++ [x]) (vs ++ [v]) = wcells ws vs ++ [.int .i64 x.1, v]
  | [], [], x, v, _ => rfl
  | y :: r, u :: vs, x, v, h => by
    simp only [List.cons_append, wcells, wcells_snoc r vs x v (by simpa using h)]
  | [], _ :: _, _, _, h => by simp at h
  | _ :: _, [], _, _, h => by simp at h
theorem wcells_get : ∀ (ws : List Wt) (vs : List Value) (k : Nat) (x : Wt) (v : Value), ws[k]? = some x → vs[k]? = some v → (wcells ws vs)[k * 2]? = some (.int .i64 x.1) ∧ (wcells ws vs)[k * 2 + 1]? = some v
  | y :: r, u :: vs, 0, x, v, hx, hv => by
    simp at hx hv
    subst hx hv
    exact ⟨rfl, rfl⟩
  | y :: r, u :: vs, k + 1, x, v, hx, hv => by
    simp only [List.getElem?_cons_succ] at hx hv
    have := wcells_get r vs k x v hx hv
    rw [show (k + 1) * 2 = k * 2 + 1 + 1 by omega]
    simp only [wcells, List.getElem?_cons_succ]
    exact this
  | [], _, _, _, _, hx, _ => by simp at hx
  | _ :: _, [], _, _, _, _, hv => by simp at hv

structure OwnsW (w : World) (base : Nat) (A : Option Addr) (n c : Nat) (ws : List Wt) (vs : List Value) : Prop where
  cnt : ws.length = n
  len : vs.length = ws.length
  row : w.ownsRow base 83 2 (.slice A n c) n (wcells ws vs)
  data : ∀ (k : Nat) (x : Wt) (v : Value), ws[k]? = some x → vs[k]? = some v → Owned w base v x.2
  apart : ∀ (i j : Nat) (v v' : Value) (q : Nat), vs[i]? = some v → vs[j]? = some v' → i ≠ j → v.ownBlock = some q → v'.ownBlock ≠ some q

/-- From block base on the old blocks are as they were. -/
def Kept (base : Nat) (w w' : World) : Prop := ∀ q, base ≤ q → q < w.heap.size → w'.heap[q]? = w.heap[q]?
theorem ownsRow_kept {w w' : World} {base : Nat} {e : TypeId} {size n : Nat} {v : Value} {xs : List Value} (h : w.ownsRow base e size v n xs) (hk : Kept base w w') : w'.ownsRow base e size v n xs := by
  obtain ⟨h1, h2⟩ := h
  refine ⟨h1, ?_⟩
  rcases h2 with h2 | ⟨g, cap, cur, e, hg, hh, r⟩
  · exact .inl h2
  · exact .inr ⟨g, cap, cur, e, hg, (hk g hg (Array.getElem?_eq_some_iff.1 hh).1).trans hh, r⟩
theorem OwnsW.kept {w w' : World} {base : Nat} {A : Option Addr} {n c : Nat} {ws : List Wt} {vs : List Value} (h : OwnsW w base A n c ws vs) (hk : Kept base w w') : OwnsW w' base A n c ws vs :=
  ⟨h.cnt, h.len, ownsRow_kept h.row hk, fun k x v hx hv => ownsRow_kept (h.data k x v hx hv) hk, h.apart⟩
theorem Kept.of_below {base B : Nat} {w w' : World} (h : Below B w w') (hB : w.heap.size ≤ B) : Kept base w w' := fun q _ hq => h.block q (by omega)
theorem Kept.trans {base : Nat} {a b c : World} (h : Kept base a b) (k : Kept base b c) (hs : a.heap.size ≤ b.heap.size) : Kept base a c := fun q hb hq => (k q hb (by omega)).trans (h q hb hq)
theorem Kept.cell {base p j : Nat} {w : World} {u : Value} (hp : p < base) : Kept base w (w.setCell ⟨p, j, none⟩ u) := fun q hb _ => Below.heap_setCell _ _ _ _ (by intro e; simp at e; omega)

theorem row_type {w : World} {base : Nat} {e : TypeId} {size n : Nat} {v : Value} {xs : List Value} (h : w.ownsRow base e size v n xs) {k : Nat} (hk : v.ownBlock = some k) : ∃ cur, w.heap[k]? = some (.cells cur e (0, 0)) := by
  rcases h.2 with ⟨rfl, _⟩ | ⟨g, cap, cur, rfl, _, hh, _⟩
  · cases hk
  · simp [Value.ownBlock] at hk; subst hk; exact ⟨cur, hh⟩

theorem OwnsW.empty (w : World) (base : Nat) : OwnsW w base none 0 0 [] [] :=
  ⟨rfl, rfl, World.ownsRow_nil _ _ _ _, fun k x v hx _ => by simp at hx, fun i j v v' q hi _ _ _ => by simp at hi⟩

/-- One Write more. -/
theorem OwnsW.more {w w' : World} {base : Nat} {A : Option Addr} {n c g cap : Nat} {ws : List Wt} {vs : List Value} (h : OwnsW w base A n c ws vs) (x : Wt) (v : Value) (hv : Owned w base v x.2)
    (hnew : ∀ u ∈ vs, ∀ q, u.ownBlock = some q → v.ownBlock ≠ some q)
    (hrow : w'.ownsRow base 83 2 (.slice (some ⟨g, 0, none⟩) (n + 1) cap) (n + 1) (wcells ws vs ++ [.int .i64 x.1, v])) (hg : w.grownBy w' (Value.slice A n c).ownBlock) :
    OwnsW w' base (some ⟨g, 0, none⟩) (n + 1) cap (ws ++ [x]) (vs ++ [v]) := by
  have hkeep : ∀ (u : Value) (bs : List UInt8), Owned w base u bs → Owned w' base u bs := fun u bs hu => by
    refine World.ownsRow.kept hu hg ?_
    cases hb : u.ownBlock with
    | none => exact .inl rfl
    | some q =>
      right
      intro e
      obtain ⟨cur, h1⟩ := row_type hu hb
      obtain ⟨cur', h2⟩ := row_type h.row e.symm
      rw [h1] at h2
      injection h2 with h2
      have h3 : (5 : TypeId) = 83 := by
        injection h2 with _ h2
      exact absurd h3 (by decide)
  refine ⟨by rw [List.length_append, h.cnt]; rfl, by rw [List.length_append, List.length_append, h.len]; rfl, by rw [wcells_snoc _ _ _ _ h.len]; exact hrow, fun k y u hy hu => ?_, fun i j u u' q hi hj hij hu => ?_⟩
  · by_cases hk : k < ws.length
    · rw [List.getElem?_append_left hk] at hy
      rw [List.getElem?_append_left (by rw [h.len]; exact hk)] at hu
      exact hkeep _ _ (h.data k y u hy hu)
    · rw [List.getElem?_append_right (by omega)] at hy
      rw [List.getElem?_append_right (by rw [h.len]; omega), h.len] at hu
      have h0 : k - ws.length = 0 := by
        have := (List.getElem?_eq_some_iff.1 hy).1
        simp at this; omega
      rw [h0] at hy hu
      simp at hy hu
      subst hy hu
      exact hkeep _ _ hv
  · have hlen : (vs ++ [v]).length = vs.length + 1 := by simp
    have hil := (List.getElem?_eq_some_iff.1 hi).1
    have hjl := (List.getElem?_eq_some_iff.1 hj).1
    by_cases h1 : i < vs.length
    · rw [List.getElem?_append_left h1] at hi
      by_cases h2 : j < vs.length
      · rw [List.getElem?_append_left h2] at hj
        exact h.apart i j u u' q hi hj hij hu
      · have : j = vs.length := by omega
        subst this
        simp at hj
        subst hj
        exact hnew u (List.mem_of_getElem? hi) q hu
    · have : i = vs.length := by omega
      subst this
      simp at hi
      subst hi
      have h2 : j < vs.length := by omega
      rw [List.getElem?_append_left h2] at hj
      intro e
      exact hnew u' (List.mem_of_getElem? hj) q e hu

/-- Such a record reads as a record does. -/
theorem OwnsW.holds {w : World} {base : Nat} {A : Option Addr} {n c : Nat} {ws : List Wt} {vs : List Value} (h : OwnsW w base A n c ws vs) : HoldsW w w.heap.size A n ws := by
  refine ⟨h.cnt, fun hn => ?_⟩
  rcases h.row.2 with ⟨hv, h0⟩ | ⟨g, cap, cur, hv, hg, hh, hc, hm, hs, ht⟩
  · omega
  · injection hv with e1 _ e3
    subst e1 e3
    refine ⟨g, 0, rfl, (Array.getElem?_eq_some_iff.1 hh).1, fun k x hx => ?_⟩
    have hk := (List.getElem?_eq_some_iff.1 hx).1
    obtain ⟨v, hv⟩ : ∃ v, vs[k]? = some v := ⟨_, List.getElem?_eq_getElem (by rw [h.len]; exact hk)⟩
    obtain ⟨q1, q2⟩ := wcells_get ws vs k x v hx hv
    have hlen : (wcells ws vs).length = n * 2 := by rw [wcells_len _ _ h.len, h.cnt]
    have hcell : ∀ j u, (wcells ws vs)[j]? = some u → w.cell? ⟨g, j, none⟩ = some u := fun j u hu => by
      rw [cell_of_row _ _ _ _ _ _ hh]
      have hj := (List.getElem?_eq_some_iff.1 hu).1
      rw [← ht, List.getElem?_take, if_pos (by omega)] at hu
      simpa using hu
    have ho := h.data k x v hx hv
    obtain ⟨A', c', rfl, hr⟩ := Owned.holds ho
    have hf := Owned.fits ho
    exact ⟨by rw [Nat.zero_add]; exact hcell _ _ q1, A', c', by rw [Nat.zero_add]; exact hcell _ _ q2, hr, hf.1, hf.2⟩
theorem row_ints {w : World} {base : Nat} {A : Option Addr} {n c : Nat} {rs : List Int} (h : w.ownsRow base 3 1 (.slice A n c) n (rs.map (Value.int .i64))) (hl : rs.length = n) : HoldsI w w.heap.size A n rs := by
  refine ⟨hl, fun hn => ?_⟩
  rcases h.2 with ⟨hv, h0⟩ | ⟨g, cap, cur, hv, hg, hh, hc, hm, hs, ht⟩
  · omega
  · injection hv with e1 _ e3
    subst e1 e3
    refine ⟨g, 0, rfl, (Array.getElem?_eq_some_iff.1 hh).1, fun k x hx => ?_⟩
    have hk := (List.getElem?_eq_some_iff.1 hx).1
    rw [Nat.zero_add, cell_of_row _ _ _ _ _ _ hh]
    have hu : (rs.map (Value.int .i64))[k]? = some (.int .i64 x) := by rw [List.getElem?_map, hx]; rfl
    rw [← ht, List.getElem?_take, if_pos (by omega)] at hu
    simpa using hu

/-! What bytes tell, in plain words -/
def wtAt (bs : List UInt8) (i : Nat) : Wt := ((outNum (numFrom bs (20 + 4 * i) 4) : Int), outData (numFrom bs (20 + 4 * i) 4) ((bs.drop ((i + 1) * 256)).take 256))
def rvAt (bs : List UInt8) (n i : Nat) : Int := (numFrom bs (20 + 4 * (n + i)) 4 : Int)
def nW (bs : List UInt8) : Nat := numFrom bs 16 2
def nR (bs : List UInt8) : Nat := numFrom bs 18 2
def tellB (bs : List UInt8) : Bool := decide (512 ≤ bs.length) && (decide (nW bs + nR bs ≤ 58) && decide ((nW bs + 2) * 256 ≤ bs.length))
def tellL (bs : List UInt8) (seq : Nat) : Tx := ⟨seq, (List.range (nW bs)).map (wtAt bs), (List.range (nR bs)).map (rvAt bs (nW bs))⟩
theorem nW_lt (bs : List UInt8) : nW bs < 65536 := numFrom_lt _ _ _
theorem nR_lt (bs : List UInt8) : nR bs < 65536 := numFrom_lt _ _ _
end Go.Proofs.Ytbmbolgmeehloaa.Rec
