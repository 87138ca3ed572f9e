/- Calls as steps of a region, and records in memory of the call's own. -/
import Derived.Test.YtjbelbhcdbbelaaLift
import Derived.Test.YtjbelbhcdbbelaaRcTxn
import Derived.Deep.Fields
import Derived.Deep.Slices
import Derived.Deep.SlicePairs
import Derived.Deep.Strs
import Derived.Deep.AppendLies
import Derived.Deep.RegionHeld3
import Derived.IntWalk
import Derived.Great.BuildSlice
import Derived.Deep.RegionLaw
import Derived.BigCall
namespace Go.Proofs.Ytjbelbhcdbbelaa.Rec
set_option maxRecDepth 20000
open Go.ChangeShapes Go.WideShapes Go.ChangeAt Go.RowKit Go.Deep
open Go.Proofs.Ytjbelbhcdbbelaa.Mem Go.Proofs.Ytjbelbhcdbbelaa.Lift Go.Proofs.Ytjbelbhcdbbelaa.Crc

/-- A slice of bytes that was read as a part of something. -/
theorem bytes_part {H : Type} {enc : TypeId × Value → H} {W : World} {fuel : Nat} {v : Value} {y : DataW H × List MemPlace} (h : DataW.trod enc Try.prog W 0 (fun _ => true) true fuel 27 [v] = some y) :
    ∃ A n c bs, v = .slice A n c ∧ Holds W W.heap.size A n bs ∧ n ≤ c ∧ c ≤ maxLen := by
  rcases open_ints Try.underlying27 Try.underlying5 (by kernel_rfl) h with ⟨hcs, _⟩ | ⟨x, l, c', zs, hcs, _, hl, hm, hz, _, hcell, hwz⟩
  · simp at hcs
    subst hcs
    exact ⟨none, 0, 0, [], rfl, ⟨rfl, fun h => absurd h (by omega)⟩, Nat.le_refl _, Nat.zero_le _⟩
  · simp at hcs
    subst hcs
    have hzl : zs.length = c' := by simpa using hz
    refine ⟨_, _, _, (zs.take l).map fun z => UInt8.ofNat z.toNat, rfl, ⟨by simp; omega, fun hn => ?_⟩, hl, hm⟩
    obtain ⟨b, off, spot⟩ := x
    have hc0 := hcell 0 (by omega)
    have hspot : spot = none := by simpa [Addr.add] using World.cell?_spot hc0
    subst hspot
    refine ⟨b, off, rfl, by simpa [Addr.add] using block_lt_of_cell hc0, fun j hj => ?_⟩
    have hjz : j < zs.length := by simp at hj; omega
    have hadd : (⟨b, off, none⟩ : Addr).add j = ⟨b, off + j, none⟩ := by unfold Addr.add; split <;> simp_all
    rw [← hadd, hcell j hjz]
    have hw := bounds_u8 (hwz zs[j] (List.getElem_mem hjz))
    have e : zs.getD j 0 = zs[j] := by simp [List.getD, hjz]
    rw [e]
    simp only [List.getElem_map, List.getElem_take]
    congr 2
    simp
    omega
theorem wf_i64 {x : Int} (h : (Lit.int .i64 x).wf = true) : IsInt x := by
  simp [Lit.wf, show IntKind.i64.min = -9223372036854775808 from rfl, show IntKind.i64.max = 9223372036854775807 from rfl] at h
  exact ⟨by omega, by omega⟩
theorem wf_u64 {x : Int} (h : (Lit.int .u64 x).wf = true) : 0 ≤ x ∧ x < 18446744073709551616 := by
  simp [Lit.wf, show IntKind.u64.min = 0 from rfl, show IntKind.u64.max = 18446744073709551615 from rfl] at h
  exact ⟨by omega, by omega⟩

/-- A slice of numbers that was read as a part of something. -/
theorem ints_part {H : Type} {enc : TypeId × Value → H} {W : World} {fuel : Nat} {v : Value} {y : DataW H × List MemPlace} (h : DataW.trod enc Try.prog W 0 (fun _ => true) true fuel 24 [v] = some y) (R : Nat) (hR : ∀ elems spare, y.1 = .slice elems spare → elems.length + spare.length ≤ R) :
    ∃ A n c rs, v = .slice A n c ∧ HoldsI W W.heap.size A n rs ∧ n ≤ c ∧ n ≤ R ∧ ∀ x ∈ rs, IsInt x := by
  rcases open_ints Try.underlying24 Try.underlying3 (by kernel_rfl) h with ⟨hcs, _⟩ | ⟨x, l, c', zs, hcs, _, hl, hm, hz, hy, hcell, hwz⟩
  · simp at hcs
    subst hcs
    exact ⟨none, 0, 0, [], rfl, ⟨rfl, fun h => absurd h (by omega)⟩, Nat.le_refl _, Nat.zero_le _, fun x hx => by simp at hx⟩
  · simp at hcs
    subst hcs
    have hzl : zs.length = c' := by simpa using hz
    have hle := hR _ _ (by rw [hy])
    simp only [lits, List.length_map, List.length_take, List.length_drop] at hle
    refine ⟨_, _, _, zs.take l, rfl, ⟨by rw [List.length_take]; omega, fun hn => ?_⟩, hl, by omega, fun z hz => wf_i64 (hwz z (List.mem_of_mem_take hz))⟩
    obtain ⟨b, off, spot⟩ := x
    have hc0 := hcell 0 (by omega)
    have hspot : spot = none := by simpa [Addr.add] using World.cell?_spot hc0
    subst hspot
    refine ⟨b, off, rfl, by simpa [Addr.add] using block_lt_of_cell hc0, fun j z hj => ?_⟩
    have hjl : j < l := by have := (List.getElem?_eq_some_iff.1 hj).1; rw [List.length_take] at this; omega
    have hjz : j < zs.length := by omega
    have hadd : (⟨b, off, none⟩ : Addr).add j = ⟨b, off + j, none⟩ := by unfold Addr.add; split <;> simp_all
    rw [← hadd, hcell j hjz]
    rw [List.getElem?_take, if_pos hjl] at hj
    simp [List.getD, hj]

theorem exists_list {α : Type} {p : Nat → α → Prop} : ∀ n, (∀ i, i < n → ∃ x, p i x) → ∃ l : List α, l.length = n ∧ ∀ i, (h : i < l.length) → p i l[i]
  | 0, _ => ⟨[], rfl, fun i h => absurd h (by simp)⟩
  | n + 1, h => by
    obtain ⟨l, hl, hp⟩ := exists_list n (fun i hi => h i (by omega))
    obtain ⟨x, hx⟩ := h n (by omega)
    refine ⟨l ++ [x], by simp [hl], fun i hi => ?_⟩
    by_cases e : i < l.length
    · rw [List.getElem_append_left e]; exact hp i e
    · have : i = n := by simp at hi; omega
      subst this
      rw [List.getElem_append_right (by omega)]
      simp [hl]; exact hx

/-- A slice of Writes that was read as a part of something. -/
theorem writes_part {H : Type} {enc : TypeId × Value → H} {W : World} {fuel : Nat} {v : Value} {y : DataW H × List MemPlace} (h : DataW.trod enc Try.prog W 0 (fun _ => true) true fuel 23 [v] = some y) (R : Nat) (hR : ∀ elems spare, y.1 = .slice elems spare → elems.length + spare.length ≤ R) :
    ∃ A n c ws, v = .slice A n c ∧ HoldsW W W.heap.size A n ws ∧ n ≤ c ∧ n ≤ R ∧ ∀ x ∈ ws, IsInt x.1 := by
  rcases open_slice_pairs Try.underlying23 Try.underlying40 (by kernel_rfl) rfl rfl (by kernel_rfl) (by kernel_rfl) h with ⟨hcs, _⟩ | ⟨a, len, cap, m, k, V0, V1, D0, D1, P0, P1, hcs, _, hl, hm, hmm, hy, hel⟩
  · simp at hcs
    subst hcs
    exact ⟨none, 0, 0, [], rfl, ⟨rfl, fun h => absurd h (by omega)⟩, Nat.le_refl _, Nat.zero_le _, fun x hx => by simp at hx⟩
  · simp at hcs
    subst hcs
    rw [if_pos rfl] at hmm
    obtain rfl : m = cap := hmm
    have hle := hR _ _ (by rw [hy])
    simp only [List.length_map, List.length_range] at hle
    obtain ⟨ws, hwl, hws⟩ := exists_list (p := fun i (x : Wt) => IsInt x.1 ∧ W.cell? (a.add (i * 2)) = some (.int .i64 x.1) ∧ ∃ A' c', W.cell? (a.add (i * 2 + 1)) = some (.slice A' x.2.length c') ∧ Holds W W.heap.size A' x.2.length x.2 ∧ x.2.length ≤ c' ∧ c' ≤ maxLen) len (fun i hi => by
      obtain ⟨h1, h2, t1, t2⟩ := hel i (by omega)
      obtain ⟨z, e0, _, w0⟩ := DataW.trod_int Try.underlying3 t1
      obtain ⟨A', n', c', bs, e1, hb, hk, hc⟩ := bytes_part t2
      simp at e0
      have hn' : n' = bs.length := hb.1.symm
      subst hn'
      exact ⟨(z, bs), wf_i64 w0, by rw [h1, e0], A', c', by rw [h2, e1], hb, hk, hc⟩)
    refine ⟨some a, len, m, ws, rfl, ⟨hwl, fun hn => ?_⟩, hl, by omega, fun x hx => ?_⟩
    · obtain ⟨b, off, spot⟩ := a
      have hc0 := (hws 0 (by omega)).2.1
      have hspot : spot = none := by simpa [Addr.add] using World.cell?_spot hc0
      subst hspot
      have hadd : ∀ j, (⟨b, off, none⟩ : Addr).add j = ⟨b, off + j, none⟩ := fun j => by unfold Addr.add; split <;> simp_all
      refine ⟨b, off, rfl, by simpa [Addr.add] using block_lt_of_cell hc0, fun k x hx => ?_⟩
      obtain ⟨hk, rfl⟩ := List.getElem?_eq_some_iff.1 hx
      obtain ⟨_, h1, h2⟩ := hws k hk
      rw [hadd] at h1
      rw [hadd, ← Nat.add_assoc] at h2
      exact ⟨h1, h2⟩
    · obtain ⟨i, hi, rfl⟩ := List.getElem_of_mem hx
      exact (hws i hi).1

/-- A record read as an argument. -/
theorem txn_part {H : Type} {enc : TypeId × Value → H} {W : World} {fuel : Nat} {cs : List Value} {d : DataW H} {p : List MemPlace} (h : DataW.trod enc Try.prog W 0 (fun _ => true) true fuel 26 cs = some (d, p)) (hw : (d.weights Try.prog 26).all (· ≤ reachBytes) = true) :
    ∃ (t : Tx) (Aw : Option Addr) (nw cw : Nat) (Ar : Option Addr) (nr cr : Nat), cs = [.int .u64 (t.seq : Int), .slice Aw nw cw, .slice Ar nr cr] ∧ TxAt W W.heap.size t Aw nw cw Ar nr cr := by
  obtain ⟨y0, y1, y2, n, hx, hl, h0, h1, h2⟩ := trod_struct3 Try.underlying26 h
  rw [show Try.prog.cellsOf 26 = 3 by kernel_rfl] at hl
  match cs, hl with
  | [v0, v1, v2], _ =>
    have c0 : Try.prog.cellsOf 22 = 1 := by kernel_rfl
    have c1 : Try.prog.cellsOf 23 = 1 := by kernel_rfl
    have c2 : Try.prog.cellsOf 24 = 1 := by kernel_rfl
    rw [c0] at h0
    rw [c1] at h1
    rw [c2] at h2
    injection hx with hd hp
    have hs : (DataW.weightsEach Try.prog [22, 23, 24] [y0.1, y1.1, y2.1]).all (· ≤ reachBytes) = true := by
      rw [hd] at hw
      simpa [DataW.weights, Try.underlying26] using hw
    obtain ⟨z, e0, _, w0⟩ := DataW.trod_int Try.underlying22 h0
    have r1 : ∀ elems spare, y1.1 = .slice elems spare → elems.length + spare.length ≤ 140737488351232 := by
      intro elems spare hy
      have := sized_slice (j := 1) (elems := elems) (spare := spare) hs rfl (by simp [hy]) Try.underlying23
      rw [show Try.prog.bytesOf 40 = 32 by kernel_rfl, show reachBytes = 140737488351232 from rfl] at this
      omega
    have r2 : ∀ elems spare, y2.1 = .slice elems spare → elems.length + spare.length ≤ 140737488351232 := by
      intro elems spare hy
      have := sized_slice (j := 2) (elems := elems) (spare := spare) hs rfl (by simp [hy]) Try.underlying24
      rw [show Try.prog.bytesOf 3 = 8 by kernel_rfl, show reachBytes = 140737488351232 from rfl] at this
      omega
    obtain ⟨Aw, nw, cw, ws, e1, hW, kW, lW, iW⟩ := writes_part h1 _ r1
    obtain ⟨Ar, nr, cr, rs, e2, hR, kR, lR, iR⟩ := ints_part h2 _ r2
    have hz := wf_u64 w0
    simp at e0 e1 e2
    subst e0 e1 e2
    refine ⟨⟨z.toNat, ws, rs⟩, Aw, nw, cw, Ar, nr, cr, ?_, hW, hR, by simp only; omega, by omega, iW, iR⟩
    simp only
    rw [Int.toNat_of_nonneg hz.1]

theorem txn_open {H : Type} {enc : TypeId × Value → H} {W : World} {b0 : Nat} {v : Value} {d : DataW H} {p : List MemPlace} (hv : Value.okWide Try.prog W .any b0 26 v)
    (h : DataW.Trod enc Try.prog W 0 (fun _ => true) true 26 v d p) (hw : (d.weights Try.prog 26).all (· ≤ reachBytes) = true) :
    ∃ (t : Tx) (Aw : Option Addr) (nw cw : Nat) (Ar : Option Addr) (nr cr : Nat), v = .agg #[.int .u64 (t.seq : Int), .slice Aw nw cw, .slice Ar nr cr] ∧ TxAt W W.heap.size t Aw nw cw Ar nr cr := by
  obtain ⟨cs, rfl, _⟩ := okWide_struct Try.underlying26 hv
  obtain ⟨fuel, hf⟩ := h
  obtain ⟨t, Aw, nw, cw, Ar, nr, cr, e, ht⟩ := txn_part hf hw
  refine ⟨t, Aw, nw, cw, Ar, nr, cr, ?_, ht⟩
  simp only [Value.cells] at e
  congr 1
  exact Array.toList_inj.1 (by simpa using e)

theorem txn_weights {H : Type} {ts : List TypeId} {ds : List (DataW H)} (h : (DataW.weightsEach Try.prog ts ds).all (· ≤ reachBytes) = true) {j : Nat} {d : DataW H} (ht : ts[j]? = some 26) (hd : ds[j]? = some d) :
    (d.weights Try.prog 26).all (· ≤ reachBytes) = true :=
  List.all_eq_true.2 fun x hx => List.all_eq_true.1 h _ (DataW.weights_mem_each ht hd x hx)
end Go.Proofs.Ytjbelbhcdbbelaa.Rec

namespace Go.Proofs.Ytjbelbhcdbbelaa.Rec
set_option maxRecDepth 20000
open Go.RowKit
open Go.Proofs.Ytjbelbhcdbbelaa.Mem Go.Proofs.Ytjbelbhcdbbelaa.Crc

theorem info_wt : (Try.prog.info? 40).map (fun i => (i.zero, i.size, i.bytes)) = some (some (.agg #[.int .i64 0, .slice none 0 0]), 2, 32) := by kernel_rfl
theorem info_int : (Try.prog.info? 3).map (fun i => (i.zero, i.size, i.bytes)) = some (some (.int .i64 0), 1, 8) := by kernel_rfl

/-- The cells of Writes whose bytes lie in these slices. -/
def wcells : List Wt → List Value → List Value
  | x :: r, v :: vs => .int .i64 x.1 :: v :: wcells r vs
  | _, _ => []
theorem wcells_len : ∀ (ws : List Wt) (vs : List Value), vs.length = ws.length → (wcells ws vs).length = ws.length * 2
  | [], [], _ => rfl
  | x :: r, v :: vs, h => by
    have := wcells_len r vs (by simpa using h)
    simp only [wcells, List.length_cons, this]; omega
  | [], _ :: _, h => by simp at h
  | _ :: _, [], h => by simp at h
theorem wcells_snoc : ∀ (ws : List Wt) (vs : List Value) (x : Wt) (v : Value), vs.length = ws.length → wcells (ws ++ [x]) (vs ++ [v]) = wcells ws vs ++ [.int .i64 x.1, v]
  | [], [], x, v, _ => rfl
  | y :: r, u :: vs, x, v, h => by
    simp only [List.cons_append, wcells, wcells_snoc r vs x v (by simpa using h)]
  | [], _ :: _, _, _, h => by simp at h
  | _ :: _, [], _, _, h => by simp at h
theorem wcells_get : ∀ (ws : List Wt) (vs : List Value) (k : Nat) (x : Wt) (v : Value), ws[k]? = some x → vs[k]? = some v → (wcells ws vs)[k * 2]? = some (.int .i64 x.1) ∧ (wcells ws vs)[k * 2 + 1]? = some v
  | y :: r, u :: vs, 0, x, v, hx, hv => by
    simp at hx hv
    subst hx hv
    exact ⟨rfl, rfl⟩
  | y :: r, u :: vs, k + 1, x, v, hx, hv => by
    simp only [List.getElem?_cons_succ] at hx hv
    have := wcells_get r vs k x v hx hv
    rw [show (k + 1) * 2 = k * 2 + 1 + 1 by omega]
    simp only [wcells, List.getElem?_cons_succ]
    exact this
  | [], _, _, _, _, hx, _ => by simp at hx
  | _ :: _, [], _, _, _, _, hv => by simp at hv

structure OwnsW (w : World) (base : Nat) (A : Option Addr) (n c : Nat) (ws : List Wt) (vs : List Value) : Prop where
  cnt : ws.length = n
  len : vs.length = ws.length
  row : w.ownsRow base 40 2 (.slice A n c) n (wcells ws vs)
  data : ∀ (k : Nat) (x : Wt) (v : Value), ws[k]? = some x → vs[k]? = some v → Owned w base v x.2
  apart : ∀ (i j : Nat) (v v' : Value) (q : Nat), vs[i]? = some v → vs[j]? = some v' → i ≠ j → v.ownBlock = some q → v'.ownBlock ≠ some q

/-- From block base on the old blocks are as they were. -/
def Kept (base : Nat) (w w' : World) : Prop := ∀ q, base ≤ q → q < w.heap.size → w'.heap[q]? = w.heap[q]?
theorem ownsRow_kept {w w' : World} {base : Nat} {e : TypeId} {size n : Nat} {v : Value} {xs : List Value} (h : w.ownsRow base e size v n xs) (hk : Kept base w w') : w'.ownsRow base e size v n xs := by
  obtain ⟨h1, h2⟩ := h
  refine ⟨h1, ?_⟩
  rcases h2 with h2 | ⟨g, cap, cur, e, hg, hh, r⟩
  · exact .inl h2
  · exact .inr ⟨g, cap, cur, e, hg, (hk g hg (Array.getElem?_eq_some_iff.1 hh).1).trans hh, r⟩
theorem OwnsW.kept {w w' : World} {base : Nat} {A : Option Addr} {n c : Nat} {ws : List Wt} {vs : List Value} (h : OwnsW w base A n c ws vs) (hk : Kept base w w') : OwnsW w' base A n c ws vs :=
  ⟨h.cnt, h.len, ownsRow_kept h.row hk, fun k x v hx hv => ownsRow_kept (h.data k x v hx hv) hk, h.apart⟩
theorem Kept.of_below {base B : Nat} {w w' : World} (h : Below B w w') (hB : w.heap.size ≤ B) : Kept base w w' := fun q _ hq => h.block q (by omega)
theorem Kept.trans {base : Nat} {a b c : World} (h : Kept base a b) (k : Kept base b c) (hs : a.heap.size ≤ b.heap.size) : Kept base a c := fun q hb hq => (k q hb (by omega)).trans (h q hb hq)
theorem Kept.cell {base p j : Nat} {w : World} {u : Value} (hp : p < base) : Kept base w (w.setCell ⟨p, j, none⟩ u) := fun q hb _ => Below.heap_setCell _ _ _ _ (by intro e; simp at e; omega)

theorem row_type {w : World} {base : Nat} {e : TypeId} {size n : Nat} {v : Value} {xs : List Value} (h : w.ownsRow base e size v n xs) {k : Nat} (hk : v.ownBlock = some k) : ∃ cur, w.heap[k]? = some (.cells cur e (0, 0)) := by
  rcases h.2 with ⟨rfl, _⟩ | ⟨g, cap, cur, rfl, _, hh, _⟩
  · cases hk
  · simp [Value.ownBlock] at hk; subst hk; exact ⟨cur, hh⟩

theorem OwnsW.empty (w : World) (base : Nat) : OwnsW w base none 0 0 [] [] :=
  ⟨rfl, rfl, World.ownsRow_nil _ _ _ _, fun k x v hx _ => by simp at hx, fun i j v v' q hi _ _ _ => by simp at hi⟩

/-- One Write more. -/
theorem OwnsW.more {w w' : World} {base : Nat} {A : Option Addr} {n c g cap : Nat} {ws : List Wt} {vs : List Value} (h : OwnsW w base A n c ws vs) (x : Wt) (v : Value) (hv : Owned w base v x.2)
    (hnew : ∀ u ∈ vs, ∀ q, u.ownBlock = some q → v.ownBlock ≠ some q)
    (hrow : w'.ownsRow base 40 2 (.slice (some ⟨g, 0, none⟩) (n + 1) cap) (n + 1) (wcells ws vs ++ [.int .i64 x.1, v])) (hg : w.grownBy w' (Value.slice A n c).ownBlock) :
    OwnsW w' base (some ⟨g, 0, none⟩) (n + 1) cap (ws ++ [x]) (vs ++ [v]) := by
  have hkeep : ∀ (u : Value) (bs : List UInt8), Owned w base u bs → Owned w' base u bs := fun u bs hu => by
    refine World.ownsRow.kept hu hg ?_
    cases hb : u.ownBlock with
    | none => exact .inl rfl
    | some q =>
      right
      intro e
      obtain ⟨cur, h1⟩ := row_type hu hb
      obtain ⟨cur', h2⟩ := row_type h.row e.symm
      rw [h1] at h2
      injection h2 with h2
      have h3 : (5 : TypeId) = 40 := by
        injection h2 with _ h2
      exact absurd h3 (by decide)
  refine ⟨by rw [List.length_append, h.cnt]; rfl, by rw [List.length_append, List.length_append, h.len]; rfl, by rw [wcells_snoc _ _ _ _ h.len]; exact hrow, fun k y u hy hu => ?_, fun i j u u' q hi hj hij hu => ?_⟩
  · by_cases hk : k < ws.length
    · rw [List.getElem?_append_left hk] at hy
      rw [List.getElem?_append_left (by rw [h.len]; exact hk)] at hu
      exact hkeep _ _ (h.data k y u hy hu)
    · rw [List.getElem?_append_right (by omega)] at hy
      rw [List.getElem?_append_right (by rw [h.len]; omega), h.len] at hu
      have h0 : k - ws.length = 0 := by
        have := (List.getElem?_eq_some_iff.1 hy).1
        simp at this; omega
      rw [h0] at hy hu
      simp at hy hu
      subst hy hu
      exact hkeep _ _ hv
  · have hlen : (vs ++ [v]).length = vs.length + 1 := by simp
    have hil := (List.getElem?_eq_some_iff.1 hi).1
    have hjl := (List.getElem?_eq_some_iff.1 hj).1
    by_cases h1 : i < vs.length
    · rw [List.getElem?_append_left h1] at hi
      by_cases h2 : j < vs.length
      · rw [List.getElem?_append_left h2] at hj
        exact h.apart i j u u' q hi hj hij hu
      · have : j = vs.length := by omega
        subst this
        simp at hj
        subst hj
        exact hnew u (List.mem_of_getElem? hi) q hu
    · have : i = vs.length := by omega
      subst this
      simp at hi
      subst hi
      have h2 : j < vs.length := by omega
      rw [List.getElem?_append_left h2] at hj
      intro e
      exact hnew u' (List.mem_of_getElem? hj) q e hu

/-- Such a record reads as a record does. -/
theorem OwnsW.holds {w : World} {base : Nat} {A : Option Addr} {n c : Nat} {ws : List Wt} {vs : List Value} (h : OwnsW w base A n c ws vs) : HoldsW w w.heap.size A n ws := by
  refine ⟨h.cnt, fun hn => ?_⟩
  rcases h.row.2 with ⟨hv, h0⟩ | ⟨g, cap, cur, hv, hg, hh, hc, hm, hs, ht⟩
  · omega
  · injection hv with e1 _ e3
    subst e1 e3
    refine ⟨g, 0, rfl, (Array.getElem?_eq_some_iff.1 hh).1, fun k x hx => ?_⟩
    have hk := (List.getElem?_eq_some_iff.1 hx).1
    obtain ⟨v, hv⟩ : ∃ v, vs[k]? = some v := ⟨_, List.getElem?_eq_getElem (by rw [h.len]; exact hk)⟩
    obtain ⟨q1, q2⟩ := wcells_get ws vs k x v hx hv
    have hlen : (wcells ws vs).length = n * 2 := by rw [wcells_len _ _ h.len, h.cnt]
    have hcell : ∀ j u, (wcells ws vs)[j]? = some u → w.cell? ⟨g, j, none⟩ = some u := fun j u hu => by
      rw [cell_of_row _ _ _ _ _ _ hh]
      have hj := (List.getElem?_eq_some_iff.1 hu).1
      rw [← ht, List.getElem?_take, if_pos (by omega)] at hu
      simpa using hu
    have ho := h.data k x v hx hv
    obtain ⟨A', c', rfl, hr⟩ := Owned.holds ho
    have hf := Owned.fits ho
    exact ⟨by rw [Nat.zero_add]; exact hcell _ _ q1, A', c', by rw [Nat.zero_add]; exact hcell _ _ q2, hr, hf.1, hf.2⟩
theorem row_ints {w : World} {base : Nat} {A : Option Addr} {n c : Nat} {rs : List Int} (h : w.ownsRow base 3 1 (.slice A n c) n (rs.map (Value.int .i64))) (hl : rs.length = n) : HoldsI w w.heap.size A n rs := by
  refine ⟨hl, fun hn => ?_⟩
  rcases h.2 with ⟨hv, h0⟩ | ⟨g, cap, cur, hv, hg, hh, hc, hm, hs, ht⟩
  · omega
  · injection hv with e1 _ e3
    subst e1 e3
    refine ⟨g, 0, rfl, (Array.getElem?_eq_some_iff.1 hh).1, fun k x hx => ?_⟩
    have hk := (List.getElem?_eq_some_iff.1 hx).1
    rw [Nat.zero_add, cell_of_row _ _ _ _ _ _ hh]
    have hu : (rs.map (Value.int .i64))[k]? = some (.int .i64 x) := by rw [List.getElem?_map, hx]; rfl
    rw [← ht, List.getElem?_take, if_pos (by omega)] at hu
    simpa using hu

/-! What bytes tell, in plain words -/
def wtAt (bs : List UInt8) (i : Nat) : Wt := ((outNum (numFrom bs (20 + 4 * i) 4) : Int), outData (numFrom bs (20 + 4 * i) 4) ((bs.drop ((i + 1) * 256)).take 256))
def rvAt (bs : List UInt8) (n i : Nat) : Int := (numFrom bs (20 + 4 * (n + i)) 4 : Int)
def nW (bs : List UInt8) : Nat := numFrom bs 16 2
def nR (bs : List UInt8) : Nat := numFrom bs 18 2
def tellB (bs : List UInt8) : Bool := decide (512 ≤ bs.length) && (decide (nW bs + nR bs ≤ 58) && decide ((nW bs + 2) * 256 ≤ bs.length))
def tellL (bs : List UInt8) (seq : Nat) : Tx := ⟨seq, (List.range (nW bs)).map (wtAt bs), (List.range (nR bs)).map (rvAt bs (nW bs))⟩
theorem nW_lt (bs : List UInt8) : nW bs < 65536 := numFrom_lt _ _ _
theorem nR_lt (bs : List UInt8) : nR bs < 65536 := numFrom_lt _ _ _
end Go.Proofs.Ytjbelbhcdbbelaa.Rec

namespace Go.Proofs.Ytjbelbhcdbbelaa.Rec
set_option maxRecDepth 20000
open Go.RowKit
open Go.Proofs.Ytjbelbhcdbbelaa.Mem Go.Proofs.Ytjbelbhcdbbelaa.Crc

/-- A call of a Go function as one step of a region that draws its order. -/
theorem step_call_go {w : World} {ops : Array Oper} {o : Oper} {a : Act} {K : Act → World → Prop} {Q : Exit → Act → World → Prop} {E : Prop} (hgd : o.guard = none) (f : FuncId) (fn : Func) (cd : Code) (xs : Array Operand) (ts : Array TypeId)
    (ho : o.op = .call { callee := .value (.func f), args := xs, argTypes := ts }) (hf : Try.prog.funcs[f]? = some fn) (hname : (fn.name == "runtime.NumGoroutine") = false) (hb : fn.body = some cd)
    (vals : Array Value) (hv : xs.map a.eval = vals) (R : Ending → World → Prop) (hc : Calls Try.prog f vals w R)
    (h : ∀ e w', R e w' → ∃ v, e = .returned v ∧ K (a.put o.dst v) w') :
    if Region.wanted o (yielded ops a.tmps) = true then Oper.wp Try.prog o a w K Q else E := by
  have hw : Region.wanted o (yielded ops a.tmps) = true := by simp [Region.wanted, hgd]
  rw [if_pos hw]
  obtain ⟨dst, op, ty, pos, after, guard⟩ := o
  dsimp only at ho
  subst ho
  unfold Oper.wp
  rw [execOp_call_go, hv]
  have hr : (callFunc f (#[] ++ vals ++ #[])).run Try.prog w = .ok (.enter f vals) w := by
    have h1 : fn.name ≠ "runtime.NumGoroutine" := by simpa using hname
    simp [callFunc, hf, h1, hb]
  rw [hr]
  refine hc.mono fun e w' hR => ?_
  obtain ⟨v, rfl, hK⟩ := h e w' hR
  exact hK

theorem step_call3 {w : World} {ops : Array Oper} {o : Oper} {a : Act} {K : Act → World → Prop} {Q : Exit → Act → World → Prop} {E : Prop} (hgd : o.guard = none) (f : FuncId) (fn : Func) (cd : Code) (x0 x1 x2 : Operand) (ts : Array TypeId)
    (ho : o.op = .call { callee := .value (.func f), args := #[x0, x1, x2], argTypes := ts }) (hf : Try.prog.funcs[f]? = some fn) (hname : (fn.name == "runtime.NumGoroutine") = false) (hb : fn.body = some cd)
    (v0 v1 v2 : Value) (h0 : a.eval x0 = v0) (h1 : a.eval x1 = v1) (h2 : a.eval x2 = v2) (R : Ending → World → Prop) (hc : Calls Try.prog f #[v0, v1, v2] w R)
    (h : ∀ e w', R e w' → ∃ v, e = .returned v ∧ K (a.put o.dst v) w') :
    if Region.wanted o (yielded ops a.tmps) = true then Oper.wp Try.prog o a w K Q else E :=
  step_call_go hgd f fn cd _ ts ho hf hname hb _ (by simp only [List.map_toArray, List.map_cons, List.map_nil, h0, h1, h2]) R hc h
theorem step_call2 {w : World} {ops : Array Oper} {o : Oper} {a : Act} {K : Act → World → Prop} {Q : Exit → Act → World → Prop} {E : Prop} (hgd : o.guard = none) (f : FuncId) (fn : Func) (cd : Code) (x0 x1 : Operand) (ts : Array TypeId)
    (ho : o.op = .call { callee := .value (.func f), args := #[x0, x1], argTypes := ts }) (hf : Try.prog.funcs[f]? = some fn) (hname : (fn.name == "runtime.NumGoroutine") = false) (hb : fn.body = some cd)
    (v0 v1 : Value) (h0 : a.eval x0 = v0) (h1 : a.eval x1 = v1) (R : Ending → World → Prop) (hc : Calls Try.prog f #[v0, v1] w R)
    (h : ∀ e w', R e w' → ∃ v, e = .returned v ∧ K (a.put o.dst v) w') :
    if Region.wanted o (yielded ops a.tmps) = true then Oper.wp Try.prog o a w K Q else E :=
  step_call_go hgd f fn cd _ ts ho hf hname hb _ (by simp only [List.map_toArray, List.map_cons, List.map_nil, h0, h1]) R hc h

/-- A record that a call made since w. -/
structure OwnsT (w : World) (base : Nat) (t : Tx) (Aw : Option Addr) (cw : Nat) (Ar : Option Addr) (cr : Nat) (vs : List Value) : Prop where
  ws : OwnsW w base Aw t.ws.length cw t.ws vs
  rs : w.ownsRow base 3 1 (.slice Ar t.rs.length cr) t.rs.length (t.rs.map (Value.int .i64))
theorem ownsRow_mono {w : World} {base b' : Nat} {e : TypeId} {size n : Nat} {v : Value} {xs : List Value} (h : w.ownsRow base e size v n xs) (hb : b' ≤ base) : w.ownsRow b' e size v n xs := by
  obtain ⟨h1, h2⟩ := h
  refine ⟨h1, ?_⟩
  rcases h2 with h2 | ⟨g, cap, cur, e, hg, r⟩
  · exact .inl h2
  · exact .inr ⟨g, cap, cur, e, by omega, r⟩
theorem OwnsW.mono {w : World} {base b' : Nat} {A : Option Addr} {n c : Nat} {ws : List Wt} {vs : List Value} (h : OwnsW w base A n c ws vs) (hb : b' ≤ base) : OwnsW w b' A n c ws vs :=
  ⟨h.cnt, h.len, ownsRow_mono h.row hb, fun k x v hx hv => ownsRow_mono (h.data k x v hx hv) hb, h.apart⟩

theorem OwnsT.kept {w w' : World} {base : Nat} {t : Tx} {Aw Ar : Option Addr} {cw cr : Nat} {vs : List Value} (h : OwnsT w base t Aw cw Ar cr vs) (hk : Kept base w w') : OwnsT w' base t Aw cw Ar cr vs :=
  ⟨h.ws.kept hk, ownsRow_kept h.rs hk⟩
end Go.Proofs.Ytjbelbhcdbbelaa.Rec
