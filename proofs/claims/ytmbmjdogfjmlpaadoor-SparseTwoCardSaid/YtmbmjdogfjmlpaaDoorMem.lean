/- Words for memory, and what the language's own operations do to them: a slice of bytes that reads as a list, a slice that the call has made itself, appends onto it, and the text of bytes. Proved for every world. -/
import Derived.Test.YtmbmjdogfjmlpaaDoorProg
import Derived.WalkKit
import Derived.LoopTactic
import Derived.Below
import Derived.IntWalk
import Derived.OwnWalk
import Derived.Lib.Hide
import Derived.RegionTactic
import Derived.Maps.AppendAt
import Derived.Laws.Rows
import Derived.Laws.NewBlocks
import Derived.Laws.BytesArg
import Derived.Deep.Draws
namespace Go.Proofs.YtmbmjdogfjmlpaaDoor.Mem
open Go.RowKit

/-- A slice of bytes reads as a list: all lies below block B; of an empty one nothing is asked. -/
def Holds (w : World) (B : Nat) (A : Option Addr) (n : Nat) (bs : List UInt8) : Prop :=
  bs.length = n ∧ (0 < n → ∃ b off, A = some ⟨b, off, none⟩ ∧ b < B ∧ ∀ j, (h : j < bs.length) → w.cell? ⟨b, off + j, none⟩ = some (.int .u8 (bs[j].toNat : Int)))

theorem Holds.below {w w' : World} {B : Nat} {A : Option Addr} {n : Nat} {bs : List UInt8} (h : Holds w B A n bs) (hb : Below B w w') : Holds w' B A n bs :=
  ⟨h.1, fun hn => by
    obtain ⟨b, off, e, hl, hc⟩ := h.2 hn
    exact ⟨b, off, e, hl, fun j hj => (hb.cell (p := ⟨b, off + j, none⟩) hl).trans (hc j hj)⟩⟩
theorem Holds.more {w : World} {B B' : Nat} {A : Option Addr} {n : Nat} {bs : List UInt8} (h : Holds w B A n bs) (hB : B ≤ B') : Holds w B' A n bs :=
  ⟨h.1, fun hn => by
    obtain ⟨b, off, e, hl, hc⟩ := h.2 hn
    exact ⟨b, off, e, by omega, hc⟩⟩

theorem Holds.take {w : World} {B : Nat} {A : Option Addr} {n k : Nat} {bs : List UInt8} (h : Holds w B A n bs) (hk : k ≤ n) : Holds w B A k (bs.take k) :=
  ⟨by rw [List.length_take, h.1]; omega, fun h0 => by
    obtain ⟨b, off, e, hl, hc⟩ := h.2 (by omega)
    refine ⟨b, off, e, hl, fun j hj => ?_⟩
    rw [List.length_take] at hj
    rw [List.getElem_take]
    exact hc j (by omega)⟩

/-- An array of n cells, the first i of them laid. -/
def partly (f : Nat → Value) (z : Value) (n i : Nat) : Array Value := (List.ofFn (n := n) fun j => if j.val < i then f j.val else z).toArray
theorem partly_size (f : Nat → Value) (z : Value) (n i : Nat) : (partly f z n i).size = n := by simp [partly]
theorem partly_get (f : Nat → Value) (z : Value) (n i j : Nat) (h : j < i) (hi : j < n) : (partly f z n i)[j]? = some (f j) := by
  simp [partly, hi, h]
theorem partly_set (f : Nat → Value) (z : Value) (n i : Nat) (h : i < n) : (partly f z n i).setIfInBounds i (f i) = partly f z n (i + 1) := by
  apply Array.ext_getElem?
  intro j
  rw [Array.getElem?_setIfInBounds, partly_size]
  by_cases hj : i = j
  · subst hj
    rw [if_pos rfl, if_pos h, partly_get f z n (i + 1) i (by omega) h]
  · rw [if_neg hj]
    by_cases hl : j < n
    · simp only [partly, List.getElem?_toArray, List.getElem?_ofFn, hl]
      by_cases hji : j < i
      · simp [hji, show j < i + 1 by omega]
      · simp [hji, show ¬ j < i + 1 by omega]
    · rw [Array.getElem?_eq_none (by rw [partly_size]; omega), Array.getElem?_eq_none (by rw [partly_size]; omega)]
theorem partly_zero (f : Nat → Value) (z : Value) (n : Nat) : Array.replicate n z = partly f z n 0 := by
  apply Array.ext_getElem?
  intro j
  simp [partly, Array.getElem?_replicate]
  split <;> simp_all

def byteV (c : UInt8) : Value := .int .u8 (c.toNat : Int)
theorem info_u8 : (Tryd.prog.info? 5).map (fun i => (i.zero, i.size, i.bytes)) = some (some (.int .u8 0), 1, 1) := by kernel_rfl

/-- A slice that the call has made itself: it owns its row, which reads as these bytes. -/
def Owned (w : World) (base : Nat) (v : Value) (bs : List UInt8) : Prop := w.ownsRow base 5 1 v bs.length (bs.map byteV)

theorem Owned.base_le {w : World} {base : Nat} {v : Value} {bs : List UInt8} (h : Owned w base v bs) : ∀ k, v.ownBlock = some k → base ≤ k := fun k hk => (World.ownsRow.lt h k hk).1
theorem Owned.keep {w w' : World} {base B : Nat} {v : Value} {bs : List UInt8} (h : Owned w base v bs) (hb : Below B w w') (hB : w.heap.size ≤ B) : Owned w' base v bs := by
  obtain ⟨h1, h2⟩ := h
  refine ⟨h1, ?_⟩
  rcases h2 with h2 | ⟨g, cap, cur, e, hg, hh, r⟩
  · exact .inl h2
  · have hlt : g < w.heap.size := (Array.getElem?_eq_some_iff.1 hh).1
    exact .inr ⟨g, cap, cur, e, hg, (hb.block g (by omega)).trans hh, r⟩
theorem Owned.holds {w : World} {base : Nat} {v : Value} {bs : List UInt8} (h : Owned w base v bs) : ∃ A c, v = .slice A bs.length c ∧ Holds w w.heap.size A bs.length bs := by
  have h0 := h
  obtain ⟨h1, h2⟩ := h
  rcases h2 with ⟨rfl, hn⟩ | ⟨g, cap, cur, rfl, hg, hh, hc, _, hs, ht⟩
  · exact ⟨none, 0, by rw [hn], rfl, fun h => absurd h (by omega)⟩
  · refine ⟨_, _, rfl, rfl, fun _ => ⟨g, 0, rfl, (Array.getElem?_eq_some_iff.1 hh).1, fun j hj => ?_⟩⟩
    rw [Nat.zero_add, World.ownsRow.cellAt h0 j (by omega)]
    simp [hj, byteV]
/-- A row of the call's own that isn't empty: its block, and that a place of it can be written. -/
theorem Owned.row {w : World} {base : Nat} {v : Value} {bs : List UInt8} (h : Owned w base v bs) (hn : 0 < bs.length) :
    ∃ g cap, v = .slice (some ⟨g, 0, none⟩) bs.length cap ∧ base ≤ g ∧ g < w.heap.size ∧ bs.length ≤ cap ∧ ∀ k, (hk : k < bs.length) → w.cell? ⟨g, k, none⟩ = some (byteV bs[k]) ∧ w.frozen? ⟨g, k, none⟩ = false ∧
      ∀ u : UInt8, Owned (w.setCell ⟨g, k, none⟩ (byteV u)) base v (bs.set k u) ∧ Below base w (w.setCell ⟨g, k, none⟩ (byteV u)) := by
  have h0 := h
  obtain ⟨h1, h2⟩ := h
  rcases h2 with ⟨rfl, hz⟩ | ⟨g, cap, cur, rfl, hg, hh, hc, _, hs, ht⟩
  · omega
  · refine ⟨g, cap, rfl, hg, (Array.getElem?_eq_some_iff.1 hh).1, hc, fun k hk => ⟨?_, World.ownsRow.frozenAt h0 k, fun u => ?_⟩⟩
    · rw [World.ownsRow.cellAt h0 k (by omega)]
      simp [hk]
    · obtain ⟨h3, h4⟩ := World.ownsRow.stored h0 k (byteV u)
      refine ⟨?_, (Below.refl base w).setCell hg _⟩
      unfold Owned
      rw [List.length_set, List.map_set]
      exact h3
theorem owned_made (w : World) (bs : List UInt8) (base : Nat) (hb : base ≤ w.heap.size) (hm : bs.length ≤ maxLen) :
    Owned (w.alloc (.cells (bs.map byteV).toArray 5)) base (.slice (some ⟨w.heap.size, 0, none⟩) bs.length bs.length) bs := by
  have h := World.ownsRow_lit (e := 5) (size := 1) w (bs.map byteV).toArray bs.length hb hm (by simp)
  simpa [Owned] using h

set_option maxRecDepth 20000 in
theorem run_addall (w : World) (ty : TypeId) (base : Nat) (v : Value) (bs : List UInt8) (hown : Owned w base v bs) (B : Nat) (A : Option Addr) (m c : Nat) (ys : List UInt8) (hr : Holds w B A m ys)
    (hlen : bs.length + m ≤ 140737488355328) (hbase : base ≤ w.heap.size) :
    ∃ v' w', (Builtin.append_ #[41, 41] ty #[v, .slice A m c]).run Tryd.prog w = .ok v' w' ∧ Owned w' base v' (bs ++ ys) ∧ Below base w w' := by
  obtain ⟨i0, hi, hz0, hz1, hz2⟩ := info_parts info_u8
  obtain ⟨hl, hc⟩ := hr
  have hlt := Owned.base_le hown
  rcases A with _ | ad
  · have hm : m = 0 := by
      rcases Nat.eq_zero_or_pos m with h0 | h0
      · exact h0
      · obtain ⟨b, off, e, _⟩ := hc h0; cases e
    subst hm
    obtain rfl : ys = [] := List.eq_nil_of_length_eq_zero hl
    refine ⟨v, w, ?_, by simpa using hown, Below.refl _ _⟩
    rcases hown.2 with ⟨rfl, _⟩ | ⟨g, cap, cur, rfl, _, _, hnc, _⟩
    · simp [Builtin.append_, run_underlying Tryd.underlying41, sizeOf, typeInfo, hi, Builtin.lenOf, Builtin.firstCells]
    · simp [Builtin.append_, run_underlying Tryd.underlying41, sizeOf, typeInfo, hi, Builtin.lenOf, Builtin.firstCells, hnc, storeCells]
  · have hcells : ∀ j u, (ys.map byteV)[j]? = some u → w.cell? (ad.add j) = some u := by
      intro j u hu
      have hj : j < ys.length := by
        rcases Nat.lt_or_ge j ys.length with h | h
        · exact h
        · rw [List.getElem?_eq_none (by simpa using h)] at hu; cases hu
      obtain ⟨b, off, e, _, hcell⟩ := hc (by omega)
      injection e with e
      subst e
      have hadd : (⟨b, off, none⟩ : Addr).add j = ⟨b, off + j, none⟩ := by unfold Addr.add; split <;> simp_all
      rw [hadd, hcell j hj]
      simpa [byteV, hj] using hu
    obtain ⟨v', w', hrun, h2, h3, _⟩ := run_append_own_at (P := Tryd.prog) w base 41 ty 5 i0 (.int .u8 0) 1 1 Tryd.underlying41 hi hz0 hz1 hz2 rfl (by decide) v bs.length (bs.map byteV) hown ad m c (ys.map byteV) (by simp; omega) hcells
      (by intro u hu; obtain ⟨c, _, rfl⟩ := List.mem_map.1 hu; rfl) (by unfold maxLen; omega) (by omega) hbase
    refine ⟨v', w', hrun, ?_, (Below.refl base w).grown h3 hbase hlt⟩
    unfold Owned
    rw [List.length_append, List.map_append, hl]
    exact h2

/-- 'append(s, x...)' where s is the call's own and x reads as bytes. -/
theorem wpList_addall {w : World} {ops : Array Oper} {rest : List Oper} {o : Oper} {a : Act} {Q : Exit → Act → World → Prop} (hgd : o.guard = none) (s x : Operand)
    (ho : o.op = .call { callee := .builtin .append, args := #[s, x], argTypes := #[41, 41] })
    (base : Nat) (v : Value) (bs : List UInt8) (hs : a.eval s = v) (hown : Owned w base v bs) (B : Nat) (A : Option Addr) (m c : Nat) (ys : List UInt8) (hx : a.eval x = .slice A m c) (hr : Holds w B A m ys)
    (hlen : bs.length + m ≤ 140737488355328) (hbase : base ≤ w.heap.size)
    (h : ∀ v' w', Owned w' base v' (bs ++ ys) → Below base w w' → wpList Tryd.prog ops Q rest (a.put o.dst v') w') : wpList Tryd.prog ops Q (o :: rest) a w := by
  refine wpList_plain hgd fun K hK => ?_
  obtain ⟨v', w', hrun, h2, h3⟩ := run_addall w o.type base v bs hown B A m c ys hr hlen hbase
  unfold Oper.wp execOp
  simp only [ho, resolve, invoke, builtin, Sem.run_bind, Sem.run_pure, Result.andThen_ok, List.map_toArray, List.map_cons, List.map_nil, hs, hx, hrun]
  exact hK _ _ (h v' w' h2 h3)

/-- The same as one step of a statement that draws its order. -/
theorem step_addall {w : World} {ops : Array Oper} {o : Oper} {a : Act} {K : Act → World → Prop} {Q : Exit → Act → World → Prop} {E : Prop} (hgd : o.guard = none) (s x : Operand)
    (ho : o.op = .call { callee := .builtin .append, args := #[s, x], argTypes := #[41, 41] })
    (base : Nat) (v : Value) (bs : List UInt8) (hs : a.eval s = v) (hown : Owned w base v bs) (B : Nat) (A : Option Addr) (m c : Nat) (ys : List UInt8) (hx : a.eval x = .slice A m c) (hr : Holds w B A m ys)
    (hlen : bs.length + m ≤ 140737488355328) (hbase : base ≤ w.heap.size)
    (h : ∀ v' w', Owned w' base v' (bs ++ ys) → Below base w w' → K (a.put o.dst v') w') : if Region.wanted o (yielded ops a.tmps) = true then Oper.wp Tryd.prog o a w K Q else E := by
  have hw : Region.wanted o (yielded ops a.tmps) = true := by simp [Region.wanted, hgd]
  rw [if_pos hw]
  obtain ⟨v', w', hrun, h2, h3⟩ := run_addall w o.type base v bs hown B A m c ys hr hlen hbase
  unfold Oper.wp execOp
  simp only [ho, resolve, invoke, builtin, Sem.run_bind, Sem.run_pure, Result.andThen_ok, List.map_toArray, List.map_cons, List.map_nil, hs, hx, hrun]
  exact h v' w' h2 h3

/-- 'append(s, c)': c was laid in a block of its own first. -/
theorem wpList_addone {w : World} {ops : Array Oper} {rest : List Oper} {o : Oper} {a : Act} {Q : Exit → Act → World → Prop} (hgd : o.guard = none) (s x : Operand)
    (ho : o.op = .call { callee := .builtin .append, args := #[s, x], argTypes := #[41, 41] })
    (base : Nat) (v : Value) (bs : List UInt8) (hs : a.eval s = v) (hown : Owned w base v bs) (u : UInt8) (U : Value) (hU : U = byteV u) (hx : a.eval x = .slice (some ⟨w.heap.size, 0, none⟩) 1 1)
    (hlen : bs.length + 1 ≤ 140737488355328) (hbase : base ≤ w.heap.size)
    (h : ∀ v' w', Owned w' base v' (bs ++ [u]) → Below base w w' → wpList Tryd.prog ops Q rest (a.put o.dst v') w') : wpList Tryd.prog ops Q (o :: rest) a (w.alloc (.cells #[U] 5)) := by
  subst hU
  have hc : (w.alloc (.cells #[byteV u] 5)).cell? ⟨w.heap.size, 0, none⟩ = some (byteV u) := by
    rw [cell_of_row _ _ _ _ _ _ (heap_alloc_new w _)]; rfl
  exact wpList_addall hgd s x ho base v bs hs (World.ownsRow.alloc hown _) (w.heap.size + 1) _ 1 1 [u] hx
    ⟨rfl, fun _ => ⟨w.heap.size, 0, rfl, by omega, fun j hj => by
      have : j = 0 := by simpa using hj
      subst this; exact hc⟩⟩ hlen (by simp; omega) (fun v' w' h1 h2 => h v' w' h1 (((Below.refl base w).alloc hbase _).trans h2))

/-- The same behind the draw of a statement whose order is open. -/
theorem step_addone {w : World} {ops : Array Oper} {o : Oper} {a : Act} {K : Act → World → Prop} {Q : Exit → Act → World → Prop} {E : Prop} (hgd : o.guard = none) (s x : Operand)
    (ho : o.op = .call { callee := .builtin .append, args := #[s, x], argTypes := #[41, 41] })
    (base : Nat) (v : Value) (bs : List UInt8) (hs : a.eval s = v) (hown : Owned w base v bs) (u : UInt8) (U : Value) (hU : U = byteV u) (hx : a.eval x = .slice (some ⟨w.heap.size, 0, none⟩) 1 1)
    (hlen : bs.length + 1 ≤ 140737488355328) (hbase : base ≤ w.heap.size)
    (h : ∀ v' w', Owned w' base v' (bs ++ [u]) → Below base w w' → K (a.put o.dst v') w') :
    if Region.wanted o (yielded ops a.tmps) = true then Oper.wp Tryd.prog o a (w.alloc (.cells #[U] 5)).drew K Q else E := by
  subst hU
  have hc : (w.alloc (.cells #[byteV u] 5)).drew.cell? ⟨w.heap.size, 0, none⟩ = some (byteV u) := by
    show (w.alloc (.cells #[byteV u] 5)).cell? _ = _
    rw [cell_of_row _ _ _ _ _ _ (heap_alloc_new w _)]; rfl
  have hown' : Owned (w.alloc (.cells #[byteV u] 5)).drew base v bs := World.ownsRow.alloc hown _
  exact step_addall hgd s x ho base v bs hs hown' (w.heap.size + 1) _ 1 1 [u] hx
    ⟨rfl, fun _ => ⟨w.heap.size, 0, rfl, by omega, fun j hj => by
      have : j = 0 := by simpa using hj
      subst this; exact hc⟩⟩ hlen (by show base ≤ (w.alloc _).heap.size; simp; omega) (fun v' w' h1 h2 => h v' w' h1 (((Below.refl base w).alloc hbase _).drew.trans h2))

/-- 'string(b)'. -/
theorem run_text (w : World) (B : Nat) (A : Option Addr) (n c : Nat) (bs : List UInt8) (h : Holds w B A n bs) :
    (convert 41 9 (.slice A n c)).run Tryd.prog w = .ok (.string ⟨bs.toArray⟩) w := by
  obtain ⟨hl, hc⟩ := h
  subst hl
  rcases A with _ | ad
  · have hn : bs = [] := by
      rcases Nat.eq_zero_or_pos bs.length with h0 | h0
      · exact List.eq_nil_of_length_eq_zero h0
      · obtain ⟨b, off, e, _⟩ := hc h0; cases e
    subst hn
    exact run_convert_bytes_nil w 41 5 Tryd.underlying41 Tryd.underlying5 _ _ _ Tryd.underlying9
  · have hcells : (loadCells ad bs.length).run Tryd.prog w = .ok ((bs.map fun c => (c.toNat : Int)).map (Value.int .u8)).toArray w := by
      have := run_loadCells_list (P := Tryd.prog) w ad ((bs.map fun c => (c.toNat : Int)).map (Value.int .u8)) (fun j v hj => by
        have hlt : j < bs.length := by
          rcases Nat.lt_or_ge j bs.length with h | h
          · exact h
          · rw [List.getElem?_eq_none (by simpa using h)] at hj; cases hj
        obtain ⟨b, off, e, _, hcell⟩ := hc (by omega)
        injection e with e
        subst e
        have hadd : (⟨b, off, none⟩ : Addr).add j = ⟨b, off + j, none⟩ := by unfold Addr.add; split <;> simp_all
        rw [hadd, hcell j hlt]
        simpa [hlt] using hj)
      simpa using this
    rw [run_convert_bytes_string w 41 9 5 _ _ _ Tryd.underlying41 Tryd.underlying5 Tryd.underlying9, run_bytesToString w ad _ c _ hcells, foldl_push_bytes]
    have e : ((bs.map fun c => (c.toNat : Int)).map fun n => UInt8.ofNat n.toNat) = bs := by
      rw [List.map_map]
      have : ((fun n : Int => UInt8.ofNat n.toNat) ∘ fun c : UInt8 => (c.toNat : Int)) = id := funext fun c => by simp
      rw [this, List.map_id]
    rw [e]
    simp [ByteArray.empty, ByteArray.emptyWithCapacity]
    rfl

/-- Bytes laid as a literal. -/
theorem holds_lit (w : World) (bs : List UInt8) (cs : Array Value) (h : cs = (bs.map byteV).toArray) (fr : Nat × Nat := (0, 0)) : Holds (w.alloc (.cells cs 5 fr)) (w.heap.size + 1) (some ⟨w.heap.size, 0, none⟩) bs.length bs := by
  subst h
  refine ⟨rfl, fun _ => ⟨w.heap.size, 0, rfl, by omega, fun j hj => ?_⟩⟩
  rw [cell_of_row _ _ _ _ _ _ (heap_alloc_new w _)]
  simp [hj, byteV]

end Go.Proofs.YtmbmjdogfjmlpaaDoor.Mem
