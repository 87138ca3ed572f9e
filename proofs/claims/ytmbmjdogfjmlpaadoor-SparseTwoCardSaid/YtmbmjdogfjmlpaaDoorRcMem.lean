/- Words for a record in memory: bytes that a call has made, a slice that was cut, and copies and clearings within bytes of the call's own. Proved for every world. -/
import Derived.Test.YtmbmjdogfjmlpaaDoorMem
import Derived.Lib.SliceRun
import Derived.Laws.CopyOwn
import Derived.Lib.BufferWrite
import Derived.Deep.RegionLaw
import Derived.Deep.OwnRows
namespace Go.Proofs.YtmbmjdogfjmlpaaDoor.Rec
set_option maxRecDepth 20000
open Go.RowKit
open Go.Proofs.YtmbmjdogfjmlpaaDoor.Mem

/-- New memory that reads as these bytes. -/
def Made (w : World) (bs : List UInt8) (e : Ending) (w' : World) : Prop := ∃ A c, e = .returned (.slice A bs.length c) ∧ Owned w' w.heap.size (.slice A bs.length c) bs ∧ Below w.heap.size w w'

theorem Owned.shape {w : World} {base : Nat} {v : Value} {bs : List UInt8} (h : Owned w base v bs) : ∃ A c, v = .slice A bs.length c := by
  obtain ⟨A, c, e, _⟩ := Owned.holds h
  exact ⟨A, c, e⟩
theorem Owned.reads {w : World} {base : Nat} {A : Option Addr} {n c : Nat} {bs : List UInt8} (h : Owned w base (.slice A n c) bs) : Holds w w.heap.size A n bs := by
  obtain ⟨A', c', hv, hh⟩ := Owned.holds h
  injection hv with e1 e2 _
  rw [e1, e2]; exact hh
theorem Owned.len {w : World} {base : Nat} {A : Option Addr} {n c : Nat} {bs : List UInt8} (h : Owned w base (.slice A n c) bs) : n = bs.length := by
  obtain ⟨A', c', hv, hh⟩ := Owned.holds h
  injection hv
theorem Owned.fits {w : World} {base : Nat} {A : Option Addr} {n c : Nat} {bs : List UInt8} (h : Owned w base (.slice A n c) bs) : n ≤ c ∧ c ≤ maxLen := by
  rcases h.2 with ⟨hv, hn⟩ | ⟨g, cap, cur, hv, _, _, h1, h2, _⟩
  · injection hv with _ e2 e3; subst e2 e3; exact ⟨Nat.le_refl _, Nat.zero_le _⟩
  · injection hv with _ e2 e3; subst e2 e3; exact ⟨h1, h2⟩
/-- The row of bytes of one's own. -/
theorem Owned.cut {w : World} {base : Nat} {v : Value} {bs : List UInt8} (h : Owned w base v bs) (hn : 0 < bs.length) :
    ∃ g cap cur, v = .slice (some ⟨g, 0, none⟩) bs.length cap ∧ base ≤ g ∧ g < w.heap.size ∧ w.heap[g]? = some (.cells cur 5 (0, 0)) ∧ bs.length ≤ cap ∧ cap ≤ maxLen ∧ cur.size = cap ∧ cur.toList.take bs.length = bs.map byteV := by
  rcases h.2 with ⟨rfl, hz⟩ | ⟨g, cap, cur, rfl, hg, hh, hc, hm, hs, ht⟩
  · omega
  · exact ⟨g, cap, cur, rfl, hg, (Array.getElem?_eq_some_iff.1 hh).1, hh, hc, hm, by simpa using hs, by simpa using ht⟩

theorem Owned.mono {w : World} {base b' : Nat} {v : Value} {bs : List UInt8} (h : Owned w base v bs) (hb : b' ≤ base) : Owned w b' v bs := by
  obtain ⟨h1, h2⟩ := h
  refine ⟨h1, ?_⟩
  rcases h2 with h2 | ⟨g, cap, cur, e, hg, r⟩
  · exact .inl h2
  · exact .inr ⟨g, cap, cur, e, by omega, r⟩
theorem Owned.other {w : World} {base r j : Nat} {v u : Value} {bs : List UInt8} (h : Owned w base v bs) (hne : ∀ k, v.ownBlock = some k → k ≠ r) : Owned (w.setCell ⟨r, j, none⟩ u) base v bs :=
  World.ownsRow.kept h (Lib.grownBy_setCell w r j u) (.inr fun e => hne r e rfl)

/-- Bytes laid over others from a place on. -/
def over (bs : List UInt8) (k : Nat) (ys : List UInt8) : List UInt8 := bs.take k ++ (ys ++ bs.drop (k + ys.length))
theorem over_len (bs : List UInt8) (k : Nat) (ys : List UInt8) (h : k + ys.length ≤ bs.length) : (over bs k ys).length = bs.length := by simp [over]; omega

theorem Owned.laid {w w' : World} {base g cap : Nat} {bs ys : List UInt8} {k : Nat} (h : Owned w base (.slice (some ⟨g, 0, none⟩) bs.length cap) bs) (hk : k + ys.length ≤ bs.length)
    (cur : Array Value) (hg : w.heap[g]? = some (.cells cur 5 (0, 0))) (hg' : w'.heap[g]? = some (.cells (cur.toList.take k ++ (ys.map byteV ++ cur.toList.drop (k + ys.length))).toArray 5 (0, 0))) :
    Owned w' base (.slice (some ⟨g, 0, none⟩) bs.length cap) (over bs k ys) := by
  have hlen := over_len bs k ys hk
  rcases h.2 with ⟨hv, _⟩ | ⟨g1, cap1, cur1, hv, hb, hh, hc, hm, hs, ht⟩
  · cases hv
  · injection hv with e1 e2 e3
    injection e1 with e1
    injection e1 with e1
    subst e1 e3
    rw [hg] at hh
    injection hh with hh
    injection hh with hh
    subst hh
    rw [Nat.mul_one] at ht hs
    have hcl : bs.length ≤ cur.toList.length := by simpa [hs] using hc
    refine ⟨by simp [hlen], .inr ⟨g, cap, _, by rw [hlen], hb, hg', by rw [hlen]; omega, hm, ?_, ?_⟩⟩
    · simp only [List.size_toArray, List.length_append, List.length_take, List.length_map, List.length_drop, Array.length_toList] at hcl ⊢
      omega
    · rw [Nat.mul_one, hlen, List.toList_toArray]
      have e : (over bs k ys).map byteV = (bs.map byteV).take k ++ (ys.map byteV ++ (bs.map byteV).drop (k + ys.length)) := by
        simp [over, List.map_take, List.map_drop]
      rw [e, ← ht]
      apply List.ext_getElem?
      intro j
      simp only [List.getElem?_take, List.getElem?_append, List.length_take, List.length_map, List.getElem?_drop]
      rw [Nat.min_eq_left (show k ≤ cur.toList.length by omega), Nat.min_eq_left (show k ≤ min bs.length cur.toList.length by omega)]
      by_cases hj : j < bs.length
      · simp only [hj, if_true]
        by_cases h1 : j < k
        · simp only [h1, if_true]
        · simp only [h1, if_false]
          by_cases h2 : j - k < ys.length
          · simp only [h2, if_true]
          · simp only [h2, if_false]
            rw [if_pos (by omega)]
      · simp only [hj, if_false]
        rw [if_neg (by omega), if_neg (by omega), if_neg (by omega)]

/-- 'copy(d[k:..], x)', d being bytes of one's own and x reading as bytes that fit. -/
theorem run_copy_bytes (w : World) (ty : TypeId) (base g n cap : Nat) (bs ys : List UInt8) (k dl dc : Nat) (h : Owned w base (.slice (some ⟨g, 0, none⟩) n cap) bs)
    (B : Nat) (A : Option Addr) (m c : Nat) (hr : Holds w B A m ys) (h0 : 0 < m) (hd : m ≤ dl) (hk : k + m ≤ n) :
    ∃ w', (Builtin.copy_ #[41, 41] ty #[.slice (some ⟨g, k, none⟩) dl dc, .slice A m c]).run Tryd.prog w = .ok (goInt m) w' ∧ Owned w' base (.slice (some ⟨g, 0, none⟩) n cap) (over bs k ys) ∧ Below base w w' := by
  obtain rfl : ys.length = m := hr.1
  obtain rfl : n = bs.length := Owned.len h
  obtain ⟨b, off, rfl, _, hcell⟩ := hr.2 h0
  obtain ⟨g', cap', cur, hv, hb, hgl, hg, hc1, hc2, hc3, hc4⟩ := Owned.cut h (by omega)
  injection hv with e1 e2 e3
  injection e1 with e1
  injection e1 with e1
  subst e1 e3
  have hrun := run_copy_row (P := Tryd.prog) w 41 41 ty 5 g k dl dc ⟨b, off, none⟩ ys.length c cur 5 (ys.map byteV) Tryd.underlying41 (by kernel_rfl) hg (by simp; exact (Nat.min_eq_left hd).symm)
    (by
      intro j v hj
      have hlt : j < ys.length := by
        have := (List.getElem?_eq_some_iff.1 hj).1
        simpa using this
      have hadd : (⟨b, off, none⟩ : Addr).add j = ⟨b, off + j, none⟩ := by unfold Addr.add; split <;> simp_all
      rw [hadd, hcell j hlt]
      simpa [byteV, hlt] using hj)
    (by simp; omega) (by intro v hv; obtain ⟨u, _, rfl⟩ := List.mem_map.1 hv; rfl)
  simp only [List.length_map] at hrun
  rw [List.append_assoc] at hrun
  refine ⟨_, hrun, Owned.laid h hk cur hg (setRow_heap w g _ _ _ _ hg), below_setRow (Below.refl base w) hb _⟩

/-- 'copy(d, "..")'. -/
theorem run_copy_const (w : World) (ty : TypeId) (base g n cap : Nat) (bs ys : List UInt8) (dl dc : Nat) (h : Owned w base (.slice (some ⟨g, 0, none⟩) n cap) bs) (h0 : 0 < ys.length) (hd : ys.length ≤ dl) (hk : ys.length ≤ n) :
    ∃ w', (Builtin.copy_ #[41, 9] ty #[.slice (some ⟨g, 0, none⟩) dl dc, .string ⟨ys.toArray⟩]).run Tryd.prog w = .ok (goInt ys.length) w' ∧ Owned w' base (.slice (some ⟨g, 0, none⟩) n cap) (over bs 0 ys) ∧ Below base w w' := by
  obtain rfl : n = bs.length := Owned.len h
  obtain ⟨g', cap', cur, hv, hb, hgl, hg, hc1, hc2, hc3, hc4⟩ := Owned.cut h (by omega)
  injection hv with e1 e2 e3
  injection e1 with e1
  injection e1 with e1
  subst e1 e3
  have hsz : (⟨ys.toArray⟩ : ByteArray).size = ys.length := by simp [ByteArray.size]
  have hrun := Lib.run_copy_row_string (P := Tryd.prog) w 41 9 ty 5 g 0 dl dc ⟨ys.toArray⟩ cur 5 Tryd.underlying41 (by kernel_rfl) hg (by rw [hsz]; exact hd) (by rw [hsz]; omega)
  rw [hsz] at hrun
  refine ⟨_, hrun, Owned.laid (k := 0) h (by omega) cur hg ?_, below_setRow (Below.refl base w) hb _⟩
  rw [setRow_heap w g _ _ _ _ hg]
  congr 2

theorem setCells_heap (g : Nat) : ∀ (vs : List Value) (o : Nat) (w : World) (cur : Array Value) (t : TypeId), w.heap[g]? = some (.cells cur t (0, 0)) → o + vs.length ≤ cur.size →
    (w.setCells g o vs).heap[g]? = some (.cells (cur.toList.take o ++ (vs ++ cur.toList.drop (o + vs.length))).toArray t (0, 0))
  | [], o, w, cur, t, h, hl => by
    show w.heap[g]? = _
    rw [h]; simp
  | v :: vs, o, w, cur, t, h, hl => by
    have hl' : o + (vs.length + 1) ≤ cur.size := hl
    have h1 : (w.setCell ⟨g, o, none⟩ v).heap[g]? = some (.cells (cur.setIfInBounds o v) t (0, 0)) := heap_setCell_same w g o _ _ _ h
    have ih := setCells_heap g vs (o + 1) (w.setCell ⟨g, o, none⟩ v) _ t h1 (by rw [Array.size_setIfInBounds]; omega)
    show ((w.setCell ⟨g, o, none⟩ v).setCells g (o + 1) vs).heap[g]? = _
    rw [ih]
    congr 2
    apply Array.ext_getElem?
    intro j
    simp only [List.getElem?_toArray, Array.toList_setIfInBounds, List.getElem?_append, List.length_take, List.length_set, List.getElem?_take, List.getElem?_drop, List.getElem?_set, List.length_cons, Array.length_toList]
    rw [Nat.min_eq_left (show o + 1 ≤ cur.size by omega), Nat.min_eq_left (show o ≤ cur.size by omega)]
    by_cases a1 : j < o
    · simp [show j < o + 1 by omega, a1, show ¬ o = j by omega]
    · by_cases a2 : j = o
      · subst a2
        simp [show j < cur.size by omega]
      · simp only [show ¬ j < o + 1 by omega, a1, if_false]
        by_cases a3 : j - o < vs.length + 1
        · simp only [show j - (o + 1) < vs.length by omega, a3, if_true]
          rw [show j - o = j - (o + 1) + 1 by omega, List.getElem?_cons_succ]
        · simp only [show ¬ j - (o + 1) < vs.length by omega, a3, if_false]
          rw [if_neg (by omega), show o + 1 + vs.length + (j - (o + 1) - vs.length) = o + (vs.length + 1) + (j - o - (vs.length + 1)) by omega]
theorem setCells_below (g : Nat) : ∀ (vs : List Value) (o : Nat) (w a : World) (B : Nat), B ≤ g → Below B a w → Below B a (w.setCells g o vs)
  | [], _, _, _, _, _, h => h
  | v :: vs, o, w, a, B, hb, h => setCells_below g vs (o + 1) (w.setCell ⟨g, o, none⟩ v) a B hb (h.setCell (by exact hb) v)

/-- 'clear(d[:m])'. -/
theorem run_clear_bytes (w : World) (ty : TypeId) (base g n cap : Nat) (bs : List UInt8) (m c : Nat) (h : Owned w base (.slice (some ⟨g, 0, none⟩) n cap) bs) (h0 : 0 < m) (hk : m ≤ n) :
    ∃ w', (Builtin.clear_ #[41] ty #[.slice (some ⟨g, 0, none⟩) m c]).run Tryd.prog w = .ok (.tuple #[]) w' ∧ Owned w' base (.slice (some ⟨g, 0, none⟩) n cap) (over bs 0 (List.replicate m 0)) ∧ Below base w w' := by
  obtain rfl : n = bs.length := Owned.len h
  obtain ⟨g', cap', cur, hv, hb, hgl, hg, hc1, hc2, hc3, hc4⟩ := Owned.cut h (by omega)
  injection hv with e1 e2 e3
  injection e1 with e1
  injection e1 with e1
  subst e1 e3
  obtain ⟨i0, hi, hz0, hz1, hz2⟩ := info_parts info_u8
  have hzv : ∀ w, (zeroValue 5).run Tryd.prog w = .ok (.int .u8 0) w := fun w => by simp [zeroValue, typeInfo, hi, hz0]
  have hrun := Lib.run_clear_slice (P := Tryd.prog) w 41 5 ty (.int .u8 0) Tryd.underlying41 hzv rfl rfl g 0 m c h0
    (fun j hj => by rw [Nat.zero_add, cell_of_row _ _ _ _ _ _ hg, Array.getElem?_eq_getElem (by omega)]; rfl) (fun j hj => frozen_of_row _ _ _ _ _ hg)
  refine ⟨_, hrun, Owned.laid (k := 0) h (by simp; omega) cur hg ?_, setCells_below g _ _ _ _ _ hb (Below.refl base w)⟩
  rw [setCells_heap g _ 0 w cur _ hg (by simp; omega)]
  simp [byteV]

/-- A copy's, or a clearing's, run taken as one step. -/
theorem wpList_copyrun {w : World} {ops : Array Oper} {rest : List Oper} {o : Oper} {a : Act} {Q : Exit → Act → World → Prop} (hgd : o.guard = none) (d x : Operand) (dT sT : TypeId)
    (ho : o.op = .call { callee := .builtin .copy, args := #[d, x], argTypes := #[dT, sT] }) (v : Value) (w' : World) (hrun : (Builtin.copy_ #[dT, sT] o.type #[a.eval d, a.eval x]).run Tryd.prog w = .ok v w')
    (h : wpList Tryd.prog ops Q rest (a.put o.dst v) w') : wpList Tryd.prog ops Q (o :: rest) a w := by
  refine wpList_plain hgd fun K hK => ?_
  unfold Oper.wp execOp
  simp only [ho, resolve, invoke, builtin, Sem.run_bind, Sem.run_pure, Result.andThen_ok, List.map_toArray, List.map_cons, List.map_nil, hrun]
  exact hK _ _ h
theorem wpList_clearrun {w : World} {ops : Array Oper} {rest : List Oper} {o : Oper} {a : Act} {Q : Exit → Act → World → Prop} (hgd : o.guard = none) (d : Operand) (dT : TypeId)
    (ho : o.op = .call { callee := .builtin .clear, args := #[d], argTypes := #[dT] }) (v : Value) (w' : World) (hrun : (Builtin.clear_ #[dT] o.type #[a.eval d]).run Tryd.prog w = .ok v w')
    (h : wpList Tryd.prog ops Q rest (a.put o.dst v) w') : wpList Tryd.prog ops Q (o :: rest) a w := by
  refine wpList_plain hgd fun K hK => ?_
  unfold Oper.wp execOp
  simp only [ho, resolve, invoke, builtin, Sem.run_bind, Sem.run_pure, Result.andThen_ok, List.map_toArray, List.map_cons, List.map_nil, hrun]
  exact hK _ _ h
theorem step_copyrun {w : World} {ops : Array Oper} {o : Oper} {a : Act} {K : Act → World → Prop} {Q : Exit → Act → World → Prop} {E : Prop} (hgd : o.guard = none) (d x : Operand) (dT sT : TypeId)
    (ho : o.op = .call { callee := .builtin .copy, args := #[d, x], argTypes := #[dT, sT] }) (v : Value) (w' : World) (hrun : (Builtin.copy_ #[dT, sT] o.type #[a.eval d, a.eval x]).run Tryd.prog w = .ok v w')
    (h : K (a.put o.dst v) w') : if Region.wanted o (yielded ops a.tmps) = true then Oper.wp Tryd.prog o a w K Q else E := by
  have hw : Region.wanted o (yielded ops a.tmps) = true := by simp [Region.wanted, hgd]
  rw [if_pos hw]
  unfold Oper.wp execOp
  simp only [ho, resolve, invoke, builtin, Sem.run_bind, Sem.run_pure, Result.andThen_ok, List.map_toArray, List.map_cons, List.map_nil, hrun]
  exact h

/-- A part of a slice that reads. -/
theorem Holds.drop {w : World} {B : Nat} {b off n k m : Nat} {bs : List UInt8} (h : Holds w B (some ⟨b, off, none⟩) n bs) (hk : k + m ≤ n) : Holds w B (some ⟨b, off + k, none⟩) m ((bs.drop k).take m) :=
  ⟨by rw [List.length_take, List.length_drop, h.1]; omega, fun h0 => by
    obtain ⟨b', off', e, hl, hc⟩ := h.2 (by omega)
    injection e with e
    injection e with e1 e2
    subst e1 e2
    refine ⟨_, _, rfl, hl, fun j hj => ?_⟩
    have hj' : j < m := by rw [List.length_take] at hj; omega
    rw [List.getElem_take, List.getElem_drop, Nat.add_assoc]
    exact hc (k + j) (by rw [h.1]; omega)⟩
theorem Holds.addr {w : World} {B : Nat} {A : Option Addr} {n : Nat} {bs : List UInt8} (h : Holds w B A n bs) (h0 : 0 < n) : ∃ b off, A = some ⟨b, off, none⟩ := by
  obtain ⟨b, off, e, _⟩ := h.2 h0
  exact ⟨b, off, e⟩

theorem run_makeZ (n : Nat) (hn : n ≤ 281474976710656) (W : World) : (Instr.makeSlice 41 (.int .i64 (n : Int)) (.int .i64 (n : Int))).run Tryd.prog W = .ok (.slice (some ⟨W.heap.size, 0, none⟩) n n) (W.alloc (.cells ((List.replicate n (0 : UInt8)).map byteV).toArray 5)) := by
  rw [run_make_row' 41 5 (.int .u8 0) 1 Tryd.underlying41 info_u8 rfl .i64 .i64 n (by omega) (by omega) W]
  congr 3
  apply Array.ext_getElem?
  intro j
  simp only [madeCells, byteV, Array.getElem?_map, List.map_replicate, List.getElem?_toArray, List.getElem?_replicate]
  by_cases hj : j < n
  · have : j % 1 = 0 := by omega
    simp [hj, this]
  · simp [hj]
end Go.Proofs.YtmbmjdogfjmlpaaDoor.Rec
