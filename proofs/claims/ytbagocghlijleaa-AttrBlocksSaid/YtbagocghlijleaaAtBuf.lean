/- Bytes appended in place, in a block with room for 256. -/
import Derived.Test.YtbagocghlijleaaAtRight
import Derived.Laws.AppendOwn
import Derived.Lib.AppendStr
import Derived.Lib.AppendZeros
import Derived.Laws.MakeOwn
namespace Go.Proofs.Ytbagocghlijleaa.At
set_option maxRecDepth 20000
open Go.RowKit
open Go.Proofs.Ytbagocghlijleaa.Mem Go.Proofs.Ytbagocghlijleaa.Crc Go.Proofs.Ytbagocghlijleaa.Rec Go.Proofs.Ytbagocghlijleaa.Reg
open Go.Proofs.Ytbagocghlijleaa.Lf (less zeros)

/-- What turns the blocks g and r alone, of those that were there. -/
structure Tn (g r : Nat) (w w' : World) : Prop where
  os : w'.os = w.os
  tape : w'.tape = w.tape
  output : w'.output = w.output
  size : w.heap.size ≤ w'.heap.size
  block : ∀ k, k < w.heap.size → k ≠ g → k ≠ r → w'.heap[k]? = w.heap[k]?
theorem Tn.refl (g r : Nat) (w : World) : Tn g r w w := ⟨rfl, rfl, rfl, Nat.le_refl _, fun _ _ _ _ => rfl⟩
theorem Tn.trans {g r : Nat} {a b c : World} (h : Tn g r a b) (k : Tn g r b c) : Tn g r a c :=
  ⟨k.os.trans h.os, k.tape.trans h.tape, k.output.trans h.output, Nat.le_trans h.size k.size, fun i hi h1 h2 => (k.block i (Nat.lt_of_lt_of_le hi h.size) h1 h2).trans (h.block i hi h1 h2)⟩
theorem Tn.of_below {g r : Nat} {w w' : World} (h : Below w.heap.size w w') : Tn g r w w' := ⟨h.os, h.tape, h.output, h.size, fun i hi _ _ => h.block i hi⟩
theorem Tn.below {g r B : Nat} {w w' : World} (h : Tn g r w w') (hB : B ≤ w.heap.size) (hg : B ≤ g) (hr : B ≤ r) : Below B w w' :=
  ⟨h.os, h.tape, h.output, h.size, fun i hi => h.block i (by omega) (by omega) (by omega)⟩
theorem Tn.setRow (g r : Nat) (w : World) (cs : Array Value) : Tn g r w (w.setRow r cs) :=
  ⟨rfl, rfl, rfl, by simp [World.setRow], fun i _ _ h2 => setRow_other w r i cs h2⟩
theorem Tn.setCell (g r : Nat) (w : World) (v : Value) : Tn g r w (w.setCell ⟨g, 0, none⟩ v) :=
  ⟨rfl, rfl, rfl, by simp, fun i _ h1 _ => heap_setCell_other w ⟨g, 0, none⟩ i v h1⟩

/-- The block r has room for 256 bytes, the first of which are these. -/
def RowB (w : World) (r : Nat) (bs : List UInt8) : Prop := bs.length ≤ 256 ∧ ∃ cur, w.heap[r]? = some (.cells cur 5 (0, 0)) ∧ cur.size = 256 ∧ cur.toList.take bs.length = bs.map byteV
def slB (r n : Nat) : Value := .slice (some ⟨r, 0, none⟩) n 256
theorem RowB.lt {w : World} {r : Nat} {bs : List UInt8} (h : RowB w r bs) : r < w.heap.size := by
  obtain ⟨_, cur, hg, _⟩ := h
  exact (Array.getElem?_eq_some_iff.1 hg).1
theorem RowB.keep {w w' : World} {r : Nat} {bs : List UInt8} (h : RowB w r bs) (hb : w'.heap[r]? = w.heap[r]?) : RowB w' r bs := by
  obtain ⟨h1, cur, hg, h2⟩ := h
  exact ⟨h1, cur, hb.trans hg, h2⟩
theorem RowB.below {w w' : World} {r : Nat} {bs : List UInt8} (h : RowB w r bs) (hb : Below w.heap.size w w') : RowB w' r bs := h.keep (hb.block _ h.lt)
theorem RowB.owned {w : World} {r base : Nat} {bs : List UInt8} (h : RowB w r bs) (hb : base ≤ r) : Owned w base (.slice (some ⟨r, 0, none⟩) bs.length 256) bs := by
  obtain ⟨h1, cur, hg, h2, h3⟩ := h
  exact ⟨by simp, .inr ⟨r, 256, cur, rfl, hb, hg, h1, by unfold maxLen; omega, by simp [h2], by simpa using h3⟩⟩
theorem RowB.reads {w : World} {r : Nat} {bs : List UInt8} (h : RowB w r bs) : Holds w w.heap.size (some ⟨r, 0, none⟩) bs.length bs := Owned.reads (h.owned (Nat.zero_le _))
theorem take_vals {n : Nat} (a b : List Value) (h : a.length = n) : (a ++ b).take n = a := by rw [← h, List.take_left']; rfl
/-- The row, with more laid behind. -/
theorem RowB.laid {w : World} {r : Nat} {bs ys : List UInt8} (h : RowB w r bs) (hl : bs.length + ys.length ≤ 256) :
    ∀ cur, w.heap[r]? = some (.cells cur 5 (0, 0)) → RowB (w.setRow r (cur.toList.take bs.length ++ ys.map byteV ++ cur.toList.drop (bs.length + ys.length)).toArray) r (bs ++ ys) := by
  obtain ⟨h1, cur', hg, h2, h3⟩ := h
  intro cur hg'
  rw [hg] at hg'
  injection hg' with hg'
  injection hg' with hg'
  subst hg'
  refine ⟨by rw [List.length_append]; exact hl, _, setRow_heap w r _ _ _ _ hg, ?_, ?_⟩
  · simp only [List.size_toArray, List.length_append, List.length_take, List.length_map, List.length_drop, Array.length_toList, h2]
    omega
  · rw [List.toList_toArray, h3, List.length_append, List.map_append]
    exact take_vals _ _ (by simp)
theorem run_addR {w : World} {r : Nat} {bs ys : List UInt8} (h : RowB w r bs) (hl : bs.length + ys.length ≤ 256) (B : Nat) (A : Option Addr) (c : Nat) (hy : Holds w B A ys.length ys) (ty : TypeId) (g : Nat) :
    ∃ w', (Builtin.append_ #[34, 34] ty #[slB r bs.length, .slice A ys.length c]).run Try.prog w = .ok (slB r (bs ++ ys).length) w' ∧ RowB w' r (bs ++ ys) ∧ Tn g r w w' := by
  obtain ⟨i0, hi, hz0, hz1, hz2⟩ := info_parts info_u8
  have h0 := h
  obtain ⟨h1, cur, hg, h2, h3⟩ := h
  rcases A with _ | ad
  · have hm : ys.length = 0 := by
      rcases Nat.eq_zero_or_pos ys.length with e | e
      · exact e
      · obtain ⟨b, off, e, _⟩ := hy.2 e; cases e
    obtain rfl : ys = [] := List.eq_nil_of_length_eq_zero hm
    rw [List.append_nil]
    refine ⟨w, ?_, h0, Tn.refl _ _ _⟩
    unfold slB
    simp [Builtin.append_, run_underlying Try.underlying34, sizeOf, typeInfo, hi, Builtin.lenOf, Builtin.firstCells, h1, storeCells]
  · have hcells : ∀ j u, (ys.map byteV)[j]? = some u → w.cell? (ad.add j) = some u := by
      intro j u hu
      have hj : j < ys.length := by
        rcases Nat.lt_or_ge j ys.length with h | h
        · exact h
        · rw [List.getElem?_eq_none (by simpa using h)] at hu; cases hu
      obtain ⟨b, off, e, _, hcell⟩ := hy.2 (by omega)
      injection e with e
      subst e
      have hadd : (⟨b, off, none⟩ : Addr).add j = ⟨b, off + j, none⟩ := by unfold Addr.add; split <;> simp_all
      rw [hadd, hcell j hj]
      simpa [byteV, hj] using hu
    have hr := run_append_room (P := Try.prog) w 34 ty 5 i0 Try.underlying34 hi r bs.length 256 cur hg ad ys.length c (ys.map byteV) (by rw [hz1]; simp) hcells
      (by intro u hu; obtain ⟨c, _, rfl⟩ := List.mem_map.1 hu; rfl) (by omega) (by rw [hz1]; simp; omega)
    rw [hz1, Nat.mul_one, List.length_map] at hr
    refine ⟨_, ?_, h0.laid hl cur hg, Tn.setRow _ _ _ _⟩
    unfold slB
    rw [List.length_append]
    exact hr
theorem run_addR_text {w : World} {r : Nat} {bs : List UInt8} (h : RowB w r bs) (s : ByteArray) (hl : bs.length + s.size ≤ 256) (ty : TypeId) (g : Nat) :
    ∃ w', (Builtin.append_ #[34, 9] ty #[slB r bs.length, .string s]).run Try.prog w = .ok (slB r (bs ++ s.data.toList).length) w' ∧ RowB w' r (bs ++ s.data.toList) ∧ Tn g r w w' := by
  obtain ⟨i0, hi, hz0, hz1, hz2⟩ := info_parts info_u8
  have h0 := h
  obtain ⟨h1, cur, hg, h2, h3⟩ := h
  have e : s.data.toList.length = s.size := Array.length_toList
  have hr := Lib.run_append_room_string (P := Try.prog) w 34 9 ty 5 i0 Try.underlying34 Try.underlying9 hi hz1 r bs.length 256 cur hg s hl (by omega)
  have ec : Lib.strCells s = s.data.toList.map byteV := rfl
  rw [ec, ← e] at hr
  refine ⟨_, ?_, h0.laid (by omega) cur hg, Tn.setRow _ _ _ _⟩
  unfold slB
  rw [List.length_append]
  exact hr
theorem run_addR_zeros {w : World} {r : Nat} {bs : List UInt8} (h : RowB w r bs) (k : Nat) (hl : bs.length + k ≤ 256) (ty : TypeId) (g : Nat) :
    ∃ w', (Builtin.append_ #[34, 3] ty #[slB r bs.length, .int .i64 (k : Int)]).run Try.prog w = .ok (slB r (bs ++ zeros k).length) w' ∧ RowB w' r (bs ++ zeros k) ∧ Tn g r w w' := by
  obtain ⟨i0, hi, hz0, hz1, hz2⟩ := info_parts info_u8
  have h0 := h
  obtain ⟨h1, cur, hg, h2, h3⟩ := h
  have hw : IntKind.i64.wrap (k : Int) = k := by rw [IntKind.wrap_i64]; omega
  have hneg : ¬ ((k : Int) < 0) := by omega
  have h48 : ¬ (281474976710656 < (k : Int) * (i0.bytes : Int)) := by rw [hz2]; omega
  have hroom : bs.length + k ≤ 256 := hl
  rcases Nat.eq_zero_or_pos k with rfl | hk
  · refine ⟨w, ?_, by simpa [zeros] using h0, Tn.refl _ _ _⟩
    unfold slB
    have hw0 : IntKind.i64.wrap 0 = 0 := by decide
    simp [Builtin.append_, run_underlying Try.underlying34, run_underlying Try.underlying3, sizeOf, typeInfo, asInt, asIntOf, hi, h1, hw0, storeCells, zeros]
  · have hst := run_storeCells_at Try.prog r bs.length 5 ((zeros k).map byteV) 0 cur w hg (by simp [zeros]; omega) (by intro u hu; obtain ⟨c, _, rfl⟩ := List.mem_map.1 hu; rfl)
    simp only [Nat.add_zero, List.length_map] at hst
    have hzl : (zeros k).length = k := by simp [zeros]
    have hzc : (Builtin.zeroCells (Value.int .u8 0).cells k).toList = (zeros k).map byteV := by
      apply List.ext_getElem?
      intro j
      simp only [Builtin.zeroCells, zeros, List.map_replicate, List.getElem?_replicate]
      by_cases hj : j < k
      · have : j % 1 = 0 := by omega
        simp [hj, this, byteV, Value.cells]
      · simp [hj, Value.cells]
    have hns : ¬ (k * i0.size = 0) := by rw [hz1]; omega
    refine ⟨_, ?_, h0.laid (by rw [hzl]; exact hl) cur hg, Tn.setRow _ _ _ _⟩
    unfold slB
    rw [List.length_append]
    rw [hzl] at hst ⊢
    have hk0 : k ≠ 0 := by omega
    simp [Builtin.append_, run_underlying Try.underlying34, run_underlying Try.underlying3, sizeOf, typeInfo, zeroValue, asInt, asIntOf, hi, hz0, hz1, hw, hneg, h48, hroom, hk0, Addr.add_lit, hzc, hst]
theorem putR (r : Nat) (bs : List UInt8) (v m : Nat) (w : World) (h : RowB w r bs) (hm : m ≤ 8) (hl : bs.length + m ≤ 256) (ty : TypeId) :
    Calls Try.prog 43 #[.int .u64 (v : Int), .int .i64 (m : Int)] w fun e w1 => ∃ A c w2, e = .returned (.slice A m c) ∧
      (Builtin.append_ #[34, 34] ty #[.slice (some ⟨r, 0, none⟩) bs.length 256, .slice A m c]).run Try.prog w1 = .ok (.slice (some ⟨r, 0, none⟩) (bs.length + m) 256) w2 ∧ RowB w2 r (bs ++ bytesL v m) ∧ Tn r r w w2 :=
  (bytesN_any v m w hm).mono fun e w1 ⟨A, c, he, ho, hb⟩ => by
    have hy : Holds w1 w1.heap.size A (bytesL v m).length (bytesL v m) := by rw [bytesL_len]; exact Owned.reads ho
    obtain ⟨w2, hrun, hr2, ht2⟩ := run_addR (h.below hb) (by rw [bytesL_len]; exact hl) w1.heap.size A c hy ty r
    rw [bytesL_len, List.length_append, bytesL_len] at hrun
    exact ⟨A, c, w2, he, hrun, hr2, (Tn.of_below hb).trans ht2⟩

theorem putR2 (r : Nat) (bs : List UInt8) (v : Nat) (w : World) (h : RowB w r bs) (hl : bs.length + 2 ≤ 256) (ty : TypeId) :
    Calls Try.prog 43 #[.int .u64 (v : Int), .int .i64 2] w fun e w1 => ∃ A c w2, e = .returned (.slice A 2 c) ∧
      (Builtin.append_ #[34, 34] ty #[.slice (some ⟨r, 0, none⟩) bs.length 256, .slice A 2 c]).run Try.prog w1 = .ok (.slice (some ⟨r, 0, none⟩) (bs.length + 2) 256) w2 ∧ RowB w2 r (bs ++ bytesL v 2) ∧ Tn r r w w2 := putR r bs v 2 w h (by omega) hl ty
theorem putR4 (r : Nat) (bs : List UInt8) (v : Nat) (w : World) (h : RowB w r bs) (hl : bs.length + 4 ≤ 256) (ty : TypeId) :
    Calls Try.prog 43 #[.int .u64 (v : Int), .int .i64 4] w fun e w1 => ∃ A c w2, e = .returned (.slice A 4 c) ∧
      (Builtin.append_ #[34, 34] ty #[.slice (some ⟨r, 0, none⟩) bs.length 256, .slice A 4 c]).run Try.prog w1 = .ok (.slice (some ⟨r, 0, none⟩) (bs.length + 4) 256) w2 ∧ RowB w2 r (bs ++ bytesL v 4) ∧ Tn r r w w2 := putR r bs v 4 w h (by omega) hl ty
theorem putR1 (r : Nat) (bs : List UInt8) (v : Nat) (w : World) (h : RowB w r bs) (hl : bs.length + 1 ≤ 256) (ty : TypeId) :
    Calls Try.prog 43 #[.int .u64 (v : Int), .int .i64 1] w fun e w1 => ∃ A c w2, e = .returned (.slice A 1 c) ∧
      (Builtin.append_ #[34, 34] ty #[.slice (some ⟨r, 0, none⟩) bs.length 256, .slice A 1 c]).run Try.prog w1 = .ok (.slice (some ⟨r, 0, none⟩) (bs.length + 1) 256) w2 ∧ RowB w2 r (bs ++ bytesL v 1) ∧ Tn r r w w2 := putR r bs v 1 w h (by omega) hl ty
def room256 : Array Value := madeCells #[.int .u8 0] 256
theorem run_make_room (W : World) : (Instr.makeSlice 34 (.int .i64 0) (.int .i64 256)).run Try.prog W = .ok (.slice (some ⟨W.heap.size, 0, none⟩) 0 256) (W.alloc (.cells room256 5)) := by
  obtain ⟨i0, hi, hz0, hz1, hz2⟩ := info_parts info_u8
  have h := run_make (P := Try.prog) W 34 5 i0 (.int .u8 0) Try.underlying34 hi hz0 .i64 .i64 0 256 (by omega) (by omega) (by rw [hz2]; omega) (by omega)
  rw [hz1] at h
  exact h
theorem room_size : room256.size = 256 := by unfold room256; rw [size_madeCells]
end Go.Proofs.Ytbagocghlijleaa.At
