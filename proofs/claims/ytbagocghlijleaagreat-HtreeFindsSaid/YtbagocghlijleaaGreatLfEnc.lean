/- The program's Encode. -/
import Derived.Test.YtbagocghlijleaaGreatLfMem
import Derived.Test.YtbagocghlijleaaGreatRegF
import Derived.Laws.AppendOwn
import Derived.Lib.AppendStr
import Derived.Lib.AppendZeros
import Derived.Laws.MakeOwn
import Derived.Test.YtbagocghlijleaaGreatLfRight
namespace Go.Proofs.YtbagocghlijleaaGreat.Lf
set_option maxRecDepth 20000
open Go.RowKit
open Go.Proofs.YtbagocghlijleaaGreat.Mem Go.Proofs.YtbagocghlijleaaGreat.Crc Go.Proofs.YtbagocghlijleaaGreat.Rec Go.Proofs.YtbagocghlijleaaGreat.Reg
attribute [local go_sem ↓] ldX_eq stX_eq

/-- What turns the blocks g and r alone, of those that were there. -/
structure Tn (g r : Nat) (w w' : World) : Prop where
  os : w'.os = w.os
  tape : w'.tape = w.tape
  output : w'.output = w.output
  size : w.heap.size ≤ w'.heap.size
  block : ∀ k, k < w.heap.size → k ≠ g → k ≠ r → w'.heap[k]? = w.heap[k]?
theorem Tn.refl (g r : Nat) (w : World) : Tn g r w w := ⟨rfl, rfl, rfl, Nat.le_refl _, fun _ _ _ _ => rfl⟩
theorem Tn.trans {g r : Nat} {a b c : World} (h : Tn g r a b) (k : Tn g r b c) : Tn g r a c :=
  ⟨k.os.trans h.os, k.tape.trans h.tape, k.output.trans h.output, Nat.le_trans h.size k.size, fun i hi h1 h2 => (k.block i (Nat.lt_of_lt_of_le hi h.size) h1 h2).trans (h.block i hi h1 h2)⟩
theorem Tn.of_below {g r : Nat} {w w' : World} (h : Below w.heap.size w w') : Tn g r w w' := ⟨h.os, h.tape, h.output, h.size, fun i hi _ _ => h.block i hi⟩
theorem Tn.below {g r B : Nat} {w w' : World} (h : Tn g r w w') (hB : B ≤ w.heap.size) (hg : B ≤ g) (hr : B ≤ r) : Below B w w' :=
  ⟨h.os, h.tape, h.output, h.size, fun i hi => h.block i (by omega) (by omega) (by omega)⟩
theorem Tn.setRow (g r : Nat) (w : World) (cs : Array Value) : Tn g r w (w.setRow r cs) :=
  ⟨rfl, rfl, rfl, by simp [World.setRow], fun i _ _ h2 => setRow_other w r i cs h2⟩
theorem Tn.setCell (g r : Nat) (w : World) (v : Value) : Tn g r w (w.setCell ⟨g, 0, none⟩ v) :=
  ⟨rfl, rfl, rfl, by simp, fun i _ h1 _ => heap_setCell_other w ⟨g, 0, none⟩ i v h1⟩

/-- The block r has room for 256 bytes, the first of which are these. -/
def RowB (w : World) (r : Nat) (bs : List UInt8) : Prop := bs.length ≤ 256 ∧ ∃ cur, w.heap[r]? = some (.cells cur 5 (0, 0)) ∧ cur.size = 256 ∧ cur.toList.take bs.length = bs.map byteV
def slB (r n : Nat) : Value := .slice (some ⟨r, 0, none⟩) n 256
theorem RowB.lt {w : World} {r : Nat} {bs : List UInt8} (h : RowB w r bs) : r < w.heap.size := by
  obtain ⟨_, cur, hg, _⟩ := h
  exact (Array.getElem?_eq_some_iff.1 hg).1
theorem RowB.keep {w w' : World} {r : Nat} {bs : List UInt8} (h : RowB w r bs) (hb : w'.heap[r]? = w.heap[r]?) : RowB w' r bs := by
  obtain ⟨h1, cur, hg, h2⟩ := h
  exact ⟨h1, cur, hb.trans hg, h2⟩
theorem RowB.below {w w' : World} {r : Nat} {bs : List UInt8} (h : RowB w r bs) (hb : Below w.heap.size w w') : RowB w' r bs := h.keep (hb.block _ h.lt)
theorem RowB.owned {w : World} {r base : Nat} {bs : List UInt8} (h : RowB w r bs) (hb : base ≤ r) : Owned w base (.slice (some ⟨r, 0, none⟩) bs.length 256) bs := by
  obtain ⟨h1, cur, hg, h2, h3⟩ := h
  exact ⟨by simp, .inr ⟨r, 256, cur, rfl, hb, hg, h1, by unfold maxLen; omega, by simp [h2], by simpa using h3⟩⟩
theorem RowB.reads {w : World} {r : Nat} {bs : List UInt8} (h : RowB w r bs) : Holds w w.heap.size (some ⟨r, 0, none⟩) bs.length bs := Owned.reads (h.owned (Nat.zero_le _))
theorem take_vals {n : Nat} (a b : List Value) (h : a.length = n) : (a ++ b).take n = a := by rw [← h, List.take_left']; rfl
/-- The row, with more laid behind. -/
theorem RowB.laid {w : World} {r : Nat} {bs ys : List UInt8} (h : RowB w r bs) (hl : bs.length + ys.length ≤ 256) :
    ∀ cur, w.heap[r]? = some (.cells cur 5 (0, 0)) → RowB (w.setRow r (cur.toList.take bs.length ++ ys.map byteV ++ cur.toList.drop (bs.length + ys.length)).toArray) r (bs ++ ys) := by
  obtain ⟨h1, cur', hg, h2, h3⟩ := h
  intro cur hg'
  rw [hg] at hg'
  injection hg' with hg'
  injection hg' with hg'
  subst hg'
  refine ⟨by rw [List.length_append]; exact hl, _, setRow_heap w r _ _ _ _ hg, ?_, ?_⟩
  · simp only [List.size_toArray, List.length_append, List.length_take, List.length_map, List.length_drop, Array.length_toList, h2]
    omega
  · rw [List.toList_toArray, h3, List.length_append, List.map_append]
    exact take_vals _ _ (by simp)
theorem run_addR {w : World} {r : Nat} {bs ys : List UInt8} (h : RowB w r bs) (hl : bs.length + ys.length ≤ 256) (B : Nat) (A : Option Addr) (c : Nat) (hy : Holds w B A ys.length ys) (ty : TypeId) (g : Nat) :
    ∃ w', (Builtin.append_ #[34, 34] ty #[slB r bs.length, .slice A ys.length c]).run Tryz.prog w = .ok (slB r (bs ++ ys).length) w' ∧ RowB w' r (bs ++ ys) ∧ Tn g r w w' := by
  obtain ⟨i0, hi, hz0, hz1, hz2⟩ := info_parts info_u8
  have h0 := h
  obtain ⟨h1, cur, hg, h2, h3⟩ := h
  rcases A with _ | ad
  · have hm : ys.length = 0 := by
      rcases Nat.eq_zero_or_pos ys.length with e | e
      · exact e
      · obtain ⟨b, off, e, _⟩ := hy.2 e; cases e
    obtain rfl : ys = [] := List.eq_nil_of_length_eq_zero hm
    rw [List.append_nil]
    refine ⟨w, ?_, h0, Tn.refl _ _ _⟩
    unfold slB
    simp [Builtin.append_, run_underlying Tryz.underlying34, sizeOf, typeInfo, hi, Builtin.lenOf, Builtin.firstCells, h1, storeCells]
  · have hcells : ∀ j u, (ys.map byteV)[j]? = some u → w.cell? (ad.add j) = some u := by
      intro j u hu
      have hj : j < ys.length := by
        rcases Nat.lt_or_ge j ys.length with h | h
        · exact h
        · rw [List.getElem?_eq_none (by simpa using h)] at hu; cases hu
      obtain ⟨b, off, e, _, hcell⟩ := hy.2 (by omega)
      injection e with e
      subst e
      have hadd : (⟨b, off, none⟩ : Addr).add j = ⟨b, off + j, none⟩ := by unfold Addr.add; split <;> simp_all
      rw [hadd, hcell j hj]
      simpa [byteV, hj] using hu
    have hr := run_append_room (P := Tryz.prog) w 34 ty 5 i0 Tryz.underlying34 hi r bs.length 256 cur hg ad ys.length c (ys.map byteV) (by rw [hz1]; simp) hcells
      (by intro u hu; obtain ⟨c, _, rfl⟩ := List.mem_map.1 hu; rfl) (by omega) (by rw [hz1]; simp; omega)
    rw [hz1, Nat.mul_one, List.length_map] at hr
    refine ⟨_, ?_, h0.laid hl cur hg, Tn.setRow _ _ _ _⟩
    unfold slB
    rw [List.length_append]
    exact hr
theorem run_addR_text {w : World} {r : Nat} {bs : List UInt8} (h : RowB w r bs) (s : ByteArray) (hl : bs.length + s.size ≤ 256) (ty : TypeId) (g : Nat) :
    ∃ w', (Builtin.append_ #[34, 9] ty #[slB r bs.length, .string s]).run Tryz.prog w = .ok (slB r (bs ++ s.data.toList).length) w' ∧ RowB w' r (bs ++ s.data.toList) ∧ Tn g r w w' := by
  obtain ⟨i0, hi, hz0, hz1, hz2⟩ := info_parts info_u8
  have h0 := h
  obtain ⟨h1, cur, hg, h2, h3⟩ := h
  have e : s.data.toList.length = s.size := Array.length_toList
  have hr := Lib.run_append_room_string (P := Tryz.prog) w 34 9 ty 5 i0 Tryz.underlying34 Tryz.underlying9 hi hz1 r bs.length 256 cur hg s hl (by omega)
  have ec : Lib.strCells s = s.data.toList.map byteV := rfl
  rw [ec, ← e] at hr
  refine ⟨_, ?_, h0.laid (by omega) cur hg, Tn.setRow _ _ _ _⟩
  unfold slB
  rw [List.length_append]
  exact hr
theorem run_addR_zeros {w : World} {r : Nat} {bs : List UInt8} (h : RowB w r bs) (k : Nat) (hl : bs.length + k ≤ 256) (ty : TypeId) (g : Nat) :
    ∃ w', (Builtin.append_ #[34, 3] ty #[slB r bs.length, .int .i64 (k : Int)]).run Tryz.prog w = .ok (slB r (bs ++ zeros k).length) w' ∧ RowB w' r (bs ++ zeros k) ∧ Tn g r w w' := by
  obtain ⟨i0, hi, hz0, hz1, hz2⟩ := info_parts info_u8
  have h0 := h
  obtain ⟨h1, cur, hg, h2, h3⟩ := h
  have hw : IntKind.i64.wrap (k : Int) = k := by rw [IntKind.wrap_i64]; omega
  have hneg : ¬ ((k : Int) < 0) := by omega
  have h48 : ¬ (281474976710656 < (k : Int) * (i0.bytes : Int)) := by rw [hz2]; omega
  have hroom : bs.length + k ≤ 256 := hl
  rcases Nat.eq_zero_or_pos k with rfl | hk
  · refine ⟨w, ?_, by simpa [zeros] using h0, Tn.refl _ _ _⟩
    unfold slB
    have hw0 : IntKind.i64.wrap 0 = 0 := by decide
    simp [Builtin.append_, run_underlying Tryz.underlying34, run_underlying Tryz.underlying3, sizeOf, typeInfo, asInt, asIntOf, hi, h1, hw0, storeCells, zeros]
  · have hst := run_storeCells_at Tryz.prog r bs.length 5 ((zeros k).map byteV) 0 cur w hg (by simp [zeros]; omega) (by intro u hu; obtain ⟨c, _, rfl⟩ := List.mem_map.1 hu; rfl)
    simp only [Nat.add_zero, List.length_map] at hst
    have hzl : (zeros k).length = k := by simp [zeros]
    have hzc : (Builtin.zeroCells (Value.int .u8 0).cells k).toList = (zeros k).map byteV := by
      apply List.ext_getElem?
      intro j
      simp only [Builtin.zeroCells, zeros, List.map_replicate, List.getElem?_replicate]
      by_cases hj : j < k
      · have : j % 1 = 0 := by omega
        simp [hj, this, byteV, Value.cells]
      · simp [hj, Value.cells]
    have hns : ¬ (k * i0.size = 0) := by rw [hz1]; omega
    refine ⟨_, ?_, h0.laid (by rw [hzl]; exact hl) cur hg, Tn.setRow _ _ _ _⟩
    unfold slB
    rw [List.length_append]
    rw [hzl] at hst ⊢
    have hk0 : k ≠ 0 := by omega
    simp [Builtin.append_, run_underlying Tryz.underlying34, run_underlying Tryz.underlying3, sizeOf, typeInfo, zeroValue, asInt, asIntOf, hi, hz0, hz1, hw, hneg, h48, hroom, hk0, Addr.add_lit, hzc, hst]
end Go.Proofs.YtbagocghlijleaaGreat.Lf

namespace Go.Proofs.YtbagocghlijleaaGreat.Lf
set_option maxRecDepth 20000
open Go.RowKit
open Go.Proofs.YtbagocghlijleaaGreat.Mem Go.Proofs.YtbagocghlijleaaGreat.Crc Go.Proofs.YtbagocghlijleaaGreat.Rec Go.Proofs.YtbagocghlijleaaGreat.Reg
attribute [local go_sem ↓] ldX_eq stX_eq

structure BufAt (w : World) (g r : Nat) (bs : List UInt8) : Prop where
  box : w.heap[g]? = some (.cells #[slB r bs.length] 34 (0, 0))
  row : RowB w r bs
theorem BufAt.lt {w : World} {g r : Nat} {bs : List UInt8} (h : BufAt w g r bs) : g < w.heap.size := (Array.getElem?_eq_some_iff.1 h.box).1
theorem BufAt.ne {w : World} {g r : Nat} {bs : List UInt8} (h : BufAt w g r bs) : g ≠ r := fun e => by
  obtain ⟨_, cur, hr, _⟩ := h.row
  have hb := h.box
  rw [e, hr] at hb
  injection hb with hb
  injection hb with _ hb
  exact absurd hb (by decide)
theorem BufAt.below {w w' : World} {g r : Nat} {bs : List UInt8} (h : BufAt w g r bs) (hb : Below w.heap.size w w') : BufAt w' g r bs := ⟨(hb.block _ h.lt).trans h.box, h.row.below hb⟩
theorem BufAt.cell {w : World} {g r : Nat} {bs : List UInt8} (h : BufAt w g r bs) : w.cell? ⟨g, 0, none⟩ = some (slB r bs.length) := cell_of_row w g 0 _ _ _ h.box
theorem BufAt.thaw {w : World} {g r : Nat} {bs : List UInt8} (h : BufAt w g r bs) : w.frozen? ⟨g, 0, none⟩ = false := frozen_of_row w g 0 _ _ h.box
/-- A world in which the row holds more, and its length is stored, too. -/
theorem BufAt.store {w w' : World} {g r : Nat} {bs ys : List UInt8} (h : BufAt w g r bs) (hr : RowB w' r ys) (ht : Tn g r w w') (hb : w'.heap[g]? = w.heap[g]?) :
    BufAt (w'.setCell ⟨g, 0, none⟩ (slB r ys.length)) g r ys ∧ Tn g r w (w'.setCell ⟨g, 0, none⟩ (slB r ys.length)) := by
  refine ⟨⟨?_, hr.keep (heap_setCell_other w' ⟨g, 0, none⟩ r _ (fun e => h.ne e.symm))⟩, ht.trans (Tn.setCell _ _ _ _)⟩
  exact heap_setCell_same w' g 0 _ _ _ (hb.trans h.box)
/-- A variable that isn't of the bytes stays. -/
theorem VarX.tn {w w' : World} {g r i : Nat} {x : Nm} {bs : List UInt8} (h : VarX w i x) (hb : BufAt w g r bs) (ht : Tn g r w w') : VarX w' i x := by
  refine (ht.block i h.lt (fun e => ?_) (fun e => ?_)).trans h
  · have h1 := hb.box
    rw [← e, h] at h1
    injection h1 with h1
    injection h1 with _ h1
    exact absurd h1 (by decide)
  · obtain ⟨_, cur, h1, _⟩ := hb.row
    rw [← e, h] at h1
    injection h1 with h1
    injection h1 with _ h1
    exact absurd h1 (by decide)
theorem Tn.widen {g r : Nat} {w w' : World} (h : Tn r r w w') : Tn g r w w' := ⟨h.os, h.tape, h.output, h.size, fun k hk _ h2 => h.block k hk h2 h2⟩

set_option maxRecDepth 100000 in
set_option maxHeartbeats 2000000 in
theorem put_any (g r v n : Nat) (bs : List UInt8) (w : World) (h : BufAt w g r bs) (hn : n ≤ 8) (hl : bs.length + n ≤ 256) :
    Calls Tryz.prog 109 #[.int .u64 (v : Int), .int .i64 (n : Int), .pointer (some ⟨g, 0, none⟩)] w fun e w' => e = .returned (.tuple #[]) ∧ BufAt w' g r (bs ++ bytesL v n) ∧ Tn g r w w' := by
  have hcall : ∀ V, Calls Tryz.prog 98 #[.int .u64 (v : Int), .int .i64 (n : Int)] V fun e w' => ∃ A c, e = .returned (.slice A n c) ∧ Owned w' V.heap.size (.slice A n c) (bytesL v n) ∧ Below V.heap.size V w' := fun V => bytesN_any v n V hn
  have HC := Lib.hid hcall; clear hcall
  have H := Lib.hid h; clear h
  have hc0 := H.out.cell
  go_enter Tryz.func109, Tryz.ntmps109
  go_wp2_with fail
  refine wp_region_E (fun V => BufAt V g r bs ∧ Tn g r w V) 5 rfl ?_
  have hS : BufAt w.drew g r bs ∧ Tn g r w w.drew := ⟨H.out.below (Below.refl _ w).drew, Tn.of_below (Below.refl _ w).drew⟩
  refine wpE_take 0 ⟨some 5, _, _, _, _, _⟩ (v := ?_) [4, 5] rfl (by kernel_rfl) (by kernel_rfl) (by kernel_rfl) (by kernel_rfl) (fun _ _ _ h => h) hS (Or.inl ⟨by kernel_rfl, ?_⟩) ?_
  rotate_left
  · (intro V hSw; have hq := hSw.1.cell; go_simp; try with_reducible rfl)
  try simp only [Act.put]
  refine wpE_take 1 ⟨some 6, _, _, _, _, _⟩ (v := ?_) [3, 4, 5] rfl (by kernel_rfl) (by kernel_rfl) (by kernel_rfl) (by kernel_rfl) (fun _ _ _ h => h) hS (Or.inl ⟨by kernel_rfl, ?_⟩) ?_
  rotate_left
  · (intro V hSw; go_simp; try with_reducible rfl)
  try simp only [Act.put]
  refine wpE_take 2 ⟨some 7, _, _, _, _, _⟩ (v := ?_) [3, 4, 5] rfl (by kernel_rfl) (by kernel_rfl) (by kernel_rfl) (by kernel_rfl) (fun _ _ _ h => h) hS (Or.inl ⟨by kernel_rfl, ?_⟩) ?_
  rotate_left
  · (intro V hSw; go_simp; try with_reducible rfl)
  try simp only [Act.put]
  refine wpE_one 3 (o := ⟨some 8, _, _, _, _, _⟩) (by kernel_rfl) rfl (fun K' hK' => ?_)
  rw [if_pos (by kernel_rfl)]
  refine call_wp 98 _ _ _ _ rfl Tryz.func98 (by kernel_rfl) rfl _ ?hv _ (HC.out _) ?_
  case hv => simp only [List.map_toArray, List.map_cons, List.map_nil]; go_simp
  rintro E w1 ⟨A, c, rfl, ho, hb⟩
  have hS1 : BufAt w1 g r bs ∧ Tn g r w w1 := ⟨hS.1.below hb, hS.2.trans (Tn.of_below hb)⟩
  have hys := Owned.reads ho
  have hyl : (bytesL v n).length = n := bytesL_len v n
  obtain ⟨ys, hyq⟩ : ∃ ys, ys = bytesL v n := ⟨_, rfl⟩
  rw [← hyq] at hys hyl ho
  subst hyl
  have HYQ := Lib.hid hyq; clear hyq
  obtain ⟨w2, hrun, hr2, ht2⟩ := run_addR hS1.1.row hl w1.heap.size A c hys 34 r
  have hbox : w2.heap[g]? = w1.heap[g]? := ht2.block g hS1.1.lt hS1.1.ne hS1.1.ne
  have hfin := hS1.1.store hr2 ht2.widen hbox
  have hpre : RowB w2 r bs := by
    obtain ⟨h1, cur, h2, h3, h4⟩ := hr2
    rw [List.length_append] at h1
    refine ⟨by omega, cur, h2, h3, ?_⟩
    have h5 := congrArg (List.take bs.length) h4
    rw [List.take_take, List.length_append, Nat.min_eq_left (by omega), List.map_append] at h5
    rw [h5]
    have h6 : (bs.map byteV).length = bs.length := List.length_map ..
    rw [← h6, List.take_left']
    rfl
  have hS2 : BufAt w2 g r bs ∧ Tn g r w w2 := ⟨⟨hbox.trans hS1.1.box, hpre⟩, hS1.2.trans ht2.widen⟩
  unfold slB at hfin
  rw [List.length_append] at hfin
  have HFIN := Lib.hid hfin; clear hfin
  have HT1 := Lib.hid hS1.2
  refine ⟨_, rfl, hK'.out _ _ hS1 (fun hS => ?_)⟩
  clear hK' K'
  try simp only [Act.put]
  refine wpE_one 4 (o := ⟨some 9, _, _, _, _, _⟩) (by kernel_rfl) rfl (fun K' hK' => ?_)
  refine step_builtin (by kernel_rfl) (.tmp 5) (.tmp 8) #[34, 34] rfl (slB r bs.length) (.slice A ys.length c) (slB r (bs ++ ys).length) w2 ?hva ?hvb hrun ?_
  case hva => go_simp; try with_reducible rfl
  case hvb => go_simp; try with_reducible rfl
  refine hK'.out _ _ hS2 (fun hS => ?_)
  clear hK' K'
  try simp only [Act.put]
  have q0 := hS2.1.cell
  have q1 := hS2.1.thaw
  refine wpE_last (by kernel_rfl) rfl (fun K' hK' => ?_)
  simp only [slB, List.length_append]
  go_simp
  refine hK'.out _ _ ?_
  clear hK' K'
  refine wpE_done (by kernel_rfl) ?_ _
  go_wp2
  refine bodyPost_end (results_none rfl _ _ _) rfl ?_
  exact ⟨rfl, by rw [← HYQ.out]; exact HFIN.out.1, HT1.out.trans HFIN.out.2⟩
theorem put1 (g r v : Nat) (bs : List UInt8) (w : World) (h : BufAt w g r bs) (hl : bs.length + 1 ≤ 256) :
    Calls Tryz.prog 109 #[.int .u64 (v : Int), .int .i64 1, .pointer (some ⟨g, 0, none⟩)] w fun e w' => e = .returned (.tuple #[]) ∧ BufAt w' g r (bs ++ bytesL v 1) ∧ Tn g r w w' := put_any g r v 1 bs w h (by omega) hl
theorem put2 (g r v : Nat) (bs : List UInt8) (w : World) (h : BufAt w g r bs) (hl : bs.length + 2 ≤ 256) :
    Calls Tryz.prog 109 #[.int .u64 (v : Int), .int .i64 2, .pointer (some ⟨g, 0, none⟩)] w fun e w' => e = .returned (.tuple #[]) ∧ BufAt w' g r (bs ++ bytesL v 2) ∧ Tn g r w w' := put_any g r v 2 bs w h (by omega) hl
theorem put4 (g r v : Nat) (bs : List UInt8) (w : World) (h : BufAt w g r bs) (hl : bs.length + 4 ≤ 256) :
    Calls Tryz.prog 109 #[.int .u64 (v : Int), .int .i64 4, .pointer (some ⟨g, 0, none⟩)] w fun e w' => e = .returned (.tuple #[]) ∧ BufAt w' g r (bs ++ bytesL v 4) ∧ Tn g r w w' := put_any g r v 4 bs w h (by omega) hl
end Go.Proofs.YtbagocghlijleaaGreat.Lf

namespace Go.Proofs.YtbagocghlijleaaGreat.Lf
set_option maxRecDepth 20000
open Go.RowKit
open Go.Proofs.YtbagocghlijleaaGreat.Mem Go.Proofs.YtbagocghlijleaaGreat.Crc Go.Proofs.YtbagocghlijleaaGreat.Rec Go.Proofs.YtbagocghlijleaaGreat.Reg
attribute [local go_sem ↓] ldX_eq stX_eq

def room256 : Array Value := madeCells #[.int .u8 0] 256
theorem run_make_room (W : World) : (Instr.makeSlice 34 (.int .i64 0) (.int .i64 256)).run Tryz.prog W = .ok (.slice (some ⟨W.heap.size, 0, none⟩) 0 256) (W.alloc (.cells room256 5)) := by
  obtain ⟨i0, hi, hz0, hz1, hz2⟩ := info_parts info_u8
  have h := run_make (P := Tryz.prog) W 34 5 i0 (.int .u8 0) Tryz.underlying34 hi hz0 .i64 .i64 0 256 (by omega) (by omega) (by rw [hz2]; omega) (by omega)
  rw [hz1] at h
  exact h
theorem room_size : room256.size = 256 := by unfold room256; rw [size_madeCells]
theorem buf_new (w : World) : BufAt ((w.alloc (.cells room256 5)).alloc (.cells #[slB w.heap.size 0] 34)) (w.heap.size + 1) w.heap.size [] := by
  have hz : (w.alloc (.cells room256 5)).heap.size = w.heap.size + 1 := by simp
  refine ⟨?_, by simp, room256, ?_, room_size, by simp⟩
  · rw [← hz]; exact heap_alloc_new _ _
  · exact (Below.heap_alloc _ _ _ (by rw [hz]; omega)).trans (heap_alloc_new w _)

set_option maxRecDepth 100000 in
set_option maxHeartbeats 4000000 in
theorem coded_any (A : Option Addr) (n c B : Nat) (l : List Nm) (w : World) (h : HoldsX w B A n l) (hB : B ≤ w.heap.size) (hr : right l = true) (hs : sizeL l ≤ 248) :
    Calls Tryz.prog 79 #[.slice A n c, .int .i64 (sizeL l : Int)] w (Made w (blockL l)) := by
  have hmk := run_make_room
  have hbuf := buf_new w
  have hln := h.1
  obtain ⟨W0, hW0⟩ : ∃ W0, W0 = (w.alloc (.cells room256 5)).alloc (.cells #[.slice (some ⟨w.heap.size, 0, none⟩) 0 256] 34) := ⟨_, rfl⟩
  have hbuf' : BufAt W0 (w.heap.size + 1) w.heap.size [] := by rw [hW0]; exact hbuf
  have hb0 : Below w.heap.size w W0 := by rw [hW0]; exact ((Below.refl _ w).alloc (Nat.le_refl _) _).alloc (by simp) _
  obtain ⟨r, hrr⟩ : ∃ r, r = w.heap.size := ⟨_, rfl⟩
  obtain ⟨g, hgg⟩ : ∃ g, g = w.heap.size + 1 := ⟨_, rfl⟩
  rw [← hgg, ← hrr] at hbuf'
  have hbr : w.heap.size ≤ r := by omega
  have hbg : w.heap.size ≤ g := by omega
  clear hbuf
  have hok : ∀ x ∈ l, okN x = true := ((right_iff l).1 hr).1
  have h6 := sizeL_ge l hok
  obtain ⟨N, hN⟩ : ∃ N, N = l.length := ⟨_, rfl⟩
  rw [← hN] at h6 hln
  subst hln
  obtain ⟨Z, hZ⟩ : ∃ Z, Z = sizeL l := ⟨_, rfl⟩
  rw [← hZ] at h6 hs ⊢
  have HN := Lib.hid hN; clear hN
  have HZ := Lib.hid hZ; clear hZ
  have HOK := Lib.hid hok; clear hok
  have H := Lib.hid h; clear h
  have hw1 : IntKind.u64.wrap (N : Int) = (N : Int) := by rw [IntKind.wrap_u64]; omega
  have hw2 : IntKind.u64.wrap (Z : Int) = (Z : Int) := by rw [IntKind.wrap_u64]; omega
  have HW0 := Lib.hid hW0; clear hW0
  have HR := Lib.hid hrr; clear hrr
  have HG := Lib.hid hgg; clear hgg
  have HB0 := Lib.hid hb0; clear hb0
  have hbase0 : w.heap.size ≤ W0.heap.size := HB0.out.size
  have HBUF0 := Lib.hid hbuf'; clear hbuf'
  go_enter Tryz.func79, Tryz.ntmps79
  go_wp2_with fail
  rw [← HW0.out, ← HG.out, ← HR.out]
  clear hmk
  with_reducible refine (put2 g r N [] W0 HBUF0.out (by simp)).mono ?_
  rintro E V1 ⟨rfl, hbuf1, ht1⟩
  have HBUF1 := Lib.hid hbuf1; clear hbuf1
  have hV1 : w.heap.size ≤ V1.heap.size := Nat.le_trans hbase0 ht1.size
  have HB1 : Hid (Below w.heap.size w V1) := Lib.hid (HB0.out.trans (ht1.below hbase0 hbg hbr))
  clear ht1
  go_wp2_with fail
  with_reducible refine (put2 g r Z _ V1 HBUF1.out (by simp [bytesL_len])).mono ?_
  rintro E V2 ⟨rfl, hbuf2, ht2⟩
  have hV2 : w.heap.size ≤ V2.heap.size := Nat.le_trans hV1 ht2.size
  have HB2 : Hid (Below w.heap.size w V2) := Lib.hid (HB1.out.trans (ht2.below hV1 hbg hbr))
  have HBUF2 : Hid (BufAt V2 g r (headB l 0)) := Lib.hid (by
    have e : headB l 0 = ([] ++ bytesL N 2) ++ bytesL Z 2 := by unfold headB; rw [← HN.out, ← HZ.out]; simp [codes]
    rw [e]; exact hbuf2)
  clear ht2 hbuf2
  go_wp2
  go_loopw [22] (fun i wr => ∃ k : Nat, k ≤ N ∧ i = .int .i64 (k : Int) ∧ BufAt wr g r (headB l k) ∧ Below w.heap.size w wr) (fun i _ => N - (intOf i).toNat)
  case atStart => exact ⟨0, Nat.zero_le _, rfl, HBUF2.out, HB2.out⟩
  case round =>
    obtain ⟨k, hk, rfl, hbuf, hbr2⟩ := hrel
    have HBUF := Lib.hid hbuf; clear hbuf
    rcases Nat.lt_or_ge k N with hlt | hge
    · obtain ⟨b, off, rfl, hbB⟩ := H.out.addr (by omega)
      have hkl : k < l.length := by have := HN.out; omega
      obtain ⟨e, he⟩ : ∃ e, e = l[k] := ⟨_, rfl⟩
      have hh := H.out.below (hbr2.mono hB)
      have hld := run_ldX_at hh k hkl (off + k * 2) rfl
      rw [← he] at hld
      have hst := run_stX_new wr e
      have hvar : VarX (wr.alloc (.cells e.c 48)) wr.heap.size e := VarX.new wr e
      have hb1 : Below w.heap.size w (wr.alloc (.cells e.c 48)) := hbr2.alloc hbr2.size _
      have hb1' : Below wr.heap.size wr (wr.alloc (.cells e.c 48)) := (Below.refl _ wr).alloc (Nat.le_refl _) _
      have hbuf1 := HBUF.out.below hb1'
      obtain ⟨m1, m2, m3⟩ := okN_may (HOK.out e (he ▸ List.getElem_mem hkl))
      have m4 := may_len m1
      have hnext : headB l (k + 1) = ((headB l k ++ bytesL e.i.toNat 4) ++ bytesL e.t.length 1) ++ e.t := by
        unfold headB
        rw [codes_take l k hkl, ← he]
        unfold codeE
        simp only [List.append_assoc]
      have hlen : (headB l k).length + 5 + e.t.length ≤ 252 := by
        have h1 := headB_len l (k + 1)
        rw [hnext] at h1
        simp only [List.length_append, bytesL_len] at h1
        have h2 : sizeL (l.take (k + 1)) ≤ sizeL l := by
          have h3 : sizeL l = sizeL (l.take (k + 1)) + sizeL (l.drop (k + 1)) := by rw [← sizeL_app, List.take_append_drop]
          omega
        have := HZ.out
        omega
      clear hh he
      have HNEXT := Lib.hid hnext; clear hnext
      generalize headB l k = P at hlen hbuf1 HNEXT
      obtain ⟨ei, hei⟩ : ∃ ei : Nat, ei = e.i.toNat := ⟨_, rfl⟩
      have hei2 : e.i = (ei : Int) := by omega
      rw [← hei] at HNEXT
      have hwe : IntKind.u64.wrap (ei : Int) = (ei : Int) := by rw [IntKind.wrap_u64]; omega
      obtain ⟨S, hS⟩ : ∃ S : ByteArray, S = ⟨e.t.toArray⟩ := ⟨_, rfl⟩
      have hSs : S.size = e.t.length := by rw [hS, text_size]
      have hSd : S.data.toList = e.t := by rw [hS]
      rw [← hSs] at hlen m4 HNEXT
      rw [← hSd] at HNEXT
      have hws : IntKind.u64.wrap (S.size : Int) = (S.size : Int) := by rw [IntKind.wrap_u64]; omega
      have hkeep : ∀ V, VarX V wr.heap.size e → V.cell? ⟨wr.heap.size, 0, none⟩ = some (.string S) ∧ V.cell? ⟨wr.heap.size, 1, none⟩ = some (.int .i64 (ei : Int)) := fun V hV => by
        have := hV.cells
        rw [hei2, ← hS] at this
        exact this
      have HKEEP := Lib.hid hkeep; clear hkeep
      clear hS hSs hSd hei hei2 m1 m2 m3 HBUF
      have hk0 : (0 : Int) ≤ (k : Int) := by omega
      have hkn : (k : Int) < (N : Int) := by omega
      obtain ⟨q0, q1⟩ := HKEEP.out _ hvar
      obtain ⟨We, hWe⟩ : ∃ We, We = wr.alloc (.cells e.c 48) := ⟨_, rfl⟩
      rw [← hWe] at hvar hb1 hbuf1
      have HWE := Lib.hid hWe; clear hWe
      have HVAR := Lib.hid hvar; clear hvar
      have HB1e := Lib.hid hb1; clear hb1 hb1' hbr2
      have HBUF1e := Lib.hid hbuf1; clear hbuf1
      have hWes : w.heap.size ≤ We.heap.size := HB1e.out.size
      obtain ⟨C, hC⟩ : ∃ C, C = e.c := ⟨_, rfl⟩
      rw [← hC] at hld hst q0 q1 HWE
      have HC := Lib.hid hC; clear hC
      go_wp2_with fail
      rw [← HWE.out]
      with_reducible refine (put4 g r ei P We HBUF1e.out (by omega)).mono ?_
      rintro E V3 ⟨rfl, hbuf3, ht3⟩
      have hv3 := HVAR.out.tn HBUF1e.out ht3
      have hV3 : w.heap.size ≤ V3.heap.size := Nat.le_trans hWes ht3.size
      have HB3 : Hid (Below w.heap.size w V3) := Lib.hid (HB1e.out.trans (ht3.below hWes hbg hbr))
      clear q0 q1 hld hst ht3
      obtain ⟨q0, -⟩ := HKEEP.out _ hv3
      have HV3 := Lib.hid hv3; clear hv3
      have HBUF3 := Lib.hid hbuf3; clear hbuf3
      go_wp2_with fail
      with_reducible refine (put1 g r S.size _ V3 HBUF3.out (by rw [List.length_append, bytesL_len]; omega)).mono ?_
      rintro E V4 ⟨rfl, hbuf4, ht4⟩
      have hv4 := HV3.out.tn HBUF3.out ht4
      have hV4 : w.heap.size ≤ V4.heap.size := Nat.le_trans hV3 ht4.size
      have HB4 : Hid (Below w.heap.size w V4) := Lib.hid (HB3.out.trans (ht4.below hV3 hbg hbr))
      clear q0 ht4
      obtain ⟨q0, -⟩ := HKEEP.out _ hv4
      have qb := hbuf4.cell
      obtain ⟨V5, hrun, hr5, ht5⟩ := run_addR_text hbuf4.row S (by simp only [List.length_append, bytesL_len]; omega) 34 r
      have hbox : V5.heap[g]? = V4.heap[g]? := ht5.block g hbuf4.lt hbuf4.ne hbuf4.ne
      have hfin := hbuf4.store hr5 ht5.widen hbox
      have qc : V5.cell? ⟨g, 0, none⟩ = some (slB r ((P ++ bytesL ei 4) ++ bytesL S.size 1).length) := cell_of_row V5 g 0 _ _ _ (hbox.trans hbuf4.box)
      have qf : V5.frozen? ⟨g, 0, none⟩ = false := frozen_of_row V5 g 0 _ _ (hbox.trans hbuf4.box)
      rw [← HNEXT.out] at hfin hrun
      obtain ⟨M, hM⟩ : ∃ M, M = ((P ++ bytesL ei 4) ++ bytesL S.size 1).length := ⟨_, rfl⟩
      obtain ⟨M', hM'⟩ : ∃ M', M' = (headB l (k + 1)).length := ⟨_, rfl⟩
      rw [← hM, ← hM'] at hrun
      rw [← hM] at qb qc
      rw [← hM'] at hfin
      unfold slB at qb qc hrun hfin
      have HFIN := Lib.hid hfin; clear hfin
      have HB5 : Hid (Below w.heap.size w (V5.setCell ⟨g, 0, none⟩ (.slice (some ⟨r, 0, none⟩) M' 256))) := Lib.hid (HB4.out.trans (HFIN.out.2.below hV4 hbg hbr))
      clear hr5 ht5 hbox hbuf4 hv4 hM hM'
      go_wp2_with (at_builtin; refine wpList_apprun rfl _ _ _ _ (by rfl) _ _ (by rfl) (by rfl) _ _ hrun ?_)
      go_wp2
      go_roundw
      case rel => exact ⟨k + 1, by omega, by go_num, HFIN.out.1, HB5.out⟩
      case measure => simp [intOf]; omega
    · obtain rfl : k = N := by omega
      have hP : headB l k = headB l l.length := by rw [HN.out]
      have hbuf := HBUF.out
      have hpl := headB_len l l.length
      rw [List.take_length, ← HZ.out] at hpl
      rw [hP] at hbuf
      have hbd : body l = headB l l.length ++ zeros (248 - Z) := by unfold body; rw [← HZ.out]
      clear hP HBUF
      generalize headB l l.length = P at hbuf hpl hbd
      have hqb := hbuf.cell
      obtain ⟨V5, hrun, hr5, ht5⟩ := run_addR_zeros hbuf.row (248 - Z) (by omega) 34 r
      have hbox : V5.heap[g]? = wr.heap[g]? := ht5.block g hbuf.lt hbuf.ne hbuf.ne
      have hfin := hbuf.store hr5 ht5.widen hbox
      have qc : V5.cell? ⟨g, 0, none⟩ = some (slB r P.length) := cell_of_row V5 g 0 _ _ _ (hbox.trans hbuf.box)
      have qf : V5.frozen? ⟨g, 0, none⟩ = false := frozen_of_row V5 g 0 _ _ (hbox.trans hbuf.box)
      rw [← hbd] at hfin hrun
      have hbl : (body l).length = 252 := body_len (by rw [← HZ.out]; exact hs)
      rw [hbl] at hfin hrun
      obtain ⟨M, hM⟩ : ∃ M, M = P.length := ⟨_, rfl⟩
      rw [← hM] at hrun hqb qc
      have hM2 : M ≤ 252 := by omega
      have hM3 : (((248 - Z : Nat)) : Int) = 252 - (M : Int) := by omega
      rw [hM3] at hrun
      unfold slB at hqb qc hrun hfin
      have HFIN := Lib.hid hfin; clear hfin
      have hwr : w.heap.size ≤ wr.heap.size := hbr2.size
      obtain ⟨V6, hV6⟩ : ∃ V6, V6 = V5.setCell ⟨g, 0, none⟩ (.slice (some ⟨r, 0, none⟩) 252 256) := ⟨_, rfl⟩
      have HFIN2 := HFIN.out
      rw [← hV6] at HFIN2
      have HB6 : Hid (Below w.heap.size w V6) := Lib.hid (hbr2.trans (HFIN2.2.below hwr hbg hbr))
      have hV6s : w.heap.size ≤ V6.heap.size := Nat.le_trans hwr HFIN2.2.size
      have hb6 := HFIN2.1
      have q6 := hb6.cell
      rw [hbl] at q6
      unfold slB at q6
      have hsum := sum_any (some ⟨r, 0, none⟩) 252 256 (body l) V6 (by have := hb6.row.reads; rwa [hbl] at this) (by unfold maxLen; omega)
      have hbk : blockL l = body l ++ bytesL (sum (body l)) 4 := rfl
      have hwsum := wrap_sum (body l)
      have HBK := Lib.hid hbk; clear hbk hbd
      have HSUM := Lib.hid hsum; clear hsum
      have HB6F := Lib.hid hb6; clear hb6
      have HV6 := Lib.hid hV6; clear hV6 HFIN2
      have HBL := Lib.hid hbl; clear hbl
      clear hr5 ht5 hbox hbuf hM hM3 hpl hbr2
      have hkn : ¬ (k : Int) < (k : Int) := by omega
      go_wp2_with (at_builtin; refine wpList_apprun rfl _ _ _ _ (by rfl) _ _ (by rfl) (by rfl) _ _ hrun ?_)
      clear hrun hqb
      go_wp2_with fail
      rw [← HV6.out]
      clear qc qf
      go_wp2_with fail
      with_reducible refine HSUM.out.mono ?_
      rintro E V7 ⟨rfl, hb7⟩
      have hbuf7 := HB6F.out.below hb7
      have hV7 : w.heap.size ≤ V7.heap.size := Nat.le_trans hV6s hb7.size
      have HB7 : Hid (Below w.heap.size w V7) := Lib.hid (HB6.out.trans (hb7.mono hV6s))
      have HBUF7 := Lib.hid hbuf7; clear hbuf7 hb7 q6
      clear HSUM
      have HK := HBK.out
      obtain ⟨sm, hsm⟩ : ∃ sm, sm = sum (body l) := ⟨_, rfl⟩
      rw [← hsm] at hwsum HK ⊢
      have HBK2 := Lib.hid HK; clear HK hsm
      go_wp2_with fail
      with_reducible refine (put4 g r sm _ V7 HBUF7.out (by rw [HBL.out]; omega)).mono ?_
      rintro E V8 ⟨rfl, hbuf8, ht8⟩
      have HB8 : Hid (Below w.heap.size w V8) := Lib.hid (HB7.out.trans (ht8.below hV7 hbg hbr))
      have q8 := hbuf8.cell
      have ho8 := hbuf8.row.owned hbr
      rw [← HBK2.out] at q8 ho8
      obtain ⟨L, hL⟩ : ∃ L, L = (blockL l).length := ⟨_, rfl⟩
      rw [← hL] at q8 ho8
      unfold slB at q8
      have HL := Lib.hid hL; clear hL
      have HO := Lib.hid ho8; clear ho8 hbuf8 ht8
      go_wp2
      go_ret
      exact ⟨some ⟨r, 0, none⟩, 256, by rw [← HL.out]; rfl, by rw [← HL.out]; exact HO.out, HB8.out⟩
end Go.Proofs.YtbagocghlijleaaGreat.Lf

namespace Go.Proofs.YtbagocghlijleaaGreat.Lf
set_option maxRecDepth 20000
open Go.RowKit
open Go.Proofs.YtbagocghlijleaaGreat.Mem Go.Proofs.YtbagocghlijleaaGreat.Crc Go.Proofs.YtbagocghlijleaaGreat.Rec Go.Proofs.YtbagocghlijleaaGreat.Reg
attribute [local go_sem ↓] ldX_eq stX_eq

theorem owned_nil (w : World) (base : Nat) : Owned w base (.slice none 0 0) [] := ⟨rfl, .inl ⟨rfl, rfl⟩⟩
/-- Bytes and an error, as answered. -/
def Bytes2 (w : World) (y : List UInt8 × Int) (e : Ending) (w' : World) : Prop :=
  ∃ A c, e = .returned (.tuple #[.slice A y.1.length c, .int .i64 y.2]) ∧ Owned w' w.heap.size (.slice A y.1.length c) y.1 ∧ Below w.heap.size w w'
set_option maxRecDepth 100000 in
set_option maxHeartbeats 1000000 in
theorem encode_any (A : Option Addr) (n c B : Nat) (l : List Nm) (w : World) (h : HoldsX w B A n l) (hB : B ≤ w.heap.size) (hr : ∀ x ∈ l, x.rep) (hn : n ≤ 5864062014805) :
    Calls Tryz.prog 51 #[.slice A n c] w (Bytes2 w (enc l)) := by
  have hsize := size_any A n c B l w h hB hr hn
  have hln := h.1
  cases hq : right l with
  | false =>
    rw [size_not hq] at hsize
    rw [enc_not hq]
    have HS := Lib.hid hsize; clear hsize h
    go_enter Tryz.func51, Tryz.ntmps51
    go_wp2_with (with_reducible refine HS.out.mono ?_; rintro E w1 ⟨rfl, hb⟩)
    have HB := Lib.hid hb; clear hb
    go_ret2
    exact ⟨none, 0, rfl, owned_nil _ _, HB.out⟩
  | true =>
    rw [size_yes hq] at hsize
    have hfar := sizeL_far hq l.length
    rw [List.take_length, hln] at hfar
    by_cases hz : sizeL l ≤ 248
    · rw [enc_yes hq hz]
      have hcoded : ∀ V, Below w.heap.size w V → Calls Tryz.prog 79 #[.slice A n c, .int .i64 (sizeL l : Int)] V (Made V (blockL l)) := fun V hV => coded_any A n c B l V (h.below (hV.mono hB)) (Nat.le_trans hB hV.size) hq hz
      have HS := Lib.hid hsize; clear hsize
      have HC := Lib.hid hcoded; clear hcoded h
      generalize sizeL l = Z at HS HC hfar hz
      generalize blockL l = bs at HC ⊢
      go_enter Tryz.func51, Tryz.ntmps51
      go_wp2_with (first | (with_reducible refine HS.out.mono ?_; rintro E w1 ⟨rfl, hb⟩) | fail)
      have HB := Lib.hid hb; clear hb
      have hcall := HC.out _ HB.out
      have HCALL := Lib.hid hcall; clear hcall HC HS
      go_wp2_with fail
      with_reducible refine HCALL.out.mono ?_
      rintro E w2 ⟨A', c', rfl, ho, hb⟩
      have HB2 : Hid (Below w.heap.size w w2) := Lib.hid (HB.out.trans (hb.mono HB.out.size))
      have HO := Lib.hid (Owned.mono ho HB.out.size); clear ho hb
      go_wp2
      go_ret2
      exact ⟨A', c', rfl, HO.out, HB2.out⟩
    · rw [enc_far hq (by omega)]
      have HS := Lib.hid hsize; clear hsize h
      generalize sizeL l = Z at HS hfar hz
      go_enter Tryz.func51, Tryz.ntmps51
      go_wp2_with (with_reducible refine HS.out.mono ?_; rintro E w1 ⟨rfl, hb⟩)
      have HB := Lib.hid hb; clear hb
      go_ret2
      exact ⟨none, 0, rfl, owned_nil _ _, HB.out⟩
end Go.Proofs.YtbagocghlijleaaGreat.Lf
