/- A record among the arguments: by value, with all that it holds; and a slice of bytes beside it. -/
import Derived.Test.YtbmbolgmeehloaaLift
import Derived.Test.YtbmbolgmeehloaaRcTxn
import Derived.Deep.Fields
import Derived.Deep.Slices
import Derived.Deep.SlicePairs
import Derived.Deep.Strs
namespace Go.Proofs.Ytbmbolgmeehloaa.Rec
set_option maxRecDepth 20000
open Go.ChangeShapes Go.WideShapes Go.ChangeAt Go.RowKit Go.Deep
open Go.Proofs.Ytbmbolgmeehloaa.Mem Go.Proofs.Ytbmbolgmeehloaa.Lift Go.Proofs.Ytbmbolgmeehloaa.Crc

/-- A slice of bytes that was read as a part of something. -/
theorem bytes_part {H : Type} {enc : TypeId × Value → H} {W : World} {fuel : Nat} {v : Value} {y : DataW H × List MemPlace} (h : DataW.trod enc Try.prog W 0 (fun _ => true) true fuel 33 [v] = some y) :
    ∃ A n c bs, v = .slice A n c ∧ Holds W W.heap.size A n bs ∧ n ≤ c ∧ c ≤ maxLen := by
  rcases open_ints Try.underlying33 Try.underlying5 (by kernel_rfl) h with ⟨hcs, _⟩ | ⟨x, l, c', zs, hcs, _, hl, hm, hz, _, hcell, hwz⟩
  · simp at hcs
    subst hcs
    exact ⟨none, 0, 0, [], rfl, ⟨rfl, fun h => absurd h (by omega)⟩, Nat.le_refl _, Nat.zero_le _⟩
  · simp at hcs
    subst hcs
    have hzl : zs.length = c' := by simpa using hz
    refine ⟨_, _, _, (zs.take l).map fun z => UInt8.ofNat z.toNat, rfl, ⟨by simp; omega, fun hn => ?_⟩, hl, hm⟩
    obtain ⟨b, off, spot⟩ := x
    have hc0 := hcell 0 (by omega)
    have hspot : spot = none := by simpa [Addr.add] using World.cell?_spot hc0
    subst hspot
    refine ⟨b, off, rfl, by simpa [Addr.add] using block_lt_of_cell hc0, fun j hj => ?_⟩
    have hjz : j < zs.length := by simp at hj; omega
    have hadd : (⟨b, off, none⟩ : Addr).add j = ⟨b, off + j, none⟩ := by unfold Addr.add; split <;> simp_all
    rw [← hadd, hcell j hjz]
    have hw := bounds_u8 (hwz zs[j] (List.getElem_mem hjz))
    have e : zs.getD j 0 = zs[j] := by simp [List.getD, hjz]
    rw [e]
    simp only [List.getElem_map, List.getElem_take]
    congr 2
    simp
    omega
theorem wf_i64 {x : Int} (h : (Lit.int .i64 x).wf = true) : IsInt x := by
  simp [Lit.wf, show IntKind.i64.min = -9223372036854775808 from rfl, show IntKind.i64.max = 9223372036854775807 from rfl] at h
  exact ⟨by omega, by omega⟩
theorem wf_u64 {x : Int} (h : (Lit.int .u64 x).wf = true) : 0 ≤ x ∧ x < 18446744073709551616 := by
  simp [Lit.wf, show IntKind.u64.min = 0 from rfl, show IntKind.u64.max = 18446744073709551615 from rfl] at h
  exact ⟨by omega, by omega⟩

/-- A slice of numbers that was read as a part of something. -/
theorem ints_part {H : Type} {enc : TypeId × Value → H} {W : World} {fuel : Nat} {v : Value} {y : DataW H × List MemPlace} (h : DataW.trod enc Try.prog W 0 (fun _ => true) true fuel 65 [v] = some y) (R : Nat) (hR : ∀ elems spare, y.1 = .slice elems spare → elems.length + spare.length ≤ R) :
    ∃ A n c rs, v = .slice A n c ∧ HoldsI W W.heap.size A n rs ∧ n ≤ c ∧ n ≤ R ∧ ∀ x ∈ rs, IsInt x := by
  rcases open_ints Try.underlying65 Try.underlying3 (by kernel_rfl) h with ⟨hcs, _⟩ | ⟨x, l, c', zs, hcs, _, hl, hm, hz, hy, hcell, hwz⟩
  · simp at hcs
    subst hcs
    exact ⟨none, 0, 0, [], rfl, ⟨rfl, fun h => absurd h (by omega)⟩, Nat.le_refl _, Nat.zero_le _, fun x hx => by simp at hx⟩
  · simp at hcs
    subst hcs
    have hzl : zs.length = c' := by simpa using hz
    have hle := hR _ _ (by rw [hy])
    simp only [lits, List.length_map, List.length_take, List.length_drop] at hle
    refine ⟨_, _, _, zs.take l, rfl, ⟨by rw [List.length_take]; omega, fun hn => ?_⟩, hl, by omega, fun z hz => wf_i64 (hwz z (List.mem_of_mem_take hz))⟩
    obtain ⟨b, off, spot⟩ := x
    have hc0 := hcell 0 (by omega)
    have hspot : spot = none := by simpa [Addr.add] using World.cell?_spot hc0
    subst hspot
    refine ⟨b, off, rfl, by simpa [Addr.add] using block_lt_of_cell hc0, fun j z hj => ?_⟩
    have hjl : j < l := by have := (List.getElem?_eq_some_iff.1 hj).1; rw [List.length_take] at this; omega
    have hjz : j < zs.length := by omega
    have hadd : (⟨b, off, none⟩ : Addr).add j = ⟨b, off + j, none⟩ := by unfold Addr.add; split <;> simp_all
    rw [← hadd, hcell j hjz]
    rw [List.getElem?_take, if_pos hjl] at hj
    simp [List.getD, hj]

theorem exists_list {α : Type} {p : Nat → α → Prop} : ∀ n, (∀ i, i < n → ∃ x, p i x) → ∃ l : List α, l.length = n ∧ ∀ i, (h : i < l.length) → p i l[i]
  | 0, _ => ⟨[], rfl, fun i h => absurd h (by simp)⟩
  | n + 1, h => by
    obtain ⟨l, hl, hp⟩ := exists_list n (fun i hi => h i (by omega))
    obtain ⟨x, hx⟩ := h n (by omega)
    refine ⟨l ++ [x], by simp [hl], fun i hi => ?_⟩
    by_cases e : i < l.length
    · rw [List.getElem_append_left e]; exact hp i e
    · have : i = n := by simp at hi; omega
      subst this
      rw [List.getElem_append_right (by omega)]
      simp [hl]; exact hx

/-- A slice of Writes that was read as a part of something. -/
theorem writes_part {H : Type} {enc : TypeId × Value → H} {W : World} {fuel : Nat} {v : Value} {y : DataW H × List MemPlace} (h : DataW.trod enc Try.prog W 0 (fun _ => true) true fuel 37 [v] = some y) (R : Nat) (hR : ∀ elems spare, y.1 = .slice elems spare → elems.length + spare.length ≤ R) :
    ∃ A n c ws, v = .slice A n c ∧ HoldsW W W.heap.size A n ws ∧ n ≤ c ∧ n ≤ R ∧ ∀ x ∈ ws, IsInt x.1 := by
  rcases open_slice_pairs Try.underlying37 Try.underlying83 (by kernel_rfl) rfl rfl (by kernel_rfl) (by kernel_rfl) h with ⟨hcs, _⟩ | ⟨a, len, cap, m, k, V0, V1, D0, D1, P0, P1, hcs, _, hl, hm, hmm, hy, hel⟩
  · simp at hcs
    subst hcs
    exact ⟨none, 0, 0, [], rfl, ⟨rfl, fun h => absurd h (by omega)⟩, Nat.le_refl _, Nat.zero_le _, fun x hx => by simp at hx⟩
  · simp at hcs
    subst hcs
    rw [if_pos rfl] at hmm
    obtain rfl : m = cap := hmm
    have hle := hR _ _ (by rw [hy])
    simp only [List.length_map, List.length_range] at hle
    obtain ⟨ws, hwl, hws⟩ := exists_list (p := fun i (x : Wt) => IsInt x.1 ∧ W.cell? (a.add (i * 2)) = some (.int .i64 x.1) ∧ ∃ A' c', W.cell? (a.add (i * 2 + 1)) = some (.slice A' x.2.length c') ∧ Holds W W.heap.size A' x.2.length x.2 ∧ x.2.length ≤ c' ∧ c' ≤ maxLen) len (fun i hi => by
      obtain ⟨h1, h2, t1, t2⟩ := hel i (by omega)
      obtain ⟨z, e0, _, w0⟩ := DataW.trod_int Try.underlying3 t1
      obtain ⟨A', n', c', bs, e1, hb, hk, hc⟩ := bytes_part t2
      simp at e0
      have hn' : n' = bs.length := hb.1.symm
      subst hn'
      exact ⟨(z, bs), wf_i64 w0, by rw [h1, e0], A', c', by rw [h2, e1], hb, hk, hc⟩)
    refine ⟨some a, len, m, ws, rfl, ⟨hwl, fun hn => ?_⟩, hl, by omega, fun x hx => ?_⟩
    · obtain ⟨b, off, spot⟩ := a
      have hc0 := (hws 0 (by omega)).2.1
      have hspot : spot = none := by simpa [Addr.add] using World.cell?_spot hc0
      subst hspot
      have hadd : ∀ j, (⟨b, off, none⟩ : Addr).add j = ⟨b, off + j, none⟩ := fun j => by unfold Addr.add; split <;> simp_all
      refine ⟨b, off, rfl, by simpa [Addr.add] using block_lt_of_cell hc0, fun k x hx => ?_⟩
      obtain ⟨hk, rfl⟩ := List.getElem?_eq_some_iff.1 hx
      obtain ⟨_, h1, h2⟩ := hws k hk
      rw [hadd] at h1
      rw [hadd, ← Nat.add_assoc] at h2
      exact ⟨h1, h2⟩
    · obtain ⟨i, hi, rfl⟩ := List.getElem_of_mem hx
      exact (hws i hi).1

/-- A record read as an argument. -/
theorem txn_part {H : Type} {enc : TypeId × Value → H} {W : World} {fuel : Nat} {cs : List Value} {d : DataW H} {p : List MemPlace} (h : DataW.trod enc Try.prog W 0 (fun _ => true) true fuel 67 cs = some (d, p)) (hw : (d.weights Try.prog 67).all (· ≤ reachBytes) = true) :
    ∃ (t : Tx) (Aw : Option Addr) (nw cw : Nat) (Ar : Option Addr) (nr cr : Nat), cs = [.int .u64 (t.seq : Int), .slice Aw nw cw, .slice Ar nr cr] ∧ TxAt W W.heap.size t Aw nw cw Ar nr cr := by
  obtain ⟨y0, y1, y2, n, hx, hl, h0, h1, h2⟩ := trod_struct3 Try.underlying67 h
  rw [show Try.prog.cellsOf 67 = 3 by kernel_rfl] at hl
  match cs, hl with
  | [v0, v1, v2], _ =>
    have c0 : Try.prog.cellsOf 64 = 1 := by kernel_rfl
    have c1 : Try.prog.cellsOf 37 = 1 := by kernel_rfl
    have c2 : Try.prog.cellsOf 65 = 1 := by kernel_rfl
    rw [c0] at h0
    rw [c1] at h1
    rw [c2] at h2
    injection hx with hd hp
    have hs : (DataW.weightsEach Try.prog [64, 37, 65] [y0.1, y1.1, y2.1]).all (· ≤ reachBytes) = true := by
      rw [hd] at hw
      simpa [DataW.weights, Try.underlying67] using hw
    obtain ⟨z, e0, _, w0⟩ := DataW.trod_int Try.underlying64 h0
    have r1 : ∀ elems spare, y1.1 = .slice elems spare → elems.length + spare.length ≤ 140737488351232 := by
      intro elems spare hy
      have := sized_slice (j := 1) (elems := elems) (spare := spare) hs rfl (by simp [hy]) Try.underlying37
      rw [show Try.prog.bytesOf 83 = 32 by kernel_rfl, show reachBytes = 140737488351232 from rfl] at this
      omega
    have r2 : ∀ elems spare, y2.1 = .slice elems spare → elems.length + spare.length ≤ 140737488351232 := by
      intro elems spare hy
      have := sized_slice (j := 2) (elems := elems) (spare := spare) hs rfl (by simp [hy]) Try.underlying65
      rw [show Try.prog.bytesOf 3 = 8 by kernel_rfl, show reachBytes = 140737488351232 from rfl] at this
      omega
    obtain ⟨Aw, nw, cw, ws, e1, hW, kW, lW, iW⟩ := writes_part h1 _ r1
    obtain ⟨Ar, nr, cr, rs, e2, hR, kR, lR, iR⟩ := ints_part h2 _ r2
    have hz := wf_u64 w0
    simp at e0 e1 e2
    subst e0 e1 e2
    refine ⟨⟨z.toNat, ws, rs⟩, Aw, nw, cw, Ar, nr, cr, ?_, hW, hR, by simp only; omega, by omega, iW, iR⟩
    simp only
    rw [Int.toNat_of_nonneg hz.1]

theorem txn_open {H : Type} {enc : TypeId × Value → H} {W : World} {b0 : Nat} {v : Value} {d : DataW H} {p : List MemPlace} (hv : Value.okWide Try.prog W .any b0 67 v)
    (h : DataW.Trod enc Try.prog W 0 (fun _ => true) true 67 v d p) (hw : (d.weights Try.prog 67).all (· ≤ reachBytes) = true) :
    ∃ (t : Tx) (Aw : Option Addr) (nw cw : Nat) (Ar : Option Addr) (nr cr : Nat), v = .agg #[.int .u64 (t.seq : Int), .slice Aw nw cw, .slice Ar nr cr] ∧ TxAt W W.heap.size t Aw nw cw Ar nr cr := by
  obtain ⟨cs, rfl, _⟩ := okWide_struct Try.underlying67 hv
  obtain ⟨fuel, hf⟩ := h
  obtain ⟨t, Aw, nw, cw, Ar, nr, cr, e, ht⟩ := txn_part hf hw
  refine ⟨t, Aw, nw, cw, Ar, nr, cr, ?_, ht⟩
  simp only [Value.cells] at e
  congr 1
  exact Array.toList_inj.1 (by simpa using e)

theorem txn_weights {H : Type} {ts : List TypeId} {ds : List (DataW H)} (h : (DataW.weightsEach Try.prog ts ds).all (· ≤ reachBytes) = true) {j : Nat} {d : DataW H} (ht : ts[j]? = some 67) (hd : ds[j]? = some d) :
    (d.weights Try.prog 67).all (· ≤ reachBytes) = true :=
  List.all_eq_true.2 fun x hx => List.all_eq_true.1 h _ (DataW.weights_mem_each ht hd x hx)
end Go.Proofs.Ytbmbolgmeehloaa.Rec
