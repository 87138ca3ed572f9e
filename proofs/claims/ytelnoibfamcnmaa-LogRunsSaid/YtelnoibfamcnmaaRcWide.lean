/- A record among the arguments, once more: the data of each Write is bounded, too. -/
import Derived.Test.YtelnoibfamcnmaaRcHeld
namespace Go.Proofs.Ytelnoibfamcnmaa.Rec
set_option maxRecDepth 20000
open Go.ChangeShapes Go.WideShapes Go.ChangeAt Go.RowKit Go.Deep
open Go.Proofs.Ytelnoibfamcnmaa.Mem Go.Proofs.Ytelnoibfamcnmaa.Lift Go.Proofs.Ytelnoibfamcnmaa.Crc

/-- The data of each Write is of a length that Go can reach. -/
def Wides (ws : List Wt) : Prop := ∀ x ∈ ws, x.2.length ≤ 140737488351232
/-- All parts of a record are of lengths that Go can reach. -/
structure Wide (t : Tx) : Prop where
  data : Wides t.ws
  nw : t.ws.length ≤ 4398046510976
  nr : t.rs.length ≤ 17592186043904

theorem weights_mem_all {H : Type} {P : Program} {t : TypeId} : ∀ {ds : List (DataW H)} {d : DataW H}, d ∈ ds → ∀ n ∈ d.weights P t, n ∈ DataW.weightsAll P t ds
  | e :: r, d, hd, n, hn => by
    simp only [DataW.weightsAll, List.mem_append]
    rcases List.mem_cons.1 hd with rfl | h
    · exact Or.inl hn
    · exact Or.inr (weights_mem_all h n hn)

theorem bytes_wide {H : Type} {enc : TypeId × Value → H} {W : World} {fuel : Nat} {v : Value} {y : DataW H × List MemPlace} (h : DataW.trod enc Try.prog W 0 (fun _ => true) true fuel 33 [v] = some y) (hw : ∀ n ∈ y.1.weights Try.prog 33, n ≤ reachBytes) :
    ∃ A n c bs, v = .slice A n c ∧ Holds W W.heap.size A n bs ∧ n ≤ c ∧ c ≤ maxLen ∧ n ≤ 140737488351232 := by
  obtain ⟨A, n, c, bs, e, h1, h2, h3⟩ := bytes_part h
  refine ⟨A, n, c, bs, e, h1, h2, h3, ?_⟩
  rcases open_ints Try.underlying33 Try.underlying5 (by kernel_rfl) h with ⟨hcs, _⟩ | ⟨x, l, c', zs, hcs, _, hl, hm, hz, hy, hcell, hwz⟩
  · rw [e] at hcs
    simp at hcs
    omega
  · rw [e] at hcs
    simp at hcs
    obtain ⟨rfl, rfl, rfl⟩ := hcs
    rw [hy] at hw
    have hzl : zs.length = c := by simpa using hz
    have := hw _ (by simp only [DataW.weights, Try.underlying33]; exact List.mem_cons_self ..)
    rw [show Try.prog.bytesOf 5 = 1 by kernel_rfl, show reachBytes = 140737488351232 from rfl] at this
    simp only [lits, List.length_map, List.length_take, List.length_drop] at this
    omega

/-- A slice of Writes that was read as a part of something. -/
theorem writes_wide {H : Type} {enc : TypeId × Value → H} {W : World} {fuel : Nat} {v : Value} {y : DataW H × List MemPlace} (h : DataW.trod enc Try.prog W 0 (fun _ => true) true fuel 37 [v] = some y) (R : Nat) (hR : ∀ elems spare, y.1 = .slice elems spare → elems.length + spare.length ≤ R) (hw : ∀ n ∈ y.1.weights Try.prog 37, n ≤ reachBytes) :
    ∃ A n c ws, v = .slice A n c ∧ HoldsW W W.heap.size A n ws ∧ n ≤ c ∧ n ≤ R ∧ (∀ x ∈ ws, IsInt x.1) ∧ Wides ws := by
  rcases open_slice_pairs Try.underlying37 Try.underlying83 (by kernel_rfl) rfl rfl (by kernel_rfl) (by kernel_rfl) h with ⟨hcs, _⟩ | ⟨a, len, cap, m, k, V0, V1, D0, D1, P0, P1, hcs, _, hl, hm, hmm, hy, hel⟩
  · simp at hcs
    subst hcs
    exact ⟨none, 0, 0, [], rfl, ⟨rfl, fun h => absurd h (by omega)⟩, Nat.le_refl _, Nat.zero_le _, (fun x hx => by simp at hx), (fun x hx => by simp at hx)⟩
  · simp at hcs
    subst hcs
    rw [if_pos rfl] at hmm
    obtain rfl : m = cap := hmm
    have hle := hR _ _ (by rw [hy])
    simp only [List.length_map, List.length_range] at hle
    obtain ⟨ws, hwl, hws⟩ := exists_list (p := fun i (x : Wt) => IsInt x.1 ∧ W.cell? (a.add (i * 2)) = some (.int .i64 x.1) ∧ ∃ A' c', W.cell? (a.add (i * 2 + 1)) = some (.slice A' x.2.length c') ∧ Holds W W.heap.size A' x.2.length x.2 ∧ x.2.length ≤ c' ∧ c' ≤ maxLen ∧ x.2.length ≤ 140737488351232) len (fun i hi => by
      obtain ⟨h1, h2, t1, t2⟩ := hel i (by omega)
      obtain ⟨z, e0, _, w0⟩ := DataW.trod_int Try.underlying3 t1
      obtain ⟨A', n', c', bs, e1, hb, hk, hc, hwd⟩ := bytes_wide t2 (fun x hx => by
        refine hw x ?_
        rw [hy]
        simp only [DataW.weights, Try.underlying37]
        refine List.mem_cons_of_mem _ (List.mem_append_left _ (weights_mem_all (d := .agg [D0 i, D1 i]) (List.mem_map.2 ⟨i, List.mem_range.2 hi, rfl⟩) x ?_))
        simp only [DataW.weights, Try.underlying83]
        exact DataW.weights_mem_each (j := 1) rfl rfl x hx)
      simp at e0
      have hn' : n' = bs.length := hb.1.symm
      subst hn'
      exact ⟨(z, bs), wf_i64 w0, by rw [h1, e0], A', c', by rw [h2, e1], hb, hk, hc, hwd⟩)
    refine ⟨some a, len, m, ws, rfl, ⟨hwl, fun hn => ?_⟩, hl, by omega, fun x hx => ?_, fun x hx => ?_⟩
    · obtain ⟨b, off, spot⟩ := a
      have hc0 := (hws 0 (by omega)).2.1
      have hspot : spot = none := by simpa [Addr.add] using World.cell?_spot hc0
      subst hspot
      have hadd : ∀ j, (⟨b, off, none⟩ : Addr).add j = ⟨b, off + j, none⟩ := fun j => by unfold Addr.add; split <;> simp_all
      refine ⟨b, off, rfl, by simpa [Addr.add] using block_lt_of_cell hc0, fun k x hx => ?_⟩
      obtain ⟨hk, rfl⟩ := List.getElem?_eq_some_iff.1 hx
      obtain ⟨_, h1, A', c', h2, h3, h4, h5, _⟩ := hws k hk
      rw [hadd] at h1
      rw [hadd, ← Nat.add_assoc] at h2
      exact ⟨h1, A', c', h2, h3, h4, h5⟩
    · obtain ⟨i, hi, rfl⟩ := List.getElem_of_mem hx
      exact (hws i hi).1
    · obtain ⟨i, hi, rfl⟩ := List.getElem_of_mem hx
      obtain ⟨_, _, A', c', _, _, _, _, h6⟩ := hws i hi
      exact h6

/-- A record read as an argument. -/
theorem txn_wide {H : Type} {enc : TypeId × Value → H} {W : World} {fuel : Nat} {cs : List Value} {d : DataW H} {p : List MemPlace} (h : DataW.trod enc Try.prog W 0 (fun _ => true) true fuel 67 cs = some (d, p)) (hw : (d.weights Try.prog 67).all (· ≤ reachBytes) = true) :
    ∃ (t : Tx) (Aw : Option Addr) (nw cw : Nat) (Ar : Option Addr) (nr cr : Nat), cs = [.int .u64 (t.seq : Int), .slice Aw nw cw, .slice Ar nr cr] ∧ TxAt W W.heap.size t Aw nw cw Ar nr cr ∧ Wide t := by
  obtain ⟨y0, y1, y2, n, hx, hl, h0, h1, h2⟩ := trod_struct3 Try.underlying67 h
  rw [show Try.prog.cellsOf 67 = 3 by kernel_rfl] at hl
  match cs, hl with
  | [v0, v1, v2], _ =>
    have c0 : Try.prog.cellsOf 64 = 1 := by kernel_rfl
    have c1 : Try.prog.cellsOf 37 = 1 := by kernel_rfl
    have c2 : Try.prog.cellsOf 65 = 1 := by kernel_rfl
    rw [c0] at h0
    rw [c1] at h1
    rw [c2] at h2
    injection hx with hd hp
    have hs : (DataW.weightsEach Try.prog [64, 37, 65] [y0.1, y1.1, y2.1]).all (· ≤ reachBytes) = true := by
      rw [hd] at hw
      simpa [DataW.weights, Try.underlying67] using hw
    obtain ⟨z, e0, _, w0⟩ := DataW.trod_int Try.underlying64 h0
    have r1 : ∀ elems spare, y1.1 = .slice elems spare → elems.length + spare.length ≤ 4398046510976 := by
      intro elems spare hy
      have := sized_slice (j := 1) (elems := elems) (spare := spare) hs rfl (by simp [hy]) Try.underlying37
      rw [show Try.prog.bytesOf 83 = 32 by kernel_rfl, show reachBytes = 140737488351232 from rfl] at this
      omega
    have r2 : ∀ elems spare, y2.1 = .slice elems spare → elems.length + spare.length ≤ 17592186043904 := by
      intro elems spare hy
      have := sized_slice (j := 2) (elems := elems) (spare := spare) hs rfl (by simp [hy]) Try.underlying65
      rw [show Try.prog.bytesOf 3 = 8 by kernel_rfl, show reachBytes = 140737488351232 from rfl] at this
      omega
    obtain ⟨Aw, nw, cw, ws, e1, hW, kW, lW, iW, wW⟩ := writes_wide h1 _ r1 (fun x hx => by
      have := List.all_eq_true.1 hs x (DataW.weights_mem_each (j := 1) rfl rfl x hx)
      simpa using this)
    obtain ⟨Ar, nr, cr, rs, e2, hR, kR, lR, iR⟩ := ints_part h2 _ r2
    have hz := wf_u64 w0
    simp at e0 e1 e2
    subst e0 e1 e2
    refine ⟨⟨z.toNat, ws, rs⟩, Aw, nw, cw, Ar, nr, cr, ?_, ⟨hW, hR, by simp only; omega, by omega, iW, iR⟩, wW, ?_, ?_⟩
    rotate_left
    · show ws.length ≤ _; rw [hW.1]; exact lW
    · show rs.length ≤ _; rw [hR.1]; exact lR
    simp only
    rw [Int.toNat_of_nonneg hz.1]

end Go.Proofs.Ytelnoibfamcnmaa.Rec
