/- Deeds among the arguments. -/
import Derived.Test.YtbagocghlijleaaGreatHtRBel
import Derived.Test.YtbagocghlijleaaGreatHtSteps
import Derived.Test.YtbagocghlijleaaGreatHtNodesArg
namespace Go.Proofs.YtbagocghlijleaaGreat.Ht
set_option maxRecDepth 20000
open Go.ChangeShapes Go.WideShapes Go.ChangeAt Go.RowKit Go.Deep
open Go.Proofs.YtbagocghlijleaaGreat.Mem Go.Proofs.YtbagocghlijleaaGreat.Crc Go.Proofs.YtbagocghlijleaaGreat.Rec Go.Proofs.YtbagocghlijleaaGreat.Lift Go.Proofs.YtbagocghlijleaaGreat.Reg Go.Proofs.YtbagocghlijleaaGreat.Lf

structure Dd where
  op : Int
  e : Nm
def Dd.cl (x : Dd) : List Value := [.int .i64 x.op, .string ⟨x.e.t.toArray⟩, .int .i64 x.e.i]
def Dd.c (x : Dd) : Array Value := #[.int .i64 x.op, .string ⟨x.e.t.toArray⟩, .int .i64 x.e.i]
def DK : Rk Dd := ⟨33, 22, 3, 32, .agg #[.int .i64 0, .string ⟨#[]⟩, .int .i64 0], Dd.cl⟩
theorem deed_of_trod {H : Type} {enc : TypeId × Value → H} {W : World} {fuel : Nat} {cs : List Value} {d : DataW H × List MemPlace} (h : DataW.trod enc Tryz.prog W 0 (fun _ => true) true fuel 33 cs = some d) :
    ∃ x : Dd, cs = x.cl ∧ x.e.rep := by
  obtain ⟨ys, n, hx1, hx2, hl, hyl, hf⟩ := DataW.trod_struct Tryz.underlying33 h
  rw [show Tryz.prog.cellsOf 33 = 3 by kernel_rfl] at hl
  match cs, hl, ys, hyl with
  | [v2, v0, v1], _, [y2, y0, y1], _ =>
    have c0 : Tryz.prog.cellsOf 3 = 1 := by kernel_rfl
    have c1 : Tryz.prog.cellsOf 9 = 1 := by kernel_rfl
    have h0 : DataW.trod enc Tryz.prog W 0 (fun _ => true) true n 9 [v0] = some y0 := by
      have h := hf 1 _ rfl
      simpa [c0, c1] using h
    have h1 : DataW.trod enc Tryz.prog W 0 (fun _ => true) true n 3 [v1] = some y1 := by
      have h := hf 2 _ rfl
      simpa [c0, c1] using h
    have h2 : DataW.trod enc Tryz.prog W 0 (fun _ => true) true n 3 [v2] = some y2 := by
      have h := hf 0 _ rfl
      simpa [c0] using h
    obtain ⟨s0, e0, _, w0⟩ := DataW.trod_string Tryz.underlying9 h0
    obtain ⟨a1, e1, _, w1⟩ := DataW.trod_int Tryz.underlying3 h1
    obtain ⟨a2, e2, _, w2⟩ := DataW.trod_int Tryz.underlying3 h2
    simp at e0 e1 e2
    subst e0 e1 e2
    refine ⟨⟨a2, ⟨s0.data.toList, a1⟩⟩, ?_, ⟨wf_i64 w1, ?_⟩⟩
    · simp [Dd.cl]
    · show s0.data.toList.length ≤ maxLen
      rw [show s0.data.toList.length = s0.size from Array.length_toList]
      exact w0
theorem deed_by_value {H : Type} {enc : TypeId × Value → H} {W : World} {b0 : Nat} {v : Value} {d : DataW H} {p : List MemPlace} (hv : Value.okWide Tryz.prog W .any b0 33 v)
    (h : DataW.Trod enc Tryz.prog W 0 (fun _ => true) true 33 v d p) : ∃ x : Dd, v = .agg x.c ∧ x.e.rep := by
  obtain ⟨cs, rfl, _⟩ := okWide_struct Tryz.underlying33 hv
  obtain ⟨fuel, hf⟩ := h
  obtain ⟨x, hx, hr⟩ := deed_of_trod hf
  refine ⟨x, ?_, hr⟩
  obtain ⟨l⟩ := cs
  simp only [Value.cells] at hx
  rw [hx]; rfl
theorem reach_deeds {H : Type} {ts : List TypeId} {ds : List (DataW H)} (h : (DataW.weightsEach Tryz.prog ts ds).all (· ≤ reachBytes) = true) {j : Nat} {d : DataW H} (ht : ts[j]? = some 22) (hd : ds[j]? = some d) :
    ∀ elems spare, d = .slice elems spare → elems.length + spare.length ≤ 4398046510976 := by
  rintro elems spare rfl
  have := sized_slice h ht hd Tryz.underlying22
  rw [show Tryz.prog.bytesOf 33 = 32 by kernel_rfl, show reachBytes = 140737488351232 from rfl] at this
  omega
theorem deeds_open {H : Type} {enc : TypeId × Value → H} {W : World} {base : Nat} {v : Value} {d : DataW H} {p : List MemPlace} (hv : Value.okWide Tryz.prog W .any base 22 v)
    (h : DataW.Trod enc Tryz.prog W 0 (fun _ => true) true 22 v d p) (R : Nat) (hR : ∀ elems spare, d = .slice elems spare → elems.length + spare.length ≤ R) :
    ∃ A n c l, v = .slice A n c ∧ HoldsC DK W W.heap.size A n l ∧ (∀ x ∈ l, x.e.rep) ∧ n ≤ c ∧ c ≤ R := by
  obtain ⟨A, n, c, rfl⟩ := okWide_slice Tryz.underlying22 hv
  obtain ⟨fuel, hf⟩ := h
  rcases open_slice Tryz.underlying22 hf with ⟨hcs, _⟩ | ⟨a, len, cap, m, k, D, Pl, hcs, _, hl, hm, hmm, hx, hel⟩
  · simp [Value.cells] at hcs
    obtain ⟨rfl, rfl, rfl⟩ := hcs
    exact ⟨none, 0, 0, [], rfl, ⟨rfl, fun h => absurd h (by omega)⟩, (fun x hx => by cases hx), Nat.le_refl _, Nat.zero_le _⟩
  · simp [Value.cells] at hcs
    obtain ⟨rfl, rfl, rfl⟩ := hcs
    have hC : Tryz.prog.cellsOf 33 = 3 := by kernel_rfl
    rw [hC] at hel
    rw [if_pos rfl] at hmm
    obtain rfl : c = m := hmm.symm
    simp only [Prod.mk.injEq] at hx
    have hle := hR _ _ hx.1
    simp only [List.length_map, List.length_range] at hle
    obtain ⟨l, hll, hls⟩ := exists_list (p := fun i (x : Dd) => x.e.rep ∧ ∀ q, q < 3 → W.cell? ((a.add (i * 3)).add q) = x.cl[q]?) n (fun i hi => by
      obtain ⟨cs', hc, ht⟩ := hel i (by omega)
      obtain ⟨_, hcl, hat⟩ := World.cells?_some hc
      obtain ⟨x, hx, hr⟩ := deed_of_trod ht
      refine ⟨x, hr, fun q hq => ?_⟩
      rw [hat q hq, hx])
    obtain ⟨b, off, spot⟩ := a
    by_cases h0 : 0 < n
    · have h00 := (hls 0 (by omega)).2 0 (by omega)
      have hspot : spot = none := by
        have := World.cell?_spot (h00.trans (show (l[0]'(by omega)).cl[0]? = some _ from rfl))
        simpa [Addr.add] using this
      subst hspot
      have hbl := block_lt_of_cell (h00.trans (show (l[0]'(by omega)).cl[0]? = some _ from rfl))
      rw [Addr.add_mid, Addr.add_mid] at hbl
      refine ⟨_, n, c, l, rfl, ⟨hll, fun _ => ⟨b, off, rfl, hbl, fun j hj q hq => ?_⟩⟩, fun x hx => ?_, hl, by omega⟩
      · have := (hls j hj).2 q hq
        rwa [Addr.add_mid, Addr.add_mid] at this
      · obtain ⟨j, hj, rfl⟩ := List.getElem_of_mem hx
        exact (hls j hj).1
    · have hn : n = 0 := by omega
      subst hn
      have : l = [] := List.eq_nil_of_length_eq_zero hll
      subst this
      exact ⟨_, 0, c, [], rfl, ⟨rfl, fun h => absurd h (by omega)⟩, (fun x hx => by cases hx), Nat.zero_le _, by omega⟩

end Go.Proofs.YtbagocghlijleaaGreat.Ht
