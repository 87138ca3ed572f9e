/- Lists of runs and spots among the arguments; a law's card, whose row lists tables that are laid. -/
import Derived.Test.YtmbmjdogfjmlpaaDoorSpMem
import Derived.Test.YtmbmjdogfjmlpaaDoorLift
import Derived.Test.YtmbmjdogfjmlpaaDoorCards
import Derived.Test.YtmbmjdogfjmlpaaDoorTie
import Derived.Deep.Fields
import Derived.Deep.Slices
import Derived.Deep.DeepHandedRow
import Derived.Lay
namespace Go.Proofs.YtmbmjdogfjmlpaaDoor.Sp
set_option maxRecDepth 20000
open Go.ChangeShapes Go.WideShapes Go.ChangeAt Go.RowKit Go.Deep
open Go.Proofs.YtmbmjdogfjmlpaaDoor.Mem Go.Proofs.YtmbmjdogfjmlpaaDoor.Rec Go.Proofs.YtmbmjdogfjmlpaaDoor.Lift

theorem wf_i64 {x : Int} (h : (Lit.int .i64 x).wf = true) : -9223372036854775808 ≤ x ∧ x ≤ 9223372036854775807 := by
  simp [Lit.wf, show IntKind.i64.min = -9223372036854775808 from rfl, show IntKind.i64.max = 9223372036854775807 from rfl] at h
  omega
theorem ext_of_trod {H : Type} {enc : TypeId × Value → H} {W : World} {fuel : Nat} {cs : List Value} {d : DataW H × List MemPlace} (h : DataW.trod enc Tryd.prog W 0 (fun _ => true) true fuel 33 cs = some d) :
    ∃ x : Rn, cs = x.cl ∧ x.rep := by
  obtain ⟨ys, n, hx1, hx2, hl, hyl, hf⟩ := DataW.trod_struct Tryd.underlying33 h
  rw [show Tryd.prog.cellsOf 33 = 2 by kernel_rfl] at hl
  match cs, hl, ys, hyl with
  | [v0, v1], _, [y0, y1], _ =>
    have c0 : Tryd.prog.cellsOf 3 = 1 := by kernel_rfl
    have c1 : Tryd.prog.cellsOf 9 = 1 := by kernel_rfl
    have h0 : DataW.trod enc Tryd.prog W 0 (fun _ => true) true n 3 [v0] = some y0 := by
      have h := hf 0 _ rfl
      simpa [c0] using h
    have h1 : DataW.trod enc Tryd.prog W 0 (fun _ => true) true n 9 [v1] = some y1 := by
      have h := hf 1 _ rfl
      simpa [c0, c1] using h
    obtain ⟨a0, e0, _, w0⟩ := DataW.trod_int Tryd.underlying3 h0
    obtain ⟨s1, e1, _, w1⟩ := DataW.trod_string Tryd.underlying9 h1
    simp at e0 e1
    subst e0 e1
    refine ⟨⟨a0, s1.data.toList⟩, ?_, ⟨wf_i64 w0, ?_⟩⟩
    · simp [Rn.cl]
    · show s1.data.toList.length ≤ maxLen
      rw [show s1.data.toList.length = s1.size from Array.length_toList]
      exact w1
theorem ext_by_value {H : Type} {enc : TypeId × Value → H} {W : World} {b0 : Nat} {v : Value} {d : DataW H} {p : List MemPlace} (hv : Value.okWide Tryd.prog W .any b0 33 v)
    (h : DataW.Trod enc Tryd.prog W 0 (fun _ => true) true 33 v d p) : ∃ x : Rn, v = .agg x.c ∧ x.rep := by
  obtain ⟨cs, rfl, _⟩ := okWide_struct Tryd.underlying33 hv
  obtain ⟨fuel, hf⟩ := h
  obtain ⟨x, hx, hr⟩ := ext_of_trod hf
  refine ⟨x, ?_, hr⟩
  obtain ⟨l⟩ := cs
  simp only [Value.cells] at hx
  rw [hx]; rfl
theorem exists_list {α : Type} {p : Nat → α → Prop} : ∀ n, (∀ i, i < n → ∃ x, p i x) → ∃ l : List α, l.length = n ∧ ∀ i, (h : i < l.length) → p i l[i]
  | 0, _ => ⟨[], rfl, fun i h => absurd h (by simp)⟩
  | n + 1, h => by
    obtain ⟨l, hl, hp⟩ := exists_list n (fun i hi => h i (by omega))
    obtain ⟨x, hx⟩ := h n (by omega)
    refine ⟨l ++ [x], by simp [hl], fun i hi => ?_⟩
    by_cases e : i < l.length
    · rw [List.getElem_append_left e]; exact hp i e
    · have : i = n := by simp at hi; omega
      subst this
      rw [List.getElem_append_right (by omega)]
      simp [hl]; exact hx
theorem reach_exts {H : Type} {ts : List TypeId} {ds : List (DataW H)} (h : (DataW.weightsEach Tryd.prog ts ds).all (· ≤ reachBytes) = true) {j : Nat} {d : DataW H} (ht : ts[j]? = some 22) (hd : ds[j]? = some d) :
    ∀ elems spare, d = .slice elems spare → elems.length + spare.length ≤ 5864062014634 := by
  rintro elems spare rfl
  have := sized_slice h ht hd Tryd.underlying22
  rw [show Tryd.prog.bytesOf 33 = 24 by kernel_rfl, show reachBytes = 140737488351232 from rfl] at this
  omega
theorem exts_open {H : Type} {enc : TypeId × Value → H} {W : World} {base : Nat} {v : Value} {d : DataW H} {p : List MemPlace} (hv : Value.okWide Tryd.prog W .any base 22 v)
    (h : DataW.Trod enc Tryd.prog W 0 (fun _ => true) true 22 v d p) (R : Nat) (hR : ∀ elems spare, d = .slice elems spare → elems.length + spare.length ≤ R) :
    ∃ A n c l, v = .slice A n c ∧ HoldsX W W.heap.size A n l ∧ (∀ x ∈ l, x.rep) ∧ n ≤ c ∧ c ≤ R := by
  obtain ⟨A, n, c, rfl⟩ := okWide_slice Tryd.underlying22 hv
  obtain ⟨fuel, hf⟩ := h
  rcases open_slice Tryd.underlying22 hf with ⟨hcs, _⟩ | ⟨a, len, cap, m, k, D, Pl, hcs, _, hl, hm, hmm, hx, hel⟩
  · simp [Value.cells] at hcs
    obtain ⟨rfl, rfl, rfl⟩ := hcs
    exact ⟨none, 0, 0, [], rfl, ⟨rfl, fun h => absurd h (by omega)⟩, (fun x hx => by cases hx), Nat.le_refl _, Nat.zero_le _⟩
  · simp [Value.cells] at hcs
    obtain ⟨rfl, rfl, rfl⟩ := hcs
    have hC : Tryd.prog.cellsOf 33 = 2 := by kernel_rfl
    rw [hC] at hel
    rw [if_pos rfl] at hmm
    obtain rfl : c = m := hmm.symm
    simp only [Prod.mk.injEq] at hx
    have hle := hR _ _ hx.1
    simp only [List.length_map, List.length_range] at hle
    obtain ⟨l, hll, hls⟩ := exists_list (p := fun i (x : Rn) => x.rep ∧ ∀ q, q < 2 → W.cell? ((a.add (i * 2)).add q) = x.c[q]?) n (fun i hi => by
      obtain ⟨cs', hc, ht⟩ := hel i (by omega)
      obtain ⟨_, hcl, hat⟩ := World.cells?_some hc
      obtain ⟨x, hx, hr⟩ := ext_of_trod ht
      refine ⟨x, hr, fun q hq => ?_⟩
      rw [hat q hq, hx]
      simp [Rn.c, Rn.cl])
    obtain ⟨b, off, spot⟩ := a
    by_cases h0 : 0 < n
    · have h00 := (hls 0 (by omega)).2 0 (by omega)
      have hspot : spot = none := by
        have := World.cell?_spot (h00.trans (show (l[0]'(by omega)).c[0]? = some _ from rfl))
        simpa [Addr.add] using this
      subst hspot
      have hbl := block_lt_of_cell (h00.trans (show (l[0]'(by omega)).c[0]? = some _ from rfl))
      rw [Addr.add_mid, Addr.add_mid] at hbl
      refine ⟨_, n, c, l, rfl, ⟨hll, fun _ => ⟨b, off, rfl, hbl, fun j hj q hq => ?_⟩⟩, fun x hx => ?_, hl, by omega⟩
      · have := (hls j hj).2 q hq
        rwa [Addr.add_mid, Addr.add_mid] at this
      · obtain ⟨j, hj, rfl⟩ := List.getElem_of_mem hx
        exact (hls j hj).1
    · have hn : n = 0 := by omega
      subst hn
      have : l = [] := List.eq_nil_of_length_eq_zero hll
      subst this
      exact ⟨_, 0, c, [], rfl, ⟨rfl, fun h => absurd h (by omega)⟩, (fun x hx => by cases hx), Nat.zero_le _, by omega⟩


/-! ### A spot -/
theorem spot_by_value {H : Type} {enc : TypeId × Value → H} {W : World} {b0 : Nat} {v : Value} {d : DataW H} {p : List MemPlace} (hv : Value.okWide Tryd.prog W .any b0 40 v)
    (h : DataW.Trod enc Tryd.prog W 0 (fun _ => true) true 40 v d p) : ∃ a n : Int, v = .agg #[.int .i64 a, .int .i64 n] ∧ (-9223372036854775808 ≤ a ∧ a ≤ 9223372036854775807) ∧ -9223372036854775808 ≤ n ∧ n ≤ 9223372036854775807 := by
  obtain ⟨cs, rfl, _⟩ := okWide_struct Tryd.underlying40 hv
  obtain ⟨fuel, hf⟩ := h
  obtain ⟨ys, n, hx1, hx2, hl, hyl, hf⟩ := DataW.trod_struct Tryd.underlying40 hf
  rw [show Tryd.prog.cellsOf 40 = 2 by kernel_rfl] at hl
  obtain ⟨cl⟩ := cs
  simp only [Value.cells] at hl hf
  match cl, hl, ys, hyl with
  | [v0, v1], _, [y0, y1], _ =>
    have c0 : Tryd.prog.cellsOf 3 = 1 := by kernel_rfl
    have h0 : DataW.trod enc Tryd.prog W 0 (fun _ => true) true n 3 [v0] = some y0 := by
      have h := hf 0 _ rfl
      simpa [c0] using h
    have h1 : DataW.trod enc Tryd.prog W 0 (fun _ => true) true n 3 [v1] = some y1 := by
      have h := hf 1 _ rfl
      simpa [c0] using h
    obtain ⟨a0, e0, _, w0⟩ := DataW.trod_int Tryd.underlying3 h0
    obtain ⟨a1, e1, _, w1⟩ := DataW.trod_int Tryd.underlying3 h1
    simp at e0 e1
    subst e0 e1
    exact ⟨a0, a1, rfl, wf_i64 w0, wf_i64 w1⟩

/-! ### A card's row: tables are laid, and the call reads none of them -/
theorem witness_laid {H : Type} {enc : TypeId × Value → H} {C : Checked} {os : Os} {f : FuncId} {fn : Func} {s : OpenSpec} {laid : List (String × DataW Unit)} (args : Array Value)
    (hsh : ((World.laidAll C.prog os laid).forCall (fun _ _ => 0) ⟨#[], args, []⟩).Shaped C.prog)
    (hok : Input.okWideB C.prog ((World.laidAll C.prog os laid).forCall (fun _ _ => 0) ⟨#[], args, []⟩) f ⟨#[], args, []⟩ = true)
    (hrow : s.preRow enc C.prog fn [] false laid ((World.laidAll C.prog os laid).forCall (fun _ _ => 0) ⟨#[], args, []⟩).memory args) :
    ∃ (w : World) (tape : Tape) (i : Input), w.os = os ∧ (w.forCall tape i).Shaped C.prog ∧ i.vars = [] ∧ Input.okWide C.prog (w.forCall tape i) .any w.heap.size f i ∧
      s.preRow enc C.prog fn [] false laid (w.forCall tape i).memory i.args ∧ ({} : Assume).holds C.prog (lone (Frame.enter C.prog f i.args .normal) [] (w.forCall tape i)) :=
  ⟨World.laidAll C.prog os laid, fun _ _ => 0, ⟨#[], args, []⟩, World.laidAll_os _ _ _, hsh, (Input.okWide_of_okWideB (base := 0) hok).1, (Input.okWide_of_okWideB hok).2, hrow, by
    simp only [Assume.holds]
    exact ⟨by simp, by simp, fun _ => Modest.zero, by simp, by simp⟩⟩
theorem lifted_row {f : FuncId} {fn : Func} {s : ChangeSpec} {laid : List (String × DataW Unit)} (hw : Walks f fn All)
    (hp : (fn.params.toList.all fun t => Tryd.prog.readableRec t && decide (t < Tryd.prog.types.size)) = true) (hr : fn.resultTypes = #[4]) (hv : s.vars = [])
    (hs : ∀ (H : Type) (ds : List (DataW H)), ds.length = fn.params.toList.length → s.fn H ds = { results := [.lit (.bool true)], args := ds })
    (noInit : Tryd.prog.inits.idxOf? f = none) (hfn : Tryd.prog.funcs[f]? = some fn) (os : Os) (started : os.Started) (H : Type) (enc : TypeId × Value → H) (F : Stop.Interp)
    (witness : ∃ (w : World) (tape : Tape) (i : Input), w.os = os ∧ (w.forCall tape i).Shaped Tryd.prog ∧ i.vars = [] ∧ Input.okWide Tryd.prog (w.forCall tape i) .any w.heap.size f i ∧
      (OpenSpec.ofChange s).preRow enc Tryd.prog fn [] false laid (w.forCall tape i).memory i.args ∧ ({} : Assume).holds Tryd.prog (lone (Frame.enter Tryd.prog f i.args .normal) [] (w.forCall tape i))) :
    ReturnsInHanded {} Tryd.checked os f .any ((OpenSpec.ofChange s).preRow enc Tryd.prog fn [] false laid) (((OpenSpec.ofChange s).at F).post enc Tryd.prog fn false true false false) := by
  refine returnsInHanded_of_row (C := Tryd.checked) (s := OpenSpec.ofChange s) own started noInit hfn witness ?_
  intro W base args ds gs before hval hW _ _ hsz _ _ _
  exact law_contract hw hp hr hv hs H enc W base args ds gs before hval hW hsz rfl
theorem lifted_row_upto {f : FuncId} {fn : Func} {s : ChangeSpec} {laid : List (String × DataW Unit)} (hw : Walks f fn Rows.uptoSmall)
    (hp : (fn.params.toList.all fun t => Tryd.prog.readableRec t && decide (t < Tryd.prog.types.size)) = true) (hr : fn.resultTypes = #[4]) (hv : s.vars = [])
    (hs : ∀ (H : Type) (ds : List (DataW H)), ds.length = fn.params.toList.length → s.fn H ds = { results := [.lit (.bool true)], args := ds })
    (noInit : Tryd.prog.inits.idxOf? f = none) (hfn : Tryd.prog.funcs[f]? = some fn) (os : Os) (started : os.Started) (H : Type) (enc : TypeId × Value → H) (F : Stop.Interp)
    (witness : ∃ (w : World) (tape : Tape) (i : Input), w.os = os ∧ (w.forCall tape i).Shaped Tryd.prog ∧ i.vars = [] ∧ Input.okWide Tryd.prog (w.forCall tape i) .any w.heap.size f i ∧
      (Rows.OpenSpec.upto s).preRow enc Tryd.prog fn [] false laid (w.forCall tape i).memory i.args ∧ ({} : Assume).holds Tryd.prog (lone (Frame.enter Tryd.prog f i.args .normal) [] (w.forCall tape i))) :
    ReturnsInHanded {} Tryd.checked os f .any ((Rows.OpenSpec.upto s).preRow enc Tryd.prog fn [] false laid) (((Rows.OpenSpec.upto s).at F).post enc Tryd.prog fn false true false false) := by
  refine returnsInHanded_of_row (C := Tryd.checked) (s := Rows.OpenSpec.upto s) own started noInit hfn witness ?_
  intro W base args ds gs before hval hW _ hcond hsz _ _ _
  exact law_contract hw hp hr hv hs H enc W base args ds gs before hval hW hsz (hcond _ rfl)
end Go.Proofs.YtmbmjdogfjmlpaaDoor.Sp
