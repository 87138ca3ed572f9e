/- A list of texts among the arguments. -/
import Derived.Test.YtamhbjpoganhnaaPhMem
import Derived.Test.YtamhbjpoganhnaaLift
import Derived.Deep.Fields
import Derived.Deep.Slices
import Derived.ChangeMaps5
namespace Go.Proofs.Ytamhbjpoganhnaa.Ph
set_option maxRecDepth 20000
open Go.ChangeShapes Go.WideShapes Go.ChangeAt Go.RowKit Go.Deep
open Go.Proofs.Ytamhbjpoganhnaa.Mem Go.Proofs.Ytamhbjpoganhnaa.Lift
theorem exists_list {α : Type} {p : Nat → α → Prop} : ∀ n, (∀ i, i < n → ∃ x, p i x) → ∃ l : List α, l.length = n ∧ ∀ i, (h : i < l.length) → p i l[i]
  | 0, _ => ⟨[], rfl, fun i h => absurd h (by simp)⟩
  | n + 1, h => by
    obtain ⟨l, hl, hp⟩ := exists_list n (fun i hi => h i (by omega))
    obtain ⟨x, hx⟩ := h n (by omega)
    refine ⟨l ++ [x], by simp [hl], fun i hi => ?_⟩
    by_cases e : i < l.length
    · rw [List.getElem_append_left e]; exact hp i e
    · have : i = n := by simp at hi; omega
      subst this
      rw [List.getElem_append_right (by omega)]
      simp [hl]; exact hx
theorem reach_strs {H : Type} {ts : List TypeId} {ds : List (DataW H)} (h : (DataW.weightsEach Try.prog ts ds).all (· ≤ reachBytes) = true) {j : Nat} {d : DataW H} (ht : ts[j]? = some 23) (hd : ds[j]? = some d) :
    ∀ elems spare, d = .slice elems spare → elems.length + spare.length ≤ 8796093021952 := by
  rintro elems spare rfl
  have := sized_slice h ht hd Try.underlying23
  rw [show Try.prog.bytesOf 9 = 16 by kernel_rfl, show reachBytes = 140737488351232 from rfl] at this
  omega
theorem strs_open {H : Type} {enc : TypeId × Value → H} {W : World} {base : Nat} {v : Value} {d : DataW H} {p : List MemPlace} (hv : Value.okWide Try.prog W .any base 23 v)
    (h : DataW.Trod enc Try.prog W 0 (fun _ => true) true 23 v d p) (R : Nat) (hR : ∀ elems spare, d = .slice elems spare → elems.length + spare.length ≤ R) :
    ∃ A n c l, v = .slice A n c ∧ HoldsC SK W W.heap.size A n l ∧ (∀ x ∈ l, x.length ≤ maxLen) ∧ n ≤ c ∧ c ≤ R := by
  obtain ⟨A, n, c, rfl⟩ := okWide_slice Try.underlying23 hv
  obtain ⟨fuel, hf⟩ := h
  rcases open_slice Try.underlying23 hf with ⟨hcs, _⟩ | ⟨a, len, cap, m, k, D, Pl, hcs, _, hl, hm, hmm, hx, hel⟩
  · simp [Value.cells] at hcs
    obtain ⟨rfl, rfl, rfl⟩ := hcs
    exact ⟨none, 0, 0, [], rfl, ⟨rfl, fun h => absurd h (by omega)⟩, (fun x hx => by cases hx), Nat.le_refl _, Nat.zero_le _⟩
  · simp [Value.cells] at hcs
    obtain ⟨rfl, rfl, rfl⟩ := hcs
    have hC : Try.prog.cellsOf 9 = 1 := by kernel_rfl
    rw [hC] at hel
    rw [if_pos rfl] at hmm
    obtain rfl : c = m := hmm.symm
    simp only [Prod.mk.injEq] at hx
    have hle := hR _ _ hx.1
    simp only [List.length_map, List.length_range] at hle
    obtain ⟨l, hll, hls⟩ := exists_list (p := fun i (x : List UInt8) => x.length ≤ maxLen ∧ W.cell? (a.add i) = some (.string ⟨x.toArray⟩)) n (fun i hi => by
      obtain ⟨cs', hc, ht⟩ := hel i (by omega)
      obtain ⟨_, hcl, hat⟩ := World.cells?_some hc
      match cs', hcl with
      | [v'], _ =>
        obtain ⟨s0, e0, _, w0⟩ := DataW.trod_string Try.underlying9 ht
        simp at e0
        subst e0
        refine ⟨s0.data.toList, by rw [show s0.data.toList.length = s0.size from Array.length_toList]; exact w0, ?_⟩
        have := hat 0 (by omega)
        rw [Nat.mul_one] at this
        have e2 : (a.add i).add 0 = a.add i := by unfold Addr.add; split <;> simp_all
        rw [e2] at this
        rw [this]
        rfl)
    obtain ⟨b, off, spot⟩ := a
    by_cases h0 : 0 < n
    · have h00 := (hls 0 (by omega)).2
      have hspot : spot = none := by
        have := World.cell?_spot h00
        simpa [Addr.add] using this
      subst hspot
      have hbl := block_lt_of_cell h00
      rw [Addr.add_mid] at hbl
      refine ⟨_, n, c, l, rfl, ⟨hll, fun _ => ⟨b, off, rfl, hbl, fun j hj q hq => ?_⟩⟩, fun x hx => ?_, hl, by omega⟩
      · have := (hls j hj).2
        rw [Addr.add_mid] at this
        have hq0 : q = 0 := by have : q < 1 := hq; omega
        subst hq0
        rw [show off + j * SK.k + 0 = off + j by show off + j * 1 + 0 = _; omega]
        exact this
      · obtain ⟨j, hj, rfl⟩ := List.getElem_of_mem hx
        exact (hls j hj).1
    · have hn : n = 0 := by omega
      subst hn
      have : l = [] := List.eq_nil_of_length_eq_zero hll
      subst this
      exact ⟨_, 0, c, [], rfl, ⟨rfl, fun h => absurd h (by omega)⟩, (fun x hx => by cases hx), Nat.zero_le _, by omega⟩

end Go.Proofs.Ytamhbjpoganhnaa.Ph
