/- Lists of names among the arguments; names added one behind the other, and in turned order. -/
import Derived.Test.YtbagocghlijleaaGreatHtArgD
import Derived.Test.YtbagocghlijleaaGreatHtSteps
namespace Go.Proofs.YtbagocghlijleaaGreat.Ht
set_option maxRecDepth 20000
open Go.ChangeShapes Go.WideShapes Go.ChangeAt Go.RowKit Go.Deep
open Go.Proofs.YtbagocghlijleaaGreat.Mem Go.Proofs.YtbagocghlijleaaGreat.Crc Go.Proofs.YtbagocghlijleaaGreat.Rec Go.Proofs.YtbagocghlijleaaGreat.Lift Go.Proofs.YtbagocghlijleaaGreat.Reg Go.Proofs.YtbagocghlijleaaGreat.Lf

def SK : Rk (List UInt8) := ⟨9, 53, 1, 16, .string ⟨#[]⟩, fun t => [.string ⟨t.toArray⟩]⟩
theorem reach_strs {H : Type} {ts : List TypeId} {ds : List (DataW H)} (h : (DataW.weightsEach Tryz.prog ts ds).all (· ≤ reachBytes) = true) {j : Nat} {d : DataW H} (ht : ts[j]? = some 53) (hd : ds[j]? = some d) :
    ∀ elems spare, d = .slice elems spare → elems.length + spare.length ≤ 8796093021952 := by
  rintro elems spare rfl
  have := sized_slice h ht hd Tryz.underlying53
  rw [show Tryz.prog.bytesOf 9 = 16 by kernel_rfl, show reachBytes = 140737488351232 from rfl] at this
  omega
theorem strs_open {H : Type} {enc : TypeId × Value → H} {W : World} {base : Nat} {v : Value} {d : DataW H} {p : List MemPlace} (hv : Value.okWide Tryz.prog W .any base 53 v)
    (h : DataW.Trod enc Tryz.prog W 0 (fun _ => true) true 53 v d p) (R : Nat) (hR : ∀ elems spare, d = .slice elems spare → elems.length + spare.length ≤ R) :
    ∃ A n c l, v = .slice A n c ∧ HoldsC SK W W.heap.size A n l ∧ (∀ x ∈ l, x.length ≤ maxLen) ∧ n ≤ c ∧ c ≤ R := by
  obtain ⟨A, n, c, rfl⟩ := okWide_slice Tryz.underlying53 hv
  obtain ⟨fuel, hf⟩ := h
  rcases open_slice Tryz.underlying53 hf with ⟨hcs, _⟩ | ⟨a, len, cap, m, k, D, Pl, hcs, _, hl, hm, hmm, hx, hel⟩
  · simp [Value.cells] at hcs
    obtain ⟨rfl, rfl, rfl⟩ := hcs
    exact ⟨none, 0, 0, [], rfl, ⟨rfl, fun h => absurd h (by omega)⟩, (fun x hx => by cases hx), Nat.le_refl _, Nat.zero_le _⟩
  · simp [Value.cells] at hcs
    obtain ⟨rfl, rfl, rfl⟩ := hcs
    have hC : Tryz.prog.cellsOf 9 = 1 := by kernel_rfl
    rw [hC] at hel
    rw [if_pos rfl] at hmm
    obtain rfl : c = m := hmm.symm
    simp only [Prod.mk.injEq] at hx
    have hle := hR _ _ hx.1
    simp only [List.length_map, List.length_range] at hle
    obtain ⟨l, hll, hls⟩ := exists_list (p := fun i (x : List UInt8) => x.length ≤ maxLen ∧ W.cell? (a.add i) = some (.string ⟨x.toArray⟩)) n (fun i hi => by
      obtain ⟨cs', hc, ht⟩ := hel i (by omega)
      obtain ⟨_, hcl, hat⟩ := World.cells?_some hc
      match cs', hcl with
      | [v'], _ =>
        obtain ⟨s0, e0, _, w0⟩ := DataW.trod_string Tryz.underlying9 ht
        simp at e0
        subst e0
        refine ⟨s0.data.toList, by rw [show s0.data.toList.length = s0.size from Array.length_toList]; exact w0, ?_⟩
        have := hat 0 (by omega)
        rw [Nat.mul_one] at this
        have e2 : (a.add i).add 0 = a.add i := by unfold Addr.add; split <;> simp_all
        rw [e2] at this
        rw [this]
        rfl)
    obtain ⟨b, off, spot⟩ := a
    by_cases h0 : 0 < n
    · have h00 := (hls 0 (by omega)).2
      have hspot : spot = none := by
        have := World.cell?_spot h00
        simpa [Addr.add] using this
      subst hspot
      have hbl := block_lt_of_cell h00
      rw [Addr.add_mid] at hbl
      refine ⟨_, n, c, l, rfl, ⟨hll, fun _ => ⟨b, off, rfl, hbl, fun j hj q hq => ?_⟩⟩, fun x hx => ?_, hl, by omega⟩
      · have := (hls j hj).2
        rw [Addr.add_mid] at this
        have hq0 : q = 0 := by have : q < 1 := hq; omega
        subst hq0
        rw [show off + j * SK.k + 0 = off + j by show off + j * 1 + 0 = _; omega]
        exact this
      · obtain ⟨j, hj, rfl⟩ := List.getElem_of_mem hx
        exact (hls j hj).1
    · have hn : n = 0 := by omega
      subst hn
      have : l = [] := List.eq_nil_of_length_eq_zero hll
      subst this
      exact ⟨_, 0, c, [], rfl, ⟨rfl, fun h => absurd h (by omega)⟩, (fun x hx => by cases hx), Nat.zero_le _, by omega⟩

/-- One name more. -/
theorem addsD_snoc (f : List UInt8 → Int) (t : List UInt8) : ∀ (l : List (List UInt8)) (d : List (List UInt8)), (addsD f d l).2 = true →
    addsD f d (l ++ [t]) = if (addD (addsD f d l).1 ⟨t, f t⟩).2 = 9 then ((addsD f d l).1, false) else (if (addD (addsD f d l).1 ⟨t, f t⟩).2 = 0 then (addD (addsD f d l).1 ⟨t, f t⟩).1 else (addsD f d l).1, true)
  | [], d, _ => by
    simp only [List.nil_append]
    unfold addsD
    rfl
  | s :: l, d, h => by
    have e : ∀ m, addsD f d (s :: m) = if (addD d ⟨s, f s⟩).2 = 9 then (d, false) else addsD f (if (addD d ⟨s, f s⟩).2 = 0 then (addD d ⟨s, f s⟩).1 else d) m := fun m => by rw [addsD]
    rw [e] at h
    rw [List.cons_append, e, e]
    by_cases h9 : (addD d ⟨s, f s⟩).2 = 9
    · rw [if_pos h9] at h; cases h
    · rw [if_neg h9] at h
      rw [if_neg h9, if_neg h9]
      exact addsD_snoc f t l _ h
/-- The first i of a list, from place r on. -/
def turnS {α : Type} (l : List α) (z : α) (r n i : Nat) : List α := (List.range i).map fun j => l.getD ((r + j) % n) z
theorem turnS_succ {α : Type} (l : List α) (z : α) (r n i : Nat) : turnS l z r n (i + 1) = turnS l z r n i ++ [l.getD ((r + i) % n) z] := by
  unfold turnS
  rw [List.range_succ, List.map_append]
  rfl
theorem turnS_mem {α : Type} (l : List α) (z : α) (r n : Nat) (hn : n ≤ l.length) (h0 : 0 < n) (hr : r < n) (t : α) : t ∈ l.take n ↔ t ∈ turnS l z r n n := by
  unfold turnS
  rw [List.mem_map]
  constructor
  · intro h
    obtain ⟨j, hj, rfl⟩ := List.getElem_of_mem h
    rw [List.length_take] at hj
    have hj2 : j < n := by omega
    refine ⟨(j + (n - r)) % n, by rw [List.mem_range]; exact Nat.mod_lt _ h0, ?_⟩
    have e : (r + (j + (n - r)) % n) % n = j := by
      rw [Nat.add_mod_mod, show r + (j + (n - r)) = j + n by omega, Nat.add_mod_right, Nat.mod_eq_of_lt hj2]
    rw [e, List.getD_eq_getElem?_getD, List.getElem?_eq_getElem (by omega), List.getElem_take]
    rfl
  · rintro ⟨i, _, rfl⟩
    have h1 : (r + i) % n < n := Nat.mod_lt _ h0
    rw [List.getD_eq_getElem?_getD, List.getElem?_eq_getElem (by omega), Option.getD_some]
    exact List.mem_iff_getElem.2 ⟨(r + i) % n, by rw [List.length_take]; omega, List.getElem_take⟩
end Go.Proofs.YtbagocghlijleaaGreat.Ht
