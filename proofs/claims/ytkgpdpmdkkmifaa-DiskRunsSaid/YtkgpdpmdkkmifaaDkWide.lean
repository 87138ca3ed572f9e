/- Deeds among the arguments: the bits of each are of a length that Go can reach. -/
import Derived.Test.YtkgpdpmdkkmifaaDeeds
namespace Go.Proofs.Ytkgpdpmdkkmifaa.Disk
set_option maxRecDepth 20000
open Go.ChangeShapes Go.WideShapes Go.ChangeAt Go.RowKit Go.Deep
open Go.Proofs.Ytkgpdpmdkkmifaa.Mem Go.Proofs.Ytkgpdpmdkkmifaa.Lift

theorem weights_mem_all {H : Type} {P : Program} {t : TypeId} : ∀ {ds : List (DataW H)} {d : DataW H}, d ∈ ds → ∀ n ∈ d.weights P t, n ∈ DataW.weightsAll P t ds
  | e :: r, d, hd, n, hn => by
    simp only [DataW.weightsAll, List.mem_append]
    rcases List.mem_cons.1 hd with rfl | h
    · exact Or.inl hn
    · exact Or.inr (weights_mem_all h n hn)
theorem bytes_wide {H : Type} {enc : TypeId × Value → H} {W : World} {fuel : Nat} {v : Value} {y : DataW H × List MemPlace} (h : DataW.trod enc Try.prog W 0 (fun _ => true) true fuel 33 [v] = some y) (hw : ∀ n ∈ y.1.weights Try.prog 33, n ≤ reachBytes) :
    ∃ A n c, v = .slice A n c ∧ n ≤ 140737488351232 := by
  obtain ⟨A, n, c, bs, e, h1, h2, h3⟩ := bytes_part h
  refine ⟨A, n, c, e, ?_⟩
  rcases open_ints Try.underlying33 Try.underlying5 (by kernel_rfl) h with ⟨hcs, _⟩ | ⟨x, l, c', zs, hcs, _, hl, hm, hz, hy, hcell, hwz⟩
  · rw [e] at hcs
    simp at hcs
    omega
  · rw [e] at hcs
    simp at hcs
    obtain ⟨rfl, rfl, rfl⟩ := hcs
    rw [hy] at hw
    have hzl : zs.length = c := by simpa using hz
    have := hw _ (by simp only [DataW.weights, Try.underlying33]; exact List.mem_cons_self ..)
    rw [show Try.prog.bytesOf 5 = 1 by kernel_rfl, show reachBytes = 140737488351232 from rfl] at this
    simp only [lits, List.length_map, List.length_take, List.length_drop] at this
    omega
theorem deed_wide {H : Type} {enc : TypeId × Value → H} {W : World} {fuel : Nat} {cs : List Value} {x : DataW H × List MemPlace} (h : DataW.trod enc Try.prog W 0 (fun _ => true) true fuel 35 cs = some x) (hw : ∀ n ∈ x.1.weights Try.prog 35, n ≤ reachBytes) :
    ∀ A n c, cs[4]? = some (.slice A n c) → n ≤ 140737488351232 := by
  intro A n c h4
  obtain ⟨ys, m, _, hx, hl, hyl, hf⟩ := DataW.trod_struct Try.underlying35 h
  have hC : Try.prog.cellsOf 35 = 5 := by kernel_rfl
  have hC1 : Try.prog.cellsOf 33 = 1 := by kernel_rfl
  rw [hC] at hl
  match cs, hl with
  | [v0, v1, v2, v3, v4], _ =>
    match ys, hyl with
    | [y0, y1, y2, y3, y4], _ =>
      have h5 := hf 4 _ rfl
      change DataW.trod enc Try.prog W 0 (fun _ => true) true m 33 (List.take (Try.prog.cellsOf 33) (List.drop 4 [v0, v1, v2, v3, v4])) = [y0, y1, y2, y3, y4][4]? at h5
      rw [hC1] at h5
      have h6 : DataW.trod enc Try.prog W 0 (fun _ => true) true m 33 [v4] = some y4 := h5
      obtain ⟨A', n', c', e, hb⟩ := bytes_wide h6 (fun k hk => hw k (by
        rw [hx]
        simp only [DataW.weights, Try.underlying35]
        exact DataW.weights_mem_each (j := 4) rfl rfl k hk))
      have h7 : v4 = .slice A n c := by simpa using h4
      rw [e] at h7
      injection h7 with _ h7 _
      omega
/-- The bits of each deed of a list of them. -/
theorem deeds_wide {H : Type} {enc : TypeId × Value → H} {W : World} {v : Value} {d : DataW H} {p : List MemPlace}
    (h : DataW.Trod enc Try.prog W 0 (fun _ => true) true 22 v d p) (hw : ∀ n ∈ d.weights Try.prog 22, n ≤ reachBytes) {A : Option Addr} {n c : Nat} {xs : List DeedR} (hv : v = .slice A n c) (hd : Deeds W W.heap.size A n xs) : ∀ x ∈ xs, x.n ≤ 140737488351232 := by
  obtain ⟨fuel, hf⟩ := h
  subst hv
  intro x hx
  obtain ⟨i, hi, rfl⟩ := List.getElem_of_mem hx
  obtain ⟨hxl, hcell, _⟩ := hd
  rcases open_slice Try.underlying22 hf with ⟨hcs, _⟩ | ⟨a, len, cap, m, k, D, Pl, hcs, _, hl, hm, hmm, hy, hel⟩
  · simp [Value.cells] at hcs
    omega
  · simp [Value.cells] at hcs
    obtain ⟨rfl, rfl, rfl⟩ := hcs
    have hC : Try.prog.cellsOf 35 = 5 := by kernel_rfl
    rw [hC] at hel
    rw [if_pos rfl] at hmm
    obtain rfl : c = m := hmm.symm
    obtain ⟨b, off, ha, hbl, hcc⟩ := hcell (by omega)
    injection ha with ha
    subst ha
    obtain ⟨cs', hc, ht⟩ := hel i (by omega)
    obtain ⟨_, hcl, hat⟩ := World.cells?_some hc
    have h4 := hat 4 (by omega)
    have h4' := hcc i hi 4 (by omega)
    refine deed_wide ht (fun k hk => hw k ?_) xs[i].A xs[i].n xs[i].c ?_
    · injection hy with hy
      rw [hy]
      simp only [DataW.weights, Try.underlying22]
      exact List.mem_cons_of_mem _ (List.mem_append_left _ (weights_mem_all (d := D i) (List.mem_map.2 ⟨i, List.mem_range.2 (by omega), rfl⟩) k hk))
    · rw [Addr.add_mid, Addr.add_mid] at h4
      rw [← h4, h4']
      rfl
end Go.Proofs.Ytkgpdpmdkkmifaa.Disk
