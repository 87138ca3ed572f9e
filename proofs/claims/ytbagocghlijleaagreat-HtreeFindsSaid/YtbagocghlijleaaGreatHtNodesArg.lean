/- A list of texts among the arguments. -/
import Derived.Test.YtbagocghlijleaaGreatHtNodes
import Derived.Test.YtbagocghlijleaaGreatLfArg
import Derived.Deep.Slices
namespace Go.Proofs.YtbagocghlijleaaGreat.Ht
set_option maxRecDepth 20000
open Go.ChangeShapes Go.WideShapes Go.ChangeAt Go.RowKit Go.Deep
open Go.Proofs.YtbagocghlijleaaGreat.Mem Go.Proofs.YtbagocghlijleaaGreat.Crc Go.Proofs.YtbagocghlijleaaGreat.Rec Go.Proofs.YtbagocghlijleaaGreat.Lf Go.Proofs.YtbagocghlijleaaGreat.Lift
theorem bytes_part {H : Type} {enc : TypeId × Value → H} {W : World} {fuel : Nat} {v : Value} {y : DataW H × List MemPlace} (h : DataW.trod enc Tryz.prog W 0 (fun _ => true) true fuel 34 [v] = some y) :
    ∃ A n c bs, v = .slice A n c ∧ Holds W W.heap.size A n bs ∧ n ≤ c ∧ c ≤ maxLen := by
  rcases open_ints Tryz.underlying34 Tryz.underlying5 (by kernel_rfl) h with ⟨hcs, _⟩ | ⟨x, l, c', zs, hcs, _, hl, hm, hz, _, hcell, hwz⟩
  · simp at hcs
    subst hcs
    exact ⟨none, 0, 0, [], rfl, ⟨rfl, fun h => absurd h (by omega)⟩, Nat.le_refl _, Nat.zero_le _⟩
  · simp at hcs
    subst hcs
    have hzl : zs.length = c' := by simpa using hz
    refine ⟨_, _, _, (zs.take l).map fun z => UInt8.ofNat z.toNat, rfl, ⟨by simp; omega, fun hn => ?_⟩, hl, hm⟩
    obtain ⟨b, off, spot⟩ := x
    have hc0 := hcell 0 (by omega)
    have hspot : spot = none := by simpa [Addr.add] using World.cell?_spot hc0
    subst hspot
    refine ⟨b, off, rfl, by simpa [Addr.add] using block_lt_of_cell hc0, fun j hj => ?_⟩
    have hjz : j < zs.length := by simp at hj; omega
    have hadd : (⟨b, off, none⟩ : Addr).add j = ⟨b, off + j, none⟩ := by unfold Addr.add; split <;> simp_all
    rw [← hadd, hcell j hjz]
    have hw := bounds_u8 (hwz zs[j] (List.getElem_mem hjz))
    have e : zs.getD j 0 = zs[j] := by simp [List.getD, hjz]
    rw [e]
    simp only [List.getElem_map, List.getElem_take]
    congr 2
    simp
    omega
theorem nodes_open {H : Type} {enc : TypeId × Value → H} {W : World} {base : Nat} {v : Value} {d : DataW H} {p : List MemPlace} (hv : Value.okWide Tryz.prog W .any base 24 v)
    (h : DataW.Trod enc Tryz.prog W 0 (fun _ => true) true 24 v d p) (R : Nat) (hR : ∀ elems spare, d = .slice elems spare → elems.length + spare.length ≤ R) :
    ∃ A n c N, v = .slice A n c ∧ HoldsN W W.heap.size A n N ∧ n ≤ c ∧ c ≤ R := by
  obtain ⟨A, n, c, rfl⟩ := okWide_slice Tryz.underlying24 hv
  obtain ⟨fuel, hf⟩ := h
  rcases open_slice Tryz.underlying24 hf with ⟨hcs, _⟩ | ⟨a, len, cap, m, k, D, Pl, hcs, _, hl, hm, hmm, hx, hel⟩
  · simp [Value.cells] at hcs
    obtain ⟨rfl, rfl, rfl⟩ := hcs
    exact ⟨none, 0, 0, [], rfl, HoldsN.nil _ _ _, Nat.le_refl _, Nat.zero_le _⟩
  · simp [Value.cells] at hcs
    obtain ⟨rfl, rfl, rfl⟩ := hcs
    have hC : Tryz.prog.cellsOf 34 = 1 := by kernel_rfl
    rw [hC] at hel
    rw [if_pos rfl] at hmm
    obtain rfl : c = m := hmm.symm
    simp only [Prod.mk.injEq] at hx
    have hle := hR _ _ hx.1
    simp only [List.length_map, List.length_range] at hle
    obtain ⟨N, hll, hls⟩ := exists_list (p := fun i (x : List UInt8) => ∃ A' c', W.cell? (a.add i) = some (.slice A' x.length c') ∧ Holds W W.heap.size A' x.length x ∧ x.length ≤ c' ∧ c' ≤ maxLen) n (fun i hi => by
      obtain ⟨cs', hc, ht⟩ := hel i (by omega)
      obtain ⟨_, hcl, hat⟩ := World.cells?_some hc
      match cs', hcl with
      | [v'], _ =>
        obtain ⟨A', n', c', bs, e1, hb, hk, hcm⟩ := bytes_part ht
        have hn' : n' = bs.length := hb.1.symm
        subst hn'
        refine ⟨bs, A', c', ?_, hb, hk, hcm⟩
        have := hat 0 (by omega)
        rw [Nat.mul_one] at this
        have e2 : (a.add i).add 0 = a.add i := by unfold Addr.add; split <;> simp_all
        rw [e2] at this
        rw [this, e1]
        rfl)
    obtain ⟨b, off, spot⟩ := a
    by_cases h0 : 0 < n
    · obtain ⟨A0, c0, h00, _⟩ := hls 0 (by omega)
      have hspot : spot = none := by
        have := World.cell?_spot h00
        simpa [Addr.add] using this
      subst hspot
      have hbl := block_lt_of_cell h00
      rw [Addr.add_mid] at hbl
      refine ⟨_, n, c, N, rfl, ⟨hll, fun _ => ⟨b, off, rfl, hbl, fun j hj => ?_⟩⟩, hl, by omega⟩
      obtain ⟨A', c', e1, e2, e3, e4⟩ := hls j hj
      rw [Addr.add_mid] at e1
      exact ⟨A', c', e1, e2, e3, e4⟩
    · have hn : n = 0 := by omega
      subst hn
      have : N = [] := List.eq_nil_of_length_eq_zero hll
      subst this
      exact ⟨_, 0, c, [], rfl, HoldsN.nil _ _ _, Nat.zero_le _, by omega⟩
theorem reach_nodes {H : Type} {ts : List TypeId} {ds : List (DataW H)} (h : (DataW.weightsEach Tryz.prog ts ds).all (· ≤ reachBytes) = true) {j : Nat} {d : DataW H} (ht : ts[j]? = some 24) (hd : ds[j]? = some d) :
    ∀ elems spare, d = .slice elems spare → elems.length + spare.length ≤ 5864062014634 := by
  rintro elems spare rfl
  have := sized_slice h ht hd Tryz.underlying24
  rw [show Tryz.prog.bytesOf 34 = 24 by kernel_rfl, show reachBytes = 140737488351232 from rfl] at this
  omega
theorem wall_mem {H : Type} {P : Program} {e : TypeId} : ∀ {l : List (DataW H)} {d : DataW H}, d ∈ l → ∀ n ∈ d.weights P e, n ∈ DataW.weightsAll P e l
  | [], _, h, _, _ => by cases h
  | y :: l, d, h, n, hn => by
    rw [DataW.weightsAll, List.mem_append]
    rcases List.mem_cons.1 h with rfl | h
    · exact .inl hn
    · exact .inr (wall_mem h n hn)
theorem bytes_partS {H : Type} {enc : TypeId × Value → H} {W : World} {fuel : Nat} {v : Value} {y : DataW H × List MemPlace} (h : DataW.trod enc Tryz.prog W 0 (fun _ => true) true fuel 34 [v] = some y) :
    ∃ A n c bs, v = .slice A n c ∧ Holds W W.heap.size A n bs ∧ n ≤ c ∧ c ≤ maxLen ∧ ((∀ m ∈ y.1.weights Tryz.prog 34, m ≤ reachBytes) → n ≤ 140737488351232) := by
  rcases open_ints Tryz.underlying34 Tryz.underlying5 (by kernel_rfl) h with ⟨hcs, _⟩ | ⟨x, l, c', zs, hcs, _, hl, hm, hz, hx, hcell, hwz⟩
  · simp at hcs
    subst hcs
    exact ⟨none, 0, 0, [], rfl, ⟨rfl, fun h => absurd h (by omega)⟩, Nat.le_refl _, Nat.zero_le _, fun _ => Nat.zero_le _⟩
  · simp at hcs
    subst hcs
    have hzl : zs.length = c' := by simpa using hz
    refine ⟨_, _, _, (zs.take l).map fun z => UInt8.ofNat z.toNat, rfl, ⟨by simp; omega, fun hn => ?_⟩, hl, hm, fun hw => ?_⟩
    rotate_left
    · have := hw ((((lits .u8 (zs.take l) : List (DataW H))).length + (lits .u8 (zs.drop l) : List (DataW H)).length) * Tryz.prog.bytesOf 5) (by
        rw [hx]
        simp [DataW.weights, Tryz.underlying34])
      rw [show Tryz.prog.bytesOf 5 = 1 by kernel_rfl, show reachBytes = 140737488351232 from rfl] at this
      simp only [lits, List.length_map, List.length_take, List.length_drop] at this
      omega
    obtain ⟨b, off, spot⟩ := x
    have hc0 := hcell 0 (by omega)
    have hspot : spot = none := by simpa [Addr.add] using World.cell?_spot hc0
    subst hspot
    refine ⟨b, off, rfl, by simpa [Addr.add] using block_lt_of_cell hc0, fun j hj => ?_⟩
    have hjz : j < zs.length := by simp at hj; omega
    have hadd : (⟨b, off, none⟩ : Addr).add j = ⟨b, off + j, none⟩ := by unfold Addr.add; split <;> simp_all
    rw [← hadd, hcell j hjz]
    have hw := bounds_u8 (hwz zs[j] (List.getElem_mem hjz))
    have e : zs.getD j 0 = zs[j] := by simp [List.getD, hjz]
    rw [e]
    simp only [List.getElem_map, List.getElem_take]
    congr 2
    simp
    omega
theorem nodes_openS {H : Type} {enc : TypeId × Value → H} {W : World} {base : Nat} {v : Value} {d : DataW H} {p : List MemPlace} (hv : Value.okWide Tryz.prog W .any base 24 v)
    (h : DataW.Trod enc Tryz.prog W 0 (fun _ => true) true 24 v d p) (R : Nat) (hR : ∀ elems spare, d = .slice elems spare → elems.length + spare.length ≤ R) (hW : ∀ m ∈ d.weights Tryz.prog 24, m ≤ reachBytes) :
    ∃ A n c N, v = .slice A n c ∧ HoldsN W W.heap.size A n N ∧ n ≤ c ∧ c ≤ R ∧ ∀ x ∈ N, x.length ≤ 140737488351232 := by
  obtain ⟨A, n, c, rfl⟩ := okWide_slice Tryz.underlying24 hv
  obtain ⟨fuel, hf⟩ := h
  rcases open_slice Tryz.underlying24 hf with ⟨hcs, _⟩ | ⟨a, len, cap, m, k, D, Pl, hcs, _, hl, hm, hmm, hx, hel⟩
  · simp [Value.cells] at hcs
    obtain ⟨rfl, rfl, rfl⟩ := hcs
    exact ⟨none, 0, 0, [], rfl, HoldsN.nil _ _ _, Nat.le_refl _, Nat.zero_le _, fun x hx => by cases hx⟩
  · simp [Value.cells] at hcs
    obtain ⟨rfl, rfl, rfl⟩ := hcs
    have hC : Tryz.prog.cellsOf 34 = 1 := by kernel_rfl
    rw [hC] at hel
    rw [if_pos rfl] at hmm
    obtain rfl : c = m := hmm.symm
    simp only [Prod.mk.injEq] at hx
    have hle := hR _ _ hx.1
    simp only [List.length_map, List.length_range] at hle
    obtain ⟨N, hll, hls⟩ := exists_list (p := fun i (x : List UInt8) => ∃ A' c', W.cell? (a.add i) = some (.slice A' x.length c') ∧ Holds W W.heap.size A' x.length x ∧ x.length ≤ c' ∧ c' ≤ maxLen ∧ x.length ≤ 140737488351232) n (fun i hi => by
      obtain ⟨cs', hc, ht⟩ := hel i (by omega)
      obtain ⟨_, hcl, hat⟩ := World.cells?_some hc
      match cs', hcl with
      | [v'], _ =>
        obtain ⟨A', n', c', bs, e1, hb, hk, hcm, hsz⟩ := bytes_partS ht
        have hn' : n' = bs.length := hb.1.symm
        subst hn'
        refine ⟨bs, A', c', ?_, hb, hk, hcm, hsz fun m hm => hW m ?_⟩
        rotate_left
        · rw [hx.1]
          simp only [DataW.weights, Tryz.underlying24]
          refine List.mem_cons_of_mem _ (List.mem_append_left _ (wall_mem ?_ m hm))
          exact List.mem_map.2 ⟨i, List.mem_range.2 hi, rfl⟩
        have := hat 0 (by omega)
        rw [Nat.mul_one] at this
        have e2 : (a.add i).add 0 = a.add i := by unfold Addr.add; split <;> simp_all
        rw [e2] at this
        rw [this, e1]
        rfl)
    obtain ⟨b, off, spot⟩ := a
    by_cases h0 : 0 < n
    · obtain ⟨A0, c0, h00, _⟩ := hls 0 (by omega)
      have hspot : spot = none := by
        have := World.cell?_spot h00
        simpa [Addr.add] using this
      subst hspot
      have hbl := block_lt_of_cell h00
      rw [Addr.add_mid] at hbl
      refine ⟨_, n, c, N, rfl, ⟨hll, fun _ => ⟨b, off, rfl, hbl, fun j hj => ?_⟩⟩, hl, by omega, fun x hx => ?_⟩
      · obtain ⟨A', c', e1, e2, e3, e4, _⟩ := hls j hj
        rw [Addr.add_mid] at e1
        exact ⟨A', c', e1, e2, e3, e4⟩
      · obtain ⟨j, hj, rfl⟩ := List.getElem_of_mem hx
        exact (hls j (by omega)).choose_spec.choose_spec.2.2.2.2
    · have hn : n = 0 := by omega
      subst hn
      have : N = [] := List.eq_nil_of_length_eq_zero hll
      subst this
      exact ⟨_, 0, c, [], rfl, HoldsN.nil _ _ _, Nat.zero_le _, by omega, fun x hx => by cases hx⟩
theorem weights_nodes {H : Type} {ts : List TypeId} {ds : List (DataW H)} (h : (DataW.weightsEach Tryz.prog ts ds).all (· ≤ reachBytes) = true) {j : Nat} {d : DataW H} (ht : ts[j]? = some 24) (hd : ds[j]? = some d) :
    ∀ m ∈ d.weights Tryz.prog 24, m ≤ reachBytes := fun m hm => by simpa using List.all_eq_true.1 h _ (DataW.weights_mem_each ht hd m hm)
end Go.Proofs.YtbagocghlijleaaGreat.Ht
