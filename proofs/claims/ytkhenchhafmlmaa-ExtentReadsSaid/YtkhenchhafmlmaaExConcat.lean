/- Appends of whole lists, and lists put behind one another: slices.Concat. -/
import Derived.Test.YtkhenchhafmlmaaExJoin
import Derived.Lib.AppendZeros
namespace Go.Proofs.Ytkhenchhafmlmaa.Ex
set_option maxRecDepth 20000
open Go.RowKit
open Go.Proofs.Ytkhenchhafmlmaa.Mem Go.Proofs.Ytkhenchhafmlmaa.Crc Go.Proofs.Ytkhenchhafmlmaa.Rec Go.Proofs.Ytkhenchhafmlmaa.Reg
attribute [local go_sem ↓] ldX_eq stX_eq

theorem run_addX (w : World) (ty : TypeId) (base : Nat) (v : Value) (l : List X) (hown : OwnX w base v l) (B : Nat) (A : Option Addr) (m c : Nat) (ys : List X) (hr : HoldsX w B A m ys)
    (hlen : l.length + m ≤ 4398046511104) (hbase : base ≤ w.heap.size) :
    ∃ v' w', (Builtin.append_ #[22, 22] ty #[v, .slice A m c]).run Try.prog w = .ok v' w' ∧ OwnX w' base v' (l ++ ys) ∧ Grows w w' v v' := by
  obtain ⟨i0, hi, hz0, hz1, hz2⟩ := info_parts info_x
  obtain ⟨hl, hc⟩ := hr
  rcases A with _ | ad
  · have hm : m = 0 := by
      rcases Nat.eq_zero_or_pos m with h0 | h0
      · exact h0
      · obtain ⟨b, off, e, _⟩ := hc h0; cases e
    subst hm
    obtain rfl : ys = [] := List.eq_nil_of_length_eq_zero hl
    refine ⟨v, w, ?_, by simpa using hown, Grows.refl _ _⟩
    rcases hown.2 with ⟨rfl, _⟩ | ⟨g, cap, cur, rfl, _, _, hnc, _⟩
    · simp [Builtin.append_, run_underlying Try.underlying22, sizeOf, typeInfo, hi, Builtin.lenOf, Builtin.firstCells]
    · simp [Builtin.append_, run_underlying Try.underlying22, sizeOf, typeInfo, hi, Builtin.lenOf, Builtin.firstCells, hnc, storeCells]
  · have hcells : ∀ j u, (cellsX ys)[j]? = some u → w.cell? (ad.add j) = some u := by
      intro j u hu
      have hj : j < ys.length * 4 := by
        have := (List.getElem?_eq_some_iff.1 hu).1
        rwa [cellsX_len] at this
      obtain ⟨b, off, e, _, hcell⟩ := hc (by omega)
      injection e with e
      subst e
      have hadd : (⟨b, off, none⟩ : Addr).add j = ⟨b, off + j, none⟩ := by unfold Addr.add; split <;> simp_all
      rw [hadd, show off + j = off + j / 4 * 4 + j % 4 by omega, hcell (j / 4) (by omega) (j % 4) (by omega), ← cellsX_get ys (j / 4) (j % 4) (by omega) (by omega), show j / 4 * 4 + j % 4 = j by omega]
      exact hu
    have h1 : ∀ u ∈ cellsX ys, u.oneCell' = true := by
      intro u hu
      unfold cellsX at hu
      obtain ⟨x, _, hx⟩ := List.mem_flatMap.1 hu
      simp [X.cl] at hx
      rcases hx with rfl | rfl | rfl | rfl <;> rfl
    obtain ⟨v', w', hrun, h2, h3, _, h5⟩ := run_append_own_at (P := Try.prog) w base 22 ty 24 i0 _ 4 32 Try.underlying22 hi hz0 hz1 hz2 rfl (by decide) v l.length (cellsX l) hown ad m c (cellsX ys) (by rw [cellsX_len, hl]) hcells h1 (by unfold maxLen; omega) (by omega) hbase
    refine ⟨v', w', hrun, ?_, h3, fun k hk => ?_⟩
    · unfold OwnX
      rw [List.length_append, cellsX_append, hl]
      exact h2
    · rcases h5 with e | e
      · rw [e] at hk; exact .inl hk
      · rw [e] at hk
        injection hk with hk
        exact .inr (by omega)
theorem ownX_empty (w : World) : OwnX (w.alloc (.cells #[] 24)) w.heap.size (.slice (some ⟨w.heap.size, 0, none⟩) 0 0) [] :=
  ⟨rfl, .inr ⟨w.heap.size, 0, _, rfl, Nat.le_refl _, heap_alloc_new w _, Nat.zero_le _, by unfold maxLen; omega, rfl, rfl⟩⟩

set_option maxRecDepth 100000 in
theorem grow_any (n : Nat) (h0 : 0 < n) (hn : n ≤ 1048576) (w : World) :
    Calls Try.prog 61 #[.slice none 0 0, .int .i64 (n : Int)] w fun E w' => ∃ A c, E = .returned (.slice A 0 c) ∧ OwnX w' w.heap.size (.slice A 0 c) [] ∧ Below w.heap.size w w' := by
  obtain ⟨i0, hi, hz0, hz1, hz2⟩ := info_parts info_x
  have hrun := Lib.run_append_nil_zeros (P := Try.prog) w 22 3 22 24 i0 _ .i64 .i64 Try.underlying22 Try.underlying3 hi hz0 n h0 (by rw [hz1]; omega) (by omega) (by rw [hz2]; omega)
  obtain ⟨cap, hcap⟩ : ∃ cap, cap = grownCap w n 0 24 := ⟨_, rfl⟩
  have hge : n ≤ cap := hcap ▸ grownCap_ge w n 0 _
  have hle : cap ≤ maxLen := hcap ▸ grownCap_le_maxLen w n 0 _ (by unfold maxLen; omega)
  rw [← hcap] at hrun
  obtain ⟨cur, hcur⟩ : ∃ cur, cur = Builtin.zeroCells (Value.agg #[.int .i64 0, .int .i64 0, .int .i64 0, .bool false]).cells n ++ Builtin.zeroCells (Value.agg #[.int .i64 0, .int .i64 0, .int .i64 0, .bool false]).cells (cap - n) := ⟨_, rfl⟩
  have hsz : cur.size = cap * 4 := by
    rw [hcur]
    simp only [Array.size_append, size_zeroCells]
    show n * 4 + (cap - n) * 4 = cap * 4
    omega
  rw [← hcur] at hrun
  obtain ⟨W, hW⟩ : ∃ W, W = w.drew.alloc (.cells cur 24) := ⟨_, rfl⟩
  rw [← hW] at hrun
  have ho : OwnX W w.heap.size (.slice (some ⟨w.heap.size, 0, none⟩) 0 cap) [] := by
    rw [hW]
    exact ⟨rfl, .inr ⟨w.heap.size, cap, cur, rfl, Nat.le_refl _, heap_alloc_new w.drew _, Nat.zero_le _, hle, hsz, by simp [cellsX]⟩⟩
  have hb : Below w.heap.size w W := by rw [hW]; exact ((Below.refl _ w).drew).alloc (Nat.le_refl _) _
  have HO := Lib.hid ho; clear ho
  have HB := Lib.hid hb; clear hb
  clear hW hsz hcur hcap hle hz0 hz1 hz2 hi
  have hn1 : ¬ (n : Int) < 0 := by omega
  have hn2 : (0 : Int) < (n : Int) := by omega
  have hc1 : (0 : Int) ≤ (n : Int) := by omega
  have hc2 : (0 : Int) ≤ (cap : Int) := by omega
  go_enter Try.func61, Try.ntmps61
  go_wp2_with (at_builtin; refine wpList_apprun rfl _ _ _ _ (by rfl) _ _ (by rfl) (by rfl) _ _ hrun ?_)
  go_wp2
  go_ret
  exact ⟨_, _, rfl, HO.out, HB.out⟩
end Go.Proofs.Ytkhenchhafmlmaa.Ex
