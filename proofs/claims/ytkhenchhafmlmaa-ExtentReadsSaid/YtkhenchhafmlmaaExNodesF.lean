/- Bytes and lists of texts that grow beside each other: which blocks they turn. -/
import Derived.Test.YtkhenchhafmlmaaExNodes
namespace Go.Proofs.Ytkhenchhafmlmaa.Ex
set_option maxRecDepth 20000
open Go.RowKit
open Go.Proofs.Ytkhenchhafmlmaa.Mem Go.Proofs.Ytkhenchhafmlmaa.Crc Go.Proofs.Ytkhenchhafmlmaa.Rec Go.Proofs.Ytkhenchhafmlmaa.Reg

set_option maxRecDepth 20000 in
theorem run_addB (w : World) (ty : TypeId) (base : Nat) (v : Value) (bs : List UInt8) (hown : Owned w base v bs) (B : Nat) (A : Option Addr) (m c : Nat) (ys : List UInt8) (hr : Holds w B A m ys)
    (hlen : bs.length + m ≤ 140737488355328) (hbase : base ≤ w.heap.size) :
    ∃ v' w', (Builtin.append_ #[46, 46] ty #[v, .slice A m c]).run Try.prog w = .ok v' w' ∧ Owned w' base v' (bs ++ ys) ∧ Grows w w' v v' := by
  obtain ⟨i0, hi, hz0, hz1, hz2⟩ := info_parts info_u8
  obtain ⟨hl, hc⟩ := hr
  rcases A with _ | ad
  · have hm : m = 0 := by
      rcases Nat.eq_zero_or_pos m with h0 | h0
      · exact h0
      · obtain ⟨b, off, e, _⟩ := hc h0; cases e
    subst hm
    obtain rfl : ys = [] := List.eq_nil_of_length_eq_zero hl
    refine ⟨v, w, ?_, by simpa using hown, Grows.refl _ _⟩
    rcases hown.2 with ⟨rfl, _⟩ | ⟨g, cap, cur, rfl, _, _, hnc, _⟩
    · simp [Builtin.append_, run_underlying Try.underlying46, sizeOf, typeInfo, hi, Builtin.lenOf, Builtin.firstCells]
    · simp [Builtin.append_, run_underlying Try.underlying46, sizeOf, typeInfo, hi, Builtin.lenOf, Builtin.firstCells, hnc, storeCells]
  · have hcells : ∀ j u, (ys.map byteV)[j]? = some u → w.cell? (ad.add j) = some u := by
      intro j u hu
      have hj : j < ys.length := by
        rcases Nat.lt_or_ge j ys.length with h | h
        · exact h
        · rw [List.getElem?_eq_none (by simpa using h)] at hu; cases hu
      obtain ⟨b, off, e, _, hcell⟩ := hc (by omega)
      injection e with e
      subst e
      have hadd : (⟨b, off, none⟩ : Addr).add j = ⟨b, off + j, none⟩ := by unfold Addr.add; split <;> simp_all
      rw [hadd, hcell j hj]
      simpa [byteV, hj] using hu
    obtain ⟨v', w', hrun, h2, h3, _, h5⟩ := run_append_own_at (P := Try.prog) w base 46 ty 5 i0 (.int .u8 0) 1 1 Try.underlying46 hi hz0 hz1 hz2 rfl (by decide) v bs.length (bs.map byteV) hown ad m c (ys.map byteV) (by simp; omega) hcells
      (by intro u hu; obtain ⟨c, _, rfl⟩ := List.mem_map.1 hu; rfl) (by unfold maxLen; omega) (by omega) hbase
    refine ⟨v', w', hrun, ?_, h3, fun k hk => ?_⟩
    · unfold Owned
      rw [List.length_append, List.map_append, hl]
      exact h2
    · rcases h5 with h5 | h5
      · exact .inl (by rw [← h5]; exact hk)
      · rw [h5] at hk
        injection hk with hk
        exact .inr (by omega)

/-- As OwnN, and the blocks are among F. -/
def OwnF (w : World) (base : Nat) (F : Nat → Prop) (v : Value) (N : List (List UInt8)) : Prop :=
  ∃ vs : List Value, w.ownsRow base 46 1 v N.length vs ∧ vs.length = N.length ∧ (∀ g, v.ownBlock = some g → F g) ∧ ∀ k, (h : k < N.length) → ∃ A' c', vs[k]? = some (.slice A' (N[k]).length c') ∧ Owned w base (.slice A' (N[k]).length c') N[k] ∧ ∀ g, (Value.slice A' (N[k]).length c').ownBlock = some g → F g
theorem OwnF.nil (w : World) (base : Nat) (F : Nat → Prop) : OwnF w base F (.slice none 0 0) [] := ⟨[], ⟨rfl, .inl ⟨rfl, rfl⟩⟩, rfl, fun g h => (by cases h), fun k h => absurd h (by simp)⟩
theorem OwnF.own {w : World} {base : Nat} {F : Nat → Prop} {v : Value} {N : List (List UInt8)} (h : OwnF w base F v N) : OwnN w base v N := by
  obtain ⟨vs, h1, h2, _, h3⟩ := h
  exact ⟨vs, h1, h2, fun k hk => by obtain ⟨A', c', e, ho, _⟩ := h3 k hk; exact ⟨A', c', e, ho⟩⟩
theorem OwnF.more {w : World} {base : Nat} {F G : Nat → Prop} {v : Value} {N : List (List UInt8)} (h : OwnF w base F v N) (hg : ∀ g, F g → G g) : OwnF w base G v N := by
  obtain ⟨vs, h1, h2, h4, h3⟩ := h
  exact ⟨vs, h1, h2, fun g e => hg g (h4 g e), fun k hk => by obtain ⟨A', c', e, ho, hf⟩ := h3 k hk; exact ⟨A', c', e, ho, fun g e => hg g (hf g e)⟩⟩
theorem OwnF.kept {w w' : World} {base : Nat} {F : Nat → Prop} {v : Value} {N : List (List UInt8)} (h : OwnF w base F v N) (hk : ∀ g, F g → g < w.heap.size → w'.heap[g]? = w.heap[g]?) : OwnF w' base F v N := by
  obtain ⟨vs, h1, h2, h4, h3⟩ := h
  refine ⟨vs, ⟨h1.1, h1.2.imp id ?_⟩, h2, h4, fun k hl => ?_⟩
  · rintro ⟨g, cap, cur, e, hb, hg, hr⟩
    exact ⟨g, cap, cur, e, hb, (hk g (h4 g (by rw [e]; rfl)) (Array.getElem?_eq_some_iff.1 hg).1).trans hg, hr⟩
  · obtain ⟨A', c', e, ho, hf⟩ := h3 k hl
    exact ⟨A', c', e, owned_keep ho fun g hg => hk g (hf g hg) (owned_lt ho g hg).2, hf⟩
theorem OwnF.row {w : World} {base : Nat} {F : Nat → Prop} {v : Value} {N : List (List UInt8)} (h : OwnF w base F v N) : ∀ g, v.ownBlock = some g → F g := by
  obtain ⟨_, _, _, h4, _⟩ := h; exact h4
/-- One text more: what is new is behind the world's blocks, or the text's own. -/
theorem run_appF (W : World) (base : Nat) (F G : Nat → Prop) (v : Value) (N : List (List UInt8)) (hown : OwnF W base F v N) (hFG : ∀ g, F g → G g) (hnew : ∀ g, W.heap.size ≤ g → G g) (A : Option Addr) (c : Nat) (bs : List UInt8) (hb : Owned W base (.slice A bs.length c) bs) (hbG : ∀ g, (Value.slice A bs.length c).ownBlock = some g → G g) (ty : TypeId) (hlen : N.length ≤ 1048576) (hbase : base ≤ W.heap.size) :
    ∃ v' W', (Builtin.append_ #[47, 47] ty #[v, .slice (some ⟨W.heap.size, 0, none⟩) 1 1]).run Try.prog (W.alloc (.cells #[.slice A bs.length c] 46)) = .ok v' W' ∧ OwnF W' base G v' (N ++ [bs]) ∧ Grows W W' v v' := by
  obtain ⟨i0, hi0, hz0, hz1, hz2⟩ := info_parts info_node
  have hown0 := hown.own
  obtain ⟨vs, h1, h2, h4, h3⟩ := hown
  obtain ⟨v', W', hrun, k2, k3, _, k5⟩ := run_append_own_at (P := Try.prog) (w := W.alloc (.cells #[.slice A bs.length c] 46)) base 47 ty 46 i0 _ 1 24 Try.underlying47 hi0 hz0 hz1 hz2 rfl (by decide)
    v N.length vs (World.ownsRow.alloc h1 _) ⟨W.heap.size, 0, none⟩ 1 1 [.slice A bs.length c] rfl (fun j u hu => by
      have hadd : (⟨W.heap.size, 0, none⟩ : Addr).add j = ⟨W.heap.size, j, none⟩ := by unfold Addr.add; split <;> simp_all
      rw [hadd, cell_of_row _ _ j _ _ _ (heap_alloc_new W _)]
      simpa using hu) (by intro u hu; simp at hu; subst hu; rfl) (by unfold maxLen; omega) (by omega) (by simp; omega)
  have hgr : Grows W W' v v' := by
    refine ⟨grown_trans (grown_of_below ((Below.refl _ W).alloc (Nat.le_refl _) _) _) k3, fun k hk => ?_⟩
    rcases k5 with e | e
    · rw [e] at hk; exact .inl hk
    · rw [e] at hk
      injection hk with hk
      simp at hk
      exact .inr (by omega)
  have hsafe : ∀ {u : Value} {l : List UInt8}, Owned W base u l → Owned W' base u l := fun hu => owned_keep hu fun g hg => hgr.1.block g (owned_lt hu g hg).2 (fun e => by
    obtain ⟨cs, z, e1⟩ := ownN_cells hown0 e.symm
    obtain ⟨cs', z', e2⟩ := owned_cells hu hg
    rw [e1] at e2
    injection e2 with e2
    injection e2 with _ e2
    exact absurd e2 (by decide))
  refine ⟨v', W', hrun, ⟨vs ++ [.slice A bs.length c], ?_, ?_, fun g hg => ?_, fun k hk => ?_⟩, hgr⟩
  · rw [List.length_append]; exact k2
  · rw [List.length_append, List.length_append, h2]; rfl
  · rcases hgr.2 g hg with e | e
    · exact hFG g (h4 g e)
    · exact hnew g e
  · rw [List.length_append, List.length_singleton] at hk
    rcases Nat.lt_or_ge k N.length with hl | hl
    · obtain ⟨A', c', e, ho, hf⟩ := h3 k hl
      rw [List.getElem_append_left hl]
      exact ⟨A', c', by rw [List.getElem?_append_left (by omega)]; exact e, hsafe ho, fun g hg => hFG g (hf g hg)⟩
    · have hkn : k = N.length := by omega
      subst hkn
      rw [List.getElem_concat_length rfl]
      exact ⟨A, c, by rw [← h2]; simp, hsafe hb, hbG⟩
/-- Bytes and a list of texts beside each other. -/
structure Beside (w : World) (base : Nat) (u : Value) (r : List UInt8) (v : Value) (N : List (List UInt8)) (F : Nat → Prop) : Prop where
  bytes : Owned w base u r
  texts : OwnF w base F v N
  inside : ∀ g, F g → g < w.heap.size
  apart : ∀ g, u.ownBlock = some g → ¬ F g
theorem Beside.below {w w' : World} {base : Nat} {u v : Value} {r : List UInt8} {N : List (List UInt8)} {F : Nat → Prop} (h : Beside w base u r v N F) (hb : Below w.heap.size w w') : Beside w' base u r v N F :=
  ⟨Owned.keep h.bytes hb (Nat.le_refl _), h.texts.kept fun g _ hg => hb.block g hg, fun g hg => Nat.lt_of_lt_of_le (h.inside g hg) hb.size, h.apart⟩
theorem Beside.grow {w w' : World} {base : Nat} {u u' v : Value} {r r' : List UInt8} {N : List (List UInt8)} {F : Nat → Prop} (h : Beside w base u r v N F) (hg : Grows w w' u u') (ho : Owned w' base u' r') : Beside w' base u' r' v N F :=
  ⟨ho, h.texts.kept fun g hf hl => hg.1.block g hl (fun e => h.apart g e.symm hf), fun g hf => Nat.lt_of_lt_of_le (h.inside g hf) hg.1.size, fun g e hf => by
    rcases hg.2 g e with e | e
    · exact h.apart g e hf
    · have := h.inside g hf; omega⟩
theorem Beside.add {w w' W : World} {base : Nat} {u v v' : Value} {r : List UInt8} {N N' : List (List UInt8)} {F G : Nat → Prop} (h : Beside w base u r v N F) (hb : Below w.heap.size w W) (hg : Grows W w' v v') (hG : OwnF w' base G v' N') (hGs : ∀ g, G g → F g ∨ w.heap.size ≤ g) :
    Beside w' base u r v' N' (fun g => G g ∧ g < w'.heap.size) := by
  have hl : ∀ g, u.ownBlock = some g → g < w.heap.size := fun g e => (owned_lt h.bytes g e).2
  have ho := Owned.keep h.bytes hb (Nat.le_refl _)
  refine ⟨owned_keep ho fun g e => hg.1.block g (Nat.lt_of_lt_of_le (hl g e) hb.size) (fun e' => h.apart g e (h.texts.row g e'.symm)), ?_, fun g hf => hf.2, fun g e hf => ?_⟩
  · obtain ⟨vs, h1, h2, h4, h3⟩ := hG
    exact ⟨vs, h1, h2, fun g e => ⟨h4 g e, (World.ownsRow.lt h1 g e).2⟩, fun k hk => by
      obtain ⟨A', c', e, ho, hf⟩ := h3 k hk
      exact ⟨A', c', e, ho, fun g hg => ⟨hf g hg, (owned_lt ho g hg).2⟩⟩⟩
  · rcases hGs g hf.1 with e' | e'
    · exact h.apart g e e'
    · have := hl g e; omega
end Go.Proofs.Ytkhenchhafmlmaa.Ex
