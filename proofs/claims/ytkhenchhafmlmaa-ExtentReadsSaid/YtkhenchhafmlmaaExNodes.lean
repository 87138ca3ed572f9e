/- Lists of texts in memory. -/
import Derived.Test.YtkhenchhafmlmaaExCode
import Derived.Test.YtkhenchhafmlmaaExJoin
namespace Go.Proofs.Ytkhenchhafmlmaa.Ex
set_option maxRecDepth 20000
open Go.RowKit
open Go.Proofs.Ytkhenchhafmlmaa.Mem Go.Proofs.Ytkhenchhafmlmaa.Crc Go.Proofs.Ytkhenchhafmlmaa.Rec Go.Proofs.Ytkhenchhafmlmaa.Reg
attribute [local go_sem ↓] ldX_eq stX_eq

def HoldsN (w : World) (B : Nat) (A : Option Addr) (n : Nat) (N : List (List UInt8)) : Prop :=
  N.length = n ∧ (0 < n → ∃ b off, A = some ⟨b, off, none⟩ ∧ b < B ∧ ∀ k, (h : k < N.length) → ∃ A' c', w.cell? ⟨b, off + k, none⟩ = some (.slice A' (N[k]).length c') ∧ Holds w B A' (N[k]).length N[k] ∧ (N[k]).length ≤ c' ∧ c' ≤ maxLen)
theorem HoldsN.below {w w' : World} {B : Nat} {A : Option Addr} {n : Nat} {N : List (List UInt8)} (h : HoldsN w B A n N) (hb : Below B w w') : HoldsN w' B A n N :=
  ⟨h.1, fun hn => by
    obtain ⟨b, off, e, hl, hc⟩ := h.2 hn
    refine ⟨b, off, e, hl, fun k hk => ?_⟩
    obtain ⟨A', c', h1, h2, h3⟩ := hc k hk
    exact ⟨A', c', (hb.cell (p := ⟨b, off + k, none⟩) hl).trans h1, h2.below hb, h3⟩⟩
theorem HoldsN.more {w : World} {B B' : Nat} {A : Option Addr} {n : Nat} {N : List (List UInt8)} (h : HoldsN w B A n N) (hB : B ≤ B') : HoldsN w B' A n N :=
  ⟨h.1, fun hn => by
    obtain ⟨b, off, e, hl, hc⟩ := h.2 hn
    refine ⟨b, off, e, by omega, fun k hk => ?_⟩
    obtain ⟨A', c', h1, h2, h3⟩ := hc k hk
    exact ⟨A', c', h1, h2.more hB, h3⟩⟩
theorem HoldsN.nil (w : World) (B : Nat) (A : Option Addr) : HoldsN w B A 0 [] := ⟨rfl, fun h => absurd h (by omega)⟩
/-- Texts that the call made itself, in a row of its own. -/
def OwnN (w : World) (base : Nat) (v : Value) (N : List (List UInt8)) : Prop :=
  ∃ vs : List Value, w.ownsRow base 46 1 v N.length vs ∧ vs.length = N.length ∧ ∀ k, (h : k < N.length) → ∃ A' c', vs[k]? = some (.slice A' (N[k]).length c') ∧ Owned w base (.slice A' (N[k]).length c') N[k]
theorem OwnN.nil (w : World) (base : Nat) : OwnN w base (.slice none 0 0) [] := ⟨[], ⟨rfl, .inl ⟨rfl, rfl⟩⟩, rfl, fun k h => absurd h (by simp)⟩
theorem OwnN.shape {w : World} {base : Nat} {v : Value} {N : List (List UInt8)} (h : OwnN w base v N) : ∃ A c, v = .slice A N.length c := by
  obtain ⟨vs, h, _⟩ := h
  rcases h.2 with ⟨rfl, h0⟩ | ⟨g, cap, _, rfl, _⟩
  · exact ⟨none, 0, by rw [h0]⟩
  · exact ⟨_, _, rfl⟩
theorem OwnN.lt {w : World} {base : Nat} {v : Value} {N : List (List UInt8)} (h : OwnN w base v N) : ∀ k, v.ownBlock = some k → base ≤ k ∧ k < w.heap.size := by
  obtain ⟨vs, h, _⟩ := h
  exact World.ownsRow.lt h
theorem owned_keep {w w' : World} {base : Nat} {v : Value} {bs : List UInt8} (h : Owned w base v bs) (hk : ∀ g, v.ownBlock = some g → w'.heap[g]? = w.heap[g]?) : Owned w' base v bs := by
  refine ⟨h.1, h.2.imp id ?_⟩
  rintro ⟨g, cap, cur, e, h1, h2, h3⟩
  exact ⟨g, cap, cur, e, h1, (hk g (by rw [e]; rfl)).trans h2, h3⟩
theorem owned_lt {w : World} {base : Nat} {v : Value} {bs : List UInt8} (h : Owned w base v bs) : ∀ k, v.ownBlock = some k → base ≤ k ∧ k < w.heap.size := World.ownsRow.lt h
/-- The blocks of the texts are none of the row's. -/
theorem OwnN.kept {w w' : World} {base : Nat} {v : Value} {N : List (List UInt8)} (h : OwnN w base v N) (hk : ∀ g, base ≤ g → g < w.heap.size → w'.heap[g]? = w.heap[g]?) : OwnN w' base v N := by
  obtain ⟨vs, h1, h2, h3⟩ := h
  refine ⟨vs, ⟨h1.1, h1.2.imp id ?_⟩, h2, fun k hl => ?_⟩
  · rintro ⟨g, cap, cur, e, hb, hg, hr⟩
    exact ⟨g, cap, cur, e, hb, (hk g hb (Array.getElem?_eq_some_iff.1 hg).1).trans hg, hr⟩
  · obtain ⟨A', c', e, ho⟩ := h3 k hl
    exact ⟨A', c', e, owned_keep ho fun g hg => hk g (owned_lt ho g hg).1 (owned_lt ho g hg).2⟩
theorem OwnN.below {w w' : World} {base : Nat} {v : Value} {N : List (List UInt8)} (h : OwnN w base v N) (hb : Below w.heap.size w w') : OwnN w' base v N := h.kept fun g _ hg => hb.block g hg
theorem OwnN.mono {w : World} {base base' : Nat} {v : Value} {N : List (List UInt8)} (h : OwnN w base v N) (hb : base' ≤ base) : OwnN w base' v N := by
  obtain ⟨vs, h1, h2, h3⟩ := h
  refine ⟨vs, ⟨h1.1, h1.2.imp id ?_⟩, h2, fun k hl => ?_⟩
  · rintro ⟨g, cap, cur, e, hbs, hg⟩
    exact ⟨g, cap, cur, e, Nat.le_trans hb hbs, hg⟩
  · obtain ⟨A', c', e, ho⟩ := h3 k hl
    exact ⟨A', c', e, Owned.mono ho hb⟩
theorem OwnN.fits {w : World} {base n c : Nat} {A : Option Addr} {N : List (List UInt8)} (h : OwnN w base (.slice A n c) N) : n = N.length ∧ n ≤ c := by
  obtain ⟨vs, h, _⟩ := h
  rcases h.2 with ⟨e, h0⟩ | ⟨g, cap, cur, e, h1, h2, h3, h4, _⟩
  · injection e with e1 e2 e3
    subst e2 e3
    exact ⟨h0.symm, Nat.le_refl _⟩
  · injection e with e1 e2 e3
    subst e2 e3
    exact ⟨rfl, h3⟩
theorem OwnN.reads {w : World} {base n c : Nat} {A : Option Addr} {N : List (List UInt8)} (h : OwnN w base (.slice A n c) N) : HoldsN w w.heap.size A n N := by
  obtain ⟨hn, -⟩ := h.fits
  subst hn
  refine ⟨rfl, fun hn => ?_⟩
  obtain ⟨vs, h1, h2, h3⟩ := h
  have h0 := h1
  rcases h1.2 with ⟨e, h0⟩ | ⟨g, cap, cur, e, hb, hg, hn1, hn2, _⟩
  · omega
  · injection e with e1 e2 e3
    subst e1 e3
    refine ⟨g, 0, rfl, (Array.getElem?_eq_some_iff.1 hg).1, fun k hk => ?_⟩
    obtain ⟨A', c', e, ho⟩ := h3 k hk
    refine ⟨A', c', ?_, Owned.reads ho, (Owned.fits ho).1, (Owned.fits ho).2⟩
    rw [Nat.zero_add, World.ownsRow.cellAt h0 k (by omega)]
    exact e
theorem ownN_cells {w : World} {base : Nat} {v : Value} {N : List (List UInt8)} (h : OwnN w base v N) {k : Nat} (hk : v.ownBlock = some k) : ∃ cs z, w.heap[k]? = some (.cells cs 46 z) := by
  obtain ⟨vs, h, _⟩ := h
  rcases h.2 with ⟨rfl, _⟩ | ⟨g, cap, cur, rfl, _, hh, _⟩
  · cases hk
  · injection hk with hk
    dsimp only at hk
    subst hk
    exact ⟨cur, _, hh⟩
theorem owned_cells {w : World} {base : Nat} {v : Value} {bs : List UInt8} (h : Owned w base v bs) {k : Nat} (hk : v.ownBlock = some k) : ∃ cs z, w.heap[k]? = some (.cells cs 5 z) := by
  rcases h.2 with ⟨rfl, _⟩ | ⟨g, cap, cur, rfl, _, hh, _⟩
  · cases hk
  · injection hk with hk
    dsimp only at hk
    subst hk
    exact ⟨cur, _, hh⟩
theorem info_node : (Try.prog.info? 46).map (fun i => (i.zero, i.size, i.bytes)) = some (some (.slice none 0 0), 1, 24) := by kernel_rfl
/-- One text more. -/
theorem run_appN (W : World) (base : Nat) (v : Value) (N : List (List UInt8)) (hown : OwnN W base v N) (A : Option Addr) (c : Nat) (bs : List UInt8) (hb : Owned W base (.slice A bs.length c) bs) (ty : TypeId) (hlen : N.length ≤ 1048576) (hbase : base ≤ W.heap.size) :
    ∃ v' W', (Builtin.append_ #[47, 47] ty #[v, .slice (some ⟨W.heap.size, 0, none⟩) 1 1]).run Try.prog (W.alloc (.cells #[.slice A bs.length c] 46)) = .ok v' W' ∧ OwnN W' base v' (N ++ [bs]) ∧ Grows W W' v v' := by
  obtain ⟨i0, hi0, hz0, hz1, hz2⟩ := info_parts info_node
  have hown0 := hown
  obtain ⟨vs, h1, h2, h3⟩ := hown
  obtain ⟨v', W', hrun, k2, k3, _, k5⟩ := run_append_own_at (P := Try.prog) (w := W.alloc (.cells #[.slice A bs.length c] 46)) base 47 ty 46 i0 _ 1 24 Try.underlying47 hi0 hz0 hz1 hz2 rfl (by decide)
    v N.length vs (World.ownsRow.alloc h1 _) ⟨W.heap.size, 0, none⟩ 1 1 [.slice A bs.length c] rfl (fun j u hu => by
      have hadd : (⟨W.heap.size, 0, none⟩ : Addr).add j = ⟨W.heap.size, j, none⟩ := by unfold Addr.add; split <;> simp_all
      rw [hadd, cell_of_row _ _ j _ _ _ (heap_alloc_new W _)]
      simpa using hu) (by intro u hu; simp at hu; subst hu; rfl) (by unfold maxLen; omega) (by omega) (by simp; omega)
  have hgr : Grows W W' v v' := by
    refine ⟨grown_trans (grown_of_below ((Below.refl _ W).alloc (Nat.le_refl _) _) _) k3, fun k hk => ?_⟩
    rcases k5 with e | e
    · rw [e] at hk; exact .inl hk
    · rw [e] at hk
      injection hk with hk
      simp at hk
      exact .inr (by omega)
  have hsafe : ∀ {u : Value} {l : List UInt8}, Owned W base u l → Owned W' base u l := fun hu => owned_keep hu fun g hg => hgr.1.block g (owned_lt hu g hg).2 (fun e => by
    obtain ⟨cs, z, e1⟩ := ownN_cells hown0 e.symm
    obtain ⟨cs', z', e2⟩ := owned_cells hu hg
    rw [e1] at e2
    injection e2 with e2
    injection e2 with _ e2
    exact absurd e2 (by decide))
  refine ⟨v', W', hrun, ⟨vs ++ [.slice A bs.length c], ?_, ?_, fun k hk => ?_⟩, hgr⟩
  · rw [List.length_append]; exact k2
  · rw [List.length_append, List.length_append, h2]; rfl
  · rw [List.length_append, List.length_singleton] at hk
    rcases Nat.lt_or_ge k N.length with hl | hl
    · obtain ⟨A', c', e, ho⟩ := h3 k hl
      rw [List.getElem_append_left hl]
      exact ⟨A', c', by rw [List.getElem?_append_left (by omega)]; exact e, hsafe ho⟩
    · have hkn : k = N.length := by omega
      subst hkn
      rw [List.getElem_concat_length rfl]
      exact ⟨A, c, by rw [← h2]; simp, hsafe hb⟩
end Go.Proofs.Ytkhenchhafmlmaa.Ex
