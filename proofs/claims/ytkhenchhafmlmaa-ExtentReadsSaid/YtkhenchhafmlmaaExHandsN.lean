/- A loop over a function's iterator, the loop's variable not being a box. -/
import Derived.Test.YtkhenchhafmlmaaExHands
namespace Go.Proofs.Ytkhenchhafmlmaa.Ex
set_option maxRecDepth 20000
open Go Go.RowKit
theorem wp_handsN {F : Fence} {n : Nat} {P : Program} {α : Type} {g : Operand} {ps : Array Tmp} {assign body : Code} {Q : Exit → Act → World → Prop} {a : Act} {w : World}
    (hro : F.round = none) (h1 : 1 ≤ n) {gf : Nat} {la lb : Array Value} (hg : a.eval g = .func (.func gf) la lb) (hfn : F.fn gf) (hen : ∀ args w, (callFunc gf args).run P w = .ok (.enter gf args) w)
    {encs : α → Array Value} {Kp : World → World → Prop} {Z : World → Prop} {G : List α → α → World → World → Prop} {S : List α → Prop} {w0 : World} (hseq : Hands F (n - 1) P gf la lb encs Kp Z G S w0)
    (hKt : ∀ {A B C : World}, Kp A B → Kp B C → Kp A C) (hKb : ∀ (W : World) (o o' : Obj), W.heap[w.heap.size + 1]? = some o → o.isCells = false → Kp W (W.putObj (w.heap.size + 1) o'))
    (hb0 : Below w0.heap.size w0 w) (hps : ∀ x, (encs x).size = ps.size)
    (I : List α → World → Prop) (hI : ∀ s A B, I s A → Turns (fun q => q = w.heap.size + 1) A B → I s B) (hIZ : ∀ s A, I s A → Z A) (h0 : I [] w) (a₁ : α → Act)
    (hassign : ∀ (l : Nat) (x : α) (W : World) (K : Act → World → Prop), K (a₁ x) W →
      assign.wpIn (F.inRound l) (n - 1 - 1) P (Exit.then K (fun _ _ _ => False)) { tmps := (ps.zip (encs x)).foldl (fun t (p, v) => t.setIfInBounds p v) a.tmps, defers := [] } W)
    (hbody : ∀ (l : Nat) (pre : List α) (x : α) (V0 V W : World), I pre V0 → Below V0.heap.size V0 V → G pre x V0 V → w.heap.size + 2 ≤ V0.heap.size → Turns (fun q => q = w.heap.size + 1) V W → I pre W → Kp V W →
      body.wpIn (F.inRound l) (n - 1 - 1) P (goesOnX w.heap.size (fun _ W' => Kp V W') I (pre ++ [x]) W) (a₁ x) W)
    (hdone : ∀ (xs : List α) (W : World), S xs → I xs W → W.heap[w.heap.size]? = some (.deferred (some [])) → Q .normal { a with defers := { target := .collected w.heap.size, args := #[] } :: a.defers } W) :
    (Code.rangeFunc g ps assign body).wpIn F n P Q a w := by
  refine wpIn_rangeFunc fun fn hf => ?_
  rw [hro]
  obtain ⟨R, hR⟩ : ∃ R : LoopState → Loop, R = fun st => { state := st, pending := none, fn, tmps := a.tmps, params := ps, assign, body, defers := w.heap.size } := ⟨_, rfl⟩
  obtain ⟨V0, hV0⟩ : ∃ V, V = (w.alloc (.deferred (some []))).alloc (.loop (R .ready)) := ⟨_, rfl⟩
  have s1 : (w.alloc (.deferred (some []))).heap.size = w.heap.size + 1 := by simp
  have s2 : V0.heap.size = w.heap.size + 2 := by rw [hV0]; simp
  have hloop : V0.heap[w.heap.size + 1]? = some (.loop (R .ready)) := by
    rw [hV0, ← s1]; exact World.alloc_heap_new _ _
  have hdef : V0.heap[w.heap.size]? = some (.deferred (some [])) := by
    rw [hV0]; exact (Below.heap_alloc _ _ _ (by rw [s1]; omega)).trans (World.alloc_heap_new w _)
  have hbV : Below w.heap.size w V0 := hV0 ▸ ((Below.refl _ w).alloc (Nat.le_refl _) _).alloc (by simp) _
  have hI0 : I [] V0 := hI _ _ _ h0 (Turns.of_below hbV)
  have hbl : Below w0.heap.size w0 V0 := hb0.trans (hbV.mono hb0.size)
  refine ⟨w.heap.size + 1, [{ target := .collected w.heap.size, args := #[] }], V0, { target := .fn (.func gf) lb, args := la ++ #[.func (.yield (w.heap.size + 1)) #[] #[]] }, V0, gf, (la ++ #[.func (.yield (w.heap.size + 1)) #[] #[]]) ++ lb, V0, ?_, ?_, ?_, ?_, fun _ => h1, ?_⟩
  · rw [hV0, hR]; exact run_enterLoop_outer _ _ _ _ _
  · simp only [resolve, hg]
    simp [go_sem]
  · intro f' hl
    simp [Target.leads] at hl
    exact hl ▸ hfn
  · simp [invoke, go_sem, hen]
  refine (hseq (w.heap.size + 1) (fun pre V => I pre V ∧ V.heap[w.heap.size + 1]? = some (.loop (R .ready)) ∧ V.heap[w.heap.size]? = some (.deferred (some []))) V0 hbl
    (fun s A B hs hb => ⟨hI s A B hs.1 (Turns.of_below hb), (hb.block _ (Array.getElem?_eq_some_iff.1 hs.2.1).1).trans hs.2.1, (hb.block _ (Array.getElem?_eq_some_iff.1 hs.2.2).1).trans hs.2.2⟩)
    (fun s A hs => hIZ s A hs.1) (fun pre x U V hJ hb hGx => ?_) ⟨hI0, hloop, hdef⟩).mono ?_
  · obtain ⟨hiU, hlU, hdU⟩ := hJ
    have hltU := (Array.getElem?_eq_some_iff.1 hlU).1
    have hi : I pre V := hI _ _ _ hiU (Turns.of_below hb)
    have hl := (hb.block _ hltU).trans hlU
    have hd := (hb.block _ (Array.getElem?_eq_some_iff.1 hdU).1).trans hdU
    have hlt := (Array.getElem?_eq_some_iff.1 hl).1
    have hy := run_yield (P := P) (args := encs x) hl (by rw [hR]; exact hps x)
    rw [hR] at hy
    have hlA := hl
    have hdA := hd
    have hiA := hi
    have hltA := hlt
    refine ⟨fn, _, assign, body, hy, roundIn_of_wpIn hf (hassign _ x V _ ⟨_, run_beginRound hlA (by rw [hR]), ?_⟩)⟩
    have hbusy : ∀ q : Loop, (V.putObj (w.heap.size + 1) (.loop q)).heap[w.heap.size + 1]? = some (.loop q) := fun q => World.putObj_heap_same hltA
    refine wpIn_mono (hbody _ pre x U V _ hiU hb hGx (by omega) (turns_put _ _ _) (hI _ _ _ hiA (turns_put _ _ _)) (hKb _ _ _ hlA rfl)) ?_
    intro e a3 V3 hpost
    cases e <;> first | exact hpost.elim | skip
    obtain ⟨hk, hkp, hi3⟩ := hpost
    have hl3 := hk.same _ _ (by omega) (hbusy _) rfl
    have hd3 := hk.same _ _ (Nat.le_refl _) ((World.putObj_heap_other (by omega)).trans hdA) rfl
    have hend := run_endRound (P := P) none hl3
    rw [hR] at hend ⊢
    refine ⟨_, _, hend, rfl, ⟨hI _ _ _ hi3 (turns_put _ _ _), World.putObj_heap_same (Array.getElem?_eq_some_iff.1 hl3).1, (World.putObj_heap_other (by omega)).trans hd3⟩, hKt hkp (hKb _ _ _ hl3 rfl)⟩
  · rintro e V ⟨⟨v, rfl⟩, xs, hS, hi, hl, hd⟩
    have hend := run_endLoop (P := P) hl (by rw [hR]; simp)
    rw [hR] at hend
    exact ⟨none, _, hend, hdone xs _ hS (hI _ _ _ hi (turns_put _ _ _)) ((World.putObj_heap_other (by omega)).trans hd)⟩
end Go.Proofs.Ytkhenchhafmlmaa.Ex
