/- A loop over a function's iterator whose rounds turn memory: what the iterator owes, and the loop. (After the text of the replay layer.) -/
import Derived.RangeFuncNested
import Derived.RangeFuncBound
import Derived.RangeFuncCalls
import Derived.RangeFuncLeaves
import Derived.RangeFuncWrites
import Derived.Shelf.Abstract
import Derived.Shelf.RegionOpen
import Derived.OwnWalkIn
import Derived.TacticsInMore
import Derived.LoopNIn
import Derived.LoopIn
import Derived.Test.YtkhenchhafmlmaaExJoin
namespace Go.Proofs.Ytkhenchhafmlmaa.Ex
set_option maxRecDepth 20000
open Go Go.RowKit
/-- Outside the blocks F all is as it was. -/
structure Turns (F : Nat → Prop) (w w' : World) : Prop where
  os : w'.os = w.os
  tape : w'.tape = w.tape
  output : w'.output = w.output
  size : w.heap.size ≤ w'.heap.size
  block : ∀ k, k < w.heap.size → ¬ F k → w'.heap[k]? = w.heap[k]?
theorem Turns.refl (F : Nat → Prop) (w : World) : Turns F w w := ⟨rfl, rfl, rfl, Nat.le_refl _, fun _ _ _ => rfl⟩
theorem Turns.trans {F G : Nat → Prop} {a b c : World} (h : Turns F a b) (k : Turns G b c) (hg : ∀ i, i < a.heap.size → G i → F i) : Turns F a c :=
  ⟨k.os.trans h.os, k.tape.trans h.tape, k.output.trans h.output, Nat.le_trans h.size k.size, fun i hi hf => (k.block i (Nat.lt_of_lt_of_le hi h.size) (fun e => hf (hg i hi e))).trans (h.block i hi hf)⟩
theorem Turns.mono {F G : Nat → Prop} {a b : World} (h : Turns G a b) (hg : ∀ i, i < a.heap.size → G i → F i) : Turns F a b :=
  ⟨h.os, h.tape, h.output, h.size, fun i hi hf => h.block i hi (fun e => hf (hg i hi e))⟩
theorem Turns.below {F : Nat → Prop} {w w' : World} (h : Turns F w w') {B : Nat} (hB : ∀ k, F k → B ≤ k) (hs : B ≤ w.heap.size) : Below B w w' :=
  ⟨h.os, h.tape, h.output, h.size, fun k hk => h.block k (by omega) (fun e => by have := hB k e; omega)⟩
theorem Turns.of_below {F : Nat → Prop} {w w' : World} (h : Below w.heap.size w w') : Turns F w w' := ⟨h.os, h.tape, h.output, h.size, fun k hk _ => h.block k hk⟩
theorem Turns.drew {F : Nat → Prop} {a w : World} (h : Turns F a w) : Turns F a w.drew := ⟨h.os, h.tape, h.output, h.size, h.block⟩
theorem Turns.alloc {F : Nat → Prop} {a w : World} (h : Turns F a w) (o : Obj) : Turns F a (w.alloc o) :=
  h.trans (G := fun _ => False) ⟨rfl, rfl, rfl, by simp, fun k hk _ => Below.heap_alloc _ _ _ (by omega)⟩ (fun _ _ h => h.elim)
theorem Turns.setCell {F : Nat → Prop} {a w : World} (h : Turns F a w) {p : Addr} (hp : p.block < a.heap.size → F p.block) (u : Value) : Turns F a (w.setCell p u) :=
  h.trans (G := fun k => k = p.block) ⟨rfl, rfl, rfl, by simp [World.setCell], fun k hk hf => Below.heap_setCell _ _ _ _ hf⟩ (fun i hi e => by subst e; exact hp hi)
theorem Turns.grown {F : Nat → Prop} {a w w' : World} {row : Option Nat} (h : Turns F a w) (hg : w.grownBy w' row) (hr : ∀ k, row = some k → k < a.heap.size → F k) : Turns F a w' :=
  h.trans (G := fun k => row = some k) ⟨hg.os, hg.tape, hg.output, hg.size, fun k hk hf => hg.block k hk (fun e => hf e.symm)⟩ (fun i hi e => hr i e hi)
/-- The iterator g (bound to la and lb): G tells what memory holds as a round behind pre is handed x: V0 is the world in which the round before it ended, V the one of the call; S tells of all that is handed. -/
def Hands {α : Type} (F : Fence) (n : Nat) (P : Program) (g : Nat) (la lb : Array Value) (encs : α → Array Value) (Kp : World → World → Prop) (Z : World → Prop) (G : List α → α → World → World → Prop) (S : List α → Prop) (w : World) : Prop :=
  ∀ (l : Nat) (J : List α → World → Prop) (W : World), Below w.heap.size w W → (∀ s A B, J s A → Below A.heap.size A B → J s B) → (∀ s A, J s A → Z A) →
    (∀ pre x V0 V, J pre V0 → Below V0.heap.size V0 V → G pre x V0 V → YieldAt F (n - 1) P l (encs x) V fun e V' => e = .returned (.bool true) ∧ J (pre ++ [x]) V' ∧ Kp V V') →
    J [] W → CallsIn F n P g ((la ++ #[.func (.yield l) #[] #[]]) ++ lb) W fun e V => (∃ v, e = .returned v) ∧ ∃ xs, S xs ∧ J xs V

/-- How a round of such a loop ends: it goes on. -/
def goesOnX {α : Type} (B : Nat) (Kp : World → World → Prop) (I : List α → World → Prop) (xs : List α) (W : World) : Exit → Act → World → Prop
  | .normal, _, W' => KeepsFrom B W W' ∧ Kp W W' ∧ I xs W'
  | _, _, _ => False

theorem turns_put (V : World) (q : Nat) (o : Obj) : Turns (fun k => k = q) V (V.putObj q o) := ⟨rfl, rfl, rfl, by simp, fun _ _ hn => World.putObj_heap_other hn⟩

theorem wp_hands {F : Fence} {n : Nat} {P : Program} {α : Type} {g : Operand} {ps : Array Tmp} {assign body : Code} {Q : Exit → Act → World → Prop} {a : Act} {w : World}
    (hro : F.round = none) (h1 : 1 ≤ n) {gf : Nat} {la lb : Array Value} (hg : a.eval g = .func (.func gf) la lb) (hfn : F.fn gf) (hen : ∀ args w, (callFunc gf args).run P w = .ok (.enter gf args) w)
    {encs : α → Array Value} {Kp : World → World → Prop} {Z : World → Prop} {G : List α → α → World → World → Prop} {S : List α → Prop} {w0 : World} (hseq : Hands F (n - 1) P gf la lb encs Kp Z G S w0)
    (hKt : ∀ {A B C : World}, Kp A B → Kp B C → Kp A C) (hKa : ∀ (W : World) (o : Obj), Kp W (W.alloc o)) (hKb : ∀ (W : World) (o o' : Obj), W.heap[w.heap.size + 1]? = some o → o.isCells = false → Kp W (W.putObj (w.heap.size + 1) o'))
    (hb0 : Below w0.heap.size w0 w) (hps : ∀ x, (encs x).size = ps.size)
    (I : List α → World → Prop) (hI : ∀ s A B, I s A → Turns (fun q => q = w.heap.size + 1) A B → I s B) (hIZ : ∀ s A, I s A → Z A) (h0 : I [] w) (a₁ : α → Nat → Act) (ob : α → Obj)
    (hassign : ∀ (l : Nat) (x : α) (W : World) (K : Act → World → Prop), K (a₁ x W.heap.size) (W.alloc (ob x)) →
      assign.wpIn (F.inRound l) (n - 1 - 1) P (Exit.then K (fun _ _ _ => False)) { tmps := (ps.zip (encs x)).foldl (fun t (p, v) => t.setIfInBounds p v) a.tmps, defers := [] } W)
    (hbody : ∀ (l : Nat) (pre : List α) (x : α) (V0 V W : World), I pre V0 → Below V0.heap.size V0 V → G pre x V0 V → w.heap.size + 2 ≤ V0.heap.size → Turns (fun q => q = w.heap.size + 1) (V.alloc (ob x)) W → I pre W → Kp V W →
      body.wpIn (F.inRound l) (n - 1 - 1) P (goesOnX w.heap.size (fun _ W' => Kp V W') I (pre ++ [x]) W) (a₁ x V.heap.size) W)
    (hdone : ∀ (xs : List α) (W : World), S xs → I xs W → W.heap[w.heap.size]? = some (.deferred (some [])) → Q .normal { a with defers := { target := .collected w.heap.size, args := #[] } :: a.defers } W) :
    (Code.rangeFunc g ps assign body).wpIn F n P Q a w := by
  refine wpIn_rangeFunc fun fn hf => ?_
  rw [hro]
  obtain ⟨R, hR⟩ : ∃ R : LoopState → Loop, R = fun st => { state := st, pending := none, fn, tmps := a.tmps, params := ps, assign, body, defers := w.heap.size } := ⟨_, rfl⟩
  obtain ⟨V0, hV0⟩ : ∃ V, V = (w.alloc (.deferred (some []))).alloc (.loop (R .ready)) := ⟨_, rfl⟩
  have s1 : (w.alloc (.deferred (some []))).heap.size = w.heap.size + 1 := by simp
  have s2 : V0.heap.size = w.heap.size + 2 := by rw [hV0]; simp
  have hloop : V0.heap[w.heap.size + 1]? = some (.loop (R .ready)) := by
    rw [hV0, ← s1]; exact World.alloc_heap_new _ _
  have hdef : V0.heap[w.heap.size]? = some (.deferred (some [])) := by
    rw [hV0]; exact (Below.heap_alloc _ _ _ (by rw [s1]; omega)).trans (World.alloc_heap_new w _)
  have hbV : Below w.heap.size w V0 := hV0 ▸ ((Below.refl _ w).alloc (Nat.le_refl _) _).alloc (by simp) _
  have hI0 : I [] V0 := hI _ _ _ h0 (Turns.of_below hbV)
  have hbl : Below w0.heap.size w0 V0 := hb0.trans (hbV.mono hb0.size)
  refine ⟨w.heap.size + 1, [{ target := .collected w.heap.size, args := #[] }], V0, { target := .fn (.func gf) lb, args := la ++ #[.func (.yield (w.heap.size + 1)) #[] #[]] }, V0, gf, (la ++ #[.func (.yield (w.heap.size + 1)) #[] #[]]) ++ lb, V0, ?_, ?_, ?_, ?_, fun _ => h1, ?_⟩
  · rw [hV0, hR]; exact run_enterLoop_outer _ _ _ _ _
  · simp only [resolve, hg]
    simp [go_sem]
  · intro f' hl
    simp [Target.leads] at hl
    exact hl ▸ hfn
  · simp [invoke, go_sem, hen]
  refine (hseq (w.heap.size + 1) (fun pre V => I pre V ∧ V.heap[w.heap.size + 1]? = some (.loop (R .ready)) ∧ V.heap[w.heap.size]? = some (.deferred (some []))) V0 hbl
    (fun s A B hs hb => ⟨hI s A B hs.1 (Turns.of_below hb), (hb.block _ (Array.getElem?_eq_some_iff.1 hs.2.1).1).trans hs.2.1, (hb.block _ (Array.getElem?_eq_some_iff.1 hs.2.2).1).trans hs.2.2⟩)
    (fun s A hs => hIZ s A hs.1) (fun pre x U V hJ hb hGx => ?_) ⟨hI0, hloop, hdef⟩).mono ?_
  · obtain ⟨hiU, hlU, hdU⟩ := hJ
    have hltU := (Array.getElem?_eq_some_iff.1 hlU).1
    have hi : I pre V := hI _ _ _ hiU (Turns.of_below hb)
    have hl := (hb.block _ hltU).trans hlU
    have hd := (hb.block _ (Array.getElem?_eq_some_iff.1 hdU).1).trans hdU
    have hlt := (Array.getElem?_eq_some_iff.1 hl).1
    have hy := run_yield (P := P) (args := encs x) hl (by rw [hR]; exact hps x)
    rw [hR] at hy
    have hbA : Below V.heap.size V (V.alloc (ob x)) := (Below.refl _ V).alloc (Nat.le_refl _) _
    have hlA := (hbA.block _ hlt).trans hl
    have hdA := (hbA.block _ (Array.getElem?_eq_some_iff.1 hd).1).trans hd
    have hiA := hI _ _ _ hi (Turns.of_below hbA)
    have hltA := (Array.getElem?_eq_some_iff.1 hlA).1
    refine ⟨fn, _, assign, body, hy, roundIn_of_wpIn hf (hassign _ x V _ ⟨_, run_beginRound hlA (by rw [hR]), ?_⟩)⟩
    have hbusy : ∀ q : Loop, ((V.alloc (ob x)).putObj (w.heap.size + 1) (.loop q)).heap[w.heap.size + 1]? = some (.loop q) := fun q => World.putObj_heap_same hltA
    refine wpIn_mono (hbody _ pre x U V _ hiU hb hGx (by omega) (turns_put _ _ _) (hI _ _ _ hiA (turns_put _ _ _)) (hKt (hKa _ _) (hKb _ _ _ hlA rfl))) ?_
    intro e a3 V3 hpost
    cases e <;> first | exact hpost.elim | skip
    obtain ⟨hk, hkp, hi3⟩ := hpost
    have hl3 := hk.same _ _ (by omega) (hbusy _) rfl
    have hd3 := hk.same _ _ (Nat.le_refl _) ((World.putObj_heap_other (by omega)).trans hdA) rfl
    have hend := run_endRound (P := P) none hl3
    rw [hR] at hend ⊢
    refine ⟨_, _, hend, rfl, ⟨hI _ _ _ hi3 (turns_put _ _ _), World.putObj_heap_same (Array.getElem?_eq_some_iff.1 hl3).1, (World.putObj_heap_other (by omega)).trans hd3⟩, hKt hkp (hKb _ _ _ hl3 rfl)⟩
  · rintro e V ⟨⟨v, rfl⟩, xs, hS, hi, hl, hd⟩
    have hend := run_endLoop (P := P) hl (by rw [hR]; simp)
    rw [hR] at hend
    exact ⟨none, _, hend, hdone xs _ hS (hI _ _ _ hi (turns_put _ _ _)) ((World.putObj_heap_other (by omega)).trans hd)⟩
end Go.Proofs.Ytkhenchhafmlmaa.Ex
