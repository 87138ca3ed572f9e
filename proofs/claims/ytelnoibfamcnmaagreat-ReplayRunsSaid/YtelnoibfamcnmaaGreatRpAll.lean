/- All records of a chain, in a list, and how many blocks they have. -/
import Derived.Test.YtelnoibfamcnmaaGreatRpPlain
import Derived.Deep.RegionHeld
import Derived.RangeFuncNested
import Derived.RangeFuncBound
import Derived.RangeFuncCalls
import Derived.RangeFuncLeaves
import Derived.RangeFuncWrites
import Derived.Test.YtelnoibfamcnmaaGreatDkLow
import Derived.Test.YtelnoibfamcnmaaGreatRcDec
import Derived.Test.YtelnoibfamcnmaaGreatLgLive
import Derived.Shelf.Abstract
import Derived.Shelf.RegionOpen
import Derived.OwnWalkIn
import Derived.TacticsInMore
import Derived.LoopNIn
import Derived.LoopIn
import Derived.Test.YtelnoibfamcnmaaGreatLgAlive
import Derived.Test.YtelnoibfamcnmaaGreatReg
namespace Go.Proofs.YtelnoibfamcnmaaGreat.Rp
set_option maxRecDepth 20000
open Go.RowKit
open Go.Proofs.YtelnoibfamcnmaaGreat.Mem Go.Proofs.YtelnoibfamcnmaaGreat.Crc Go.Proofs.YtelnoibfamcnmaaGreat.Disk Go.Proofs.YtelnoibfamcnmaaGreat.Log
open Go.Proofs.YtelnoibfamcnmaaGreat.Rec (Owned.reads Owned.mono Owned.len Owned.fits)

theorem run_make0 (n : Nat) (hn : n ≤ 1048576) (W : World) : (Instr.makeSlice 25 (.int .i64 0) (.int .i64 (n : Int))).run Tryz.prog W = .ok (.slice (some ⟨W.heap.size, 0, none⟩) 0 n) (W.alloc (.cells (madeCells #[.int .u8 0] n) 5)) := by
  obtain ⟨i, hi, hz0, hz1, hz2⟩ := info_parts info_u8
  have hr := run_make (P := Tryz.prog) W 25 5 i (.int .u8 0) Tryz.underlying25 hi hz0 .i64 .i64 0 n (by omega) (by omega) (by rw [hz2]; omega) (by omega)
  simp only [Int.toNat_natCast, hz1, Nat.mul_one] at hr
  exact hr
theorem owned_made0 (n : Nat) (hn : n ≤ 1048576) (W : World) : Owned (W.alloc (.cells (madeCells #[.int .u8 0] n) 5)) W.heap.size (.slice (some ⟨W.heap.size, 0, none⟩) 0 n) [] :=
  ⟨rfl, .inr ⟨W.heap.size, n, _, rfl, Nat.le_refl _, heap_alloc_new W _, Nat.zero_le _, by unfold maxLen; omega, by simp [madeCells], by simp⟩⟩

set_option maxHeartbeats 2000000 in
theorem ring_d (s r pl : Nat) (d : Dk.Dk) (p c : Nat) (F : Nat → Prop) (w : World) (h : DiskAt w p d c F) (hc : c ≤ 1048576) (h0 : 0 < r) (hr : r ≤ 1023) (hpl : pl < r) (hs : s + r < d.stable.length) :
    Calls Tryz.prog 88 #[.agg #[.pointer (some ⟨p, 0, none⟩), .int .i64 (s : Int), .int .i64 (r : Int)], .int .i64 (pl : Int)] w (Go.Proofs.YtelnoibfamcnmaaGreat.Rec.Made w (ringB d s r pl)) := by
  have hm := h.ok.2.2
  have hlen := ringK_len d h.ok.1 s r pl h0 hs
  have hx0 : (w.alloc (.cells #[.pointer (some ⟨p, 0, none⟩), .int .i64 (s : Int), .int .i64 (r : Int)] 66)).heap[w.heap.size]? = some (.cells #[.pointer (some ⟨p, 0, none⟩), .int .i64 (s : Int), .int .i64 (r : Int)] 66 (0, 0)) := heap_alloc_new w _
  have hb0 : Below w.heap.size w (w.alloc (.cells #[.pointer (some ⟨p, 0, none⟩), .int .i64 (s : Int), .int .i64 (r : Int)] 66)) := (Below.refl _ w).alloc (Nat.le_refl _) _
  have hmk : ∀ W, (Instr.makeSlice 25 (.int .i64 0) (.int .i64 ((r : Int) * 256))).run Tryz.prog W = .ok (.slice (some ⟨W.heap.size, 0, none⟩) 0 (256 * r)) (W.alloc (.cells (madeCells #[.int .u8 0] (256 * r)) 5)) := fun W => by
    rw [show ((r : Int) * 256) = ((256 * r : Nat) : Int) by omega]
    exact run_make0 (256 * r) (by omega) W
  have H := Lib.hid h; clear h
  have HLEN := Lib.hid hlen; clear hlen
  have HX0 := Lib.hid hx0; clear hx0
  have HB0 := Lib.hid hb0; clear hb0
  have HS := Lib.hid hs; clear hs
  go_enter Tryz.func88, Tryz.ntmps88
  go_wp2_with fail
  have hW0s : (w.alloc (.cells #[.pointer (some ⟨p, 0, none⟩), .int .i64 (s : Int), .int .i64 (r : Int)] 66)).heap.size = w.heap.size + 1 := by simp
  generalize w.alloc (.cells #[.pointer (some ⟨p, 0, none⟩), .int .i64 (s : Int), .int .i64 (r : Int)] 66) = W0 at HX0 HB0 hW0s ⊢
  have hz0 : w.heap.size < W0.heap.size := (Array.getElem?_eq_some_iff.1 HX0.out).1
  obtain ⟨a0, a1, a2⟩ := box_at HX0.out
  go_wp2_with fail
  have ho1 := owned_made0 (256 * r) (by omega) W0
  rw [hW0s] at ho1
  have hb1 : Below W0.heap.size W0 (W0.alloc (.cells (madeCells #[.int .u8 0] (256 * r)) 5)) := (Below.refl _ W0).alloc (Nat.le_refl _) _
  generalize hW1 : W0.alloc (.cells (madeCells #[.int .u8 0] (256 * r)) 5) = W1 at ho1 hb1 ⊢
  rw [← hW0s] at ho1 ⊢
  clear hW1 hmk hW0s
  have HO1 := Lib.hid ho1; clear ho1
  have HB1 := Lib.hid hb1; clear hb1
  have HZ0 := Lib.hid hz0; clear hz0 a0 a1 a2
  have hbox : ∀ V, Below W0.heap.size W0 V → V.cell? ⟨w.heap.size, 0, none⟩ = some (.pointer (some ⟨p, 0, none⟩)) ∧ V.cell? ⟨w.heap.size, 1, none⟩ = some (.int .i64 (s : Int)) ∧ V.cell? ⟨w.heap.size, 2, none⟩ = some (.int .i64 (r : Int)) := fun V hb => box_at ((hb.block _ HZ0.out).trans HX0.out)
  have hbw : ∀ V, Below W0.heap.size W0 V → Below w.heap.size w V := fun V hb => HB0.out.trans (hb.mono HB0.out.size)
  have hdk : ∀ V, Below W0.heap.size W0 V → DiskAt V p d c F := fun V hb => H.out.turns (Turns.of_below (F := fun _ => False) (hbw V hb)) (fun _ _ e => e)
  have HBOX := Lib.hid hbox; clear hbox
  have HBW := Lib.hid hbw; clear hbw
  have HDK := Lib.hid hdk; clear hdk
  obtain ⟨c2, c3, c4⟩ := HBOX.out W1 HB1.out
  go_wp2_with fail
  clear c2 c3 c4
  go_loopw [5, 15] (fun bv kv wr => ∃ (k : Nat) (A : Option Addr) (c' N : Nat), k ≤ r ∧ N = 256 * k ∧ kv = .int .i64 (k : Int) ∧ bv = .slice A N c' ∧ Owned wr W0.heap.size (.slice A N c') (ringK d s r pl k) ∧ Below W0.heap.size W0 wr) (fun _ kv _ => r - (intOf kv).toNat)
  case atStart => exact ⟨0, _, _, 0, Nat.zero_le _, rfl, rfl, rfl, HO1.out, HB1.out⟩
  case round =>
    obtain ⟨k, A, c', N, hk, hN, rfl, rfl, hown, hbr⟩ := hrel
    rcases Nat.lt_or_ge k r with hlt | hge
    · have hkr : (k : Int) < (r : Int) := by omega
      have hq := HBOX.out wr hbr
      have HOWN := Lib.hid hown; clear hown
      have HBR := Lib.hid hbr; clear hbr
      have HN := Lib.hid hN; clear hN
      have hmod := Nat.mod_lt (pl + k) h0
      have hbeh : ∀ V, Below wr.heap.size wr V → Calls Tryz.prog 31 #[.agg #[.pointer (some ⟨p, 0, none⟩), .int .i64 (s : Int), .int .i64 (r : Int)], .int .i64 (pl : Int), .int .i64 (k : Int)] V fun e V2 => e = .returned (.int .i64 (((pl + k) % r : Nat) : Int)) ∧ Below V.heap.size V V2 := fun V hV =>
        (behind_any p pl k r (s : Int) V h0 (by omega) (by omega) (by omega)).mono fun e V2 h2 => by
          rw [show (((pl + k) % r : Nat) : Int) = ((pl : Int) + (k : Int)) % (r : Int) by simp]
          exact h2
      obtain ⟨q, hqe⟩ : ∃ q, q = (pl + k) % r := ⟨_, rfl⟩
      rw [← hqe] at hmod hbeh
      have HBE := Lib.hid hbeh; clear hbeh
      have HQE := Lib.hid hqe; clear hqe
      go_wp2_with fail
      go_region_held (fun V => V.cell? ⟨w.heap.size, 0, none⟩ = some (.pointer (some ⟨p, 0, none⟩)) ∧ V.cell? ⟨w.heap.size, 1, none⟩ = some (.int .i64 (s : Int)) ∧ V.cell? ⟨w.heap.size, 2, none⟩ = some (.int .i64 (r : Int))) (assumption)
        (first
          | (go_at_call 31
             have hcall := HBE.out wr.drew (Below.refl _ wr).drew
             with_reducible refine hcall.mono ?_
             clear hcall
             rintro e V1 ⟨rfl, hb1⟩
             have hbr1 := HBR.out.trans ((show Below wr.heap.size wr V1 from (Below.refl _ wr).drew.trans hb1).mono HBR.out.size)
             have hq1 := HBOX.out V1 hbr1
             have HB1' := Lib.hid (show Below wr.heap.size wr V1 from (Below.refl _ wr).drew.trans hb1)
             clear hb1 hbr1)
          | (go_at_call 63
             have hcall := placed_any p s q (r : Int) V1 (by have := HS.out; omega) (by omega)
             unfold areaV ptr at hcall
             with_reducible refine hcall.mono ?_
             clear hcall
             rintro e V2 ⟨rfl, hb2⟩
             have hw2 := HB1'.out.trans (hb2.mono HB1'.out.size)
             have hbr2 := HBR.out.trans (hw2.mono HBR.out.size)
             have hq2 := HBOX.out V2 hbr2
             have HB2 := Lib.hid hw2
             clear hb2 hbr2 hw2)
          | (go_at_call 23
             have hcall := readB_d (s + 1 + q) d p c F V2 (HDK.out V2 (HBR.out.trans (HB2.out.mono HBR.out.size))) hc (by have := HS.out; omega)
             rw [show ((s + 1 + q : Nat) : Int) = (s : Int) + 1 + (q : Int) by omega] at hcall
             with_reducible refine hcall.mono ?_
             clear hcall
             rintro e V3 ⟨b3, rfl, hh3, hb3⟩
             have hw3 := HB2.out.trans (hb3.mono HB2.out.size)
             have hbr3 := HBR.out.trans (hw3.mono HBR.out.size)
             have hq3 := HBOX.out V3 hbr3
             have HH3 := Lib.hid hh3
             have HB3 := Lib.hid hw3
             have HBR3 := Lib.hid hbr3
             clear hb3 hbr3 hw3 hh3))
      all_goals
        clear hq1 hq2 hq3 hq
        have hown3 := HOWN.out.keep HB3.out (Nat.le_refl _)
        have hL := HLEN.out k
        have HO3 := Lib.hid hown3; clear hown3
        go_wp2_with (refine wpList_addall rfl _ _ rfl W0.heap.size _ (ringK d s r pl k) rfl HO3.out V3.heap.size _ 256 256 (d.read (s + 1 + q)) rfl HH3.out (by rw [hL]; omega) HBR3.out.size ?_)
        intro v' w' ho' hb'
        obtain ⟨A4, c4, rfl⟩ := Go.Proofs.YtelnoibfamcnmaaGreat.Rec.Owned.shape ho'
        have hk1 : ringK d s r pl k ++ d.read (s + 1 + q) = ringK d s r pl (k + 1) := by rw [ringK_succ, HQE.out]
        rw [hk1] at ho' ⊢
        have hL1 := HLEN.out (k + 1)
        rw [hL1] at ho' ⊢
        have hbr4 : Below W0.heap.size W0 w' := HBR3.out.trans hb'
        obtain ⟨N4, hN4⟩ : ∃ N4, N4 = 256 * (k + 1) := ⟨_, rfl⟩
        rw [← hN4] at ho' ⊢
        clear hk1 hL hL1
        have HO4 := Lib.hid ho'; clear ho'
        go_wp2
        go_roundw
        case rel => exact ⟨k + 1, A4, c4, N4, by omega, hN4, by go_num, rfl, HO4.out, hbr4⟩
        case measure => simp [intOf]; omega
    · obtain rfl : k = r := by omega
      have HN := Lib.hid hN; clear hN
      go_wp2
      go_ret
      have hL := HLEN.out k
      refine ⟨A, c', by show _ = Ending.returned (.slice A (ringK d s k pl k).length c'); rw [hL, HN.out]; rfl, ?_, HBW.out wr hbr⟩
      show Owned wr w.heap.size (.slice A (ringK d s k pl k).length c') (ringK d s k pl k)
      rw [hL, ← HN.out]
      exact Owned.mono hown (by have := HZ0.out; omega)
end Go.Proofs.YtelnoibfamcnmaaGreat.Rp

namespace Go.Proofs.YtelnoibfamcnmaaGreat.Rp
open Go Go.RowKit
open Go.Proofs.YtelnoibfamcnmaaGreat.Disk (Turns)

/-- The iterator g (bound to la and lb): G tells what memory holds as a round behind pre is handed x: V0 is the world in which the round before it ended, V the one of the call; S tells of all that is handed. -/
def Hands {α : Type} (F : Fence) (n : Nat) (P : Program) (g : Nat) (la lb : Array Value) (encs : α → Array Value) (Kp : World → World → Prop) (G : List α → α → World → World → Prop) (S : List α → Prop) (w : World) : Prop :=
  ∀ (l : Nat) (J : List α → World → Prop) (W : World), Below w.heap.size w W → (∀ s A B, J s A → Below A.heap.size A B → J s B) →
    (∀ pre x V0 V, J pre V0 → Below V0.heap.size V0 V → G pre x V0 V → YieldAt F (n - 1) P l (encs x) V fun e V' => e = .returned (.bool true) ∧ J (pre ++ [x]) V' ∧ Kp V V') →
    J [] W → CallsIn F n P g ((la ++ #[.func (.yield l) #[] #[]]) ++ lb) W fun e V => (∃ v, e = .returned v) ∧ ∃ xs, S xs ∧ J xs V

/-- How a round of such a loop ends: it goes on. -/
def goesOn {α : Type} (B : Nat) (Kp : World → World → Prop) (I : List α → World → Prop) (xs : List α) (W : World) : Exit → Act → World → Prop
  | .normal, _, W' => KeepsFrom B W W' ∧ Kp W W' ∧ I xs W'
  | _, _, _ => False

theorem turns_put (V : World) (q : Nat) (o : Obj) : Turns (fun k => k = q) V (V.putObj q o) := ⟨rfl, rfl, rfl, by simp, fun _ _ hn => World.putObj_heap_other hn⟩

theorem wp_hands {F : Fence} {n : Nat} {P : Program} {α : Type} {g : Operand} {ps : Array Tmp} {assign body : Code} {Q : Exit → Act → World → Prop} {a : Act} {w : World}
    (hro : F.round = none) (h1 : 1 ≤ n) {gf : Nat} {la lb : Array Value} (hg : a.eval g = .func (.func gf) la lb) (hfn : F.fn gf) (hen : ∀ args w, (callFunc gf args).run P w = .ok (.enter gf args) w)
    {encs : α → Array Value} {Kp : World → World → Prop} {G : List α → α → World → World → Prop} {S : List α → Prop} {w0 : World} (hseq : Hands F (n - 1) P gf la lb encs Kp G S w0)
    (hKt : ∀ {A B C : World}, Kp A B → Kp B C → Kp A C) (hKa : ∀ (W : World) (o : Obj), Kp W (W.alloc o)) (hKb : ∀ (W : World) (o o' : Obj), W.heap[w.heap.size + 1]? = some o → o.isCells = false → Kp W (W.putObj (w.heap.size + 1) o'))
    (hb0 : Below w0.heap.size w0 w) (hps : ∀ x, (encs x).size = ps.size)
    (I : List α → World → Prop) (hI : ∀ s A B, I s A → Turns (fun q => q = w.heap.size + 1) A B → I s B) (h0 : I [] w) (a₁ : α → Nat → Act) (ob : α → Obj)
    (hassign : ∀ (l : Nat) (x : α) (W : World) (K : Act → World → Prop), K (a₁ x W.heap.size) (W.alloc (ob x)) →
      assign.wpIn (F.inRound l) (n - 1 - 1) P (Exit.then K (fun _ _ _ => False)) { tmps := (ps.zip (encs x)).foldl (fun t (p, v) => t.setIfInBounds p v) a.tmps, defers := [] } W)
    (hbody : ∀ (l : Nat) (pre : List α) (x : α) (V0 V W : World), I pre V0 → Below V0.heap.size V0 V → G pre x V0 V → w.heap.size + 2 ≤ V0.heap.size → Turns (fun q => q = w.heap.size + 1) (V.alloc (ob x)) W → I pre W →
      body.wpIn (F.inRound l) (n - 1 - 1) P (goesOn w.heap.size Kp I (pre ++ [x]) W) (a₁ x V.heap.size) W)
    (hdone : ∀ (xs : List α) (W : World), S xs → I xs W → W.heap[w.heap.size]? = some (.deferred (some [])) → Q .normal { a with defers := { target := .collected w.heap.size, args := #[] } :: a.defers } W) :
    (Code.rangeFunc g ps assign body).wpIn F n P Q a w := by
  refine wpIn_rangeFunc fun fn hf => ?_
  rw [hro]
  obtain ⟨R, hR⟩ : ∃ R : LoopState → Loop, R = fun st => { state := st, pending := none, fn, tmps := a.tmps, params := ps, assign, body, defers := w.heap.size } := ⟨_, rfl⟩
  obtain ⟨V0, hV0⟩ : ∃ V, V = (w.alloc (.deferred (some []))).alloc (.loop (R .ready)) := ⟨_, rfl⟩
  have s1 : (w.alloc (.deferred (some []))).heap.size = w.heap.size + 1 := by simp
  have s2 : V0.heap.size = w.heap.size + 2 := by rw [hV0]; simp
  have hloop : V0.heap[w.heap.size + 1]? = some (.loop (R .ready)) := by
    rw [hV0, ← s1]; exact World.alloc_heap_new _ _
  have hdef : V0.heap[w.heap.size]? = some (.deferred (some [])) := by
    rw [hV0]; exact (Below.heap_alloc _ _ _ (by rw [s1]; omega)).trans (World.alloc_heap_new w _)
  have hbV : Below w.heap.size w V0 := hV0 ▸ ((Below.refl _ w).alloc (Nat.le_refl _) _).alloc (by simp) _
  have hI0 : I [] V0 := hI _ _ _ h0 (Turns.of_below hbV)
  have hbl : Below w0.heap.size w0 V0 := hb0.trans (hbV.mono hb0.size)
  refine ⟨w.heap.size + 1, [{ target := .collected w.heap.size, args := #[] }], V0, { target := .fn (.func gf) lb, args := la ++ #[.func (.yield (w.heap.size + 1)) #[] #[]] }, V0, gf, (la ++ #[.func (.yield (w.heap.size + 1)) #[] #[]]) ++ lb, V0, ?_, ?_, ?_, ?_, fun _ => h1, ?_⟩
  · rw [hV0, hR]; exact run_enterLoop_outer _ _ _ _ _
  · simp only [resolve, hg]
    simp [go_sem]
  · intro f' hl
    simp [Target.leads] at hl
    exact hl ▸ hfn
  · simp [invoke, go_sem, hen]
  refine (hseq (w.heap.size + 1) (fun pre V => I pre V ∧ V.heap[w.heap.size + 1]? = some (.loop (R .ready)) ∧ V.heap[w.heap.size]? = some (.deferred (some []))) V0 hbl
    (fun s A B hs hb => ⟨hI s A B hs.1 (Turns.of_below hb), (hb.block _ (Array.getElem?_eq_some_iff.1 hs.2.1).1).trans hs.2.1, (hb.block _ (Array.getElem?_eq_some_iff.1 hs.2.2).1).trans hs.2.2⟩)
    (fun pre x U V hJ hb hGx => ?_) ⟨hI0, hloop, hdef⟩).mono ?_
  · obtain ⟨hiU, hlU, hdU⟩ := hJ
    have hltU := (Array.getElem?_eq_some_iff.1 hlU).1
    have hi : I pre V := hI _ _ _ hiU (Turns.of_below hb)
    have hl := (hb.block _ hltU).trans hlU
    have hd := (hb.block _ (Array.getElem?_eq_some_iff.1 hdU).1).trans hdU
    have hlt := (Array.getElem?_eq_some_iff.1 hl).1
    have hy := run_yield (P := P) (args := encs x) hl (by rw [hR]; exact hps x)
    rw [hR] at hy
    have hbA : Below V.heap.size V (V.alloc (ob x)) := (Below.refl _ V).alloc (Nat.le_refl _) _
    have hlA := (hbA.block _ hlt).trans hl
    have hdA := (hbA.block _ (Array.getElem?_eq_some_iff.1 hd).1).trans hd
    have hiA := hI _ _ _ hi (Turns.of_below hbA)
    have hltA := (Array.getElem?_eq_some_iff.1 hlA).1
    refine ⟨fn, _, assign, body, hy, roundIn_of_wpIn hf (hassign _ x V _ ⟨_, run_beginRound hlA (by rw [hR]), ?_⟩)⟩
    have hbusy : ∀ q : Loop, ((V.alloc (ob x)).putObj (w.heap.size + 1) (.loop q)).heap[w.heap.size + 1]? = some (.loop q) := fun q => World.putObj_heap_same hltA
    refine wpIn_mono (hbody _ pre x U V _ hiU hb hGx (by omega) (turns_put _ _ _) (hI _ _ _ hiA (turns_put _ _ _))) ?_
    intro e a3 V3 hpost
    cases e <;> first | exact hpost.elim | skip
    obtain ⟨hk, hkp, hi3⟩ := hpost
    have hl3 := hk.same _ _ (by omega) (hbusy _) rfl
    have hd3 := hk.same _ _ (Nat.le_refl _) ((World.putObj_heap_other (by omega)).trans hdA) rfl
    have hend := run_endRound (P := P) none hl3
    rw [hR] at hend ⊢
    refine ⟨_, _, hend, rfl, ⟨hI _ _ _ hi3 (turns_put _ _ _), World.putObj_heap_same (Array.getElem?_eq_some_iff.1 hl3).1, (World.putObj_heap_other (by omega)).trans hd3⟩, hKt (hKt (hKt (hKa _ _) (hKb _ _ _ hlA rfl)) hkp) (hKb _ _ _ hl3 rfl)⟩
  · rintro e V ⟨⟨v, rfl⟩, xs, hS, hi, hl, hd⟩
    have hend := run_endLoop (P := P) hl (by rw [hR]; simp)
    rw [hR] at hend
    exact ⟨none, _, hend, hdone xs _ hS (hI _ _ _ hi (turns_put _ _ _)) ((World.putObj_heap_other (by omega)).trans hd)⟩
end Go.Proofs.YtelnoibfamcnmaaGreat.Rp

namespace Go.Proofs.YtelnoibfamcnmaaGreat.Rp
set_option maxRecDepth 20000
open Go Go.RowKit Go.Shelf
open Go.Proofs.YtelnoibfamcnmaaGreat.Mem Go.Proofs.YtelnoibfamcnmaaGreat.Crc Go.Proofs.YtelnoibfamcnmaaGreat.Disk Go.Proofs.YtelnoibfamcnmaaGreat.Log
open Go.Proofs.YtelnoibfamcnmaaGreat.Rec (Tx Wt TxAt OwnsT OwnsT.holds OwnsT.kept decB tellL nW nR tellL_lens dec_any DecPost Decoded Undecoded zeroTx)
attribute [local go_sem] Oper.semAt_some

def chainV (p s r seq pl : Nat) : Value := .agg #[.pointer (some ⟨p, 0, none⟩), .int .i64 (s : Int), .int .i64 (r : Int), .int .u64 (seq : Int), .int .i64 (pl : Int)]
def recV (x : LiveRec) : Array Value := #[.agg #[.int .u64 (x.t.seq : Int), .slice x.Aw x.t.ws.length x.cw, .slice x.Ar x.t.rs.length x.cr], .int .i64 ((x.t.ws.length + 2 : Nat) : Int)]
/-- What a loop over the chain may turn: two boxes of its own, and, of what was made since it began, rows of records alone. -/
def Mine (b4 b5 n0 : Nat) (V : World) (q : Nat) : Prop := q = b4 ∨ q = b5 ∨ (n0 ≤ q ∧ ¬ ∃ cs ty z, V.heap[q]? = some (.cells cs ty z) ∧ ty ≠ 63)
def KpC (b4 b5 n0 : Nat) (V V' : World) : Prop := Turns (Mine b4 b5 n0 V) V V'
theorem kpc_trans {b4 b5 n0 : Nat} {A B C : World} (h : KpC b4 b5 n0 A B) (k : KpC b4 b5 n0 B C) : KpC b4 b5 n0 A C := by
  refine Turns.trans h k (fun i hi hm => ?_)
  rcases hm with e | e | ⟨e, hn⟩
  · exact .inl e
  · exact .inr (.inl e)
  · by_cases h4 : i = b4
    · exact .inl h4
    · by_cases h5 : i = b5
      · exact .inr (.inl h5)
      · refine .inr (.inr ⟨e, fun ⟨cs, ty, z, hc, ht⟩ => hn ⟨cs, ty, z, ?_, ht⟩⟩)
        rw [h.block i hi (fun hm => ?_)]
        · exact hc
        · rcases hm with e' | e' | ⟨_, e'⟩
          · exact h4 e'
          · exact h5 e'
          · exact e' ⟨cs, ty, z, hc, ht⟩
theorem kpc_put {b4 b5 n0 q : Nat} {W : World} {o o' : Obj} (hq : n0 ≤ q) (ho : W.heap[q]? = some o) (hc : o.isCells = false) : KpC b4 b5 n0 W (W.putObj q o') :=
  (turns_put W q o').mono (fun i _ e => .inr (.inr ⟨by omega, fun ⟨cs, ty, z, h1, _⟩ => by
    rw [e, ho] at h1
    injection h1 with h1
    rw [h1] at hc
    cases hc⟩))
/-- What a round is handed: a record that lies in memory made since the round before it ended. -/
def GvC (pre : List LiveRec) (x : LiveRec) (V0 V : World) : Prop := (pre.length ≤ 1023 ∧ x.t.ws.length ≤ 58) ∧ ∀ W, Turns (fun q => q < V0.heap.size) V W → x.At W
def AllC (ts : List Tx) (xs : List LiveRec) : Prop := xs.map (·.t) = ts

theorem run_from (W : World) (A : Option Addr) (g k N c q : Nat) (hA : N = 0 ∨ A = some ⟨g, k, none⟩) (hq : q ≤ N) (hc : N ≤ c) :
    ∃ A', (Instr.slice 25 (.slice A N c) (some (.int .i64 (q : Int))) none none).run Tryz.prog W = .ok (.slice A' (N - q) (c - q)) W ∧ (N - q = 0 ∨ A' = some ⟨g, k + q, none⟩) := by
  have h := run_slice_l (P := Tryz.prog) W 25 A N c (by rw [Tryz.underlying25]; rfl) .i64 (q : Int) (by omega) (by omega)
  rw [h]
  have hs : (sizeOf (Tryz.prog.elem 25)).run Tryz.prog W = .ok 1 W := by rfl
  rw [hs]
  simp only [Result.andThen, sliced]
  refine ⟨_, rfl, ?_⟩
  rcases hA with e | e
  · exact .inl (by omega)
  · by_cases h2 : N - q = 0
    · exact .inl h2
    · subst e
      right
      simp [show ¬ c = q by omega, Addr.add_mid]

/-- The ring's bytes lie in a row. -/
def RowOf (V : World) (g : Nat) (bs : List UInt8) : Prop := ∃ cur, V.heap[g]? = some (.cells cur 5 (0, 0)) ∧ cur.toList.take bs.length = bs.map byteV
theorem RowOf.holds {V : World} {g k N : Nat} {A : Option Addr} {bs : List UInt8} (h : RowOf V g bs) (hA : N = 0 ∨ A = some ⟨g, k, none⟩) (hk : k + N = bs.length) : Holds V (g + 1) A N (bs.drop k) := by
  obtain ⟨cur, hc, ht⟩ := h
  refine ⟨by rw [List.length_drop]; omega, fun hp => ?_⟩
  rcases hA with e | e
  · omega
  · refine ⟨g, k, e, by omega, fun j hj => ?_⟩
    rw [List.length_drop] at hj
    rw [cell_of_row V g (k + j) cur _ _ hc]
    have h2 := congrArg (fun l => l[k + j]?) ht
    simp only [List.getElem?_take, List.getElem?_map] at h2
    rw [if_pos (by omega), List.getElem?_eq_getElem (show k + j < bs.length by omega)] at h2
    rw [List.getElem_drop]
    simpa [byteV] using h2

theorem wrap_up (k : Nat) : IntKind.u64.wrap ((k : Int) + 1) = (((k + 1) % 18446744073709551616 : Nat) : Int) := by
  unfold IntKind.wrap
  simp [IntKind.signed, IntKind.bits]
theorem step_in {n s r k : Nat} {bs : List UInt8} {seq : Nat} (h : inB n s r bs seq = true) : chainL n s r (k + 1) bs seq = tellL bs seq :: chainL n s r k (bs.drop (256 * (nW bs + 2))) ((seq + 1) % 18446744073709551616) := by
  conv => lhs; unfold chainL
  rw [if_pos h]
theorem chain_not {n s r : Nat} {bs : List UInt8} {seq : Nat} (h : inB n s r bs seq = false) (k : Nat) : chainL n s r k bs seq = [] := by
  cases k with
  | zero => rfl
  | succ k => unfold chainL; rw [h]; rfl

theorem chain_box {V : World} {b p s r seq pl : Nat} (h : V.heap[b]? = some (.cells #[.pointer (some ⟨p, 0, none⟩), .int .i64 (s : Int), .int .i64 (r : Int), .int .u64 (seq : Int), .int .i64 (pl : Int)] 68 (0, 0))) :
    V.cell? ⟨b, 0, none⟩ = some (.pointer (some ⟨p, 0, none⟩)) ∧ V.cell? ⟨b, 1, none⟩ = some (.int .i64 (s : Int)) ∧ V.cell? ⟨b, 2, none⟩ = some (.int .i64 (r : Int)) ∧ V.cell? ⟨b, 3, none⟩ = some (.int .u64 (seq : Int)) ∧ V.cell? ⟨b, 4, none⟩ = some (.int .i64 (pl : Int)) :=
  ⟨cell_of_row V b 0 _ _ _ h, cell_of_row V b 1 _ _ _ h, cell_of_row V b 2 _ _ _ h, cell_of_row V b 3 _ _ _ h, cell_of_row V b 4 _ _ _ h⟩

set_option maxRecDepth 100000 in
set_option maxHeartbeats 4000000 in
theorem records_hands (n : Nat) (hn : 1 ≤ n) (s r seq pl : Nat) (d : Dk.Dk) (p c : Nat) (F : Nat → Prop) (w : World) (h : DiskAt w p d c F) (hc : c ≤ 1048576) (h0 : 0 < r) (hr : r ≤ 1023) (hpl : pl < r) (hs : s + r < d.stable.length) (hseq : seq < 18446744073709551616)
    (b4 b5 n0 : Nat) (hn0 : n0 ≤ w.heap.size) (h4 : b4 < n0) (h5 : b5 < n0) (hF : ∀ q, F q → q < n0 ∧ q ≠ b4 ∧ q ≠ b5) :
    Hands Fence.wide n Tryz.prog 60 #[chainV p s r seq pl] #[] recV (KpC b4 b5 n0) GvC (AllC (chainL d.stable.length s r r (ringB d s r pl) seq)) w := by
  intro l J W hW hJb hY hJ0
  have hok := h.ok.1
  have hlen : (ringB d s r pl).length = 256 * r := ringK_len d hok s r pl h0 hs r
  have hD : ∀ V, Below W.heap.size W V → DiskAt V p d c F := fun V hV => h.turns (Turns.of_below (F := fun _ => False) (hW.trans (hV.mono hW.size))) (fun _ _ e => e)
  have hx0 : (W.alloc (.cells #[.pointer (some ⟨p, 0, none⟩), .int .i64 (s : Int), .int .i64 (r : Int), .int .u64 (seq : Int), .int .i64 (pl : Int)] 68)).heap[W.heap.size]? = some (.cells #[.pointer (some ⟨p, 0, none⟩), .int .i64 (s : Int), .int .i64 (r : Int), .int .u64 (seq : Int), .int .i64 (pl : Int)] 68 (0, 0)) := heap_alloc_new W _
  have hb0 : Below W.heap.size W (W.alloc (.cells #[.pointer (some ⟨p, 0, none⟩), .int .i64 (s : Int), .int .i64 (r : Int), .int .u64 (seq : Int), .int .i64 (pl : Int)] 68)) := (Below.refl _ W).alloc (Nat.le_refl _) _
  have hwW := hW.size
  have H := Lib.hid hD; clear hD h
  have HX0 := Lib.hid hx0; clear hx0
  have HB0 := Lib.hid hb0; clear hb0
  have HLEN := Lib.hid hlen; clear hlen
  have HS := Lib.hid hs; clear hs
  have HY := Lib.hid hY; clear hY
  have HJB := Lib.hid hJb; clear hJb
  have HJ0 := Lib.hid hJ0; clear hJ0
  have HFF := Lib.hid hF; clear hF
  have HW := Lib.hid hW; clear hW
  unfold chainV
  refine callsIn_of_wp Tryz.func60 rfl trivial ?_ rfl
  simp only [Tryz.ntmps60, List.size_toArray, List.length_cons, List.length_nil, Nat.reduceAdd, Nat.reduceSub, Array.replicate_succ, Array.replicate_zero, List.push_toArray, List.append_toArray, List.nil_append, List.cons_append]
  gi_wp2_with fail
  generalize W.alloc (.cells #[.pointer (some ⟨p, 0, none⟩), .int .i64 (s : Int), .int .i64 (r : Int), .int .u64 (seq : Int), .int .i64 (pl : Int)] 68) = W0 at HX0 HB0 ⊢
  have hz0 : W.heap.size < W0.heap.size := (Array.getElem?_eq_some_iff.1 HX0.out).1
  have hbox : ∀ V, Below W0.heap.size W0 V → V.cell? ⟨W.heap.size, 0, none⟩ = some (.pointer (some ⟨p, 0, none⟩)) ∧ V.cell? ⟨W.heap.size, 1, none⟩ = some (.int .i64 (s : Int)) ∧ V.cell? ⟨W.heap.size, 2, none⟩ = some (.int .i64 (r : Int)) ∧ V.cell? ⟨W.heap.size, 3, none⟩ = some (.int .u64 (seq : Int)) ∧ V.cell? ⟨W.heap.size, 4, none⟩ = some (.int .i64 (pl : Int)) := fun V hb => chain_box ((hb.block _ hz0).trans HX0.out)
  have HZ0 := Lib.hid hz0; clear hz0
  have hq := hbox W0.drew (Below.refl _ W0).drew
  have HBOX := Lib.hid hbox; clear hbox
  have hring := ring_d s r pl d p c F W0.drew (H.out _ (HB0.out.trans (((Below.refl W0.heap.size W0).drew).mono HB0.out.size))) hc h0 hr hpl HS.out
  have HRING := Lib.hid hring; clear hring
  refine wpIn_wide.2 ?_
  go_region_held (fun V => V.cell? ⟨W.heap.size, 0, none⟩ = some (.pointer (some ⟨p, 0, none⟩)) ∧ V.cell? ⟨W.heap.size, 1, none⟩ = some (.int .i64 (s : Int)) ∧ V.cell? ⟨W.heap.size, 2, none⟩ = some (.int .i64 (r : Int)) ∧ V.cell? ⟨W.heap.size, 3, none⟩ = some (.int .u64 (seq : Int)) ∧ V.cell? ⟨W.heap.size, 4, none⟩ = some (.int .i64 (pl : Int))) (assumption)
    (first
      | (go_at_call 88
         have hcall := HRING.out
         with_reducible refine hcall.mono ?_
         clear hcall
         rintro e V1 ⟨A1, c1, rfl, ho1, hb1⟩
         have hb1' : Below W0.heap.size W0 V1 := (Below.refl _ W0).drew.trans hb1
         have hq1 := HBOX.out V1 hb1'
         have HO1 := Lib.hid ho1
         have HB1 := Lib.hid hb1'
         clear hb1 hb1' ho1))
  all_goals
    clear hq hq1
    obtain ⟨g, cap, cur, hA1, hg1, hg2, hgc, hcap, hcm, hcs, hct⟩ := Go.Proofs.YtelnoibfamcnmaaGreat.Rec.Owned.cut HO1.out (by have := HLEN.out; omega)
    rw [HLEN.out] at hA1 hcap ⊢
    injection hA1 with hA1 _ hc1
    subst hA1 hc1
    have hrow : RowOf V1 g (ringB d s r pl) := ⟨cur, hgc, hct⟩
    have hWg : W.heap.size ≤ g := by have := HB0.out.size; simp only [World.size_drew] at hg1; omega
    obtain ⟨N0, hN0⟩ : ∃ N0, N0 = 256 * r := ⟨_, rfl⟩
    rw [← hN0] at hcap ⊢
    have HROW := Lib.hid hrow; clear hrow hgc hct hcs
    have HN0 := Lib.hid hN0; clear hN0
    have HWG := Lib.hid hWg; clear hWg hg1
    have hJ1 := HJB.out _ _ _ HJ0.out (HB0.out.trans (HB1.out.mono HB0.out.size))
    have HJ1 := Lib.hid hJ1; clear hJ1
    have hcap9 : c1 ≤ 9223372036854775807 := by unfold maxLen at hcm; omega
    clear hcm
    gi_wp2_with fail
    have hkeep : ∀ V, KpC b4 b5 n0 V1 V → RowOf V g (ringB d s r pl) ∧ V.heap[W.heap.size]? = some (.cells #[.pointer (some ⟨p, 0, none⟩), .int .i64 (s : Int), .int .i64 (r : Int), .int .u64 (seq : Int), .int .i64 (pl : Int)] 68 (0, 0)) ∧ DiskAt V p d c F := fun V hV => by
      have hbx1 := (HB1.out.block _ HZ0.out).trans HX0.out
      obtain ⟨cu, hg3, hg4⟩ := HROW.out
      have g1 : ¬ Mine b4 b5 n0 V1 g := fun e => by
        have := HWG.out
        rcases e with e | e | ⟨_, e⟩
        · omega
        · omega
        · exact e ⟨_, _, _, hg3, by decide⟩
      have g2 : ¬ Mine b4 b5 n0 V1 W.heap.size := fun e => by
        rcases e with e | e | ⟨_, e⟩
        · omega
        · omega
        · exact e ⟨_, _, _, hbx1, by decide⟩
      exact ⟨⟨cu, (hV.block g (Array.getElem?_eq_some_iff.1 hg3).1 g1).trans hg3, hg4⟩, (hV.block _ (Array.getElem?_eq_some_iff.1 hbx1).1 g2).trans hbx1, (H.out V1 (HB0.out.trans (HB1.out.mono HB0.out.size))).turns hV (fun k hk e => by
        have := HFF.out k hk
        rcases e with e | e | ⟨e, _⟩
        · exact this.2.1 e
        · exact this.2.2 e
        · omega)⟩
    have HKEEP := Lib.hid hkeep; clear hkeep
    gi_loopw [4, 5] (fun bv sv wr => ∃ (pre : List LiveRec) (off sq N cc : Nat) (A : Option Addr), bv = .slice A N cc ∧ sv = .int .u64 (sq : Int) ∧ sq < 18446744073709551616 ∧ N + 256 * off = 256 * r ∧ N ≤ cc ∧ cc ≤ c1 ∧ (N = 0 ∨ A = some ⟨g, 256 * off, none⟩) ∧ pre.length ≤ off ∧
      chainL d.stable.length s r r (ringB d s r pl) seq = pre.map (·.t) ++ chainL d.stable.length s r (r - pre.length) ((ringB d s r pl).drop (256 * off)) sq ∧ J pre wr ∧ KpC b4 b5 n0 V1 wr) (fun bv _ _ => match bv with | .slice _ N _ => N | _ => 0)
    case atStart => exact ⟨[], 0, seq, N0, c1, _, rfl, rfl, hseq, by have := HN0.out; omega, hcap, Nat.le_refl _, .inr rfl, Nat.zero_le _, by rw [Nat.mul_zero, List.drop_zero]; rfl, HJ1.out, Turns.refl _ _⟩
    case round =>
      obtain ⟨pre, off, sq, N, cc, A, rfl, rfl, hsq, hN, hNc, hcc, hA, hpre, hch, hJr, hkp⟩ := hrel
      obtain ⟨hrow, hbx, hdk⟩ := HKEEP.out wr hkp
      obtain ⟨bs, hbs⟩ : ∃ bs, bs = (ringB d s r pl).drop (256 * off) := ⟨_, rfl⟩
      rw [← hbs] at hch
      have hbl : bs.length = N := by rw [hbs, List.length_drop, HLEN.out]; omega
      have hh : Holds wr (g + 1) A N bs := hbs ▸ hrow.holds hA (by rw [HLEN.out]; omega)
      have hgl : g + 1 ≤ wr.heap.size := by
        obtain ⟨cur, hc, _⟩ := hrow
        exact (Array.getElem?_eq_some_iff.1 hc).1
      have hdec := dec_any A N cc (g + 1) bs sq wr hh hgl hNc (by omega) hsq
      have HROWR := Lib.hid hrow; clear hrow
      have HBX := Lib.hid hbx; clear hbx
      have HDK := Lib.hid hdk; clear hdk
      have HCH := Lib.hid hch; clear hch
      have HJR := Lib.hid hJr; clear hJr
      have HKP := Lib.hid hkp; clear hkp
      have HBS := Lib.hid hbs; clear hbs
      have HBL := Lib.hid hbl; clear hbl
      have HNN := Lib.hid hN; clear hN
      have HA := Lib.hid hA; clear hA hh
      have HPRE := Lib.hid hpre; clear hpre
      cases hdb : decB bs sq with
      | false =>
        have hd2 : Calls Tryz.prog 89 #[.slice A N cc, .int .u64 (sq : Int)] wr (Undecoded wr) := hdec.mono fun e w' h => by
          rcases h with ⟨e1, -⟩ | ⟨-, h⟩
          · rw [hdb] at e1; cases e1
          · exact h
        have HD2 := Lib.hid hd2; clear hd2 hdec
        gi_wp2_with fail
        refine ⟨trivial, callsIn_wide.2 (HD2.out.mono ?_)⟩
        rintro e w2 ⟨rfl, hb2⟩
        clear HD2
        have HB2 := Lib.hid hb2; clear hb2
        unfold zeroTx
        gi_wp2_with fail
        refine ⟨trivial, ?_⟩
        gi_wp2_with fail
        refine ⟨fun f e => (by cases e), ?_⟩
        gi_wp2
        refine bodyPost_ret (results_none rfl _ _ _) rfl ?_
        refine ⟨⟨_, rfl⟩, pre, ?_, HJB.out _ _ _ HJR.out (HB2.out.alloc HB2.out.size _)⟩
        unfold AllC
        rw [HCH.out, chain_not (by unfold inB; rw [hdb]; rfl), List.append_nil]
      | true =>
        have hd2 : Calls Tryz.prog 89 #[.slice A N cc, .int .u64 (sq : Int)] wr (Decoded wr bs sq) := hdec.mono fun e w' h => by
          rcases h with ⟨-, h⟩ | ⟨e1, -⟩
          · exact h
          · rw [hdb] at e1; cases e1
        have HD2 := Lib.hid hd2; clear hd2 hdec
        gi_wp2_with fail
        refine ⟨trivial, callsIn_wide.2 (HD2.out.mono ?_)⟩
        rintro e w2 ⟨Aw, cw, Ar, cr, vs, rfl, hot, hb2⟩
        clear HD2
        obtain ⟨t0, ht0⟩ : ∃ t0, t0 = tellL bs sq := ⟨_, rfl⟩
        have hlens := tellL_lens bs sq
        have hlong := dec_long hdb
        rw [HBL.out] at hlong
        obtain ⟨nw, hnw⟩ : ∃ nw, nw = nW bs := ⟨_, rfl⟩
        obtain ⟨nr, hnr⟩ : ∃ nr, nr = nR bs := ⟨_, rfl⟩
        rw [← hnw, ← hnr, ← ht0] at hlens
        rw [← hnw] at hlong
        rw [← hnw, ← hnr]
        have HOT := Lib.hid hot; clear hot
        have HB2 := Lib.hid hb2; clear hb2
        have HLONG := Lib.hid hlong; clear hlong
        have HLENS := Lib.hid hlens; clear hlens
        have HT0 := Lib.hid ht0; clear ht0
        have HNW := Lib.hid hnw; clear hnw
        have HNR := Lib.hid hnr; clear hnr
        obtain ⟨w3, hw3⟩ : ∃ w3, w3 = w2.alloc (.cells #[.int .u64 (sq : Int), .slice Aw nw cw, .slice Ar nr cr] 63) := ⟨_, rfl⟩
        have hb3 : Below w2.heap.size w2 w3 := hw3 ▸ (Below.refl _ w2).alloc (Nat.le_refl _) _
        have hbr3 : Below wr.heap.size wr w3 := HB2.out.trans (hb3.mono HB2.out.size)
        obtain ⟨x0, x1, x2, -, -⟩ := chain_box ((hbr3.block _ (Array.getElem?_eq_some_iff.1 HBX.out).1).trans HBX.out)
        have hv3 : w3.heap[w2.heap.size]? = some (.cells #[.int .u64 (sq : Int), .slice Aw nw cw, .slice Ar nr cr] 63 (0, 0)) := hw3 ▸ heap_alloc_new w2 _
        have y0 : w3.cell? ⟨w2.heap.size, 0, none⟩ = some (.int .u64 (sq : Int)) := cell_of_row w3 _ 0 _ _ _ hv3
        have y1 : w3.cell? ⟨w2.heap.size, 1, none⟩ = some (.slice Aw nw cw) := cell_of_row w3 _ 1 _ _ _ hv3
        have y2 : w3.cell? ⟨w2.heap.size, 2, none⟩ = some (.slice Ar nr cr) := cell_of_row w3 _ 2 _ _ _ hv3
        rw [hw3] at x0 x1 x2 y0 y1 y2
        have HW3 := Lib.hid hw3; clear hw3
        have HBR3 := Lib.hid hbr3; clear hbr3
        have HV3 := Lib.hid hv3; clear hv3
        have HB3 := Lib.hid hb3; clear hb3
        gi_wp2_with fail
        rw [← HW3.out] at x0 x1 x2 y0 y1 y2 ⊢
        clear HW3
        -- the record that was read, in every later world
        have hstay : ∀ V, Turns (fun q => q < wr.heap.size) w3 V → TxAt V V.heap.size t0 Aw nw cw Ar nr cr := fun V hV => by
          have h1 : OwnsT V wr.heap.size (tellL bs sq) Aw cw Ar cr vs := HOT.out.kept (fun q h1 h2 => by
            have h3 := HB3.out.block q h2
            exact (hV.block q (by have := HB3.out.size; omega) (by show ¬ q < wr.heap.size; omega)).trans h3)
          have h2 := OwnsT.holds h1 hsq
          rw [← HT0.out, ← HNW.out, ← HNR.out] at h2
          exact h2
        have HSTAY := Lib.hid hstay; clear hstay
        have hdk3 : DiskAt w3 p d c F := HDK.out.turns (Turns.of_below (F := fun _ => False) HBR3.out) (fun _ _ e => e)
        have htk := takes_d s r d p c F w3 hdk3 HS.out t0 Aw Ar nw cw nr cr _ (HSTAY.out w3 (Turns.refl _ _)) (Nat.le_refl _)
        have hsq0 : t0.seq = sq := by rw [HT0.out]; rfl
        rw [hsq0] at htk
        unfold areaV ptr at htk
        have HTK := Lib.hid htk; clear htk hdk3
        refine ⟨trivial, callsIn_wide.2 (HTK.out.mono ?_)⟩
        rintro e w4 ⟨rfl, hb4⟩
        clear HTK x0 x1 x2 y0 y1 y2
        have hbr4 := HBR3.out.trans (hb4.mono HBR3.out.size)
        have hv4 := (hb4.block _ (Array.getElem?_eq_some_iff.1 HV3.out).1).trans HV3.out
        have y0 : w4.cell? ⟨w2.heap.size, 0, none⟩ = some (.int .u64 (sq : Int)) := cell_of_row w4 _ 0 _ _ _ hv4
        have y1 : w4.cell? ⟨w2.heap.size, 1, none⟩ = some (.slice Aw nw cw) := cell_of_row w4 _ 1 _ _ _ hv4
        have y2 : w4.cell? ⟨w2.heap.size, 2, none⟩ = some (.slice Ar nr cr) := cell_of_row w4 _ 2 _ _ _ hv4
        have HBR4 := Lib.hid hbr4; clear hbr4
        have HB4 := Lib.hid hb4; clear hb4 hv4
        cases htb : takesB d.stable.length s r t0 with
        | false =>
          gi_wp2_with fail
          refine ⟨fun f e => (by cases e), ?_⟩
          gi_wp2
          refine bodyPost_ret (results_none rfl _ _ _) rfl ?_
          refine ⟨⟨_, rfl⟩, pre, ?_, HJB.out _ _ _ HJR.out HBR4.out⟩
          unfold AllC
          rw [HCH.out, chain_not (by unfold inB; rw [← HT0.out, htb, Bool.and_false]), List.append_nil]
        | true =>
          have hin : inB d.stable.length s r bs sq = true := by unfold inB; rw [← HT0.out, hdb, htb]; rfl
          have HIN := Lib.hid hin; clear hin
          obtain ⟨fn, tmps, assign, body, hy, hR⟩ := HY.out pre ⟨t0, Aw, cw, Ar, cr⟩ wr w4 HJR.out HBR4.out ⟨⟨by have := HPRE.out; have := HNN.out; omega, by show t0.ws.length ≤ 58; rw [HLENS.out.1]; exact HLONG.out.2.1⟩, fun V hV => by
            have h1 := HSTAY.out V ((Turns.of_below (F := fun q => q < wr.heap.size) HB4.out).trans hV (fun _ _ e => e))
            show TxAt V V.heap.size t0 Aw t0.ws.length cw Ar t0.rs.length cr
            rw [HLENS.out.1, HLENS.out.2]
            exact h1⟩
          dsimp only [recV] at hy hR
          rw [HLENS.out.1, HLENS.out.2, hsq0] at hy
          rw [show ((nw + 2 : Nat) : Int) = (nw : Int) + 2 by omega] at hy
          gi_wp2_with fail
          refine hR.mono ?_
          rintro e w5 ⟨rfl, hJ5, hk5⟩
          clear hR hy y0 y1 y2
          have hkp5 : KpC b4 b5 n0 V1 w5 := kpc_trans (kpc_trans HKP.out (Turns.of_below HBR4.out)) hk5
          have HKP5 := Lib.hid hkp5; clear hkp5 hk5
          have HJ5 := Lib.hid hJ5; clear hJ5
          obtain ⟨q, hq⟩ : ∃ q, q = 256 * (nw + 2) := ⟨_, rfl⟩
          have hqN : q ≤ N := by have := HLONG.out; omega
          obtain ⟨A', hsl, hA'⟩ := run_from w5 A g (256 * off) N cc q HA.out hqN hNc
          have hqe : ((nw : Int) + 2) * 256 = (q : Int) := by omega
          rw [← hqe] at hsl
          have hw1 : (-9223372036854775808 : Int) ≤ ((nw : Int) + 2) * 256 ∧ ((nw : Int) + 2) * 256 ≤ 9223372036854775807 := by have := HLONG.out; omega
          have HQ := Lib.hid hq; clear hq hqe
          have HA' := Lib.hid hA'; clear hA'
          gi_wp2
          have hlg := HLONG.out
          have hqv := HQ.out
          have hnn := HNN.out
          have hpp := HPRE.out
          go_roundw
          case rel =>
            refine ⟨pre ++ [⟨t0, Aw, cw, Ar, cr⟩], off + (nw + 2), (sq + 1) % 18446744073709551616, N - q, cc - q, A', rfl, by rw [wrap_up], Nat.mod_lt _ (by omega), by omega, by omega, by omega, ?_, by rw [List.length_append, List.length_singleton]; omega, ?_, HJ5.out, HKP5.out⟩
            · rw [show 256 * (off + (nw + 2)) = 256 * off + q by omega]
              exact HA'.out
            · rw [HCH.out, List.map_append, List.length_append, List.append_assoc]
              congr 1
              rw [show r - pre.length = (r - (pre.length + [(⟨t0, Aw, cw, Ar, cr⟩ : LiveRec)].length)) + 1 by rw [List.length_singleton]; omega, step_in HIN.out, HT0.out, HBS.out, List.drop_drop, ← HBS.out, ← HNW.out, show 256 * off + 256 * (nw + 2) = 256 * (off + (nw + 2)) by omega]
              rfl
          case measure =>
            show N - q < N
            omega
end Go.Proofs.YtelnoibfamcnmaaGreat.Rp

namespace Go.Proofs.YtelnoibfamcnmaaGreat.Rp
set_option maxRecDepth 20000
open Go Go.RowKit Go.Shelf
open Go.Proofs.YtelnoibfamcnmaaGreat.Mem Go.Proofs.YtelnoibfamcnmaaGreat.Crc Go.Proofs.YtelnoibfamcnmaaGreat.Disk Go.Proofs.YtelnoibfamcnmaaGreat.Log Go.Proofs.YtelnoibfamcnmaaGreat.Reg
open Go.Proofs.YtelnoibfamcnmaaGreat.Rec (Tx Wt TxAt)
attribute [local go_sem] Oper.semAt_some

/-- What the loop keeps: the list's box and the sum's, the list's row, and the records, each steady while only what lay ahead of the loop and the row turn. -/
structure AllI (w : World) (m n0 : Nat) (xs : List LiveRec) (V : World) : Prop where
  below : Below m w V
  few : sumT (xs.map (·.t)) ≤ 60 * xs.length
  list : ∃ v, V.heap[m + 1]? = some (.cells #[v] 24 (0, 0)) ∧ Row V 63 3 v xs.length (xs.flatMap LiveRec.cells) ∧ (∀ q, v.ownBlock = some q → n0 + 2 ≤ q) ∧ ∀ x ∈ xs, ∀ W, Turns (fun q => q < n0 + 2 ∨ v.ownBlock = some q) V W → x.At W
  sum : V.heap[m + 2]? = some (.cells #[.int .i64 (sumT (xs.map (·.t)) : Int)] 3 (0, 0))
theorem AllI.turns {w : World} {m n0 : Nat} {xs : List LiveRec} {A B : World} (hm : m + 2 < n0) (hmw : m ≤ w.heap.size) (h : AllI w m n0 xs A) (hT : Turns (fun q => q = n0 + 1) A B) : AllI w m n0 xs B := by
  obtain ⟨v, h1, h2, h3, h4⟩ := h.list
  refine ⟨h.below.trans (hT.below (fun k e => by omega) (by have := h.below.size; omega)), h.few, ⟨v, (hT.block _ (Array.getElem?_eq_some_iff.1 h1).1 (by show ¬ m + 1 = n0 + 1; omega)).trans h1, h2.turns hT (fun k hk e => by have := h3 k hk; omega), h3, fun x hx W hW => h4 x hx W ?_⟩, (hT.block _ (Array.getElem?_eq_some_iff.1 h.sum).1 (by show ¬ m + 2 = n0 + 1; omega)).trans h.sum⟩
  exact (hT.mono (F := fun q => q < n0 + 2 ∨ v.ownBlock = some q) (fun i _ e => .inl (by omega))).trans hW (fun _ _ e => e)

theorem own_txn {w : World} {e : TypeId} {size n q : Nat} {v : Value} {xs : List Value} (h : Row w e size v n xs) (hq : v.ownBlock = some q) : ∃ cs z, w.heap[q]? = some (.cells cs e z) := by
  rcases h.2 with ⟨rfl, _⟩ | ⟨g, cap, cur, rfl, hg, hh, -⟩
  · cases hq
  · injection hq with hq
    subst hq
    exact ⟨_, _, hh⟩
theorem own_cells {w : World} {e : TypeId} {size n q : Nat} {v : Value} {xs : List Value} (h : Row w e size v n xs) (hq : v.ownBlock = some q) : ∃ cs ty z, w.heap[q]? = some (.cells cs ty z) := by
  obtain ⟨cs, z, h⟩ := own_txn h hq
  exact ⟨cs, e, z, h⟩
/-- An append's run taken as one step, in a round. -/
theorem round_apprun {n l : Nat} {w : World} {ops : Array Oper} {rest : List Oper} {o : Oper} {a : Act} {Q : Exit → Act → World → Prop} (hgd : o.guard = none) (d x : Operand) (dT sT : TypeId)
    (ho : o.op = .call { callee := .builtin .append, args := #[d, x], argTypes := #[dT, sT] }) (vd vx : Value) (hd : a.eval d = vd) (hx : a.eval x = vx) (v : Value) (w' : World) (hrun : (Builtin.append_ #[dT, sT] o.type #[vd, vx]).run Tryz.prog w = .ok v w')
    (h : wpListIn (Fence.wide.inRound l) n Tryz.prog ops Q rest (a.put o.dst v) w') : wpListIn (Fence.wide.inRound l) n Tryz.prog ops Q (o :: rest) a w := by
  refine wpListIn_plain hgd fun K hK => op_round (fun c e => by rw [ho] at e; cases e) ?_
  unfold Oper.wp execOp
  simp only [ho, resolve, invoke, builtin, Sem.run_bind, Sem.run_pure, Result.andThen_ok, List.map_toArray, List.map_cons, List.map_nil, hd, hx, hrun]
  exact hK _ _ h

set_option maxRecDepth 100000 in
set_option maxHeartbeats 4000000 in
theorem all_d (s r seq pl : Nat) (d : Dk.Dk) (p c : Nat) (F : Nat → Prop) (w : World) (h : DiskAt w p d c F) (hc : c ≤ 1048576) (h0 : 0 < r) (hr : r ≤ 1023) (hpl : pl < r) (hs : s + r < d.stable.length) (hseq : seq < 18446744073709551616) (ts : List Tx) (hts : ts = chainL d.stable.length s r r (ringB d s r pl) seq) :
    Calls Tryz.prog 29 #[chainV p s r seq pl] w fun e w' => ∃ A c' L, e = .returned (.tuple #[.slice A ts.length c', .int .i64 (sumT ts : Int)]) ∧
      Live w' (fun q => q < w.heap.size) d.stable.length s r (.slice A ts.length c') ts.length L ∧ L.map (·.t) = ts ∧ (∀ q, (Value.slice A ts.length c').ownBlock = some q → w.heap.size ≤ q) ∧ Below w.heap.size w w' := by
  have hlt : ∀ q, F q → q < w.heap.size := fun q hq => h.lt q hq
  have HLT := Lib.hid hlt; clear hlt
  have H := Lib.hid h; clear h
  have HTS := Lib.hid hts; clear hts
  refine (callsIn_wide (n := 3)).1 ?_
  unfold chainV
  refine callsIn_of_wp_marks Tryz.func29 rfl trivial ?_ rfl
  simp only [Tryz.ntmps29, List.size_toArray, List.length_cons, List.length_nil, Nat.reduceAdd, Nat.reduceSub, Array.replicate_succ, Array.replicate_zero, List.push_toArray, List.append_toArray, List.nil_append, List.cons_append]
  gi_wp2_with fail
  obtain ⟨W0, hW0⟩ : ∃ W0, W0 = ((w.alloc (.cells #[.pointer (some ⟨p, 0, none⟩), .int .i64 (s : Int), .int .i64 (r : Int), .int .u64 (seq : Int), .int .i64 (pl : Int)] 68)).alloc (.cells #[.slice none 0 0] 24)).alloc (.cells #[.int .i64 0] 3) := ⟨_, rfl⟩
  have z1 : (w.alloc (.cells #[.pointer (some ⟨p, 0, none⟩), .int .i64 (s : Int), .int .i64 (r : Int), .int .u64 (seq : Int), .int .i64 (pl : Int)] 68)).heap.size = w.heap.size + 1 := by simp
  have z2 : ((w.alloc (.cells #[.pointer (some ⟨p, 0, none⟩), .int .i64 (s : Int), .int .i64 (r : Int), .int .u64 (seq : Int), .int .i64 (pl : Int)] 68)).alloc (.cells #[.slice none 0 0] 24)).heap.size = w.heap.size + 2 := by simp
  have z3 : W0.heap.size = w.heap.size + 3 := by rw [hW0]; simp
  have hx1 : W0.heap[w.heap.size + 1]? = some (.cells #[.slice none 0 0] 24 (0, 0)) := by
    rw [hW0]
    refine (Below.heap_alloc _ _ _ (by rw [z2]; omega)).trans ?_
    rw [← z1]; exact heap_alloc_new _ _
  have hx2 : W0.heap[w.heap.size + 2]? = some (.cells #[.int .i64 0] 3 (0, 0)) := by
    rw [hW0, ← z2]; exact heap_alloc_new _ _
  have hbl : Below w.heap.size w W0 := by rw [hW0]; exact (((Below.refl _ w).alloc (Nat.le_refl _) _).alloc (by simp) _).alloc (by rw [z2]; omega) _
  rw [← hW0]
  have hrec := records_hands (3 - 1) (by omega) s r seq pl d p c F W0 (H.out.turns (Turns.of_below (F := fun _ => False) hbl) (fun _ _ e => e)) hc h0 hr hpl hs hseq (w.heap.size + 1) (w.heap.size + 2) W0.heap.size (Nat.le_refl _) (by omega) (by omega) (fun q hq => by have := HLT.out q hq; omega)
  rw [← HTS.out] at hrec
  clear hW0 z1 z2
  have hI0 : AllI w w.heap.size W0.heap.size [] W0 := ⟨hbl, by simp [sumT], ⟨_, hx1, ⟨rfl, .inl ⟨rfl, rfl⟩⟩, (fun q e => by cases e), (fun x hx => by cases hx)⟩, by simpa [sumT] using hx2⟩
  refine wp_hands (F := Fence.wide) (n := 3) rfl (by omega) (gf := 60) (la := #[chainV p s r seq pl]) (lb := #[]) rfl trivial (enters_of Tryz.func60 (by kernel_rfl) rfl) hrec
    kpc_trans (fun V o => Turns.of_below ((Below.refl _ V).alloc (Nat.le_refl _) _)) (fun V o o' ho hoc => kpc_put (by omega) ho hoc) (Below.refl _ _) (fun _ => rfl)
    (AllI w w.heap.size W0.heap.size) (fun xs A B h hT => h.turns (by omega) (by omega) hT) hI0
    (fun x b => { tmps := #[.agg #[.pointer (some ⟨p, 0, none⟩), .int .i64 (s : Int), .int .i64 (r : Int), .int .u64 (seq : Int), .int .i64 (pl : Int)], .pointer (some ⟨w.heap.size, 0, none⟩), .slice none 0 0, .int .i64 0, .pointer (some ⟨w.heap.size + 1, 0, none⟩), .pointer (some ⟨w.heap.size + 1 + 1, 0, none⟩), .pointer (some ⟨b, 0, none⟩), .int .i64 ((x.t.ws.length : Int) + 2), .agg #[.pointer (some ⟨p, 0, none⟩), .int .i64 (s : Int), .int .i64 (r : Int), .int .u64 (seq : Int), .int .i64 (pl : Int)], .func (.func 60) #[.agg #[.pointer (some ⟨p, 0, none⟩), .int .i64 (s : Int), .int .i64 (r : Int), .int .u64 (seq : Int), .int .i64 (pl : Int)]] #[], .agg #[.int .u64 (x.t.seq : Int), .slice x.Aw x.t.ws.length x.cw, .slice x.Ar x.t.rs.length x.cr], .int .i64 ((x.t.ws.length : Int) + 2), undef, undef, undef, undef, undef, undef, undef, undef, undef], defers := [] })
    (fun x => .cells #[.int .u64 (x.t.seq : Int), .slice x.Aw x.t.ws.length x.cw, .slice x.Ar x.t.rs.length x.cr] 63) ?assign ?body ?done
  case assign =>
    intro l x V K hK
    dsimp only [recV]
    gi_wp2
    exact hK
  case body =>
    rintro l pre x V0 V W hI0' hbV ⟨⟨hp1, hp2⟩, hst⟩ hz hT hI
    obtain ⟨v0, g1, g2, -, -⟩ := hI0'.list
    obtain ⟨v, k1, k2, k3, k4⟩ := hI.list
    have hfew := hI.few
    have hsm := hI.sum
    have hbe := hI.below
    have hbA : Below V.heap.size V (V.alloc (.cells #[.int .u64 (x.t.seq : Int), .slice x.Aw x.t.ws.length x.cw, .slice x.Ar x.t.rs.length x.cr] 63)) := (Below.refl _ V).alloc (Nat.le_refl _) _
    have hTV : Turns (fun q => q = W0.heap.size + 1) V W := (Turns.of_below (F := fun q => q = W0.heap.size + 1) hbA).trans hT (fun _ _ e => e)
    have htb : W.heap[V.heap.size]? = some (.cells #[.int .u64 (x.t.seq : Int), .slice x.Aw x.t.ws.length x.cw, .slice x.Ar x.t.rs.length x.cr] 63 (0, 0)) :=
      (hT.block _ (by simp) (by show ¬ V.heap.size = W0.heap.size + 1; have := hbV.size; omega)).trans (heap_alloc_new V _)
    have hvv : v = v0 := by
      have e1 : W.heap[w.heap.size + 1]? = V0.heap[w.heap.size + 1]? := (hTV.block _ (by have := hbV.size; omega) (by show ¬ w.heap.size + 1 = W0.heap.size + 1; omega)).trans (hbV.block _ (by omega))
      rw [k1, g1] at e1
      injection e1 with e1
      injection e1 with e1
      injection e1 with e1
      injection e1 with e1
    subst hvv
    obtain ⟨A0, c0, rfl⟩ := Row.shape k2
    have hown : ∀ q, (Value.slice A0 pre.length c0).ownBlock = some q → q < V0.heap.size := fun q e => g2.lt e
    have hVW := hTV.size
    have hVV := hbV.size
    have HST := Lib.hid hst; clear hst
    have HTV := Lib.hid hTV; clear hTV hT hbA
    have HBE := Lib.hid hbe; clear hbe hI hI0' g1 g2
    have HOWN := Lib.hid hown; clear hown
    have K3 := Lib.hid k3; clear k3
    have K4 := Lib.hid k4; clear k4
    -- the row with one more
    obtain ⟨W1, hW1⟩ : ∃ W1, W1 = W.alloc (.cells #[.int .u64 (x.t.seq : Int), .slice x.Aw x.t.ws.length x.cw, .slice x.Ar x.t.rs.length x.cr] 63) := ⟨_, rfl⟩
    have hb1 : Below W.heap.size W W1 := hW1 ▸ (Below.refl _ W).alloc (Nat.le_refl _) _
    have hz1 : W1.heap.size = W.heap.size + 1 := by rw [hW1]; simp
    have hnew : W1.heap[W.heap.size]? = some (.cells #[.int .u64 (x.t.seq : Int), .slice x.Aw x.t.ws.length x.cw, .slice x.Ar x.t.rs.length x.cr] 63 (0, 0)) := hW1 ▸ heap_alloc_new W _
    obtain ⟨i0, hi, hz0', hz1', hz2'⟩ := info_parts info_txn
    obtain ⟨v9, V', hrun, hrow9, hgrow, -, hob⟩ := run_append_own_at (P := Tryz.prog) (w := W1) 0 24 24 63 i0 (.agg #[.int .u64 0, .slice none 0 0, .slice none 0 0]) 3 56 Tryz.underlying24 hi hz0' hz1' hz2' rfl (by decide) (.slice A0 pre.length c0) pre.length (pre.flatMap LiveRec.cells) (k2.turns (Turns.of_below (F := fun _ => False) hb1) (fun _ _ e => e)) ⟨W.heap.size, 0, none⟩ 1 1 x.cells rfl (fun j u hu => by
      have hadd : (⟨W.heap.size, 0, none⟩ : Addr).add j = ⟨W.heap.size, j, none⟩ := by unfold Addr.add; split <;> simp_all
      rw [hadd, cell_of_row _ _ _ _ _ _ hnew]
      simpa [LiveRec.cells] using hu) (by intro u hu; simp [LiveRec.cells] at hu; rcases hu with rfl | rfl | rfl <;> rfl) (by unfold maxLen; omega) (by omega) (Nat.zero_le _)
    obtain ⟨A9, c9, rfl⟩ := Row.shape (w := V') hrow9
    rw [show w.heap.size + 1 + 1 = w.heap.size + 2 by omega]
    obtain ⟨b4, e4⟩ : ∃ b4, b4 = w.heap.size + 1 := ⟨_, rfl⟩
    obtain ⟨b5, e5⟩ : ∃ b5, b5 = w.heap.size + 2 := ⟨_, rfl⟩
    rw [← e4, ← e5]
    rw [← e4] at k1
    rw [← e5] at hsm
    have ne45 : b4 ≠ b5 := by omega
    have ne54 : b5 ≠ b4 := by omega
    obtain ⟨sm, hsme⟩ : ∃ sm, sm = sumT (pre.map (·.t)) := ⟨_, rfl⟩
    rw [← hsme] at hsm hfew
    -- what the walk loads
    have x0 : W.cell? ⟨b4, 0, none⟩ = some (.slice A0 pre.length c0) := cell_of_row W b4 0 _ _ _ k1
    have x1 : W.cell? ⟨V.heap.size, 0, none⟩ = some (.int .u64 (x.t.seq : Int)) := cell_of_row W _ 0 _ _ _ htb
    have x2 : W.cell? ⟨V.heap.size, 1, none⟩ = some (.slice x.Aw x.t.ws.length x.cw) := cell_of_row W _ 1 _ _ _ htb
    have x3 : W.cell? ⟨V.heap.size, 2, none⟩ = some (.slice x.Ar x.t.rs.length x.cr) := cell_of_row W _ 2 _ _ _ htb
    have hk41 : W1.heap[b4]? = some (.cells #[.slice A0 pre.length c0] 24 (0, 0)) := (hb1.block _ (Array.getElem?_eq_some_iff.1 k1).1).trans k1
    have hk51 : W1.heap[b5]? = some (.cells #[.int .i64 (sm : Int)] 3 (0, 0)) := (hb1.block _ (Array.getElem?_eq_some_iff.1 hsm).1).trans hsm
    have hv4 : ¬ (Value.slice A0 pre.length c0).ownBlock = some b4 := fun e => by have := K3.out _ e; omega
    have hv5 : ¬ (Value.slice A0 pre.length c0).ownBlock = some b5 := fun e => by have := K3.out _ e; omega
    have hg4 : V'.heap[b4]? = some (.cells #[.slice A0 pre.length c0] 24 (0, 0)) := (hgrow.block b4 (Array.getElem?_eq_some_iff.1 hk41).1 (fun e => hv4 e.symm)).trans hk41
    have hg5 : V'.heap[b5]? = some (.cells #[.int .i64 (sm : Int)] 3 (0, 0)) := (hgrow.block b5 (Array.getElem?_eq_some_iff.1 hk51).1 (fun e => hv5 e.symm)).trans hk51
    have f4 : V'.frozen? ⟨b4, 0, none⟩ = false := frozen_of_row V' _ 0 _ _ hg4
    have y4 : V'.cell? ⟨b4, 0, none⟩ = some (.slice A0 pre.length c0) := cell_of_row V' _ 0 _ _ _ hg4
    obtain ⟨V2, hV2⟩ : ∃ V2, V2 = V'.setCell ⟨b4, 0, none⟩ (.slice A9 (pre.length + 1) c9) := ⟨_, rfl⟩
    have hg52 : V2.heap[b5]? = some (.cells #[.int .i64 (sm : Int)] 3 (0, 0)) := by rw [hV2]; exact (Below.heap_setCell _ _ _ _ ne54).trans hg5
    have f5 : V2.frozen? ⟨b5, 0, none⟩ = false := frozen_of_row V2 _ 0 _ _ hg52
    have y5 : V2.cell? ⟨b5, 0, none⟩ = some (.int .i64 (sm : Int)) := cell_of_row V2 _ 0 _ _ _ hg52
    have hs1 : (-9223372036854775808 : Int) ≤ (sm : Int) + ((x.t.ws.length : Int) + 2) ∧ (sm : Int) + ((x.t.ws.length : Int) + 2) ≤ 9223372036854775807 := by omega
    rw [hW1] at hrun
    rw [hV2] at f5 y5
    have HW1 := Lib.hid hW1; clear hW1
    have HV2 := Lib.hid hV2; clear hV2
    have HRW := Lib.hid hrow9; clear hrow9
    have HGR := Lib.hid hgrow; clear hgrow
    have HOB := Lib.hid hob; clear hob
    have HROWW := Lib.hid k2
    clear k1 k2
    have HG4 := Lib.hid hg4; clear hg4
    have HG52 := Lib.hid hg52; clear hg52 hg5 hk41 hk51 hsm
    have HB1 := Lib.hid hb1; clear hb1 hnew htb hi hz0' hz1' hz2'
    have HE4 := Lib.hid e4; clear e4
    have HE5 := Lib.hid e5; clear e5
    have HSM := Lib.hid hsme; clear hsme
    have HZ1 := Lib.hid hz1; clear hz1
    gi_wp2_with (gi_at_builtin; refine round_apprun rfl _ _ 24 24 rfl _ _ rfl rfl _ V' hrun ?_)
    gi_wp2
    clear x0 x1 x2 x3 hrun f4 y4 f5 y5
    rw [← HV2.out]
    obtain ⟨V3, hV3⟩ : ∃ V3, V3 = V2.setCell ⟨b5, 0, none⟩ (.int .i64 ((sm : Int) + ((x.t.ws.length : Int) + 2))) := ⟨_, rfl⟩
    rw [← hV3]
    have e4 := HE4.out
    have e5 := HE5.out
    have z1' := HZ1.out
    have hTW : Turns (fun q => q = b4 ∨ q = b5 ∨ (Value.slice A0 pre.length c0).ownBlock = some q) W V3 := by
      rw [hV3, HV2.out]
      exact (((Turns.of_below (F := fun q => q = b4 ∨ q = b5 ∨ (Value.slice A0 pre.length c0).ownBlock = some q) HB1.out).grown HGR.out (fun k hk _ => .inr (.inr hk))).setCell (p := ⟨b4, 0, none⟩) (fun _ => .inl rfl) _).setCell (p := ⟨b5, 0, none⟩) (fun _ => .inr (.inl rfl)) _
    have hob : ∀ q, (Value.slice A9 (pre.length + 1) c9).ownBlock = some q → (Value.slice A0 pre.length c0).ownBlock = some q ∨ W.heap.size < q := fun q e => by
      rcases HOB.out with e' | e'
      · exact .inl (e' ▸ e)
      · rw [e'] at e; injection e with e; exact .inr (by omega)
    refine ⟨⟨hTW.size, fun k o hk ho hoc => (hTW.block k (Array.getElem?_eq_some_iff.1 ho).1 (fun e => ?_)).trans ho⟩, ?_, ?_⟩
    · rcases e with e | e | e
      · omega
      · omega
      · obtain ⟨cs, ty, z, hr⟩ := own_cells HROWW.out e
        rw [ho] at hr
        injection hr with hr
        rw [hr] at hoc
        cases hoc
    · refine hTW.mono (fun i hi e => ?_)
      rcases e with e | e | e
      · exact .inl e
      · exact .inr (.inl e)
      · refine .inr (.inr ⟨by have := K3.out i e; omega, fun ⟨cs, ty, z, h1, h2⟩ => ?_⟩)
        obtain ⟨cs', z', hr⟩ := own_txn HROWW.out e
        rw [h1] at hr
        injection hr with hr
        injection hr with _ hr _
        exact h2 hr
    · have hmap : (pre ++ [x]).map (·.t) = pre.map (·.t) ++ [x.t] := by rw [List.map_append]; rfl
      have hln : (pre ++ [x]).length = pre.length + 1 := by rw [List.length_append]; rfl
      refine ⟨HBE.out.trans (hTW.below (fun k e => ?_) HBE.out.size), ?_, ⟨.slice A9 (pre.length + 1) c9, ?_, ?_, fun q e => ?_, fun y hy U hU => ?_⟩, ?_⟩
      · rcases e with e | e | e
        · omega
        · omega
        · have := K3.out k e; omega
      · rw [hmap, sumT_snoc, hln, ← HSM.out]; omega
      · rw [← e4, hV3, HV2.out]
        exact (Below.heap_setCell _ _ _ _ ne45).trans (heap_setCell_same _ b4 0 _ _ _ HG4.out)
      · rw [hln, List.flatMap_append]
        have hr2 : Row V3 63 3 (.slice A9 (pre.length + 1) c9) (pre.length + 1) (pre.flatMap LiveRec.cells ++ x.cells) := by
          refine Row.turns (w := V') HRW.out (F := fun q => q = b4 ∨ q = b5) (hV3 ▸ HV2.out ▸ ((Turns.refl _ V').setCell (p := ⟨b4, 0, none⟩) (fun _ => .inl rfl) _).setCell (p := ⟨b5, 0, none⟩) (fun _ => .inr rfl) _) (fun k hk e => ?_)
          rcases hob k hk with e' | e'
          · have := K3.out k e'; omega
          · omega
        simpa [List.flatMap_cons] using hr2
      · rcases hob q e with e | e
        · exact K3.out q e
        · omega
      · rcases List.mem_append.1 hy with hy | hy
        · refine K4.out y hy U ((hTW.mono (F := fun q => q < W0.heap.size + 2 ∨ (Value.slice A0 pre.length c0).ownBlock = some q) (fun i _ e => ?_)).trans hU (fun i hi e => ?_))
          · rcases e with e | e | e
            · exact .inl (by omega)
            · exact .inl (by omega)
            · exact .inr e
          · rcases e with e | e
            · exact .inl e
            · rcases hob i e with e | e
              · exact .inr e
              · omega
        · rw [List.mem_singleton.1 hy]
          refine HST.out U (((HTV.out.mono (F := fun q => q < V0.heap.size) (fun i _ e => by omega)).trans hTW (fun i hi e => ?_)).trans hU (fun i hi e => ?_))
          · rcases e with e | e | e
            · omega
            · omega
            · exact HOWN.out i e
          · rcases e with e | e
            · omega
            · rcases hob i e with e | e
              · exact HOWN.out i e
              · omega
      · rw [hmap, sumT_snoc, ← HSM.out, ← e5, hV3, heap_setCell_same _ b5 0 _ _ _ HG52.out]
        simp
  case done =>
    rintro xs W hS hI hdD
    have hlist := hI.list
    obtain ⟨v, k1, k2, k3, k4⟩ := hlist
    obtain ⟨A0, c0, rfl⟩ := Row.shape k2
    have hsm := hI.sum
    have hbe := hI.below
    unfold AllC at hS
    rw [hS] at hsm
    have hnl : xs.length = ts.length := by rw [← hS, List.length_map]
    rw [hnl] at k1 k2 k3 k4
    have x0 : W.drew.cell? ⟨w.heap.size + 1, 0, none⟩ = some (.slice A0 ts.length c0) := cell_of_row W.drew _ 0 _ _ _ k1
    have x1 : W.drew.cell? ⟨w.heap.size + 1 + 1, 0, none⟩ = some (.int .i64 (sumT ts : Int)) := cell_of_row W.drew _ 0 _ _ _ hsm
    have HS := Lib.hid hS; clear hS
    have HI := Lib.hid hI; clear hI
    have K2 := Lib.hid k2; clear k2
    have K3 := Lib.hid k3; clear k3
    have K4 := Lib.hid k4; clear k4
    have HBE := Lib.hid hbe; clear hbe k1 hsm hnl
    obtain ⟨nl, hnl⟩ : ∃ nl, nl = ts.length := ⟨_, rfl⟩
    obtain ⟨sm, hsm⟩ : ∃ sm, sm = sumT ts := ⟨_, rfl⟩
    rw [← hnl] at x0
    rw [← hsm] at x1
    have HNL := Lib.hid hnl; clear hnl
    have HSM := Lib.hid hsm; clear hsm
    gi_wp2_with fail
    gi_region
    all_goals
      gi_wp2
      refine ⟨by simp, .inl ⟨_, _, rfl, run_takeDeferred hdD, ?_⟩⟩
      refine ⟨_, results_tmp2 rfl _ _ _, ?_⟩
      have hT : Turns (fun q => q = W0.heap.size) W (W.drew.putObj W0.heap.size (.deferred none)) := (Turns.refl (fun q => q = W0.heap.size) W).drew.trans (turns_put _ _ _) (fun _ _ e => e)
      generalize W.drew.putObj W0.heap.size (.deferred none) = W9 at hT ⊢
      refine ⟨A0, c0, xs, by rw [← HNL.out, ← HSM.out]; rfl, ⟨?_, K2.out.turns hT (fun k hk e => by have := K3.out k hk; omega), fun x hx => ?_, fun x hx U hU => ?_⟩, HS.out, fun q e => by have := K3.out q e; omega, HBE.out.trans (hT.below (fun k e => by omega) HBE.out.size)⟩
      · rw [← HS.out, List.length_map]
      · have := chain_fair d.stable.length s r r (ringB d s r pl) seq x.t (by rw [← HTS.out, ← HS.out]; exact List.mem_map_of_mem hx)
        exact this
      · refine K4.out x hx U ((hT.mono (F := fun q => q < W0.heap.size + 2 ∨ (Value.slice A0 ts.length c0).ownBlock = some q) (fun i _ e => .inl (by omega))).trans hU (fun i _ e => .inl (by omega)))
end Go.Proofs.YtelnoibfamcnmaaGreat.Rp
