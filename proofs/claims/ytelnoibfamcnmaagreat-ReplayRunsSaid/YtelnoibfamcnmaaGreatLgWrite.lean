/- Blocks go into the ring, one behind the other from the next place on. -/
import Derived.Test.YtelnoibfamcnmaaGreatReg
import Derived.RangeFuncNested
import Derived.RangeFuncCalls
import Derived.RangeFuncWrites
import Derived.OrdersIn
import Derived.Test.YtelnoibfamcnmaaGreatLgArea
import Derived.Test.YtelnoibfamcnmaaGreatLgChunk
import Derived.Test.YtelnoibfamcnmaaGreatLgLog
namespace Go.Proofs.YtelnoibfamcnmaaGreat.Log
set_option maxRecDepth 20000
open Go.RowKit
open Go.Proofs.YtelnoibfamcnmaaGreat.Mem Go.Proofs.YtelnoibfamcnmaaGreat.Disk
attribute [local go_sem ↓] Go.wp_at_zero Go.wp_at_succ

def DiskM (w : World) (p : Nat) (d : Dk.Dk) (c : Nat) (F : Nat → Prop) (m : Nat) : Prop := ∃ L vs vw, LowAt w p L vs vw m ∧ Rep L d c ∧ ∀ k, F k ↔ Foot p m vs vw k
theorem DiskM.at {w : World} {p c m : Nat} {d : Dk.Dk} {F : Nat → Prop} (h : DiskM w p d c F m) : DiskAt w p d c F := by
  obtain ⟨L, vs, vw, h1, h2, h3⟩ := h
  exact ⟨L, vs, vw, m, h1, h2, h3⟩
theorem DiskAt.named {w : World} {p c : Nat} {d : Dk.Dk} {F : Nat → Prop} (h : DiskAt w p d c F) : ∃ m, DiskM w p d c F m ∧ m < w.heap.size := by
  obtain ⟨L, vs, vw, m, h1, h2, h3⟩ := h
  exact ⟨m, ⟨L, vs, vw, h1, h2, h3⟩, h1.last.lt⟩
theorem DiskM.turns {w w' : World} {p c m : Nat} {d : Dk.Dk} {F G : Nat → Prop} (h : DiskM w p d c F m) (ht : Turns G w w') (hn : ∀ k, F k → ¬ G k) : DiskM w' p d c F m := by
  obtain ⟨L, vs, vw, h1, h2, h3⟩ := h
  exact ⟨L, vs, vw, h1.turns ht (fun k hk => hn k ((h3 k).2 hk)), h2, h3⟩
theorem DiskM.lt {w : World} {p c m : Nat} {d : Dk.Dk} {F : Nat → Prop} (h : DiskM w p d c F m) (k : Nat) (hk : F k) : k < w.heap.size := h.at.lt k hk
/-- All but the table are cells. -/
theorem DiskM.cells {w : World} {p c m : Nat} {d : Dk.Dk} {F : Nat → Prop} (h : DiskM w p d c F m) (k : Nat) (hk : F k) (hm : k ≠ m) : ∃ cur t, w.heap[k]? = some (.cells cur t (0, 0)) := by
  obtain ⟨L, vs, vw, h1, h2, h3⟩ := h
  rcases (h3 k).1 hk with e | e | e | e
  · rw [e]; exact ⟨_, _, h1.head⟩
  · exact absurd e hm
  · obtain ⟨cu, hc⟩ := row_type h1.st e
    exact ⟨cu, _, hc⟩
  · obtain ⟨cu, hc⟩ := row_type h1.ws e
    exact ⟨cu, _, hc⟩
/-- What is no cells may turn, if it lies from z on. -/
theorem DiskM.grown {w w' : World} {p c m z : Nat} {d : Dk.Dk} {F : Nat → Prop} {row : Option Nat} (h : DiskM w p d c F m) (hm : m < z) (hg : w.grownBy w' row) (hr : ∀ r, row = some r → z ≤ r ∧ ∃ o : Obj, w.heap[r]? = some o ∧ o.isCells = false) : DiskM w' p d c F m :=
  h.turns (G := fun q => row = some q) ⟨hg.os, hg.tape, hg.output, hg.size, fun k hk hn => hg.block k hk (fun e => hn e.symm)⟩ (fun k hk e => by
    obtain ⟨hz, o, ho, hc⟩ := hr k e
    obtain ⟨cur, t, hcu⟩ := h.cells k hk (by omega)
    rw [hcu] at ho
    injection ho with ho
    subst ho
    simp [Obj.isCells] at hc)

def NowM (w : World) (p : Nat) (d : Dk.Dk) (c : Nat) (F : Nat → Prop) (m : Nat) (r : Value) (e : Ending) (w' : World) : Prop :=
  ∃ F', e = .returned r ∧ DiskM w' p d c F' m ∧ (∀ k, F' k → F k ∨ w.heap.size ≤ k) ∧ Turns F w w'

theorem writesM (ii : Int) (i : Nat) (hii : ii = (i : Int)) (b o cb : Nat) (data : List UInt8) (d : Dk.Dk) (p c m : Nat) (F : Nat → Prop) (w : World) (h : DiskM w p d c F m) (hi : i < d.stable.length) (hl : data.length = 256)
    (hd : w.rangeAt b o (data.map byteV)) (hc : c ≤ 1048576) :
    Calls Tryz.prog 62 #[.pointer (some ⟨p, 0, none⟩), .int .i64 ii, .slice (some ⟨b, o, none⟩) 256 cb] w (NowM w p (d.write i data) (c + 1) F m (.int .i64 0)) := by
  obtain ⟨L, vs, vw, hL, hR, hF⟩ := h
  have hfin : ∀ vw' : Value, (∀ k, vw'.ownBlock = some k → vw.ownBlock = some k ∨ w.heap.size ≤ k) → ∀ k, Foot p m vs vw' k → F k ∨ w.heap.size ≤ k := fun vw' hfr k hk => by
    rcases hk with hk | hk | hk | hk
    · exact .inl ((hF k).2 (.inl hk))
    · exact .inl ((hF k).2 (.inr (.inl hk)))
    · exact .inl ((hF k).2 (.inr (.inr (.inl hk))))
    · rcases hfr k hk with e | e
      · exact .inl ((hF k).2 (.inr (.inr (.inr e))))
      · exact .inr e
  cases hb : d.blown
  · refine (write_int ii i hii b o cb data L p m d.stable.length vs vw w hL hR.size hR.big.2 hi hl hd (by have := hR.few; omega) (by have := hR.few; have := hR.le; omega) (by rw [hR.blown]; exact hb) hR.fits).mono ?_
    rintro e w' ⟨vw', he, hL', hfr, ht⟩
    exact ⟨Foot p m vs vw', he, ⟨_, vs, vw', hL', rep_write hR hb i data hi hl, fun _ => Iff.rfl⟩, hfin vw' hfr, ht.mono (fun k _ hk => (hF k).2 hk)⟩
  · subst hii
    refine (write_ghost i b o cb data L p m d.stable.length vs vw w hL hR.size hR.big.2 hi hl hd (fun y hy => (hR.each y hy).2) (by have := hR.few; omega) (by rw [hR.blown]; exact hb)).mono ?_
    rintro e w' ⟨vw', he, hL', hfr, ht⟩
    exact ⟨Foot p m vs vw', he, ⟨_, vs, vw', hL', rep_ghost hR hb i data hi hl, fun _ => Iff.rfl⟩, hfin vw' hfr, ht.mono (fun k _ hk => (hF k).2 hk)⟩
theorem writeHM (ii : Int) (i : Nat) (hii : ii = (i : Int)) (A : Option Addr) (cb B : Nat) (data : List UInt8) (d : Dk.Dk) (p c m : Nat) (F : Nat → Prop) (w : World) (h : DiskM w p d c F m) (hi : i < d.stable.length)
    (hd : Holds w B A 256 data) (hc : c ≤ 1048576) :
    Calls Tryz.prog 62 #[.pointer (some ⟨p, 0, none⟩), .int .i64 ii, .slice A 256 cb] w (NowM w p (d.write i data) (c + 1) F m (.int .i64 0)) := by
  obtain ⟨b, o, rfl⟩ := Go.Proofs.YtelnoibfamcnmaaGreat.Rec.Holds.addr hd (by omega)
  exact writesM ii i hii b o cb data d p c m F w h hi hd.1 (range_of_holds hd) hc

set_option maxHeartbeats 1000000 in
/-- A block is written into the ring. -/
theorem putM (s pl : Nat) (r : Int) (A : Option Addr) (cb B : Nat) (data : List UInt8) (d : Dk.Dk) (p c m : Nat) (F : Nat → Prop) (w : World) (h : DiskM w p d c F m) (hc : c < 1048576) (hs : s + 1 + pl < d.stable.length) (hd : Holds w B A 256 data) (hB : B ≤ w.heap.size) :
    Calls Tryz.prog 32 #[areaV p (s : Int) r, .int .i64 (pl : Int), .slice A 256 cb] w (NowM w p (d.write (s + 1 + pl) data) (c + 1) F m (.tuple #[])) := by
  have hm := h.at.ok.2.2
  have hFl : ∀ k, F k → k < w.heap.size := fun k hk => h.lt k hk
  have HFL := Lib.hid hFl; clear hFl
  have H := Lib.hid h; clear h
  unfold areaV ptr
  go_enter Tryz.func32, Tryz.ntmps32
  go_wp2_with fail
  have ht1 : Turns (fun _ => False) w (w.alloc (.cells #[.pointer (some ⟨p, 0, none⟩), .int .i64 (s : Int), .int .i64 r] 66)) := (Turns.refl _ w).alloc _
  have hx1 : (w.alloc (.cells #[.pointer (some ⟨p, 0, none⟩), .int .i64 (s : Int), .int .i64 r] 66)).heap[w.heap.size]? = some (.cells #[.pointer (some ⟨p, 0, none⟩), .int .i64 (s : Int), .int .i64 r] 66 (0, 0)) := heap_alloc_new w _
  generalize w.alloc (.cells #[.pointer (some ⟨p, 0, none⟩), .int .i64 (s : Int), .int .i64 r] 66) = W at ht1 hx1 ⊢
  have hz1 : w.heap.size < W.heap.size := (Array.getElem?_eq_some_iff.1 hx1).1
  have hq0 := box_at (V := W.drew) hx1
  have HX1 : Hid (W.drew.heap[w.heap.size]? = some (.cells #[.pointer (some ⟨p, 0, none⟩), .int .i64 (s : Int), .int .i64 r] 66 (0, 0))) := Lib.hid hx1
  have HT1 : Hid (Turns (fun _ => False) w W.drew) := Lib.hid ht1.drew
  have HZ1 : Hid (w.heap.size < W.drew.heap.size) := Lib.hid hz1
  clear hz1 hx1 ht1
  have hD1 : DiskM W.drew p d c F m := H.out.turns HT1.out (fun _ _ e => e)
  have hPL : Calls Tryz.prog 63 #[.agg #[.pointer (some ⟨p, 0, none⟩), .int .i64 (s : Int), .int .i64 r], .int .i64 (pl : Int)] W.drew fun e V => e = .returned (.int .i64 ((s : Int) + 1 + (pl : Int))) ∧ BoxAt V w.heap.size p s r ∧
      Calls Tryz.prog 62 #[.pointer (some ⟨p, 0, none⟩), .int .i64 ((s : Int) + 1 + (pl : Int)), .slice A 256 cb] V (fun e V2 => BoxAt V2 w.heap.size p s r ∧ NowM w p (d.write (s + 1 + pl) data) (c + 1) F m (.int .i64 0) e V2) := by
    refine (placed_any p s pl r W.drew (by omega) (by omega)).mono ?_
    rintro e V ⟨rfl, hb⟩
    have hx := (hb.block _ HZ1.out).trans HX1.out
    have htV : Turns F w V := (HT1.out.mono (F := F) (fun _ _ e => e.elim)).trans (Turns.of_below (F := F) hb) (fun _ _ e => e)
    refine ⟨rfl, box_at hx, ?_⟩
    refine (writeHM _ (s + 1 + pl) (by omega) A cb B data d p c m F V (hD1.turns (Turns.of_below (F := fun _ => False) hb) (fun _ _ e => e)) hs (hd.below ((HT1.out.below (fun _ e => e.elim) hB).trans (hb.mono (by have := HT1.out.size; omega)))) (by omega)).mono ?_
    rintro e V2 ⟨F', rfl, hD, hF, hT⟩
    have hx2 := (hT.block _ (Array.getElem?_eq_some_iff.1 hx).1 (fun e => by have := HFL.out _ e; omega)).trans hx
    refine ⟨box_at hx2, F', rfl, hD, fun k hk => ?_, htV.trans hT (fun _ _ e => e)⟩
    rcases hF k hk with e | e
    · exact .inl e
    · have := htV.size; exact .inr (by omega)
  have HH := Lib.hid hPL; clear hPL hD1 H
  go_region_held (fun V => V.cell? ⟨w.heap.size, 0, none⟩ = some (.pointer (some ⟨p, 0, none⟩)) ∧ V.cell? ⟨w.heap.size, 1, none⟩ = some (.int .i64 (s : Int)) ∧ V.cell? ⟨w.heap.size, 2, none⟩ = some (.int .i64 r)) (assumption)
    (first
      | (go_at_call 63
         have hcall := HH.out
         with_reducible refine hcall.mono ?_
         clear hcall
         rintro e V1 ⟨rfl, hq, hW⟩
         have HW := Lib.hid hW
         clear hW)
      | (go_at_call 62
         have hcall := HW.out
         with_reducible refine hcall.mono ?_
         clear hcall
         rintro e V2 ⟨hq2, F', rfl, hD, hF, hT⟩))
  all_goals
    go_wp2
    refine bodyPost_ret (results_none rfl _ _ _) rfl ?_
    exact ⟨F', rfl, hD, hF, hT⟩
end Go.Proofs.YtelnoibfamcnmaaGreat.Log

namespace Go.Proofs.YtelnoibfamcnmaaGreat.Log
set_option maxRecDepth 20000
open Go Go.RowKit Go.Shelf
open Go.Proofs.YtelnoibfamcnmaaGreat.Mem Go.Proofs.YtelnoibfamcnmaaGreat.Disk Go.Proofs.YtelnoibfamcnmaaGreat.Reg
attribute [local go_sem] Oper.semAt_some

/-- One block more at the next place. -/
def putS (s r : Nat) (x : Dk.Dk × Nat) (b : List UInt8) : Dk.Dk × Nat := (x.1.write (s + 1 + x.2) b, (x.2 + 1) % r)
def putL (s r : Nat) (d : Dk.Dk) (pl : Nat) (bs : List (List UInt8)) : Dk.Dk × Nat := bs.foldl (putS s r) (d, pl)
theorem putL_snoc (s r : Nat) (d : Dk.Dk) (pl : Nat) (bs : List (List UInt8)) (b : List UInt8) : putL s r d pl (bs ++ [b]) = putS s r (putL s r d pl bs) b := by simp [putL]
theorem write_size (d : Dk.Dk) (i : Nat) (b : List UInt8) : (d.write i b).stable.length = d.stable.length := Dk.size_deed d (some (i, b))
theorem putL_size (s r : Nat) (d : Dk.Dk) (pl : Nat) (bs : List (List UInt8)) (hr : 0 < r) (hp : pl < r) : (putL s r d pl bs).1.stable.length = d.stable.length ∧ (putL s r d pl bs).2 < r := by
  induction bs using rev_ind with
  | h0 => exact ⟨rfl, hp⟩
  | h1 l x ih =>
    rw [putL_snoc]
    exact ⟨(write_size _ _ _).trans ih.1, Nat.mod_lt _ hr⟩

def cutB (bs : List UInt8) (k : Nat) (x : Fin k) : List UInt8 := (bs.drop (256 * x.1)).take 256

/-- Between two rounds of the loop that began at W0. -/
def Wr (w W0 : World) (F : Nat → Prop) (m lp p s r seq c used pl : Nat) (v : Value) (d : Dk.Dk) (bs : List UInt8) (k : Nat) (pre : List (Fin k)) (W : World) : Prop :=
  ∃ F', DiskM W p (putL s r d pl (pre.map (cutB bs k))).1 (c + pre.length) F' m ∧ (∀ q, F' q → F q ∨ W0.heap.size ≤ q) ∧ LogAt W lp p s r seq (putL s r d pl (pre.map (cutB bs k))).2 (used + pre.length) v ∧
    W.heap[w.heap.size]? = some (.cells #[.pointer (some ⟨lp, 0, none⟩)] 28 (0, 0)) ∧ Turns (fun q => F q ∨ q = lp) w W ∧ W0.heap.size ≤ W.heap.size

theorem wr_own {w W0 : World} {F : Nat → Prop} {m lp p s r seq c used pl : Nat} {v : Value} {d : Dk.Dk} {bs : List UInt8} {k : Nat} (hm : m < W0.heap.size) (hw : w.heap.size < W0.heap.size) : OwnFrom W0.heap.size (Wr w W0 F m lp p s r seq c used pl v d bs k) := by
  intro pre A B row hs hg hr
  obtain ⟨F', h1, h2, h3, h4, h5, h6⟩ := hs
  have hcells : ∀ (q : Nat) (cur : Array Value) (t : TypeId), A.heap[q]? = some (.cells cur t (0, 0)) → B.heap[q]? = A.heap[q]? := fun q cur t hq => hg.block q (Array.getElem?_eq_some_iff.1 hq).1 (fun e => by
    obtain ⟨_, o, ho, hc⟩ := hr q e.symm
    rw [hq] at ho
    injection ho with ho
    subst ho
    simp [Obj.isCells] at hc)
  refine ⟨F', h1.grown hm hg hr, h2, (hcells lp _ _ h3).trans h3, (hcells _ _ _ h4).trans h4, h5.grown hg (fun q e hq => ?_), Nat.le_trans h6 hg.size⟩
  have := (hr q e).1
  omega

theorem log_cells {V : World} {w : World} {lp p s r seq P U : Nat} {v : Value} (h : LogAt V lp p (s : Int) (r : Int) seq P U v) (hb : V.heap[w.heap.size]? = some (.cells #[.pointer (some ⟨lp, 0, none⟩)] 28 (0, 0))) :
    V.cell? ⟨w.heap.size, 0, none⟩ = some (.pointer (some ⟨lp, 0, none⟩)) ∧ V.cell? ⟨lp, 1, none⟩ = some (.pointer (some ⟨p, 0, none⟩)) ∧ V.cell? ⟨lp, 2, none⟩ = some (.int .i64 (s : Int)) ∧ V.cell? ⟨lp, 3, none⟩ = some (.int .i64 (r : Int)) ∧ V.cell? ⟨lp, 5, none⟩ = some (.int .i64 (P : Int)) := by
  unfold LogAt logCells at h
  exact ⟨cell_of_row V _ 0 _ _ _ hb, cell_of_row V lp 1 _ _ _ h, cell_of_row V lp 2 _ _ _ h, cell_of_row V lp 3 _ _ _ h, cell_of_row V lp 5 _ _ _ h⟩
theorem holds_same {w V : World} {B b off n : Nat} {bs : List UInt8} (h : Holds w B (some ⟨b, off, none⟩) n bs) (hb : V.heap[b]? = w.heap[b]?) : Holds V B (some ⟨b, off, none⟩) n bs :=
  ⟨h.1, fun hn => by
    obtain ⟨b', o', e, hl, hc⟩ := h.2 hn
    injection e with e
    injection e with e1 e2
    subst e1 e2
    exact ⟨b, off, rfl, hl, fun j hj => (World.cell?_of_block (a := ⟨b, off + j, none⟩) hb).trans (hc j hj)⟩⟩
theorem noOut {B : Nat} {α : Type} {Kp : World → World → Prop} {I : List α → World → Prop} {Ix : Code → List α → World → Prop} {xs : List α} {W : World} {K : Act → World → Prop} {i : Nat} : ¬ LetsOut (Exit.then K (Exit.inBlock i (ownPostG B Kp I Ix xs W))) := by
  rintro ⟨a, w, h⟩
  exact h

set_option maxRecDepth 100000 in
set_option maxHeartbeats 4000000 in
theorem write_any (lp p s r seq c used pl k N cap b off m : Nat) (v : Value) (d : Dk.Dk) (bs : List UInt8) (F : Nat → Prop) (w : World) (hD : DiskM w p d c F m) (hL : LogAt w lp p (s : Int) (r : Int) seq pl used v) (hbs : Holds w w.heap.size (some ⟨b, off, none⟩) N bs) (hN : N = 256 * k) (hcap : N ≤ cap)
    (hbF : ¬ F b) (hbl : b ≠ lp) (hlF : ¬ F lp) (hr0 : 0 < r) (hp : pl < r) (hd : s + 1 + r ≤ d.stable.length) (hk : k ≤ 1024) (hk0 : 0 < k) (hc : c + k < 1048576) (hu : used + k ≤ 1048576) :
    Calls Tryz.prog 53 #[.pointer (some ⟨lp, 0, none⟩), .slice (some ⟨b, off, none⟩) N cap] w fun e w' => e = .returned (.tuple #[]) ∧ ∃ F', DiskM w' p (putL s r d pl ((List.finRange k).map (cutB bs k))).1 (c + k) F' m ∧ (∀ q, F' q → F q ∨ w.heap.size ≤ q) ∧
      LogAt w' lp p (s : Int) (r : Int) seq (putL s r d pl ((List.finRange k).map (cutB bs k))).2 (used + k) v ∧ Turns (fun q => F q ∨ q = lp) w w' := by
  have hd2 := hD.at.ok.2.2
  have hm := (hD.at.lt)
  refine (callsIn_wide (n := 3)).1 ?_
  refine callsIn_of_wp_marks Tryz.func53 rfl trivial ?_ rfl
  simp only [Tryz.ntmps53, List.size_toArray, List.length_cons, List.length_nil, Nat.reduceAdd, Nat.reduceSub, Array.replicate_succ, Array.replicate_zero, List.push_toArray, List.append_toArray, List.nil_append, List.cons_append]
  have HN := Lib.hid hN; clear hN
  gi_wp2_with fail
  refine ⟨trivial, (chunk_mk Fence.wide 2 trivial rfl _ _ _ _).mono ?_⟩
  rintro e w' ⟨rfl, rfl⟩
  obtain ⟨W0, hW0⟩ : ∃ W0, W0 = ((w.alloc (.cells #[.pointer (some ⟨lp, 0, none⟩)] 28)).alloc (.cells #[.slice (some ⟨b, off, none⟩) N cap] 25)).alloc (.cells #[.int .i64 256] 3) := ⟨_, rfl⟩
  have z1 : (w.alloc (.cells #[.pointer (some ⟨lp, 0, none⟩)] 28)).heap.size = w.heap.size + 1 := by simp
  have z2 : ((w.alloc (.cells #[.pointer (some ⟨lp, 0, none⟩)] 28)).alloc (.cells #[.slice (some ⟨b, off, none⟩) N cap] 25)).heap.size = w.heap.size + 2 := by simp
  have z3 : W0.heap.size = w.heap.size + 3 := by rw [hW0]; simp
  have hx0 : W0.heap[w.heap.size]? = some (.cells #[.pointer (some ⟨lp, 0, none⟩)] 28 (0, 0)) := by
    rw [hW0]
    exact (Below.heap_alloc _ _ _ (by rw [z2]; omega)).trans ((Below.heap_alloc _ _ _ (by rw [z1]; omega)).trans (heap_alloc_new w _))
  have hx1 : W0.heap[w.heap.size + 1]? = some (.cells #[.slice (some ⟨b, off, none⟩) N cap] 25 (0, 0)) := by
    rw [hW0, ← z1]
    exact (Below.heap_alloc _ _ _ (by rw [z2, z1]; omega)).trans (heap_alloc_new _ _)
  have hx2 : W0.heap[w.heap.size + 2]? = some (.cells #[.int .i64 256] 3 (0, 0)) := by
    rw [hW0, ← z2]
    exact heap_alloc_new _ _
  have htw : Turns (fun _ => False) w W0 := by rw [hW0]; exact (((Turns.refl _ w).alloc _).alloc _).alloc _
  have hI0 : Wr w W0 F m lp p s r seq c used pl v d bs k [] W0 :=
    ⟨F, hD.turns htw (fun _ _ e => e), fun q hq => .inl hq, (htw.block lp (Array.getElem?_eq_some_iff.1 hL).1 (fun e => e)).trans hL, hx0, htw.mono (fun _ _ e => e.elim), Nat.le_refl _⟩
  have hmw : m < w.heap.size := by
    obtain ⟨L, vs, vw, hA, _, _⟩ := hD
    exact hA.last.lt
  have hlw : lp < w.heap.size := (Array.getElem?_eq_some_iff.1 hL).1
  have HX1 := Lib.hid hx1; clear hx1
  have HX2 := Lib.hid hx2; clear hx2
  have HI0 := Lib.hid hI0; clear hI0
  have HTW := Lib.hid htw; clear htw
  have HB := Lib.hid hbs; clear hbs
  gi_wp2
  try simp only [z1]
  try rw [← hW0]
  clear hx0
  refine wpIn_rangeFunc_ownG (F := Fence.wide) (n := 3) rfl (by omega) (gf := 100) (lb := #[.pointer (some ⟨w.heap.size + 1, 0, none⟩), .pointer (some ⟨w.heap.size + 2, 0, none⟩)]) rfl trivial (enters_of Tryz.func100 (by kernel_rfl) rfl)
    (chunk_stops Fence.wide (3 - 1) trivial rfl (by omega) (w.heap.size + 1) (w.heap.size + 2) b off k N cap HN.out hcap hk W0 (cell_of_row _ _ 0 _ _ _ HX1.out) (cell_of_row _ _ 0 _ _ _ HX2.out))
    (fun h1 h2 => ⟨h2.1.trans h1.1, h2.2.trans h1.2⟩) ?hKb (Below.refl _ _) (fun _ => rfl)
    (Wr w W0 F m lp p s r seq c used pl v d bs k) (fun _ _ _ => False) (wr_own (by omega) (by omega)) (fun _ _ _ _ _ hs _ _ => hs) HI0.out
    (fun x => { tmps := #[.pointer (some ⟨lp, 0, none⟩), .slice (some ⟨b, off, none⟩) N cap, .pointer (some ⟨w.heap.size, 0, none⟩), undef, .slice (some ⟨b, off + 256 * x.1, none⟩) 256 256, .slice (some ⟨b, off, none⟩) N cap, .func (.func 100) #[] #[.pointer (some ⟨w.heap.size + 1, 0, none⟩), .pointer (some ⟨w.heap.size + 1 + 1, 0, none⟩)], .slice (some ⟨b, off + 256 * x.1, none⟩) 256 256, undef, undef, undef, undef, undef, undef, undef, undef, undef, undef, undef, undef, undef, undef, undef, undef, undef, undef, undef, undef, undef, undef, undef, undef, undef, undef, undef, undef, undef], defers := [] }) ?assign ?body ?done ?stop
  case hKb =>
    intro V q o o' hq ho hoc hw
    exact ⟨World.putObj_heap_other (by omega), World.putObj_heap_other (by omega)⟩
  case assign =>
    intro l x V K hK
    dsimp only [chunkV]
    gi_wp2
    exact hK
  case body =>
    rintro l pre x V hI hlen
    obtain ⟨F', h1, h2, h3, h4, h5, h6⟩ := hI
    have hsz := putL_size s r d pl (pre.map (cutB bs k)) hr0 hp
    have hsn : putL s r d pl ((pre ++ [x]).map (cutB bs k)) = putS s r (putL s r d pl (pre.map (cutB bs k))) (cutB bs k x) := by
      rw [List.map_append]; exact putL_snoc _ _ _ _ _ _
    have HSN := Lib.hid hsn; clear hsn
    obtain ⟨st, hst⟩ : ∃ st, st = putL s r d pl (pre.map (cutB bs k)) := ⟨_, rfl⟩
    rw [← hst] at h1 h3 hsz HSN
    obtain ⟨D1, P⟩ := st
    dsimp only at h1 h3 hsz
    obtain ⟨hs1, hP⟩ := hsz
    have hbw : b < w.heap.size := by
      obtain ⟨b', o', e, hl, _⟩ := HB.out.2 (by have := HN.out; omega)
      injection e with e
      injection e with e1 e2
      subst e1
      exact hl
    have hxk := x.2
    have hdata : Holds V w.heap.size (some ⟨b, off + 256 * x.1, none⟩) 256 (cutB bs k x) := holds_same (Go.Proofs.YtelnoibfamcnmaaGreat.Rec.Holds.drop HB.out (show 256 * x.1 + 256 ≤ N by have := HN.out; omega)) (h5.block b hbw (fun e => e.elim hbF hbl))
    have hput : Calls Tryz.prog 32 #[.agg #[.pointer (some ⟨p, 0, none⟩), .int .i64 (s : Int), .int .i64 (r : Int)], .int .i64 (P : Int), .slice (some ⟨b, off + 256 * x.1, none⟩) 256 256] V.drew (NowM V.drew p (D1.write (s + 1 + P) (cutB bs k x)) (c + pre.length + 1) F' m (.tuple #[])) :=
      putM s P (r : Int) _ 256 w.heap.size _ D1 p (c + pre.length) m F' V.drew (h1.turns (Turns.refl (fun _ => False) V).drew (fun _ _ e => e)) (by omega) (by omega) (hdata.below (Below.refl _ V).drew) (by show w.heap.size ≤ V.heap.size; omega)
    have HPUT := Lib.hid hput; clear hput
    have hlF' : ¬ F' lp := fun e => by
      rcases h2 lp e with e | e
      · exact hlF e
      · omega
    have hbF' : ¬ F' w.heap.size := fun e => by
      rcases h2 _ e with e | e
      · have := hm _ e; omega
      · omega
    have hS := log_cells (V := V.drew) h3 h4
    have HL3 := Lib.hid h3; clear h3
    have HB4 := Lib.hid h4; clear h4
    have H1 := Lib.hid h1; clear h1
    have H2 := Lib.hid h2; clear h2
    have H5 := Lib.hid h5; clear h5
    have HDATA := Lib.hid hdata; clear hdata
    clear hst
    gi_wp2
    refine wpIn_region_E (fun V : World => V.cell? ⟨w.heap.size, 0, none⟩ = some (.pointer (some ⟨lp, 0, none⟩)) ∧ V.cell? ⟨lp, 1, none⟩ = some (.pointer (some ⟨p, 0, none⟩)) ∧ V.cell? ⟨lp, 2, none⟩ = some (.int .i64 (s : Int)) ∧ V.cell? ⟨lp, 3, none⟩ = some (.int .i64 (r : Int)) ∧ V.cell? ⟨lp, 5, none⟩ = some (.int .i64 (P : Int))) 9 (by kernel_rfl) (by kernel_rfl) noOut ?_
    refine wpE_take 0 ⟨some 8, _, _, _, _, _⟩ (v := ?_) [1, 2, 3, 9] rfl (by kernel_rfl) (by kernel_rfl) (by kernel_rfl) (by kernel_rfl) (fun _ _ _ h => h) hS (Or.inl ⟨by rfl, ?_⟩) ?_
    rotate_left
    · (intro V hSw; obtain ⟨s0, s1, s2, s3, s5⟩ := hSw; go_simp; try with_reducible rfl)
    simp only [Act.put]
    refine wpE_take 1 ⟨some 9, _, _, _, _, _⟩ (v := ?_) [2, 3, 9] rfl (by kernel_rfl) (by kernel_rfl) (by kernel_rfl) (by kernel_rfl) (fun _ _ _ h => h) hS (Or.inl ⟨by rfl, ?_⟩) ?_
    rotate_left
    · (intro V hSw; obtain ⟨s0, s1, s2, s3, s5⟩ := hSw; go_simp; try with_reducible rfl)
    simp only [Act.put]
    refine wpE_take 2 ⟨some 10, _, _, _, _, _⟩ (v := ?_) [3, 9] rfl (by kernel_rfl) (by kernel_rfl) (by kernel_rfl) (by kernel_rfl) (fun _ _ _ h => h) hS (Or.inl ⟨by rfl, ?_⟩) ?_
    rotate_left
    · (intro V hSw; obtain ⟨s0, s1, s2, s3, s5⟩ := hSw; go_simp; try with_reducible rfl)
    simp only [Act.put]
    refine wpE_take 3 ⟨some 11, _, _, _, _, _⟩ (v := ?_) [9] rfl (by kernel_rfl) (by kernel_rfl) (by kernel_rfl) (by kernel_rfl) (fun _ _ _ h => h) hS (Or.inl ⟨by rfl, ?_⟩) ?_
    rotate_left
    · (intro V hSw; obtain ⟨s0, s1, s2, s3, s5⟩ := hSw; go_simp; try with_reducible rfl)
    simp only [Act.put]
    refine wpE_take 4 ⟨some 12, _, _, _, _, _⟩ (v := ?_) [5, 6, 7, 9] rfl (by kernel_rfl) (by kernel_rfl) (by kernel_rfl) (by kernel_rfl) (fun _ _ _ h => h) hS (Or.inl ⟨by rfl, ?_⟩) ?_
    rotate_left
    · (intro V hSw; obtain ⟨s0, s1, s2, s3, s5⟩ := hSw; go_simp; try with_reducible rfl)
    simp only [Act.put]
    refine wpE_take 5 ⟨some 13, _, _, _, _, _⟩ (v := ?_) [6, 7, 9] rfl (by kernel_rfl) (by kernel_rfl) (by kernel_rfl) (by kernel_rfl) (fun _ _ _ h => h) hS (Or.inl ⟨by rfl, ?_⟩) ?_
    rotate_left
    · (intro V hSw; obtain ⟨s0, s1, s2, s3, s5⟩ := hSw; go_simp; try with_reducible rfl)
    simp only [Act.put]
    refine wpE_take 6 ⟨some 14, _, _, _, _, _⟩ (v := ?_) [7, 9] rfl (by kernel_rfl) (by kernel_rfl) (by kernel_rfl) (by kernel_rfl) (fun _ _ _ h => h) hS (Or.inl ⟨by rfl, ?_⟩) ?_
    rotate_left
    · (intro V hSw; obtain ⟨s0, s1, s2, s3, s5⟩ := hSw; go_simp; try with_reducible rfl)
    simp only [Act.put]
    refine wpE_take 7 ⟨some 15, _, _, _, _, _⟩ (v := ?_) [9] rfl (by kernel_rfl) (by kernel_rfl) (by kernel_rfl) (by kernel_rfl) (fun _ _ _ h => h) hS (Or.inl ⟨by rfl, ?_⟩) ?_
    rotate_left
    · (intro V hSw; obtain ⟨s0, s1, s2, s3, s5⟩ := hSw; go_simp; try with_reducible rfl)
    simp only [Act.put]
    refine wpE_take 8 ⟨some 16, _, _, _, _, _⟩ (v := ?_) [9] rfl (by kernel_rfl) (by kernel_rfl) (by kernel_rfl) (by kernel_rfl) (fun _ _ _ h => h) hS (Or.inl ⟨by rfl, ?_⟩) ?_
    rotate_left
    · (intro V hSw; obtain ⟨s0, s1, s2, s3, s5⟩ := hSw; go_simp; try with_reducible rfl)
    simp only [Act.put]
    refine wpE_last (o := ⟨some 17, _, _, _, _, _⟩) (by kernel_rfl) rfl (fun K hK => ?_)
    rw [if_pos (by kernel_rfl)]
    refine call_wp 32 _ _ _ _ rfl Tryz.func32 (by kernel_rfl) rfl _ ?hv _ HPUT.out ?_
    case hv => simp only [List.map_toArray, List.map_cons, List.map_nil]; go_simp
    rintro e V3 ⟨F3, rfl, hD3, hF3, hT3⟩
    refine ⟨_, rfl, hK.out _ _ ?_⟩
    clear hK K HPUT hS
    simp only [Act.put]
    refine wpE_done (by kernel_rfl) ?_ _
    have HL4 : Hid (LogAt V3 lp p (s : Int) (r : Int) seq P (used + pre.length) v) := Lib.hid ((hT3.block lp (Array.getElem?_eq_some_iff.1 HL3.out).1 hlF').trans HL3.out)
    have HB5 : Hid (V3.heap[w.heap.size]? = some (.cells #[.pointer (some ⟨lp, 0, none⟩)] 28 (0, 0))) := Lib.hid ((hT3.block _ (Array.getElem?_eq_some_iff.1 HB4.out).1 hbF').trans HB4.out)
    have HD3 := Lib.hid hD3; clear hD3
    have HF3 := Lib.hid hF3; clear hF3
    have HT3 := Lib.hid hT3; clear hT3
    have hS := log_cells (V := V3.drew) HL4.out HB5.out
    have hbe : Calls Tryz.prog 31 #[.agg #[.pointer (some ⟨p, 0, none⟩), .int .i64 (s : Int), .int .i64 (r : Int)], .int .i64 (P : Int), .int .i64 1] V3.drew fun e w' => e = .returned (.int .i64 (((P : Int) + 1) % (r : Int))) ∧ Below V3.drew.heap.size V3.drew w' := behind_any p P 1 r (s : Int) V3.drew hr0 (by omega) (by omega) (by omega)
    have HBE := Lib.hid hbe; clear hbe
    gi_wp2
    refine wpIn_region_E (fun V : World => V.cell? ⟨w.heap.size, 0, none⟩ = some (.pointer (some ⟨lp, 0, none⟩)) ∧ V.cell? ⟨lp, 1, none⟩ = some (.pointer (some ⟨p, 0, none⟩)) ∧ V.cell? ⟨lp, 2, none⟩ = some (.int .i64 (s : Int)) ∧ V.cell? ⟨lp, 3, none⟩ = some (.int .i64 (r : Int)) ∧ V.cell? ⟨lp, 5, none⟩ = some (.int .i64 (P : Int))) 12 (by kernel_rfl) (by kernel_rfl) noOut ?_
    refine wpE_take 0 ⟨some 18, _, _, _, _, _⟩ (v := ?_) [10, 11, 12] rfl (by kernel_rfl) (by kernel_rfl) (by kernel_rfl) (by kernel_rfl) (fun _ _ _ h => h) hS (Or.inl ⟨by rfl, ?_⟩) ?_
    rotate_left
    · (intro V hSw; obtain ⟨s0, s1, s2, s3, s5⟩ := hSw; go_simp; try with_reducible rfl)
    simp only [Act.put]
    refine wpE_take 1 ⟨some 19, _, _, _, _, _⟩ (v := ?_) [2, 3, 4, 9, 10, 11, 12] rfl (by kernel_rfl) (by kernel_rfl) (by kernel_rfl) (by kernel_rfl) (fun _ _ _ h => h) hS (Or.inl ⟨by rfl, ?_⟩) ?_
    rotate_left
    · (intro V hSw; obtain ⟨s0, s1, s2, s3, s5⟩ := hSw; go_simp; try with_reducible rfl)
    simp only [Act.put]
    refine wpE_take 2 ⟨some 20, _, _, _, _, _⟩ (v := ?_) [3, 4, 9, 10, 11, 12] rfl (by kernel_rfl) (by kernel_rfl) (by kernel_rfl) (by kernel_rfl) (fun _ _ _ h => h) hS (Or.inl ⟨by rfl, ?_⟩) ?_
    rotate_left
    · (intro V hSw; obtain ⟨s0, s1, s2, s3, s5⟩ := hSw; go_simp; try with_reducible rfl)
    simp only [Act.put]
    refine wpE_take 3 ⟨some 21, _, _, _, _, _⟩ (v := ?_) [4, 9, 10, 11, 12] rfl (by kernel_rfl) (by kernel_rfl) (by kernel_rfl) (by kernel_rfl) (fun _ _ _ h => h) hS (Or.inl ⟨by rfl, ?_⟩) ?_
    rotate_left
    · (intro V hSw; obtain ⟨s0, s1, s2, s3, s5⟩ := hSw; go_simp; try with_reducible rfl)
    simp only [Act.put]
    refine wpE_take 4 ⟨some 22, _, _, _, _, _⟩ (v := ?_) [9, 10, 11, 12] rfl (by kernel_rfl) (by kernel_rfl) (by kernel_rfl) (by kernel_rfl) (fun _ _ _ h => h) hS (Or.inl ⟨by rfl, ?_⟩) ?_
    rotate_left
    · (intro V hSw; obtain ⟨s0, s1, s2, s3, s5⟩ := hSw; go_simp; try with_reducible rfl)
    simp only [Act.put]
    refine wpE_take 5 ⟨some 23, _, _, _, _, _⟩ (v := ?_) [6, 7, 8, 9, 10, 11, 12] rfl (by kernel_rfl) (by kernel_rfl) (by kernel_rfl) (by kernel_rfl) (fun _ _ _ h => h) hS (Or.inl ⟨by rfl, ?_⟩) ?_
    rotate_left
    · (intro V hSw; obtain ⟨s0, s1, s2, s3, s5⟩ := hSw; go_simp; try with_reducible rfl)
    simp only [Act.put]
    refine wpE_take 6 ⟨some 24, _, _, _, _, _⟩ (v := ?_) [7, 8, 9, 10, 11, 12] rfl (by kernel_rfl) (by kernel_rfl) (by kernel_rfl) (by kernel_rfl) (fun _ _ _ h => h) hS (Or.inl ⟨by rfl, ?_⟩) ?_
    rotate_left
    · (intro V hSw; obtain ⟨s0, s1, s2, s3, s5⟩ := hSw; go_simp; try with_reducible rfl)
    simp only [Act.put]
    refine wpE_take 7 ⟨some 25, _, _, _, _, _⟩ (v := ?_) [8, 9, 10, 11, 12] rfl (by kernel_rfl) (by kernel_rfl) (by kernel_rfl) (by kernel_rfl) (fun _ _ _ h => h) hS (Or.inl ⟨by rfl, ?_⟩) ?_
    rotate_left
    · (intro V hSw; obtain ⟨s0, s1, s2, s3, s5⟩ := hSw; go_simp; try with_reducible rfl)
    simp only [Act.put]
    refine wpE_take 8 ⟨some 26, _, _, _, _, _⟩ (v := ?_) [9, 10, 11, 12] rfl (by kernel_rfl) (by kernel_rfl) (by kernel_rfl) (by kernel_rfl) (fun _ _ _ h => h) hS (Or.inl ⟨by rfl, ?_⟩) ?_
    rotate_left
    · (intro V hSw; obtain ⟨s0, s1, s2, s3, s5⟩ := hSw; go_simp; try with_reducible rfl)
    simp only [Act.put]
    refine wpE_one 9 (o := ⟨some 27, _, _, _, _, _⟩) (by kernel_rfl) rfl (fun K hK => ?_)
    rw [if_pos (by kernel_rfl)]
    refine call_wp 31 _ _ _ _ rfl Tryz.func31 (by kernel_rfl) rfl _ ?hv _ HBE.out ?_
    case hv => simp only [List.map_toArray, List.map_cons, List.map_nil]; go_simp
    rintro e V4 ⟨rfl, hb4⟩
    have hL5 : LogAt V4 lp p (s : Int) (r : Int) seq P (used + pre.length) v := (hb4.block lp (Array.getElem?_eq_some_iff.1 HL4.out).1).trans HL4.out
    have hB6 : V4.heap[w.heap.size]? = some (.cells #[.pointer (some ⟨lp, 0, none⟩)] 28 (0, 0)) := (hb4.block _ (Array.getElem?_eq_some_iff.1 HB5.out).1).trans HB5.out
    refine ⟨_, rfl, hK.out _ _ (log_cells hL5 hB6) (fun hS => ?_)⟩
    clear hK K HBE
    have HB4' := Lib.hid hb4; clear hb4
    simp only [Act.put]
    refine wpE_take 10 ⟨some 28, _, _, _, _, _⟩ (v := ?_) [11, 12] rfl (by kernel_rfl) (by kernel_rfl) (by kernel_rfl) (by kernel_rfl) (fun _ _ _ h => h) hS (Or.inl ⟨by rfl, ?_⟩) ?_
    rotate_left
    · (intro V hSw; obtain ⟨s0, s1, s2, s3, s5⟩ := hSw; go_simp; try with_reducible rfl)
    simp only [Act.put]
    refine wpE_take 11 ⟨some 29, _, _, _, _, _⟩ (v := ?_) [12] rfl (by kernel_rfl) (by kernel_rfl) (by kernel_rfl) (by kernel_rfl) (fun _ _ _ h => h) hS (Or.inl ⟨by rfl, ?_⟩) ?_
    rotate_left
    · (intro V hSw; obtain ⟨s0, s1, s2, s3, s5⟩ := hSw; go_simp; try with_reducible rfl)
    simp only [Act.put]
    have f5 : V4.frozen? ⟨lp, 5, none⟩ = false := frozen_of_row V4 lp 5 _ _ hL5
    have s5 : V4.cell? ⟨lp, 5, none⟩ = some (.int .i64 (P : Int)) := hS.2.2.2.2
    refine wpE_last (by kernel_rfl) rfl (fun K hK => ?_)
    go_simp
    refine hK.out _ _ ?_
    clear hK K
    refine wpE_done (by kernel_rfl) ?_ _
    have hmod : ((P : Int) + 1) % (r : Int) = (((P + 1) % r : Nat) : Int) := by push_cast; rfl
    rw [hmod]
    have hL6 : LogAt (V4.setCell ⟨lp, 5, none⟩ (.int .i64 (((P + 1) % r : Nat) : Int))) lp p (s : Int) (r : Int) seq ((P + 1) % r) (used + pre.length) v := heap_setCell_same V4 lp 5 _ _ _ hL5
    have hB7 : (V4.setCell ⟨lp, 5, none⟩ (.int .i64 (((P + 1) % r : Nat) : Int))).heap[w.heap.size]? = some (.cells #[.pointer (some ⟨lp, 0, none⟩)] 28 (0, 0)) := (Below.heap_setCell _ _ _ _ (by show w.heap.size ≠ lp; omega)).trans hB6
    have HT6 : Hid (Turns (fun q => F' q ∨ q = lp) V (V4.setCell ⟨lp, 5, none⟩ (.int .i64 (((P + 1) % r : Nat) : Int)))) := Lib.hid (((((Turns.refl (fun q => F' q ∨ q = lp) V).drew.trans (HT3.out.mono (F := fun q => F' q ∨ q = lp) (fun _ _ e => .inl e)) (fun _ _ e => e)).drew).trans (Turns.of_below (F := fun q => F' q ∨ q = lp) HB4'.out) (fun _ _ e => e)).setCell (p := ⟨lp, 5, none⟩) (fun _ => .inr rfl) _)
    have HD6 : Hid (∀ u W', W' = (V4.setCell ⟨lp, 5, none⟩ (.int .i64 (((P + 1) % r : Nat) : Int))).setCell ⟨lp, 7, none⟩ u → DiskM W' p (D1.write (s + 1 + P) (cutB bs k x)) (c + pre.length + 1) F3 m) := Lib.hid (fun u W' e => by
      subst e
      refine HD3.out.turns (G := fun q => q = lp) ((((Turns.refl (fun q => q = lp) V3).drew.trans (Turns.of_below (F := fun q => q = lp) HB4'.out) (fun _ _ e => e)).setCell (p := ⟨lp, 5, none⟩) (fun _ => rfl) _).setCell (p := ⟨lp, 7, none⟩) (fun _ => rfl) _) (fun q hq e => ?_)
      subst e
      rcases HF3.out _ hq with e | e
      · exact hlF' e
      · have : q < V.drew.heap.size := (Array.getElem?_eq_some_iff.1 HL3.out).1
        omega)
    clear f5 s5 hS HB4' hL5 hB6 hmod
    generalize V4.setCell ⟨lp, 5, none⟩ (.int .i64 (((P + 1) % r : Nat) : Int)) = V6 at hL6 hB7 HT6 HD6 ⊢
    have q0 : V6.cell? ⟨w.heap.size, 0, none⟩ = some (.pointer (some ⟨lp, 0, none⟩)) := cell_of_row V6 _ 0 _ _ _ hB7
    have q7 : V6.cell? ⟨lp, 7, none⟩ = some (.int .i64 ((used + pre.length : Nat) : Int)) := cell_of_row V6 lp 7 _ _ _ hL6
    have f7 : V6.frozen? ⟨lp, 7, none⟩ = false := frozen_of_row V6 lp 7 _ _ hL6
    obtain ⟨U, hU⟩ : ∃ U, U = used + pre.length := ⟨_, rfl⟩
    rw [← hU] at q7
    have hU2 : U < 1048576 := by omega
    have HU := Lib.hid hU; clear hU
    have HL6 := Lib.hid hL6; clear hL6
    have HB7 := Lib.hid hB7; clear hB7
    gi_wp2
    clear q0 q7 f7
    have hT7 : Turns (fun q => F' q ∨ q = lp) V (V6.setCell ⟨lp, 7, none⟩ (.int .i64 ((U : Int) + 1))) := HT6.out.setCell (p := ⟨lp, 7, none⟩) (fun _ => .inr rfl) _
    have hL7 := heap_setCell_same V6 lp 7 _ _ (.int .i64 ((U : Int) + 1)) HL6.out
    have hUe : ((U : Int) + 1) = ((used + (pre ++ [x]).length : Nat) : Int) := by rw [HU.out, List.length_append]; simp; omega
    have hB8 : (V6.setCell ⟨lp, 7, none⟩ (.int .i64 ((U : Int) + 1))).heap[w.heap.size]? = some (.cells #[.pointer (some ⟨lp, 0, none⟩)] 28 (0, 0)) := (Below.heap_setCell _ _ _ _ (by show w.heap.size ≠ lp; omega)).trans HB7.out
    have hD7 := HD6.out (.int .i64 ((U : Int) + 1)) _ rfl
    have hnb : ∀ q, w.heap.size < q → q < W0.heap.size → ¬ (F' q ∨ q = lp) := fun q h1 h2 e => by
      rcases e with e | e
      · rcases H2.out q e with e | e
        · have := hm q e; omega
        · omega
      · omega
    refine ⟨⟨hT7.size, fun q o hq ho hoc => ?_⟩, ⟨hT7.block _ (by omega) (hnb _ (by omega) (by omega)), hT7.block _ (by omega) (hnb _ (by omega) (by omega))⟩, ?_⟩
    · refine (hT7.block q (Array.getElem?_eq_some_iff.1 ho).1 (fun e => ?_)).trans ho
      rcases e with e | e
      · obtain ⟨cur, t, hcu⟩ := H1.out.cells q e (by omega)
        rw [hcu] at ho
        injection ho with ho
        subst ho
        simp [Obj.isCells] at hoc
      · omega
    · unfold Wr
      rw [HSN.out]
      refine ⟨F3, ?_, fun q hq => ?_, ?_, hB8, H5.out.trans hT7 (fun i hi e => ?_), by have := hT7.size; omega⟩
      · rw [List.length_append]
        exact hD7
      · rcases HF3.out q hq with e | e
        · exact H2.out q e
        · exact .inr (Nat.le_trans h6 e)
      · unfold LogAt logCells
        rw [← hUe]
        exact hL7
      · rcases e with e | e
        · rcases H2.out i e with e | e
          · exact .inl e
          · omega
        · exact .inr e
  case done =>
    rintro D ys V hD' rfl hI hK
    gi_wp2
    refine ⟨by simp, .inl ⟨_, _, rfl, run_takeDeferred hK, ?_⟩⟩
    obtain ⟨F', h1, h2, h3, -, h5, -⟩ := wr_own (w := w) (by omega) (by omega) _ V (V.putObj D (.deferred none)) (some D) hI (grownBy_putObj' V D _) (fun r e => by cases e; exact ⟨hD', _, hK, rfl⟩)
    rw [List.length_finRange] at h1 h3
    exact ⟨_, results_none rfl _ _ _, rfl, F', h1, fun q hq => (h2 q hq).imp id (fun e => by omega), h3, h5⟩
  case stop =>
    rintro D cc pre V _ _ h _
    exact h.elim
end Go.Proofs.YtelnoibfamcnmaaGreat.Log

