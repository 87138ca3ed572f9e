/- A disk whose table's block is named, and a block written into the ring of an area on it. -/
import Derived.RangeFuncWrites
import Derived.Test.YtkicobmdogeigaaLgArea
namespace Go.Proofs.Ytkicobmdogeigaa.Log
set_option maxRecDepth 20000
open Go.RowKit
open Go.Proofs.Ytkicobmdogeigaa.Mem Go.Proofs.Ytkicobmdogeigaa.Disk
attribute [local go_sem ↓] Go.wp_at_zero Go.wp_at_succ

def DiskM (w : World) (p : Nat) (d : Dk.Dk) (c : Nat) (F : Nat → Prop) (m : Nat) : Prop := ∃ L vs vw, LowAt w p L vs vw m ∧ Rep L d c ∧ ∀ k, F k ↔ Foot p m vs vw k
theorem DiskM.at {w : World} {p c m : Nat} {d : Dk.Dk} {F : Nat → Prop} (h : DiskM w p d c F m) : DiskAt w p d c F := by
  obtain ⟨L, vs, vw, h1, h2, h3⟩ := h
  exact ⟨L, vs, vw, m, h1, h2, h3⟩
theorem DiskAt.named {w : World} {p c : Nat} {d : Dk.Dk} {F : Nat → Prop} (h : DiskAt w p d c F) : ∃ m, DiskM w p d c F m ∧ m < w.heap.size := by
  obtain ⟨L, vs, vw, m, h1, h2, h3⟩ := h
  exact ⟨m, ⟨L, vs, vw, h1, h2, h3⟩, h1.last.lt⟩
theorem DiskM.turns {w w' : World} {p c m : Nat} {d : Dk.Dk} {F G : Nat → Prop} (h : DiskM w p d c F m) (ht : Turns G w w') (hn : ∀ k, F k → ¬ G k) : DiskM w' p d c F m := by
  obtain ⟨L, vs, vw, h1, h2, h3⟩ := h
  exact ⟨L, vs, vw, h1.turns ht (fun k hk => hn k ((h3 k).2 hk)), h2, h3⟩
theorem DiskM.lt {w : World} {p c m : Nat} {d : Dk.Dk} {F : Nat → Prop} (h : DiskM w p d c F m) (k : Nat) (hk : F k) : k < w.heap.size := h.at.lt k hk
/-- All but the table are cells. -/
theorem DiskM.cells {w : World} {p c m : Nat} {d : Dk.Dk} {F : Nat → Prop} (h : DiskM w p d c F m) (k : Nat) (hk : F k) (hm : k ≠ m) : ∃ cur t, w.heap[k]? = some (.cells cur t (0, 0)) := by
  obtain ⟨L, vs, vw, h1, h2, h3⟩ := h
  rcases (h3 k).1 hk with e | e | e | e
  · rw [e]; exact ⟨_, _, h1.head⟩
  · exact absurd e hm
  · obtain ⟨cu, hc⟩ := row_type h1.st e
    exact ⟨cu, _, hc⟩
  · obtain ⟨cu, hc⟩ := row_type h1.ws e
    exact ⟨cu, _, hc⟩
/-- What is no cells may turn, if it lies from z on. -/
theorem DiskM.grown {w w' : World} {p c m z : Nat} {d : Dk.Dk} {F : Nat → Prop} {row : Option Nat} (h : DiskM w p d c F m) (hm : m < z) (hg : w.grownBy w' row) (hr : ∀ r, row = some r → z ≤ r ∧ ∃ o : Obj, w.heap[r]? = some o ∧ o.isCells = false) : DiskM w' p d c F m :=
  h.turns (G := fun q => row = some q) ⟨hg.os, hg.tape, hg.output, hg.size, fun k hk hn => hg.block k hk (fun e => hn e.symm)⟩ (fun k hk e => by
    obtain ⟨hz, o, ho, hc⟩ := hr k e
    obtain ⟨cur, t, hcu⟩ := h.cells k hk (by omega)
    rw [hcu] at ho
    injection ho with ho
    subst ho
    simp [Obj.isCells] at hc)

def NowM (w : World) (p : Nat) (d : Dk.Dk) (c : Nat) (F : Nat → Prop) (m : Nat) (r : Value) (e : Ending) (w' : World) : Prop :=
  ∃ F', e = .returned r ∧ DiskM w' p d c F' m ∧ (∀ k, F' k → F k ∨ w.heap.size ≤ k) ∧ Turns F w w'

theorem writesM (ii : Int) (i : Nat) (hii : ii = (i : Int)) (b o cb : Nat) (data : List UInt8) (d : Dk.Dk) (p c m : Nat) (F : Nat → Prop) (w : World) (h : DiskM w p d c F m) (hi : i < d.stable.length) (hl : data.length = 256)
    (hd : w.rangeAt b o (data.map byteV)) (hc : c ≤ 1048576) :
    Calls Try.prog 24 #[.pointer (some ⟨p, 0, none⟩), .int .i64 ii, .slice (some ⟨b, o, none⟩) 256 cb] w (NowM w p (d.write i data) (c + 1) F m (.int .i64 0)) := by
  obtain ⟨L, vs, vw, hL, hR, hF⟩ := h
  have hfin : ∀ vw' : Value, (∀ k, vw'.ownBlock = some k → vw.ownBlock = some k ∨ w.heap.size ≤ k) → ∀ k, Foot p m vs vw' k → F k ∨ w.heap.size ≤ k := fun vw' hfr k hk => by
    rcases hk with hk | hk | hk | hk
    · exact .inl ((hF k).2 (.inl hk))
    · exact .inl ((hF k).2 (.inr (.inl hk)))
    · exact .inl ((hF k).2 (.inr (.inr (.inl hk))))
    · rcases hfr k hk with e | e
      · exact .inl ((hF k).2 (.inr (.inr (.inr e))))
      · exact .inr e
  cases hb : d.blown
  · refine (write_int ii i hii b o cb data L p m d.stable.length vs vw w hL hR.size hR.big.2 hi hl hd (by have := hR.few; omega) (by have := hR.few; have := hR.le; omega) (by rw [hR.blown]; exact hb) hR.fits).mono ?_
    rintro e w' ⟨vw', he, hL', hfr, ht⟩
    exact ⟨Foot p m vs vw', he, ⟨_, vs, vw', hL', rep_write hR hb i data hi hl, fun _ => Iff.rfl⟩, hfin vw' hfr, ht.mono (fun k _ hk => (hF k).2 hk)⟩
  · subst hii
    refine (write_ghost i b o cb data L p m d.stable.length vs vw w hL hR.size hR.big.2 hi hl hd (fun y hy => (hR.each y hy).2) (by have := hR.few; omega) (by rw [hR.blown]; exact hb)).mono ?_
    rintro e w' ⟨vw', he, hL', hfr, ht⟩
    exact ⟨Foot p m vs vw', he, ⟨_, vs, vw', hL', rep_ghost hR hb i data hi hl, fun _ => Iff.rfl⟩, hfin vw' hfr, ht.mono (fun k _ hk => (hF k).2 hk)⟩
theorem writeHM (ii : Int) (i : Nat) (hii : ii = (i : Int)) (A : Option Addr) (cb B : Nat) (data : List UInt8) (d : Dk.Dk) (p c m : Nat) (F : Nat → Prop) (w : World) (h : DiskM w p d c F m) (hi : i < d.stable.length)
    (hd : Holds w B A 256 data) (hc : c ≤ 1048576) :
    Calls Try.prog 24 #[.pointer (some ⟨p, 0, none⟩), .int .i64 ii, .slice A 256 cb] w (NowM w p (d.write i data) (c + 1) F m (.int .i64 0)) := by
  obtain ⟨b, o, rfl⟩ := Go.Proofs.Ytkicobmdogeigaa.Rec.Holds.addr hd (by omega)
  exact writesM ii i hii b o cb data d p c m F w h hi hd.1 (range_of_holds hd) hc

set_option maxHeartbeats 1000000 in
/-- A block is written into the ring. -/
theorem putM (s pl : Nat) (r : Int) (A : Option Addr) (cb B : Nat) (data : List UInt8) (d : Dk.Dk) (p c m : Nat) (F : Nat → Prop) (w : World) (h : DiskM w p d c F m) (hc : c < 1048576) (hs : s + 1 + pl < d.stable.length) (hd : Holds w B A 256 data) (hB : B ≤ w.heap.size) :
    Calls Try.prog 103 #[areaV p (s : Int) r, .int .i64 (pl : Int), .slice A 256 cb] w (NowM w p (d.write (s + 1 + pl) data) (c + 1) F m (.tuple #[])) := by
  have hm := h.at.ok.2.2
  have hFl : ∀ k, F k → k < w.heap.size := fun k hk => h.lt k hk
  have HFL := Lib.hid hFl; clear hFl
  have H := Lib.hid h; clear h
  unfold areaV ptr
  go_enter Try.func103, Try.ntmps103
  go_wp2_with fail
  have ht1 : Turns (fun _ => False) w (w.alloc (.cells #[.pointer (some ⟨p, 0, none⟩), .int .i64 (s : Int), .int .i64 r] 104)) := (Turns.refl _ w).alloc _
  have hx1 : (w.alloc (.cells #[.pointer (some ⟨p, 0, none⟩), .int .i64 (s : Int), .int .i64 r] 104)).heap[w.heap.size]? = some (.cells #[.pointer (some ⟨p, 0, none⟩), .int .i64 (s : Int), .int .i64 r] 104 (0, 0)) := heap_alloc_new w _
  generalize w.alloc (.cells #[.pointer (some ⟨p, 0, none⟩), .int .i64 (s : Int), .int .i64 r] 104) = W at ht1 hx1 ⊢
  have hz1 : w.heap.size < W.heap.size := (Array.getElem?_eq_some_iff.1 hx1).1
  have hq0 := box_at (V := W.drew) hx1
  have HX1 : Hid (W.drew.heap[w.heap.size]? = some (.cells #[.pointer (some ⟨p, 0, none⟩), .int .i64 (s : Int), .int .i64 r] 104 (0, 0))) := Lib.hid hx1
  have HT1 : Hid (Turns (fun _ => False) w W.drew) := Lib.hid ht1.drew
  have HZ1 : Hid (w.heap.size < W.drew.heap.size) := Lib.hid hz1
  clear hz1 hx1 ht1
  have hD1 : DiskM W.drew p d c F m := H.out.turns HT1.out (fun _ _ e => e)
  have hPL : Calls Try.prog 117 #[.agg #[.pointer (some ⟨p, 0, none⟩), .int .i64 (s : Int), .int .i64 r], .int .i64 (pl : Int)] W.drew fun e V => e = .returned (.int .i64 ((s : Int) + 1 + (pl : Int))) ∧ BoxAt V w.heap.size p s r ∧
      Calls Try.prog 24 #[.pointer (some ⟨p, 0, none⟩), .int .i64 ((s : Int) + 1 + (pl : Int)), .slice A 256 cb] V (fun e V2 => BoxAt V2 w.heap.size p s r ∧ NowM w p (d.write (s + 1 + pl) data) (c + 1) F m (.int .i64 0) e V2) := by
    refine (placed_any p s pl r W.drew (by omega) (by omega)).mono ?_
    rintro e V ⟨rfl, hb⟩
    have hx := (hb.block _ HZ1.out).trans HX1.out
    have htV : Turns F w V := (HT1.out.mono (F := F) (fun _ _ e => e.elim)).trans (Turns.of_below (F := F) hb) (fun _ _ e => e)
    refine ⟨rfl, box_at hx, ?_⟩
    refine (writeHM _ (s + 1 + pl) (by omega) A cb B data d p c m F V (hD1.turns (Turns.of_below (F := fun _ => False) hb) (fun _ _ e => e)) hs (hd.below ((HT1.out.below (fun _ e => e.elim) hB).trans (hb.mono (by have := HT1.out.size; omega)))) (by omega)).mono ?_
    rintro e V2 ⟨F', rfl, hD, hF, hT⟩
    have hx2 := (hT.block _ (Array.getElem?_eq_some_iff.1 hx).1 (fun e => by have := HFL.out _ e; omega)).trans hx
    refine ⟨box_at hx2, F', rfl, hD, fun k hk => ?_, htV.trans hT (fun _ _ e => e)⟩
    rcases hF k hk with e | e
    · exact .inl e
    · have := htV.size; exact .inr (by omega)
  have HH := Lib.hid hPL; clear hPL hD1 H
  go_region_held (fun V => V.cell? ⟨w.heap.size, 0, none⟩ = some (.pointer (some ⟨p, 0, none⟩)) ∧ V.cell? ⟨w.heap.size, 1, none⟩ = some (.int .i64 (s : Int)) ∧ V.cell? ⟨w.heap.size, 2, none⟩ = some (.int .i64 r)) (assumption)
    (first
      | (go_at_call 117
         have hcall := HH.out
         with_reducible refine hcall.mono ?_
         clear hcall
         rintro e V1 ⟨rfl, hq, hW⟩
         have HW := Lib.hid hW
         clear hW)
      | (go_at_call 24
         have hcall := HW.out
         with_reducible refine hcall.mono ?_
         clear hcall
         rintro e V2 ⟨hq2, F', rfl, hD, hF, hT⟩))
  all_goals
    go_wp2
    refine bodyPost_ret (results_none rfl _ _ _) rfl ?_
    exact ⟨F', rfl, hD, hF, hT⟩
end Go.Proofs.Ytkicobmdogeigaa.Log
