/- A deed done to a disk and to the document's. -/
import Derived.Test.YtkgpdpmdkkmifaaDkRefE
import Derived.Test.YtkgpdpmdkkmifaaDeeds
import Derived.Test.YtkgpdpmdkkmifaaDkGhost
namespace Go.Proofs.Ytkgpdpmdkkmifaa.Disk
set_option maxRecDepth 20000
open Go.RowKit
open Go.Proofs.Ytkgpdpmdkkmifaa.Mem

theorem Owned.turns {w w' : World} {base : Nat} {v : Value} {bs : List UInt8} (h : Owned w base v bs) {F : Nat → Prop} (ht : Turns F w w') (hF : ∀ k, base ≤ k → ¬ F k) : Owned w' base v bs := by
  obtain ⟨h1, h2⟩ := h
  refine ⟨h1, ?_⟩
  rcases h2 with h2 | ⟨g, cap, cur, e, hg, hh, rr⟩
  · exact .inl h2
  · exact .inr ⟨g, cap, cur, e, hg, (ht.block g (Array.getElem?_eq_some_iff.1 hh).1 (hF g hg)).trans hh, rr⟩
theorem Holds.turns {w w' : World} {B : Nat} {A : Option Addr} {n : Nat} {bs : List UInt8} (h : Holds w B A n bs) {F : Nat → Prop} (ht : Turns F w w') (hF : ∀ k, F k → B ≤ k) (hB : B ≤ w.heap.size) : Holds w' B A n bs :=
  h.below (ht.below hF hB)
theorem RefDisk.more {w : World} {r c c' : Nat} {d : Dk.Dk} {F : Nat → Prop} (h : RefDisk w r d c F) (hc : c ≤ c') : RefDisk w r d c' F := by
  obtain ⟨R, vb, vw, vg, hA, hR, h1, h2, hF⟩ := h
  exact ⟨R, vb, vw, vg, hA, { hR with few := Nat.le_trans hR.few hc }, h1, h2, hF⟩
theorem Owned.held {W : World} {base n c : Nat} {A : Option Addr} {bs : List UInt8} (h : Owned W base (.slice A n c) bs) {F : Nat → Prop} (hF : ∀ k, base ≤ k → ¬ F k) : ∀ w', Turns F W w' → Holds w' W.heap.size A n bs := fun w' ht => by
  obtain ⟨A1, c1, e1, g1⟩ := h.holds
  injection e1 with a1 a2 _
  subst a1 a2
  obtain ⟨A2, c2, e2, g2⟩ := Owned.holds (Owned.turns h ht hF)
  injection e2 with b1 _ _
  subst b1
  refine ⟨g2.1, fun hn => ?_⟩
  obtain ⟨b, off, e, _, hc⟩ := g2.2 hn
  obtain ⟨b0, off0, e0, hb0, _⟩ := g1.2 hn
  rw [e] at e0
  injection e0 with e0
  injection e0 with e0 _
  exact ⟨b, off, e, by rw [e0]; exact hb0, hc⟩
/-- What both leaves: the two disks, what is behind B apart from them. -/
structure Both (w w' : World) (p r : Nat) (d' : Dk.Dk) (c : Nat) (B : Nat) (F G F' G' : Nat → Prop) : Prop where
  one : DiskAt w' p d' c F'
  two : RefDisk w' r d' c G'
  apart : ∀ k, F' k → ¬ G' k
  lowF : ∀ k, F' k → B ≤ k
  lowG : ∀ k, G' k → B ≤ k
  turns : Turns (fun k => F k ∨ G k) w w'

theorem both_fin {w W W1 W2 : World} {p r c B : Nat} {d : Dk.Dk} {F G F1 G1 : Nat → Prop} (hGl : ∀ k, G k → k < w.heap.size) (hap : ∀ k, F k → ¬ G k) (hF : ∀ k, F k → B ≤ k) (hG : ∀ k, G k → B ≤ k) (hB : B ≤ w.heap.size)
    (hbw : Below w.heap.size w W) (h1 : DiskAt W1 p d c F1) (hs1 : ∀ k, F1 k → F k ∨ W.heap.size ≤ k) (ht1 : Turns F W W1) (h2 : RefDisk W2 r d c G1) (hs2 : ∀ k, G1 k → G k ∨ W1.heap.size ≤ k) (ht2 : Turns G W1 W2) : Both w W2 p r d c B F G F1 G1 := by
  have z1 := hbw.size
  have z2 := ht1.size
  have hno : ∀ k, F1 k → ¬ G k := fun k e e' => by
    rcases hs1 k e with h | h
    · exact hap k h e'
    · have := hGl k e'; omega
  refine ⟨h1.turns ht2 hno, h2, fun k e e' => ?_, fun k e => ?_, fun k e => ?_, (Turns.of_below (F := fun k => F k ∨ G k) hbw).trans ((ht1.mono (F := fun k => F k ∨ G k) (fun _ _ e => .inl e)).trans ht2 (fun _ _ e => .inr e)) (fun _ _ e => e)⟩
  · rcases hs2 k e' with h | h
    · exact hno k e h
    · have := h1.lt k e; omega
  · rcases hs1 k e with h | h
    · exact hF k h
    · omega
  · rcases hs2 k e with h | h
    · exact hG k h
    · omega

set_option maxRecDepth 100000 in
set_option maxHeartbeats 2000000 in
theorem both_flush (op blk : Int) (fill : UInt8) (short : Bool) (A : Option Addr) (nb cb B : Nat) (bs : List UInt8) (d : Dk.Dk) (p r c : Nat) (F G : Nat → Prop) (w : World) (h : DiskAt w p d c F) (h' : RefDisk w r d c G) (hc : c < 1048576) (hap : ∀ k, F k → ¬ G k)
    (hF : ∀ k, F k → B ≤ k) (hG : ∀ k, G k → B ≤ k)
    (hbs : Holds w B A nb bs) (hB : B ≤ w.heap.size) (hnb : nb ≤ 140737488355328) (hop : bits .and .i64 op 7 = 1) :
    Calls Try.prog 9 #[ptr p, ptr r, .agg (deedV op blk fill short A nb cb)] w fun e w' => e = .returned (.bool true) ∧ ∃ F' G', Both w w' p r d.flush (c + 1) B F G F' G' := by
  have HH := Lib.hid hbs; clear hbs
  have hpl : p < w.heap.size := h.lt p (by obtain ⟨L, vs, vw, m, hL, _, hF⟩ := h; exact (hF p).2 (.inl rfl))
  obtain ⟨W0, hW0⟩ : ∃ W0, W0 = w.alloc (.cells (deedV op blk fill short A nb cb) 35) := ⟨_, rfl⟩
  have hb0 : Below w.heap.size w W0 := by rw [hW0]; exact (Below.refl _ w).alloc (Nat.le_refl _) _
  have hx0 : W0.heap[w.heap.size]? = some (.cells (deedV op blk fill short A nb cb) 35 (0, 0)) := by rw [hW0]; exact heap_alloc_new w _
  have hs0 : W0.heap.size = w.heap.size + 1 := by rw [hW0]; simp
  have hoe : Owned (W0.alloc (.cells #[] 5)) W0.heap.size (.slice (some ⟨W0.heap.size, 0, none⟩) 0 0) [] := owned_made W0 [] W0.heap.size (Nat.le_refl _) (by unfold maxLen; simp)
  have hbe : Below W0.heap.size W0 (W0.alloc (.cells #[] 5)) := (Below.refl _ W0).alloc (Nat.le_refl _) _
  have HDe := Lib.hid ((HH.out.below (hb0.mono hB)).below (hbe.mono (by omega)))
  have c4 : W0.cell? ⟨w.heap.size, 4, none⟩ = some (.slice A nb cb) := cell_of_row W0 w.heap.size 4 _ _ _ hx0
  have c4' : (W0.alloc (.cells #[] 5)).cell? ⟨w.heap.size, 4, none⟩ = some (.slice A nb cb) := (hbe.cell (p := ⟨w.heap.size, 4, none⟩) (by show w.heap.size < W0.heap.size; omega)).trans c4
  have HX0 := Lib.hid hx0; clear hx0
  rw [hs0] at hoe hbe
  rw [hW0] at hoe hbe c4' HDe
  change Hid (Holds _ B A nb bs) at HDe
  have HW0 := Lib.hid hW0; clear hW0
  unfold ptr
  go_enter Try.func9, Try.ntmps9
  go_wp2_with (at_builtin; refine wpList_addall (o := ⟨some 14, _, _, _, _, _⟩) rfl _ _ rfl (w.heap.size + 1) _ [] rfl hoe B A nb cb bs rfl HDe.out (by simp; omega) (by first | exact hbe.size | (simp)) ?_)
  intro v2 W ho2 hb2
  rw [← HW0.out] at hb2 hbe
  rw [← hs0] at hbe hb2
  have hbW : Below W0.heap.size W0 W := hbe.trans hb2
  have hx : W.heap[w.heap.size]? = some (.cells (deedV op blk fill short A nb cb) 35 (0, 0)) := (hbW.block _ (by omega)).trans HX0.out
  have hbw : Below w.heap.size w W := hb0.trans (hbW.mono (by omega))
  have HX := Lib.hid hx
  have HO := Lib.hid ho2
  have HBW := Lib.hid hbw
  have d0 : W.cell? ⟨w.heap.size, 0, none⟩ = some (.int .i64 op) := cell_of_row W w.heap.size 0 _ _ _ hx
  have d4 : W.cell? ⟨w.heap.size, 4, none⟩ = some (.slice A nb cb) := cell_of_row W w.heap.size 4 _ _ _ hx
  clear hoe hbe c4 c4' HDe HX0 HW0 hx ho2 hb2 hbw hbW hb0 hs0
  have hf := flush_d d p c F W (h.turns (G := fun _ => False) (Turns.of_below HBW.out) (fun _ _ e => e)) (by omega)
  unfold ptr at hf
  have HF := Lib.hid hf; clear hf
  go_wp2_with fail
  with_reducible refine HF.out.mono ?_
  clear HF
  rintro e W1 ⟨F1, rfl, h1, hs1, ht1⟩
  have hf := rflush_d d r c G W1 (h'.turns (G := fun k => F k) ((Turns.of_below (F := F) HBW.out).trans ht1 (fun _ _ e => e)) (fun k e e' => hap k e' e)) (by omega)
  unfold ptr at hf
  have HR := Lib.hid hf; clear hf
  go_wp2_with fail
  with_reducible refine HR.out.mono ?_
  clear HR
  rintro e W2 ⟨G1, rfl, h2, hs2, ht2⟩
  have hFl : ∀ k, F k → k < w.heap.size := fun k hk => h.lt k hk
  have hGl : ∀ k, G k → k < w.heap.size := fun k hk => h'.lt k hk
  have htt : Turns (fun k => F k ∨ G k) W W2 := (ht1.mono (fun _ _ e => .inl e)).trans ht2 (fun _ _ e => .inr e)
  have hxl : w.heap.size < W.heap.size := (Array.getElem?_eq_some_iff.1 HX.out).1
  have hx2 : W2.heap[w.heap.size]? = some (.cells (deedV op blk fill short A nb cb) 35 (0, 0)) := (htt.block _ hxl (fun e => by
    rcases e with e | e
    · have := hFl _ e; omega
    · have := hGl _ e; omega)).trans HX.out
  have e4 : W2.cell? ⟨w.heap.size, 4, none⟩ = some (.slice A nb cb) := cell_of_row W2 w.heap.size 4 _ _ _ hx2
  have hb2 : Holds W2 B A nb bs := Holds.turns (HH.out.below (HBW.out.mono hB)) htt (fun k e => e.elim (hF k) (hG k)) (by omega)
  have ho2 : Owned W2 (w.heap.size + 1) v2 bs := Owned.turns HO.out htt (fun k hk e => by
    rcases e with e | e
    · have := hFl _ e; omega
    · have := hGl _ e; omega)
  obtain ⟨A2, c2, rfl, hh2⟩ := ho2.holds
  obtain ⟨S, hS⟩ : ∃ S : ByteArray, S = ⟨bs.toArray⟩ := ⟨_, rfl⟩
  have t1 := run_text W2 _ A2 bs.length c2 bs hh2
  have t2 := run_text W2 B A nb cb bs hb2
  rw [← hS] at t1 t2
  have HFIN : Hid (∃ F' G', Both w W2 p r d.flush (c + 1) B F G F' G') := Lib.hid ⟨F1, G1, both_fin hGl hap hF hG hB HBW.out (h1.more (by omega)) hs1 ht1 (h2.more (by omega)) hs2 ht2⟩
  clear hS htt hx2 hb2 ho2 hh2 d0 d4
  go_wp2
  go_ret
  exact ⟨rfl, HFIN.out⟩
set_option maxRecDepth 100000 in
set_option maxHeartbeats 2000000 in
theorem both_settle (op blk : Int) (fill : UInt8) (short : Bool) (A : Option Addr) (nb cb B : Nat) (bs : List UInt8) (d : Dk.Dk) (p r c : Nat) (F G : Nat → Prop) (w : World) (h : DiskAt w p d c F) (h' : RefDisk w r d c G) (hc : c < 1048576) (hap : ∀ k, F k → ¬ G k)
    (hF : ∀ k, F k → B ≤ k) (hG : ∀ k, G k → B ≤ k)
    (hbs : Holds w B A nb bs) (hB : B ≤ w.heap.size) (hnb : nb ≤ 140737488355328) (hop : bits .and .i64 op 7 = 2) :
    Calls Try.prog 9 #[ptr p, ptr r, .agg (deedV op blk fill short A nb cb)] w fun e w' => e = .returned (.bool true) ∧ ∃ F' G', Both w w' p r (d.settle bs) (c + 1) B F G F' G' := by
  have HH := Lib.hid hbs; clear hbs
  have hpl : p < w.heap.size := h.lt p (by obtain ⟨L, vs, vw, m, hL, _, hF⟩ := h; exact (hF p).2 (.inl rfl))
  obtain ⟨W0, hW0⟩ : ∃ W0, W0 = w.alloc (.cells (deedV op blk fill short A nb cb) 35) := ⟨_, rfl⟩
  have hb0 : Below w.heap.size w W0 := by rw [hW0]; exact (Below.refl _ w).alloc (Nat.le_refl _) _
  have hx0 : W0.heap[w.heap.size]? = some (.cells (deedV op blk fill short A nb cb) 35 (0, 0)) := by rw [hW0]; exact heap_alloc_new w _
  have hs0 : W0.heap.size = w.heap.size + 1 := by rw [hW0]; simp
  have hoe : Owned (W0.alloc (.cells #[] 5)) W0.heap.size (.slice (some ⟨W0.heap.size, 0, none⟩) 0 0) [] := owned_made W0 [] W0.heap.size (Nat.le_refl _) (by unfold maxLen; simp)
  have hbe : Below W0.heap.size W0 (W0.alloc (.cells #[] 5)) := (Below.refl _ W0).alloc (Nat.le_refl _) _
  have HDe := Lib.hid ((HH.out.below (hb0.mono hB)).below (hbe.mono (by omega)))
  have c4 : W0.cell? ⟨w.heap.size, 4, none⟩ = some (.slice A nb cb) := cell_of_row W0 w.heap.size 4 _ _ _ hx0
  have c4' : (W0.alloc (.cells #[] 5)).cell? ⟨w.heap.size, 4, none⟩ = some (.slice A nb cb) := (hbe.cell (p := ⟨w.heap.size, 4, none⟩) (by show w.heap.size < W0.heap.size; omega)).trans c4
  have HX0 := Lib.hid hx0; clear hx0
  rw [hs0] at hoe hbe
  rw [hW0] at hoe hbe c4' HDe
  change Hid (Holds _ B A nb bs) at HDe
  have HW0 := Lib.hid hW0; clear hW0
  unfold ptr
  go_enter Try.func9, Try.ntmps9
  go_wp2_with (at_builtin; refine wpList_addall (o := ⟨some 14, _, _, _, _, _⟩) rfl _ _ rfl (w.heap.size + 1) _ [] rfl hoe B A nb cb bs rfl HDe.out (by simp; omega) (by first | exact hbe.size | (simp)) ?_)
  intro v2 W ho2 hb2
  rw [← HW0.out] at hb2 hbe
  rw [← hs0] at hbe hb2
  have hbW : Below W0.heap.size W0 W := hbe.trans hb2
  have hx : W.heap[w.heap.size]? = some (.cells (deedV op blk fill short A nb cb) 35 (0, 0)) := (hbW.block _ (by omega)).trans HX0.out
  have hbw : Below w.heap.size w W := hb0.trans (hbW.mono (by omega))
  have HX := Lib.hid hx
  have HO := Lib.hid ho2
  have HBW := Lib.hid hbw
  have d0 : W.cell? ⟨w.heap.size, 0, none⟩ = some (.int .i64 op) := cell_of_row W w.heap.size 0 _ _ _ hx
  have d4 : W.cell? ⟨w.heap.size, 4, none⟩ = some (.slice A nb cb) := cell_of_row W w.heap.size 4 _ _ _ hx
  clear hoe hbe c4 c4' HDe HX0 HW0 hx ho2 hb2 hbw hbW hb0 hs0
  have hbl := HH.out.1
  have hx3 := HX.out
  have d1 : W.cell? ⟨w.heap.size, 1, none⟩ = some (.int .i64 blk) := cell_of_row W w.heap.size 1 _ _ _ hx3
  clear hx3
  obtain ⟨A2, c2, rfl, -⟩ := HO.out.holds
  rw [hbl] at HO ⊢
  change Hid (Owned W (w.heap.size + 1) (.slice A2 nb c2) bs) at HO
  have hFl : ∀ k, F k → k < w.heap.size := fun k hk => h.lt k hk
  have hGl : ∀ k, G k → k < w.heap.size := fun k hk => h'.lt k hk
  have HFL := Lib.hid hFl; clear hFl
  have HGL := Lib.hid hGl; clear hGl
  have hf := settle_d A2 nb c2 W.heap.size bs d p c F W (h.turns (G := fun _ => False) (Turns.of_below HBW.out) (fun _ _ e => e)) (by omega) (Owned.held HO.out (fun k hk e => by have := HFL.out _ e; omega)) (by unfold maxLen; omega)
  unfold ptr at hf
  have HF := Lib.hid hf; clear hf
  go_wp2_with fail
  with_reducible refine HF.out.mono ?_
  clear HF
  rintro e W1 ⟨F1, rfl, h1, hs1, ht1⟩
  have hx4 : W1.heap[w.heap.size]? = some (.cells (deedV op blk fill short A nb cb) 35 (0, 0)) := (ht1.block _ (Array.getElem?_eq_some_iff.1 HX.out).1 (fun e => by have := HFL.out _ e; omega)).trans HX.out
  have e1 : W1.cell? ⟨w.heap.size, 1, none⟩ = some (.int .i64 blk) := cell_of_row W1 w.heap.size 1 _ _ _ hx4
  have e4 : W1.cell? ⟨w.heap.size, 4, none⟩ = some (.slice A nb cb) := cell_of_row W1 w.heap.size 4 _ _ _ hx4
  clear hx4
  have hf := rsettle_d A nb cb B bs d r c G W1 (h'.turns (G := fun k => F k) ((Turns.of_below (F := F) HBW.out).trans ht1 (fun _ _ e => e)) (fun k e e' => hap k e' e)) (by omega) (fun w' ht => Holds.turns (Holds.turns (HH.out.below (HBW.out.mono hB)) ht1 hF (by have := HBW.out.size; omega)) ht hG (by have := HBW.out.size; have := ht1.size; omega)) (by unfold maxLen; omega)
  unfold ptr at hf
  have HR := Lib.hid hf; clear hf
  go_wp2_with fail
  with_reducible refine HR.out.mono ?_
  clear HR
  rintro e W2 ⟨G1, rfl, h2, hs2, ht2⟩
  have hFl := HFL.out
  have hGl := HGL.out
  have htt : Turns (fun k => F k ∨ G k) W W2 := (ht1.mono (fun _ _ e => .inl e)).trans ht2 (fun _ _ e => .inr e)
  have hxl : w.heap.size < W.heap.size := (Array.getElem?_eq_some_iff.1 HX.out).1
  have hx2 : W2.heap[w.heap.size]? = some (.cells (deedV op blk fill short A nb cb) 35 (0, 0)) := (htt.block _ hxl (fun e => by
    rcases e with e | e
    · have := hFl _ e; omega
    · have := hGl _ e; omega)).trans HX.out
  clear e4
  have e4 : W2.cell? ⟨w.heap.size, 4, none⟩ = some (.slice A nb cb) := cell_of_row W2 w.heap.size 4 _ _ _ hx2
  have hb2 : Holds W2 B A nb bs := Holds.turns (HH.out.below (HBW.out.mono hB)) htt (fun k e => e.elim (hF k) (hG k)) (by omega)
  have ho2 : Owned W2 (w.heap.size + 1) (.slice A2 nb c2) bs := Owned.turns HO.out htt (fun k hk e => by
    rcases e with e | e
    · have := hFl _ e; omega
    · have := hGl _ e; omega)
  have hh2 : Holds W2 W.heap.size A2 nb bs := Owned.held HO.out (F := fun k => F k ∨ G k) (fun k hk e => by
    rcases e with e | e
    · have := hFl _ e; omega
    · have := hGl _ e; omega) W2 htt
  obtain ⟨S, hS⟩ : ∃ S : ByteArray, S = ⟨bs.toArray⟩ := ⟨_, rfl⟩
  have t1 := run_text W2 _ A2 nb c2 bs hh2
  have t2 := run_text W2 B A nb cb bs hb2
  rw [← hS] at t1 t2
  have HFIN : Hid (∃ F' G', Both w W2 p r (d.settle bs) (c + 1) B F G F' G') := Lib.hid ⟨F1, G1, both_fin hGl hap hF hG hB HBW.out (h1.more (by omega)) hs1 ht1 (h2.more (by omega)) hs2 ht2⟩
  clear hS htt hx2 hb2 ho2 hh2 d0 d4 d1 e1
  go_wp2
  go_ret
  exact ⟨rfl, HFIN.out⟩
set_option maxRecDepth 100000 in
set_option maxHeartbeats 2000000 in
theorem both_crash3 (op blk : Int) (fill : UInt8) (short : Bool) (A : Option Addr) (nb cb B : Nat) (bs : List UInt8) (d : Dk.Dk) (p r c : Nat) (F G : Nat → Prop) (w : World) (h : DiskAt w p d c F) (h' : RefDisk w r d c G) (hc : c < 1048576) (hap : ∀ k, F k → ¬ G k)
    (hF : ∀ k, F k → B ≤ k) (hG : ∀ k, G k → B ≤ k)
    (hbs : Holds w B A nb bs) (hB : B ≤ w.heap.size) (hnb : nb ≤ 140737488355328) (hop : bits .and .i64 op 7 = 3) :
    Calls Try.prog 9 #[ptr p, ptr r, .agg (deedV op blk fill short A nb cb)] w fun e w' => e = .returned (.bool true) ∧ ∃ F' G', Both w w' p r (d.crash bs) (c + 1) B F G F' G' := by
  have HH := Lib.hid hbs; clear hbs
  have hpl : p < w.heap.size := h.lt p (by obtain ⟨L, vs, vw, m, hL, _, hF⟩ := h; exact (hF p).2 (.inl rfl))
  obtain ⟨W0, hW0⟩ : ∃ W0, W0 = w.alloc (.cells (deedV op blk fill short A nb cb) 35) := ⟨_, rfl⟩
  have hb0 : Below w.heap.size w W0 := by rw [hW0]; exact (Below.refl _ w).alloc (Nat.le_refl _) _
  have hx0 : W0.heap[w.heap.size]? = some (.cells (deedV op blk fill short A nb cb) 35 (0, 0)) := by rw [hW0]; exact heap_alloc_new w _
  have hs0 : W0.heap.size = w.heap.size + 1 := by rw [hW0]; simp
  have hoe : Owned (W0.alloc (.cells #[] 5)) W0.heap.size (.slice (some ⟨W0.heap.size, 0, none⟩) 0 0) [] := owned_made W0 [] W0.heap.size (Nat.le_refl _) (by unfold maxLen; simp)
  have hbe : Below W0.heap.size W0 (W0.alloc (.cells #[] 5)) := (Below.refl _ W0).alloc (Nat.le_refl _) _
  have HDe := Lib.hid ((HH.out.below (hb0.mono hB)).below (hbe.mono (by omega)))
  have c4 : W0.cell? ⟨w.heap.size, 4, none⟩ = some (.slice A nb cb) := cell_of_row W0 w.heap.size 4 _ _ _ hx0
  have c4' : (W0.alloc (.cells #[] 5)).cell? ⟨w.heap.size, 4, none⟩ = some (.slice A nb cb) := (hbe.cell (p := ⟨w.heap.size, 4, none⟩) (by show w.heap.size < W0.heap.size; omega)).trans c4
  have HX0 := Lib.hid hx0; clear hx0
  rw [hs0] at hoe hbe
  rw [hW0] at hoe hbe c4' HDe
  change Hid (Holds _ B A nb bs) at HDe
  have HW0 := Lib.hid hW0; clear hW0
  unfold ptr
  go_enter Try.func9, Try.ntmps9
  go_wp2_with (at_builtin; refine wpList_addall (o := ⟨some 14, _, _, _, _, _⟩) rfl _ _ rfl (w.heap.size + 1) _ [] rfl hoe B A nb cb bs rfl HDe.out (by simp; omega) (by first | exact hbe.size | (simp)) ?_)
  intro v2 W ho2 hb2
  rw [← HW0.out] at hb2 hbe
  rw [← hs0] at hbe hb2
  have hbW : Below W0.heap.size W0 W := hbe.trans hb2
  have hx : W.heap[w.heap.size]? = some (.cells (deedV op blk fill short A nb cb) 35 (0, 0)) := (hbW.block _ (by omega)).trans HX0.out
  have hbw : Below w.heap.size w W := hb0.trans (hbW.mono (by omega))
  have HX := Lib.hid hx
  have HO := Lib.hid ho2
  have HBW := Lib.hid hbw
  have d0 : W.cell? ⟨w.heap.size, 0, none⟩ = some (.int .i64 op) := cell_of_row W w.heap.size 0 _ _ _ hx
  have d4 : W.cell? ⟨w.heap.size, 4, none⟩ = some (.slice A nb cb) := cell_of_row W w.heap.size 4 _ _ _ hx
  clear hoe hbe c4 c4' HDe HX0 HW0 hx ho2 hb2 hbw hbW hb0 hs0
  have hbl := HH.out.1
  have hx3 := HX.out
  have d1 : W.cell? ⟨w.heap.size, 1, none⟩ = some (.int .i64 blk) := cell_of_row W w.heap.size 1 _ _ _ hx3
  clear hx3
  obtain ⟨A2, c2, rfl, -⟩ := HO.out.holds
  rw [hbl] at HO ⊢
  change Hid (Owned W (w.heap.size + 1) (.slice A2 nb c2) bs) at HO
  have hFl : ∀ k, F k → k < w.heap.size := fun k hk => h.lt k hk
  have hGl : ∀ k, G k → k < w.heap.size := fun k hk => h'.lt k hk
  have HFL := Lib.hid hFl; clear hFl
  have HGL := Lib.hid hGl; clear hGl
  have hf := crash_d A2 nb c2 W.heap.size bs d p c F W (h.turns (G := fun _ => False) (Turns.of_below HBW.out) (fun _ _ e => e)) (by omega) (Owned.held HO.out (fun k hk e => by have := HFL.out _ e; omega)) (by unfold maxLen; omega)
  unfold ptr at hf
  have HF := Lib.hid hf; clear hf
  go_wp2_with fail
  with_reducible refine HF.out.mono ?_
  clear HF
  rintro e W1 ⟨F1, rfl, h1, hs1, ht1⟩
  have hx4 : W1.heap[w.heap.size]? = some (.cells (deedV op blk fill short A nb cb) 35 (0, 0)) := (ht1.block _ (Array.getElem?_eq_some_iff.1 HX.out).1 (fun e => by have := HFL.out _ e; omega)).trans HX.out
  have e1 : W1.cell? ⟨w.heap.size, 1, none⟩ = some (.int .i64 blk) := cell_of_row W1 w.heap.size 1 _ _ _ hx4
  have e4 : W1.cell? ⟨w.heap.size, 4, none⟩ = some (.slice A nb cb) := cell_of_row W1 w.heap.size 4 _ _ _ hx4
  clear hx4
  have hf := rcrash_d A nb cb B bs d r c G W1 (h'.turns (G := fun k => F k) ((Turns.of_below (F := F) HBW.out).trans ht1 (fun _ _ e => e)) (fun k e e' => hap k e' e)) (by omega) (fun w' ht => Holds.turns (Holds.turns (HH.out.below (HBW.out.mono hB)) ht1 hF (by have := HBW.out.size; omega)) ht hG (by have := HBW.out.size; have := ht1.size; omega)) (by unfold maxLen; omega)
  unfold ptr at hf
  have HR := Lib.hid hf; clear hf
  go_wp2_with fail
  with_reducible refine HR.out.mono ?_
  clear HR
  rintro e W2 ⟨G1, rfl, h2, hs2, ht2⟩
  have hFl := HFL.out
  have hGl := HGL.out
  have htt : Turns (fun k => F k ∨ G k) W W2 := (ht1.mono (fun _ _ e => .inl e)).trans ht2 (fun _ _ e => .inr e)
  have hxl : w.heap.size < W.heap.size := (Array.getElem?_eq_some_iff.1 HX.out).1
  have hx2 : W2.heap[w.heap.size]? = some (.cells (deedV op blk fill short A nb cb) 35 (0, 0)) := (htt.block _ hxl (fun e => by
    rcases e with e | e
    · have := hFl _ e; omega
    · have := hGl _ e; omega)).trans HX.out
  clear e4
  have e4 : W2.cell? ⟨w.heap.size, 4, none⟩ = some (.slice A nb cb) := cell_of_row W2 w.heap.size 4 _ _ _ hx2
  have hb2 : Holds W2 B A nb bs := Holds.turns (HH.out.below (HBW.out.mono hB)) htt (fun k e => e.elim (hF k) (hG k)) (by omega)
  have ho2 : Owned W2 (w.heap.size + 1) (.slice A2 nb c2) bs := Owned.turns HO.out htt (fun k hk e => by
    rcases e with e | e
    · have := hFl _ e; omega
    · have := hGl _ e; omega)
  have hh2 : Holds W2 W.heap.size A2 nb bs := Owned.held HO.out (F := fun k => F k ∨ G k) (fun k hk e => by
    rcases e with e | e
    · have := hFl _ e; omega
    · have := hGl _ e; omega) W2 htt
  obtain ⟨S, hS⟩ : ∃ S : ByteArray, S = ⟨bs.toArray⟩ := ⟨_, rfl⟩
  have t1 := run_text W2 _ A2 nb c2 bs hh2
  have t2 := run_text W2 B A nb cb bs hb2
  rw [← hS] at t1 t2
  have HFIN : Hid (∃ F' G', Both w W2 p r (d.crash bs) (c + 1) B F G F' G') := Lib.hid ⟨F1, G1, both_fin hGl hap hF hG hB HBW.out (h1.more (by omega)) hs1 ht1 (h2.more (by omega)) hs2 ht2⟩
  clear hS htt hx2 hb2 ho2 hh2 d0 d4 d1 e1
  go_wp2
  go_ret
  exact ⟨rfl, HFIN.out⟩
set_option maxRecDepth 100000 in
set_option maxHeartbeats 2000000 in
theorem both_crash7 (op blk : Int) (fill : UInt8) (short : Bool) (A : Option Addr) (nb cb B : Nat) (bs : List UInt8) (d : Dk.Dk) (p r c : Nat) (F G : Nat → Prop) (w : World) (h : DiskAt w p d c F) (h' : RefDisk w r d c G) (hc : c < 1048576) (hap : ∀ k, F k → ¬ G k)
    (hF : ∀ k, F k → B ≤ k) (hG : ∀ k, G k → B ≤ k)
    (hbs : Holds w B A nb bs) (hB : B ≤ w.heap.size) (hnb : nb ≤ 140737488355328) (hop : bits .and .i64 op 7 = 7) :
    Calls Try.prog 9 #[ptr p, ptr r, .agg (deedV op blk fill short A nb cb)] w fun e w' => e = .returned (.bool true) ∧ ∃ F' G', Both w w' p r (d.crash bs) (c + 1) B F G F' G' := by
  have HH := Lib.hid hbs; clear hbs
  have hpl : p < w.heap.size := h.lt p (by obtain ⟨L, vs, vw, m, hL, _, hF⟩ := h; exact (hF p).2 (.inl rfl))
  obtain ⟨W0, hW0⟩ : ∃ W0, W0 = w.alloc (.cells (deedV op blk fill short A nb cb) 35) := ⟨_, rfl⟩
  have hb0 : Below w.heap.size w W0 := by rw [hW0]; exact (Below.refl _ w).alloc (Nat.le_refl _) _
  have hx0 : W0.heap[w.heap.size]? = some (.cells (deedV op blk fill short A nb cb) 35 (0, 0)) := by rw [hW0]; exact heap_alloc_new w _
  have hs0 : W0.heap.size = w.heap.size + 1 := by rw [hW0]; simp
  have hoe : Owned (W0.alloc (.cells #[] 5)) W0.heap.size (.slice (some ⟨W0.heap.size, 0, none⟩) 0 0) [] := owned_made W0 [] W0.heap.size (Nat.le_refl _) (by unfold maxLen; simp)
  have hbe : Below W0.heap.size W0 (W0.alloc (.cells #[] 5)) := (Below.refl _ W0).alloc (Nat.le_refl _) _
  have HDe := Lib.hid ((HH.out.below (hb0.mono hB)).below (hbe.mono (by omega)))
  have c4 : W0.cell? ⟨w.heap.size, 4, none⟩ = some (.slice A nb cb) := cell_of_row W0 w.heap.size 4 _ _ _ hx0
  have c4' : (W0.alloc (.cells #[] 5)).cell? ⟨w.heap.size, 4, none⟩ = some (.slice A nb cb) := (hbe.cell (p := ⟨w.heap.size, 4, none⟩) (by show w.heap.size < W0.heap.size; omega)).trans c4
  have HX0 := Lib.hid hx0; clear hx0
  rw [hs0] at hoe hbe
  rw [hW0] at hoe hbe c4' HDe
  change Hid (Holds _ B A nb bs) at HDe
  have HW0 := Lib.hid hW0; clear hW0
  unfold ptr
  go_enter Try.func9, Try.ntmps9
  go_wp2_with (at_builtin; refine wpList_addall (o := ⟨some 14, _, _, _, _, _⟩) rfl _ _ rfl (w.heap.size + 1) _ [] rfl hoe B A nb cb bs rfl HDe.out (by simp; omega) (by first | exact hbe.size | (simp)) ?_)
  intro v2 W ho2 hb2
  rw [← HW0.out] at hb2 hbe
  rw [← hs0] at hbe hb2
  have hbW : Below W0.heap.size W0 W := hbe.trans hb2
  have hx : W.heap[w.heap.size]? = some (.cells (deedV op blk fill short A nb cb) 35 (0, 0)) := (hbW.block _ (by omega)).trans HX0.out
  have hbw : Below w.heap.size w W := hb0.trans (hbW.mono (by omega))
  have HX := Lib.hid hx
  have HO := Lib.hid ho2
  have HBW := Lib.hid hbw
  have d0 : W.cell? ⟨w.heap.size, 0, none⟩ = some (.int .i64 op) := cell_of_row W w.heap.size 0 _ _ _ hx
  have d4 : W.cell? ⟨w.heap.size, 4, none⟩ = some (.slice A nb cb) := cell_of_row W w.heap.size 4 _ _ _ hx
  clear hoe hbe c4 c4' HDe HX0 HW0 hx ho2 hb2 hbw hbW hb0 hs0
  have hbl := HH.out.1
  have hx3 := HX.out
  have d1 : W.cell? ⟨w.heap.size, 1, none⟩ = some (.int .i64 blk) := cell_of_row W w.heap.size 1 _ _ _ hx3
  clear hx3
  obtain ⟨A2, c2, rfl, -⟩ := HO.out.holds
  rw [hbl] at HO ⊢
  change Hid (Owned W (w.heap.size + 1) (.slice A2 nb c2) bs) at HO
  have hFl : ∀ k, F k → k < w.heap.size := fun k hk => h.lt k hk
  have hGl : ∀ k, G k → k < w.heap.size := fun k hk => h'.lt k hk
  have HFL := Lib.hid hFl; clear hFl
  have HGL := Lib.hid hGl; clear hGl
  have hf := crash_d A2 nb c2 W.heap.size bs d p c F W (h.turns (G := fun _ => False) (Turns.of_below HBW.out) (fun _ _ e => e)) (by omega) (Owned.held HO.out (fun k hk e => by have := HFL.out _ e; omega)) (by unfold maxLen; omega)
  unfold ptr at hf
  have HF := Lib.hid hf; clear hf
  go_wp2_with fail
  with_reducible refine HF.out.mono ?_
  clear HF
  rintro e W1 ⟨F1, rfl, h1, hs1, ht1⟩
  have hx4 : W1.heap[w.heap.size]? = some (.cells (deedV op blk fill short A nb cb) 35 (0, 0)) := (ht1.block _ (Array.getElem?_eq_some_iff.1 HX.out).1 (fun e => by have := HFL.out _ e; omega)).trans HX.out
  have e1 : W1.cell? ⟨w.heap.size, 1, none⟩ = some (.int .i64 blk) := cell_of_row W1 w.heap.size 1 _ _ _ hx4
  have e4 : W1.cell? ⟨w.heap.size, 4, none⟩ = some (.slice A nb cb) := cell_of_row W1 w.heap.size 4 _ _ _ hx4
  clear hx4
  have hf := rcrash_d A nb cb B bs d r c G W1 (h'.turns (G := fun k => F k) ((Turns.of_below (F := F) HBW.out).trans ht1 (fun _ _ e => e)) (fun k e e' => hap k e' e)) (by omega) (fun w' ht => Holds.turns (Holds.turns (HH.out.below (HBW.out.mono hB)) ht1 hF (by have := HBW.out.size; omega)) ht hG (by have := HBW.out.size; have := ht1.size; omega)) (by unfold maxLen; omega)
  unfold ptr at hf
  have HR := Lib.hid hf; clear hf
  go_wp2_with fail
  with_reducible refine HR.out.mono ?_
  clear HR
  rintro e W2 ⟨G1, rfl, h2, hs2, ht2⟩
  have hFl := HFL.out
  have hGl := HGL.out
  have htt : Turns (fun k => F k ∨ G k) W W2 := (ht1.mono (fun _ _ e => .inl e)).trans ht2 (fun _ _ e => .inr e)
  have hxl : w.heap.size < W.heap.size := (Array.getElem?_eq_some_iff.1 HX.out).1
  have hx2 : W2.heap[w.heap.size]? = some (.cells (deedV op blk fill short A nb cb) 35 (0, 0)) := (htt.block _ hxl (fun e => by
    rcases e with e | e
    · have := hFl _ e; omega
    · have := hGl _ e; omega)).trans HX.out
  clear e4
  have e4 : W2.cell? ⟨w.heap.size, 4, none⟩ = some (.slice A nb cb) := cell_of_row W2 w.heap.size 4 _ _ _ hx2
  have hb2 : Holds W2 B A nb bs := Holds.turns (HH.out.below (HBW.out.mono hB)) htt (fun k e => e.elim (hF k) (hG k)) (by omega)
  have ho2 : Owned W2 (w.heap.size + 1) (.slice A2 nb c2) bs := Owned.turns HO.out htt (fun k hk e => by
    rcases e with e | e
    · have := hFl _ e; omega
    · have := hGl _ e; omega)
  have hh2 : Holds W2 W.heap.size A2 nb bs := Owned.held HO.out (F := fun k => F k ∨ G k) (fun k hk e => by
    rcases e with e | e
    · have := hFl _ e; omega
    · have := hGl _ e; omega) W2 htt
  obtain ⟨S, hS⟩ : ∃ S : ByteArray, S = ⟨bs.toArray⟩ := ⟨_, rfl⟩
  have t1 := run_text W2 _ A2 nb c2 bs hh2
  have t2 := run_text W2 B A nb cb bs hb2
  rw [← hS] at t1 t2
  have HFIN : Hid (∃ F' G', Both w W2 p r (d.crash bs) (c + 1) B F G F' G') := Lib.hid ⟨F1, G1, both_fin hGl hap hF hG hB HBW.out (h1.more (by omega)) hs1 ht1 (h2.more (by omega)) hs2 ht2⟩
  clear hS htt hx2 hb2 ho2 hh2 d0 d4 d1 e1
  go_wp2
  go_ret
  exact ⟨rfl, HFIN.out⟩
set_option maxRecDepth 100000 in
set_option maxHeartbeats 2000000 in
theorem both_fuse (op blk : Int) (fill : UInt8) (short : Bool) (A : Option Addr) (nb cb B : Nat) (bs : List UInt8) (d : Dk.Dk) (p r c : Nat) (F G : Nat → Prop) (w : World) (h : DiskAt w p d c F) (h' : RefDisk w r d c G) (_hc : c < 1048576) (hap : ∀ k, F k → ¬ G k)
    (hF : ∀ k, F k → B ≤ k) (hG : ∀ k, G k → B ≤ k)
    (hbs : Holds w B A nb bs) (hB : B ≤ w.heap.size) (hnb : nb ≤ 140737488355328) (hop : bits .and .i64 op 7 = 6) (hbk : blk ≤ 9223372036854775807) :
    Calls Try.prog 9 #[ptr p, ptr r, .agg (deedV op blk fill short A nb cb)] w fun e w' => e = .returned (.bool true) ∧ ∃ F' G', Both w w' p r (d.setFuse blk) (c + 1) B F G F' G' := by
  have HH := Lib.hid hbs; clear hbs
  have hpl : p < w.heap.size := h.lt p (by obtain ⟨L, vs, vw, m, hL, _, hF⟩ := h; exact (hF p).2 (.inl rfl))
  obtain ⟨W0, hW0⟩ : ∃ W0, W0 = w.alloc (.cells (deedV op blk fill short A nb cb) 35) := ⟨_, rfl⟩
  have hb0 : Below w.heap.size w W0 := by rw [hW0]; exact (Below.refl _ w).alloc (Nat.le_refl _) _
  have hx0 : W0.heap[w.heap.size]? = some (.cells (deedV op blk fill short A nb cb) 35 (0, 0)) := by rw [hW0]; exact heap_alloc_new w _
  have hs0 : W0.heap.size = w.heap.size + 1 := by rw [hW0]; simp
  have hoe : Owned (W0.alloc (.cells #[] 5)) W0.heap.size (.slice (some ⟨W0.heap.size, 0, none⟩) 0 0) [] := owned_made W0 [] W0.heap.size (Nat.le_refl _) (by unfold maxLen; simp)
  have hbe : Below W0.heap.size W0 (W0.alloc (.cells #[] 5)) := (Below.refl _ W0).alloc (Nat.le_refl _) _
  have HDe := Lib.hid ((HH.out.below (hb0.mono hB)).below (hbe.mono (by omega)))
  have c4 : W0.cell? ⟨w.heap.size, 4, none⟩ = some (.slice A nb cb) := cell_of_row W0 w.heap.size 4 _ _ _ hx0
  have c4' : (W0.alloc (.cells #[] 5)).cell? ⟨w.heap.size, 4, none⟩ = some (.slice A nb cb) := (hbe.cell (p := ⟨w.heap.size, 4, none⟩) (by show w.heap.size < W0.heap.size; omega)).trans c4
  have HX0 := Lib.hid hx0; clear hx0
  rw [hs0] at hoe hbe
  rw [hW0] at hoe hbe c4' HDe
  change Hid (Holds _ B A nb bs) at HDe
  have HW0 := Lib.hid hW0; clear hW0
  unfold ptr
  go_enter Try.func9, Try.ntmps9
  go_wp2_with (at_builtin; refine wpList_addall (o := ⟨some 14, _, _, _, _, _⟩) rfl _ _ rfl (w.heap.size + 1) _ [] rfl hoe B A nb cb bs rfl HDe.out (by simp; omega) (by first | exact hbe.size | (simp)) ?_)
  intro v2 W ho2 hb2
  rw [← HW0.out] at hb2 hbe
  rw [← hs0] at hbe hb2
  have hbW : Below W0.heap.size W0 W := hbe.trans hb2
  have hx : W.heap[w.heap.size]? = some (.cells (deedV op blk fill short A nb cb) 35 (0, 0)) := (hbW.block _ (by omega)).trans HX0.out
  have hbw : Below w.heap.size w W := hb0.trans (hbW.mono (by omega))
  have HX := Lib.hid hx
  have HO := Lib.hid ho2
  have HBW := Lib.hid hbw
  have d0 : W.cell? ⟨w.heap.size, 0, none⟩ = some (.int .i64 op) := cell_of_row W w.heap.size 0 _ _ _ hx
  have d4 : W.cell? ⟨w.heap.size, 4, none⟩ = some (.slice A nb cb) := cell_of_row W w.heap.size 4 _ _ _ hx
  clear hoe hbe c4 c4' HDe HX0 HW0 hx ho2 hb2 hbw hbW hb0 hs0
  have hbl := HH.out.1
  have hx3 := HX.out
  have d1 : W.cell? ⟨w.heap.size, 1, none⟩ = some (.int .i64 blk) := cell_of_row W w.heap.size 1 _ _ _ hx3
  clear hx3
  obtain ⟨A2, c2, rfl, -⟩ := HO.out.holds
  rw [hbl] at HO ⊢
  change Hid (Owned W (w.heap.size + 1) (.slice A2 nb c2) bs) at HO
  have hFl : ∀ k, F k → k < w.heap.size := fun k hk => h.lt k hk
  have hGl : ∀ k, G k → k < w.heap.size := fun k hk => h'.lt k hk
  have HFL := Lib.hid hFl; clear hFl
  have HGL := Lib.hid hGl; clear hGl
  have hf := fuse_d blk hbk d p c F W (h.turns (G := fun _ => False) (Turns.of_below HBW.out) (fun _ _ e => e))
  unfold ptr at hf
  have HF := Lib.hid hf; clear hf
  go_wp2_with fail
  with_reducible refine HF.out.mono ?_
  clear HF
  rintro e W1 ⟨F1, rfl, h1, hs1, ht1⟩
  have hx4 : W1.heap[w.heap.size]? = some (.cells (deedV op blk fill short A nb cb) 35 (0, 0)) := (ht1.block _ (Array.getElem?_eq_some_iff.1 HX.out).1 (fun e => by have := HFL.out _ e; omega)).trans HX.out
  have e1 : W1.cell? ⟨w.heap.size, 1, none⟩ = some (.int .i64 blk) := cell_of_row W1 w.heap.size 1 _ _ _ hx4
  have e4 : W1.cell? ⟨w.heap.size, 4, none⟩ = some (.slice A nb cb) := cell_of_row W1 w.heap.size 4 _ _ _ hx4
  clear hx4
  have hf := rfuse_d blk hbk d r c G W1 (h'.turns (G := fun k => F k) ((Turns.of_below (F := F) HBW.out).trans ht1 (fun _ _ e => e)) (fun k e e' => hap k e' e))
  unfold ptr at hf
  have HR := Lib.hid hf; clear hf
  go_wp2_with fail
  with_reducible refine HR.out.mono ?_
  clear HR
  rintro e W2 ⟨G1, rfl, h2, hs2, ht2⟩
  have hFl := HFL.out
  have hGl := HGL.out
  have htt : Turns (fun k => F k ∨ G k) W W2 := (ht1.mono (fun _ _ e => .inl e)).trans ht2 (fun _ _ e => .inr e)
  have hxl : w.heap.size < W.heap.size := (Array.getElem?_eq_some_iff.1 HX.out).1
  have hx2 : W2.heap[w.heap.size]? = some (.cells (deedV op blk fill short A nb cb) 35 (0, 0)) := (htt.block _ hxl (fun e => by
    rcases e with e | e
    · have := hFl _ e; omega
    · have := hGl _ e; omega)).trans HX.out
  clear e4
  have e4 : W2.cell? ⟨w.heap.size, 4, none⟩ = some (.slice A nb cb) := cell_of_row W2 w.heap.size 4 _ _ _ hx2
  have hb2 : Holds W2 B A nb bs := Holds.turns (HH.out.below (HBW.out.mono hB)) htt (fun k e => e.elim (hF k) (hG k)) (by omega)
  have ho2 : Owned W2 (w.heap.size + 1) (.slice A2 nb c2) bs := Owned.turns HO.out htt (fun k hk e => by
    rcases e with e | e
    · have := hFl _ e; omega
    · have := hGl _ e; omega)
  have hh2 : Holds W2 W.heap.size A2 nb bs := Owned.held HO.out (F := fun k => F k ∨ G k) (fun k hk e => by
    rcases e with e | e
    · have := hFl _ e; omega
    · have := hGl _ e; omega) W2 htt
  obtain ⟨S, hS⟩ : ∃ S : ByteArray, S = ⟨bs.toArray⟩ := ⟨_, rfl⟩
  have t1 := run_text W2 _ A2 nb c2 bs hh2
  have t2 := run_text W2 B A nb cb bs hb2
  rw [← hS] at t1 t2
  have HFIN : Hid (∃ F' G', Both w W2 p r (d.setFuse blk) (c + 1) B F G F' G') := Lib.hid ⟨F1, G1, both_fin hGl hap hF hG hB HBW.out (h1.more (by omega)) hs1 ht1 (h2.more (by omega)) hs2 ht2⟩
  clear hS htt hx2 hb2 ho2 hh2 d0 d4 d1 e1
  go_wp2
  go_ret
  exact ⟨rfl, HFIN.out⟩
end Go.Proofs.Ytkgpdpmdkkmifaa.Disk
