/- A write done to both: op & 7 = 0, 4, 5; and any deed. -/
import Derived.Test.YtkgpdpmdkkmifaaDkBothW
namespace Go.Proofs.Ytkgpdpmdkkmifaa.Disk
set_option maxRecDepth 20000
open Go.RowKit
open Go.Proofs.Ytkgpdpmdkkmifaa.Mem

set_option maxRecDepth 100000 in
set_option maxHeartbeats 2000000 in
theorem both_write0 (op blk : Int) (fill : UInt8) (short : Bool) (A : Option Addr) (nb cb B : Nat) (bs : List UInt8) (d : Dk.Dk) (p r c : Nat) (F G : Nat → Prop) (w : World) (h : DiskAt w p d c F) (h' : RefDisk w r d c G) (hc : c < 1048576) (hap : ∀ k, F k → ¬ G k)
    (hF : ∀ k, F k → B ≤ k) (hG : ∀ k, G k → B ≤ k)
    (hbs : Holds w B A nb bs) (hB : B ≤ w.heap.size) (hnb : nb ≤ 140737488355328) (hop : bits .and .i64 op 7 = 0) :
    Calls Try.prog 9 #[ptr p, ptr r, .agg (deedV op blk fill short A nb cb)] w fun e w' => e = .returned (.bool true) ∧ ∃ F' G', Both w w' p r (wdk d blk fill short) (c + 1) B F G F' G' := by
  have HH := Lib.hid hbs; clear hbs
  have hpl : p < w.heap.size := h.lt p (by obtain ⟨L, vs, vw, m, hL, _, hF⟩ := h; exact (hF p).2 (.inl rfl))
  obtain ⟨W0, hW0⟩ : ∃ W0, W0 = w.alloc (.cells (deedV op blk fill short A nb cb) 35) := ⟨_, rfl⟩
  have hb0 : Below w.heap.size w W0 := by rw [hW0]; exact (Below.refl _ w).alloc (Nat.le_refl _) _
  have hx0 : W0.heap[w.heap.size]? = some (.cells (deedV op blk fill short A nb cb) 35 (0, 0)) := by rw [hW0]; exact heap_alloc_new w _
  have hs0 : W0.heap.size = w.heap.size + 1 := by rw [hW0]; simp
  have hoe : Owned (W0.alloc (.cells #[] 5)) W0.heap.size (.slice (some ⟨W0.heap.size, 0, none⟩) 0 0) [] := owned_made W0 [] W0.heap.size (Nat.le_refl _) (by unfold maxLen; simp)
  have hbe : Below W0.heap.size W0 (W0.alloc (.cells #[] 5)) := (Below.refl _ W0).alloc (Nat.le_refl _) _
  have HDe := Lib.hid ((HH.out.below (hb0.mono hB)).below (hbe.mono (by omega)))
  have c4 : W0.cell? ⟨w.heap.size, 4, none⟩ = some (.slice A nb cb) := cell_of_row W0 w.heap.size 4 _ _ _ hx0
  have c4' : (W0.alloc (.cells #[] 5)).cell? ⟨w.heap.size, 4, none⟩ = some (.slice A nb cb) := (hbe.cell (p := ⟨w.heap.size, 4, none⟩) (by show w.heap.size < W0.heap.size; omega)).trans c4
  have HX0 := Lib.hid hx0; clear hx0
  rw [hs0] at hoe hbe
  rw [hW0] at hoe hbe c4' HDe
  change Hid (Holds _ B A nb bs) at HDe
  have HW0 := Lib.hid hW0; clear hW0
  unfold ptr
  go_enter Try.func9, Try.ntmps9
  go_wp2_with (at_builtin; refine wpList_addall (o := ⟨some 14, _, _, _, _, _⟩) rfl _ _ rfl (w.heap.size + 1) _ [] rfl hoe B A nb cb bs rfl HDe.out (by simp; omega) (by first | exact hbe.size | (simp)) ?_)
  intro v2 W ho2 hb2
  rw [← HW0.out] at hb2 hbe
  rw [← hs0] at hbe hb2
  have hbW : Below W0.heap.size W0 W := hbe.trans hb2
  have hx : W.heap[w.heap.size]? = some (.cells (deedV op blk fill short A nb cb) 35 (0, 0)) := (hbW.block _ (by omega)).trans HX0.out
  have hbw : Below w.heap.size w W := hb0.trans (hbW.mono (by omega))
  have HX := Lib.hid hx
  have HO := Lib.hid ho2
  have HBW := Lib.hid hbw
  have d0 : W.cell? ⟨w.heap.size, 0, none⟩ = some (.int .i64 op) := cell_of_row W w.heap.size 0 _ _ _ hx
  have d4 : W.cell? ⟨w.heap.size, 4, none⟩ = some (.slice A nb cb) := cell_of_row W w.heap.size 4 _ _ _ hx
  clear hoe hbe c4 c4' HDe HX0 HW0 hx ho2 hb2 hbw hbW hb0 hs0
  have hx3 := HX.out
  have d1 : W.cell? ⟨w.heap.size, 1, none⟩ = some (.int .i64 blk) := cell_of_row W w.heap.size 1 _ _ _ hx3
  have d2 : W.cell? ⟨w.heap.size, 2, none⟩ = some (.int .u8 (fill.toNat : Int)) := cell_of_row W w.heap.size 2 _ _ _ hx3
  have d3 : W.cell? ⟨w.heap.size, 3, none⟩ = some (.bool short) := cell_of_row W w.heap.size 3 _ _ _ hx3
  clear hx3
  have hFl : ∀ k, F k → k < w.heap.size := fun k hk => h.lt k hk
  have hGl : ∀ k, G k → k < w.heap.size := fun k hk => h'.lt k hk
  have HFL := Lib.hid hFl; clear hFl
  have HGL := Lib.hid hGl; clear hGl
  obtain ⟨rv, hrv⟩ : ∃ rv, rv = wret d.stable.length blk short := ⟨_, rfl⟩
  have HRV := Lib.hid hrv; clear hrv
  have hf := data_any op blk fill short A nb cb W
  unfold deedV at hf
  have HDA := Lib.hid hf; clear hf
  go_wp2_with fail
  with_reducible refine HDA.out.mono ?_
  clear HDA
  rintro e V ⟨b, rfl, hbl, hbh, hbV⟩
  obtain ⟨N, hN⟩ : ∃ N, N = (dataL fill short).length := ⟨_, rfl⟩
  have hN2 : N ≤ 256 := by rw [hN, dataL_len]; exact (dataN_le short).2
  have hwV : Below w.heap.size w V := HBW.out.trans (hbV.mono HBW.out.size)
  have hxl : w.heap.size < W.heap.size := (Array.getElem?_eq_some_iff.1 HX.out).1
  have hbl2 : b < V.heap.size := (Array.getElem?_eq_some_iff.1 hbh).1
  have hVX : V.heap[w.heap.size]? = some (.cells (deedV op blk fill short A nb cb) 35 (0, 0)) := (hbV.block _ hxl).trans HX.out
  have hS0 : V.drew.cell? ⟨w.heap.size, 1, none⟩ = some (.int .i64 blk) := cell_of_row V w.heap.size 1 _ _ _ hVX
  have hsz : w.heap.size < V.heap.size := (Array.getElem?_eq_some_iff.1 hVX).1
  have hrb : V.drew.rangeAt b 0 ((dataL fill short).map byteV) := range_of_heap hbh
  have hf := writeB_d blk b fill short d p c F V.drew (h.turns (G := fun _ => False) (Turns.of_below hwV).drew (fun _ _ e => e)) hrb (by omega)
  unfold ptr at hf
  rw [← hN, ← HRV.out] at hf
  have HW1 := Lib.hid hf; clear hf
  have HRB := Lib.hid hrb; clear hrb
  have HBH := Lib.hid hbh; clear hbh
  have HWV := Lib.hid hwV; clear hwV
  have HXF : Hid (¬ F w.heap.size) := Lib.hid (fun e => by have := HFL.out _ e; omega)
  have HXG : Hid (¬ G w.heap.size) := Lib.hid (fun e => by have := HGL.out _ e; omega)
  have HBF : Hid (¬ F b) := Lib.hid (fun e => by have := HFL.out _ e; have := HBW.out.size; omega)
  have HSZ : Hid (w.heap.size < V.drew.heap.size) := Lib.hid hsz
  have HBL2 : Hid (b < V.drew.heap.size) := Lib.hid hbl2
  have HRW : Hid (∀ U1 F1, Turns F V.drew U1 → F1 = F → Calls Try.prog 25 #[.pointer (some ⟨r, 0, none⟩), .int .i64 blk, .slice (some ⟨b, 0, none⟩) N N] U1 (RNow U1 r (wdk d blk fill short) (c + 1) G (.int .i64 rv))) := Lib.hid (fun U1 _ ht1 _ => by
    have hz1 : V.heap.size ≤ U1.heap.size := ht1.size
    have hcall := rwriteB_d blk b fill short d r c G U1 (h'.turns (G := fun k => F k) ((Turns.of_below (F := F) HWV.out).drew.trans ht1 (fun _ _ e => e)) (fun k e e' => hap k e' e)) (range_turns HRB.out ht1 (show b < V.drew.heap.size from hbl2) HBF.out) (by omega) (by omega)
    unfold ptr at hcall
    rw [← hN, ← HRV.out] at hcall
    exact hcall)
  have hNN := hN.symm
  rw [hNN]
  have HN := Lib.hid hN; clear hN hNN hVX hbV d0 d1 d2 d3 d4
  go_wp2
  go_region_held (fun U => U.cell? ⟨w.heap.size, 1, none⟩ = some (.int .i64 blk)) (assumption)
    (first
      | (go_at_call 17
         have hcall := HW1.out
         with_reducible refine hcall.mono ?_
         clear hcall
         rintro e U1 ⟨F1, rfl, h1, hs1, ht1⟩
         have hS1 : U1.cell? ⟨w.heap.size, 1, none⟩ = some (.int .i64 blk) := (World.cell?_of_block (ht1.block _ HSZ.out HXF.out)).trans hS0)
      | (go_at_call 25
         have hcall := HRW.out U1 F ht1 rfl
         with_reducible refine hcall.mono ?_
         clear hcall
         rintro e U2 ⟨G1, rfl, h2, hs2, ht2⟩
         have hS2 : U2.cell? ⟨w.heap.size, 1, none⟩ = some (.int .i64 blk) := (World.cell?_of_block (ht2.block _ (Nat.lt_of_lt_of_le HSZ.out ht1.size) HXG.out)).trans hS1))
  have hwd : Below w.heap.size w V.drew := HWV.out.drew
  have hBO : Both w U2 p r (wdk d blk fill short) (c + 1) B F G F1 G1 := both_fin HGL.out hap hF hG hB hwd h1 hs1 ht1 h2 hs2 ht2
  have hgb : ¬ G b := fun e => by have := HGL.out _ e; omega
  have hbU1 : b < U1.heap.size := Nat.lt_of_lt_of_le HBL2.out ht1.size
  have hnF : ¬ F1 b := fun e => by
    rcases hs1 b e with e | e
    · exact HBF.out e
    · have := HBL2.out; omega
  have hnG : ¬ G1 b := fun e => by
    rcases hs2 b e with e | e
    · exact hgb e
    · omega
  have hbb : U2.heap[b]? = some (.cells ((dataL fill short).map byteV).toArray 5 (0, 0)) := (ht2.block _ hbU1 hgb).trans ((ht1.block _ HBL2.out HBF.out).trans HBH.out)
  have hsN : (((dataL fill short).map byteV).toArray).size = N := by rw [HN.out]; simp
  have HBO := Lib.hid hBO; clear hBO
  have HNF := Lib.hid hnF; clear hnF
  have HNG := Lib.hid hnG; clear hnG
  have HB3 : Hid (∃ cur, U2.heap[b]? = some (.cells cur 5 (0, 0)) ∧ cur.size = N) := Lib.hid ⟨_, hbb, hsN⟩
  have hwb : w.heap.size ≤ b := by omega
  clear hwd hgb hbU1 hbb hsN HW1 HRW h1 h2 hs1 hs2 ht1 ht2 hS0 hS1 hS2 HRB HBH HX HO HH
  go_wp2
  go_loopw [10] (fun i wr => ∃ k : Nat, k ≤ N ∧ i = .int .i64 (k : Int) ∧ Turns (fun q => q = b) U2 wr ∧ ∃ cur, wr.heap[b]? = some (.cells cur 5 (0, 0)) ∧ cur.size = N) (fun i _ => N - (intOf i).toNat)
  case atStart => exact ⟨0, by omega, rfl, Turns.refl _ _, HB3.out⟩
  case round =>
    obtain ⟨k, hk, rfl, hT, cur, hcur, hcs⟩ := hrel
    have hk0 : (0 : Int) ≤ (k : Int) := by omega
    have HT := Lib.hid hT; clear hT
    by_cases hlt : k < N
    · have hkn : (k : Int) < (N : Int) := by omega
      obtain ⟨u, hu⟩ : ∃ u, wr.cell? ⟨b, k, none⟩ = some u := ⟨cur[k]'(by omega), by rw [cell_of_row _ _ _ _ _ _ hcur]; simp⟩
      have f1 := frozen_of_row wr b k _ _ hcur
      have hset := heap_setCell_same wr b k _ _ (.int .u8 99) hcur
      have HSET := Lib.hid hset; clear hset
      have HCS := Lib.hid hcs; clear hcs
      clear hcur
      go_wp2
      go_roundw
      case rel => exact ⟨k + 1, by omega, by go_num, HT.out.setCell (p := ⟨b, k, none⟩) (fun _ => rfl) _, _, HSET.out, by simp [HCS.out]⟩
      case measure => simp [intOf]; omega
    · obtain rfl : k = N := by omega
      have HFIN := Lib.hid (HBO.out.next HT.out HNF.out HNG.out hwb)
      clear hcur hcs
      go_wp2
      go_ret
      exact ⟨rfl, _, _, HFIN.out⟩

set_option maxRecDepth 100000 in
set_option maxHeartbeats 2000000 in
theorem both_write4 (op blk : Int) (fill : UInt8) (short : Bool) (A : Option Addr) (nb cb B : Nat) (bs : List UInt8) (d : Dk.Dk) (p r c : Nat) (F G : Nat → Prop) (w : World) (h : DiskAt w p d c F) (h' : RefDisk w r d c G) (hc : c < 1048576) (hap : ∀ k, F k → ¬ G k)
    (hF : ∀ k, F k → B ≤ k) (hG : ∀ k, G k → B ≤ k)
    (hbs : Holds w B A nb bs) (hB : B ≤ w.heap.size) (hnb : nb ≤ 140737488355328) (hop : bits .and .i64 op 7 = 4) :
    Calls Try.prog 9 #[ptr p, ptr r, .agg (deedV op blk fill short A nb cb)] w fun e w' => e = .returned (.bool true) ∧ ∃ F' G', Both w w' p r (wdk d blk fill short) (c + 1) B F G F' G' := by
  have HH := Lib.hid hbs; clear hbs
  have hpl : p < w.heap.size := h.lt p (by obtain ⟨L, vs, vw, m, hL, _, hF⟩ := h; exact (hF p).2 (.inl rfl))
  obtain ⟨W0, hW0⟩ : ∃ W0, W0 = w.alloc (.cells (deedV op blk fill short A nb cb) 35) := ⟨_, rfl⟩
  have hb0 : Below w.heap.size w W0 := by rw [hW0]; exact (Below.refl _ w).alloc (Nat.le_refl _) _
  have hx0 : W0.heap[w.heap.size]? = some (.cells (deedV op blk fill short A nb cb) 35 (0, 0)) := by rw [hW0]; exact heap_alloc_new w _
  have hs0 : W0.heap.size = w.heap.size + 1 := by rw [hW0]; simp
  have hoe : Owned (W0.alloc (.cells #[] 5)) W0.heap.size (.slice (some ⟨W0.heap.size, 0, none⟩) 0 0) [] := owned_made W0 [] W0.heap.size (Nat.le_refl _) (by unfold maxLen; simp)
  have hbe : Below W0.heap.size W0 (W0.alloc (.cells #[] 5)) := (Below.refl _ W0).alloc (Nat.le_refl _) _
  have HDe := Lib.hid ((HH.out.below (hb0.mono hB)).below (hbe.mono (by omega)))
  have c4 : W0.cell? ⟨w.heap.size, 4, none⟩ = some (.slice A nb cb) := cell_of_row W0 w.heap.size 4 _ _ _ hx0
  have c4' : (W0.alloc (.cells #[] 5)).cell? ⟨w.heap.size, 4, none⟩ = some (.slice A nb cb) := (hbe.cell (p := ⟨w.heap.size, 4, none⟩) (by show w.heap.size < W0.heap.size; omega)).trans c4
  have HX0 := Lib.hid hx0; clear hx0
  rw [hs0] at hoe hbe
  rw [hW0] at hoe hbe c4' HDe
  change Hid (Holds _ B A nb bs) at HDe
  have HW0 := Lib.hid hW0; clear hW0
  unfold ptr
  go_enter Try.func9, Try.ntmps9
  go_wp2_with (at_builtin; refine wpList_addall (o := ⟨some 14, _, _, _, _, _⟩) rfl _ _ rfl (w.heap.size + 1) _ [] rfl hoe B A nb cb bs rfl HDe.out (by simp; omega) (by first | exact hbe.size | (simp)) ?_)
  intro v2 W ho2 hb2
  rw [← HW0.out] at hb2 hbe
  rw [← hs0] at hbe hb2
  have hbW : Below W0.heap.size W0 W := hbe.trans hb2
  have hx : W.heap[w.heap.size]? = some (.cells (deedV op blk fill short A nb cb) 35 (0, 0)) := (hbW.block _ (by omega)).trans HX0.out
  have hbw : Below w.heap.size w W := hb0.trans (hbW.mono (by omega))
  have HX := Lib.hid hx
  have HO := Lib.hid ho2
  have HBW := Lib.hid hbw
  have d0 : W.cell? ⟨w.heap.size, 0, none⟩ = some (.int .i64 op) := cell_of_row W w.heap.size 0 _ _ _ hx
  have d4 : W.cell? ⟨w.heap.size, 4, none⟩ = some (.slice A nb cb) := cell_of_row W w.heap.size 4 _ _ _ hx
  clear hoe hbe c4 c4' HDe HX0 HW0 hx ho2 hb2 hbw hbW hb0 hs0
  have hx3 := HX.out
  have d1 : W.cell? ⟨w.heap.size, 1, none⟩ = some (.int .i64 blk) := cell_of_row W w.heap.size 1 _ _ _ hx3
  have d2 : W.cell? ⟨w.heap.size, 2, none⟩ = some (.int .u8 (fill.toNat : Int)) := cell_of_row W w.heap.size 2 _ _ _ hx3
  have d3 : W.cell? ⟨w.heap.size, 3, none⟩ = some (.bool short) := cell_of_row W w.heap.size 3 _ _ _ hx3
  clear hx3
  have hFl : ∀ k, F k → k < w.heap.size := fun k hk => h.lt k hk
  have hGl : ∀ k, G k → k < w.heap.size := fun k hk => h'.lt k hk
  have HFL := Lib.hid hFl; clear hFl
  have HGL := Lib.hid hGl; clear hGl
  obtain ⟨rv, hrv⟩ : ∃ rv, rv = wret d.stable.length blk short := ⟨_, rfl⟩
  have HRV := Lib.hid hrv; clear hrv
  have hf := data_any op blk fill short A nb cb W
  unfold deedV at hf
  have HDA := Lib.hid hf; clear hf
  go_wp2_with fail
  with_reducible refine HDA.out.mono ?_
  clear HDA
  rintro e V ⟨b, rfl, hbl, hbh, hbV⟩
  obtain ⟨N, hN⟩ : ∃ N, N = (dataL fill short).length := ⟨_, rfl⟩
  have hN2 : N ≤ 256 := by rw [hN, dataL_len]; exact (dataN_le short).2
  have hwV : Below w.heap.size w V := HBW.out.trans (hbV.mono HBW.out.size)
  have hxl : w.heap.size < W.heap.size := (Array.getElem?_eq_some_iff.1 HX.out).1
  have hbl2 : b < V.heap.size := (Array.getElem?_eq_some_iff.1 hbh).1
  have hVX : V.heap[w.heap.size]? = some (.cells (deedV op blk fill short A nb cb) 35 (0, 0)) := (hbV.block _ hxl).trans HX.out
  have hS0 : V.drew.cell? ⟨w.heap.size, 1, none⟩ = some (.int .i64 blk) := cell_of_row V w.heap.size 1 _ _ _ hVX
  have hsz : w.heap.size < V.heap.size := (Array.getElem?_eq_some_iff.1 hVX).1
  have hrb : V.drew.rangeAt b 0 ((dataL fill short).map byteV) := range_of_heap hbh
  have hf := writeB_d blk b fill short d p c F V.drew (h.turns (G := fun _ => False) (Turns.of_below hwV).drew (fun _ _ e => e)) hrb (by omega)
  unfold ptr at hf
  rw [← hN, ← HRV.out] at hf
  have HW1 := Lib.hid hf; clear hf
  have HRB := Lib.hid hrb; clear hrb
  have HBH := Lib.hid hbh; clear hbh
  have HWV := Lib.hid hwV; clear hwV
  have HXF : Hid (¬ F w.heap.size) := Lib.hid (fun e => by have := HFL.out _ e; omega)
  have HXG : Hid (¬ G w.heap.size) := Lib.hid (fun e => by have := HGL.out _ e; omega)
  have HBF : Hid (¬ F b) := Lib.hid (fun e => by have := HFL.out _ e; have := HBW.out.size; omega)
  have HSZ : Hid (w.heap.size < V.drew.heap.size) := Lib.hid hsz
  have HBL2 : Hid (b < V.drew.heap.size) := Lib.hid hbl2
  have HRW : Hid (∀ U1 F1, Turns F V.drew U1 → F1 = F → Calls Try.prog 25 #[.pointer (some ⟨r, 0, none⟩), .int .i64 blk, .slice (some ⟨b, 0, none⟩) N N] U1 (RNow U1 r (wdk d blk fill short) (c + 1) G (.int .i64 rv))) := Lib.hid (fun U1 _ ht1 _ => by
    have hz1 : V.heap.size ≤ U1.heap.size := ht1.size
    have hcall := rwriteB_d blk b fill short d r c G U1 (h'.turns (G := fun k => F k) ((Turns.of_below (F := F) HWV.out).drew.trans ht1 (fun _ _ e => e)) (fun k e e' => hap k e' e)) (range_turns HRB.out ht1 (show b < V.drew.heap.size from hbl2) HBF.out) (by omega) (by omega)
    unfold ptr at hcall
    rw [← hN, ← HRV.out] at hcall
    exact hcall)
  have hNN := hN.symm
  rw [hNN]
  have HN := Lib.hid hN; clear hN hNN hVX hbV d0 d1 d2 d3 d4
  go_wp2
  go_region_held (fun U => U.cell? ⟨w.heap.size, 1, none⟩ = some (.int .i64 blk)) (assumption)
    (first
      | (go_at_call 17
         have hcall := HW1.out
         with_reducible refine hcall.mono ?_
         clear hcall
         rintro e U1 ⟨F1, rfl, h1, hs1, ht1⟩
         have hS1 : U1.cell? ⟨w.heap.size, 1, none⟩ = some (.int .i64 blk) := (World.cell?_of_block (ht1.block _ HSZ.out HXF.out)).trans hS0)
      | (go_at_call 25
         have hcall := HRW.out U1 F ht1 rfl
         with_reducible refine hcall.mono ?_
         clear hcall
         rintro e U2 ⟨G1, rfl, h2, hs2, ht2⟩
         have hS2 : U2.cell? ⟨w.heap.size, 1, none⟩ = some (.int .i64 blk) := (World.cell?_of_block (ht2.block _ (Nat.lt_of_lt_of_le HSZ.out ht1.size) HXG.out)).trans hS1))
  have hwd : Below w.heap.size w V.drew := HWV.out.drew
  have hBO : Both w U2 p r (wdk d blk fill short) (c + 1) B F G F1 G1 := both_fin HGL.out hap hF hG hB hwd h1 hs1 ht1 h2 hs2 ht2
  have hgb : ¬ G b := fun e => by have := HGL.out _ e; omega
  have hbU1 : b < U1.heap.size := Nat.lt_of_lt_of_le HBL2.out ht1.size
  have hnF : ¬ F1 b := fun e => by
    rcases hs1 b e with e | e
    · exact HBF.out e
    · have := HBL2.out; omega
  have hnG : ¬ G1 b := fun e => by
    rcases hs2 b e with e | e
    · exact hgb e
    · omega
  have hbb : U2.heap[b]? = some (.cells ((dataL fill short).map byteV).toArray 5 (0, 0)) := (ht2.block _ hbU1 hgb).trans ((ht1.block _ HBL2.out HBF.out).trans HBH.out)
  have hsN : (((dataL fill short).map byteV).toArray).size = N := by rw [HN.out]; simp
  have HBO := Lib.hid hBO; clear hBO
  have HNF := Lib.hid hnF; clear hnF
  have HNG := Lib.hid hnG; clear hnG
  have HB3 : Hid (∃ cur, U2.heap[b]? = some (.cells cur 5 (0, 0)) ∧ cur.size = N) := Lib.hid ⟨_, hbb, hsN⟩
  have hwb : w.heap.size ≤ b := by omega
  clear hwd hgb hbU1 hbb hsN HW1 HRW h1 h2 hs1 hs2 ht1 ht2 hS0 hS1 hS2 HRB HBH HX HO HH
  go_wp2
  go_loopw [10] (fun i wr => ∃ k : Nat, k ≤ N ∧ i = .int .i64 (k : Int) ∧ Turns (fun q => q = b) U2 wr ∧ ∃ cur, wr.heap[b]? = some (.cells cur 5 (0, 0)) ∧ cur.size = N) (fun i _ => N - (intOf i).toNat)
  case atStart => exact ⟨0, by omega, rfl, Turns.refl _ _, HB3.out⟩
  case round =>
    obtain ⟨k, hk, rfl, hT, cur, hcur, hcs⟩ := hrel
    have hk0 : (0 : Int) ≤ (k : Int) := by omega
    have HT := Lib.hid hT; clear hT
    by_cases hlt : k < N
    · have hkn : (k : Int) < (N : Int) := by omega
      obtain ⟨u, hu⟩ : ∃ u, wr.cell? ⟨b, k, none⟩ = some u := ⟨cur[k]'(by omega), by rw [cell_of_row _ _ _ _ _ _ hcur]; simp⟩
      have f1 := frozen_of_row wr b k _ _ hcur
      have hset := heap_setCell_same wr b k _ _ (.int .u8 99) hcur
      have HSET := Lib.hid hset; clear hset
      have HCS := Lib.hid hcs; clear hcs
      clear hcur
      go_wp2
      go_roundw
      case rel => exact ⟨k + 1, by omega, by go_num, HT.out.setCell (p := ⟨b, k, none⟩) (fun _ => rfl) _, _, HSET.out, by simp [HCS.out]⟩
      case measure => simp [intOf]; omega
    · obtain rfl : k = N := by omega
      have HFIN := Lib.hid (HBO.out.next HT.out HNF.out HNG.out hwb)
      clear hcur hcs
      go_wp2
      go_ret
      exact ⟨rfl, _, _, HFIN.out⟩

set_option maxRecDepth 100000 in
set_option maxHeartbeats 2000000 in
theorem both_write5 (op blk : Int) (fill : UInt8) (short : Bool) (A : Option Addr) (nb cb B : Nat) (bs : List UInt8) (d : Dk.Dk) (p r c : Nat) (F G : Nat → Prop) (w : World) (h : DiskAt w p d c F) (h' : RefDisk w r d c G) (hc : c < 1048576) (hap : ∀ k, F k → ¬ G k)
    (hF : ∀ k, F k → B ≤ k) (hG : ∀ k, G k → B ≤ k)
    (hbs : Holds w B A nb bs) (hB : B ≤ w.heap.size) (hnb : nb ≤ 140737488355328) (hop : bits .and .i64 op 7 = 5) :
    Calls Try.prog 9 #[ptr p, ptr r, .agg (deedV op blk fill short A nb cb)] w fun e w' => e = .returned (.bool true) ∧ ∃ F' G', Both w w' p r (wdk d blk fill short) (c + 1) B F G F' G' := by
  have HH := Lib.hid hbs; clear hbs
  have hpl : p < w.heap.size := h.lt p (by obtain ⟨L, vs, vw, m, hL, _, hF⟩ := h; exact (hF p).2 (.inl rfl))
  obtain ⟨W0, hW0⟩ : ∃ W0, W0 = w.alloc (.cells (deedV op blk fill short A nb cb) 35) := ⟨_, rfl⟩
  have hb0 : Below w.heap.size w W0 := by rw [hW0]; exact (Below.refl _ w).alloc (Nat.le_refl _) _
  have hx0 : W0.heap[w.heap.size]? = some (.cells (deedV op blk fill short A nb cb) 35 (0, 0)) := by rw [hW0]; exact heap_alloc_new w _
  have hs0 : W0.heap.size = w.heap.size + 1 := by rw [hW0]; simp
  have hoe : Owned (W0.alloc (.cells #[] 5)) W0.heap.size (.slice (some ⟨W0.heap.size, 0, none⟩) 0 0) [] := owned_made W0 [] W0.heap.size (Nat.le_refl _) (by unfold maxLen; simp)
  have hbe : Below W0.heap.size W0 (W0.alloc (.cells #[] 5)) := (Below.refl _ W0).alloc (Nat.le_refl _) _
  have HDe := Lib.hid ((HH.out.below (hb0.mono hB)).below (hbe.mono (by omega)))
  have c4 : W0.cell? ⟨w.heap.size, 4, none⟩ = some (.slice A nb cb) := cell_of_row W0 w.heap.size 4 _ _ _ hx0
  have c4' : (W0.alloc (.cells #[] 5)).cell? ⟨w.heap.size, 4, none⟩ = some (.slice A nb cb) := (hbe.cell (p := ⟨w.heap.size, 4, none⟩) (by show w.heap.size < W0.heap.size; omega)).trans c4
  have HX0 := Lib.hid hx0; clear hx0
  rw [hs0] at hoe hbe
  rw [hW0] at hoe hbe c4' HDe
  change Hid (Holds _ B A nb bs) at HDe
  have HW0 := Lib.hid hW0; clear hW0
  unfold ptr
  go_enter Try.func9, Try.ntmps9
  go_wp2_with (at_builtin; refine wpList_addall (o := ⟨some 14, _, _, _, _, _⟩) rfl _ _ rfl (w.heap.size + 1) _ [] rfl hoe B A nb cb bs rfl HDe.out (by simp; omega) (by first | exact hbe.size | (simp)) ?_)
  intro v2 W ho2 hb2
  rw [← HW0.out] at hb2 hbe
  rw [← hs0] at hbe hb2
  have hbW : Below W0.heap.size W0 W := hbe.trans hb2
  have hx : W.heap[w.heap.size]? = some (.cells (deedV op blk fill short A nb cb) 35 (0, 0)) := (hbW.block _ (by omega)).trans HX0.out
  have hbw : Below w.heap.size w W := hb0.trans (hbW.mono (by omega))
  have HX := Lib.hid hx
  have HO := Lib.hid ho2
  have HBW := Lib.hid hbw
  have d0 : W.cell? ⟨w.heap.size, 0, none⟩ = some (.int .i64 op) := cell_of_row W w.heap.size 0 _ _ _ hx
  have d4 : W.cell? ⟨w.heap.size, 4, none⟩ = some (.slice A nb cb) := cell_of_row W w.heap.size 4 _ _ _ hx
  clear hoe hbe c4 c4' HDe HX0 HW0 hx ho2 hb2 hbw hbW hb0 hs0
  have hx3 := HX.out
  have d1 : W.cell? ⟨w.heap.size, 1, none⟩ = some (.int .i64 blk) := cell_of_row W w.heap.size 1 _ _ _ hx3
  have d2 : W.cell? ⟨w.heap.size, 2, none⟩ = some (.int .u8 (fill.toNat : Int)) := cell_of_row W w.heap.size 2 _ _ _ hx3
  have d3 : W.cell? ⟨w.heap.size, 3, none⟩ = some (.bool short) := cell_of_row W w.heap.size 3 _ _ _ hx3
  clear hx3
  have hFl : ∀ k, F k → k < w.heap.size := fun k hk => h.lt k hk
  have hGl : ∀ k, G k → k < w.heap.size := fun k hk => h'.lt k hk
  have HFL := Lib.hid hFl; clear hFl
  have HGL := Lib.hid hGl; clear hGl
  obtain ⟨rv, hrv⟩ : ∃ rv, rv = wret d.stable.length blk short := ⟨_, rfl⟩
  have HRV := Lib.hid hrv; clear hrv
  have hf := data_any op blk fill short A nb cb W
  unfold deedV at hf
  have HDA := Lib.hid hf; clear hf
  go_wp2_with fail
  with_reducible refine HDA.out.mono ?_
  clear HDA
  rintro e V ⟨b, rfl, hbl, hbh, hbV⟩
  obtain ⟨N, hN⟩ : ∃ N, N = (dataL fill short).length := ⟨_, rfl⟩
  have hN2 : N ≤ 256 := by rw [hN, dataL_len]; exact (dataN_le short).2
  have hwV : Below w.heap.size w V := HBW.out.trans (hbV.mono HBW.out.size)
  have hxl : w.heap.size < W.heap.size := (Array.getElem?_eq_some_iff.1 HX.out).1
  have hbl2 : b < V.heap.size := (Array.getElem?_eq_some_iff.1 hbh).1
  have hVX : V.heap[w.heap.size]? = some (.cells (deedV op blk fill short A nb cb) 35 (0, 0)) := (hbV.block _ hxl).trans HX.out
  have hS0 : V.drew.cell? ⟨w.heap.size, 1, none⟩ = some (.int .i64 blk) := cell_of_row V w.heap.size 1 _ _ _ hVX
  have hsz : w.heap.size < V.heap.size := (Array.getElem?_eq_some_iff.1 hVX).1
  have hrb : V.drew.rangeAt b 0 ((dataL fill short).map byteV) := range_of_heap hbh
  have hf := writeB_d blk b fill short d p c F V.drew (h.turns (G := fun _ => False) (Turns.of_below hwV).drew (fun _ _ e => e)) hrb (by omega)
  unfold ptr at hf
  rw [← hN, ← HRV.out] at hf
  have HW1 := Lib.hid hf; clear hf
  have HRB := Lib.hid hrb; clear hrb
  have HBH := Lib.hid hbh; clear hbh
  have HWV := Lib.hid hwV; clear hwV
  have HXF : Hid (¬ F w.heap.size) := Lib.hid (fun e => by have := HFL.out _ e; omega)
  have HXG : Hid (¬ G w.heap.size) := Lib.hid (fun e => by have := HGL.out _ e; omega)
  have HBF : Hid (¬ F b) := Lib.hid (fun e => by have := HFL.out _ e; have := HBW.out.size; omega)
  have HSZ : Hid (w.heap.size < V.drew.heap.size) := Lib.hid hsz
  have HBL2 : Hid (b < V.drew.heap.size) := Lib.hid hbl2
  have HRW : Hid (∀ U1 F1, Turns F V.drew U1 → F1 = F → Calls Try.prog 25 #[.pointer (some ⟨r, 0, none⟩), .int .i64 blk, .slice (some ⟨b, 0, none⟩) N N] U1 (RNow U1 r (wdk d blk fill short) (c + 1) G (.int .i64 rv))) := Lib.hid (fun U1 _ ht1 _ => by
    have hz1 : V.heap.size ≤ U1.heap.size := ht1.size
    have hcall := rwriteB_d blk b fill short d r c G U1 (h'.turns (G := fun k => F k) ((Turns.of_below (F := F) HWV.out).drew.trans ht1 (fun _ _ e => e)) (fun k e e' => hap k e' e)) (range_turns HRB.out ht1 (show b < V.drew.heap.size from hbl2) HBF.out) (by omega) (by omega)
    unfold ptr at hcall
    rw [← hN, ← HRV.out] at hcall
    exact hcall)
  have hNN := hN.symm
  rw [hNN]
  have HN := Lib.hid hN; clear hN hNN hVX hbV d0 d1 d2 d3 d4
  go_wp2
  go_region_held (fun U => U.cell? ⟨w.heap.size, 1, none⟩ = some (.int .i64 blk)) (assumption)
    (first
      | (go_at_call 17
         have hcall := HW1.out
         with_reducible refine hcall.mono ?_
         clear hcall
         rintro e U1 ⟨F1, rfl, h1, hs1, ht1⟩
         have hS1 : U1.cell? ⟨w.heap.size, 1, none⟩ = some (.int .i64 blk) := (World.cell?_of_block (ht1.block _ HSZ.out HXF.out)).trans hS0)
      | (go_at_call 25
         have hcall := HRW.out U1 F ht1 rfl
         with_reducible refine hcall.mono ?_
         clear hcall
         rintro e U2 ⟨G1, rfl, h2, hs2, ht2⟩
         have hS2 : U2.cell? ⟨w.heap.size, 1, none⟩ = some (.int .i64 blk) := (World.cell?_of_block (ht2.block _ (Nat.lt_of_lt_of_le HSZ.out ht1.size) HXG.out)).trans hS1))
  have hwd : Below w.heap.size w V.drew := HWV.out.drew
  have hBO : Both w U2 p r (wdk d blk fill short) (c + 1) B F G F1 G1 := both_fin HGL.out hap hF hG hB hwd h1 hs1 ht1 h2 hs2 ht2
  have hgb : ¬ G b := fun e => by have := HGL.out _ e; omega
  have hbU1 : b < U1.heap.size := Nat.lt_of_lt_of_le HBL2.out ht1.size
  have hnF : ¬ F1 b := fun e => by
    rcases hs1 b e with e | e
    · exact HBF.out e
    · have := HBL2.out; omega
  have hnG : ¬ G1 b := fun e => by
    rcases hs2 b e with e | e
    · exact hgb e
    · omega
  have hbb : U2.heap[b]? = some (.cells ((dataL fill short).map byteV).toArray 5 (0, 0)) := (ht2.block _ hbU1 hgb).trans ((ht1.block _ HBL2.out HBF.out).trans HBH.out)
  have hsN : (((dataL fill short).map byteV).toArray).size = N := by rw [HN.out]; simp
  have HBO := Lib.hid hBO; clear hBO
  have HNF := Lib.hid hnF; clear hnF
  have HNG := Lib.hid hnG; clear hnG
  have HB3 : Hid (∃ cur, U2.heap[b]? = some (.cells cur 5 (0, 0)) ∧ cur.size = N) := Lib.hid ⟨_, hbb, hsN⟩
  have hwb : w.heap.size ≤ b := by omega
  clear hwd hgb hbU1 hbb hsN HW1 HRW h1 h2 hs1 hs2 ht1 ht2 hS0 hS1 hS2 HRB HBH HX HO HH
  go_wp2
  go_loopw [10] (fun i wr => ∃ k : Nat, k ≤ N ∧ i = .int .i64 (k : Int) ∧ Turns (fun q => q = b) U2 wr ∧ ∃ cur, wr.heap[b]? = some (.cells cur 5 (0, 0)) ∧ cur.size = N) (fun i _ => N - (intOf i).toNat)
  case atStart => exact ⟨0, by omega, rfl, Turns.refl _ _, HB3.out⟩
  case round =>
    obtain ⟨k, hk, rfl, hT, cur, hcur, hcs⟩ := hrel
    have hk0 : (0 : Int) ≤ (k : Int) := by omega
    have HT := Lib.hid hT; clear hT
    by_cases hlt : k < N
    · have hkn : (k : Int) < (N : Int) := by omega
      obtain ⟨u, hu⟩ : ∃ u, wr.cell? ⟨b, k, none⟩ = some u := ⟨cur[k]'(by omega), by rw [cell_of_row _ _ _ _ _ _ hcur]; simp⟩
      have f1 := frozen_of_row wr b k _ _ hcur
      have hset := heap_setCell_same wr b k _ _ (.int .u8 99) hcur
      have HSET := Lib.hid hset; clear hset
      have HCS := Lib.hid hcs; clear hcs
      clear hcur
      go_wp2
      go_roundw
      case rel => exact ⟨k + 1, by omega, by go_num, HT.out.setCell (p := ⟨b, k, none⟩) (fun _ => rfl) _, _, HSET.out, by simp [HCS.out]⟩
      case measure => simp [intOf]; omega
    · obtain rfl : k = N := by omega
      have HFIN := Lib.hid (HBO.out.next HT.out HNF.out HNG.out hwb)
      clear hcur hcs
      go_wp2
      go_ret
      exact ⟨rfl, _, _, HFIN.out⟩

/-- What a deed makes of a disk. -/
def bothD (d : Dk.Dk) (op blk : Int) (fill : UInt8) (short : Bool) (bs : List UInt8) : Dk.Dk :=
  if bits .and .i64 op 7 = 1 then d.flush else if bits .and .i64 op 7 = 2 then d.settle bs else if bits .and .i64 op 7 = 6 then d.setFuse blk
  else if bits .and .i64 op 7 = 3 ∨ bits .and .i64 op 7 = 7 then d.crash bs else wdk d blk fill short
theorem both_d (op blk : Int) (fill : UInt8) (short : Bool) (A : Option Addr) (nb cb B : Nat) (bs : List UInt8) (d : Dk.Dk) (p r c : Nat) (F G : Nat → Prop) (w : World) (h : DiskAt w p d c F) (h' : RefDisk w r d c G) (hc : c < 1048576) (hap : ∀ k, F k → ¬ G k)
    (hF : ∀ k, F k → B ≤ k) (hG : ∀ k, G k → B ≤ k) (hbs : Holds w B A nb bs) (hB : B ≤ w.heap.size) (hnb : nb ≤ 140737488355328) (hbk : blk ≤ 9223372036854775807) :
    Calls Try.prog 9 #[ptr p, ptr r, .agg (deedV op blk fill short A nb cb)] w fun e w' => e = .returned (.bool true) ∧ ∃ F' G', Both w w' p r (bothD d op blk fill short bs) (c + 1) B F G F' G' := by
  obtain ⟨k, hk, ho⟩ := and_mask op 7 3 rfl (by omega)
  have hcase : k = 0 ∨ k = 1 ∨ k = 2 ∨ k = 3 ∨ k = 4 ∨ k = 5 ∨ k = 6 ∨ k = 7 := by omega
  unfold bothD
  rcases hcase with rfl | rfl | rfl | rfl | rfl | rfl | rfl | rfl
  · have ho : bits .and .i64 op 7 = 0 := ho
    simp only [ho]
    exact both_write0 op blk fill short A nb cb B bs d p r c F G w h h' hc hap hF hG hbs hB hnb ho
  · have ho : bits .and .i64 op 7 = 1 := ho
    simp only [ho]
    exact both_flush op blk fill short A nb cb B bs d p r c F G w h h' hc hap hF hG hbs hB hnb ho
  · have ho : bits .and .i64 op 7 = 2 := ho
    simp only [ho]
    exact both_settle op blk fill short A nb cb B bs d p r c F G w h h' hc hap hF hG hbs hB hnb ho
  · have ho : bits .and .i64 op 7 = 3 := ho
    simp only [ho]
    exact both_crash3 op blk fill short A nb cb B bs d p r c F G w h h' hc hap hF hG hbs hB hnb ho
  · have ho : bits .and .i64 op 7 = 4 := ho
    simp only [ho]
    exact both_write4 op blk fill short A nb cb B bs d p r c F G w h h' hc hap hF hG hbs hB hnb ho
  · have ho : bits .and .i64 op 7 = 5 := ho
    simp only [ho]
    exact both_write5 op blk fill short A nb cb B bs d p r c F G w h h' hc hap hF hG hbs hB hnb ho
  · have ho : bits .and .i64 op 7 = 6 := ho
    simp only [ho]
    exact both_fuse op blk fill short A nb cb B bs d p r c F G w h h' hc hap hF hG hbs hB hnb ho hbk
  · have ho : bits .and .i64 op 7 = 7 := ho
    simp only [ho]
    exact both_crash7 op blk fill short A nb cb B bs d p r c F G w h h' hc hap hF hG hbs hB hnb ho
end Go.Proofs.Ytkgpdpmdkkmifaa.Disk
