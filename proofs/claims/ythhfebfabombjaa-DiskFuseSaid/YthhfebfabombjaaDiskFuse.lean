/- Behind its last operation a fused disk keeps nothing more, and is read as one without a fuse: proved for every list of deeds, every fuse and every list of bits. -/
import Derived.Test.YthhfebfabombjaaDkRuns
import Derived.Deep.RegionHeld
namespace Go.Proofs.Ythhfebfabombjaa.DiskFuse
open Go.ChangeShapes Go.WideShapes Go.ChangeAt Go.RowKit
open Go.Proofs.Ythhfebfabombjaa.Mem Go.Proofs.Ythhfebfabombjaa.Disk Go.Proofs.Ythhfebfabombjaa.Lift
attribute [local go_sem ↓] Go.wp_at_zero Go.wp_at_succ

set_option maxRecDepth 100000 in
set_option maxHeartbeats 40000000 in
theorem walk (A : Option Addr) (n c : Nat) (xs : List DeedR) (fz : Int) (Ab : Option Addr) (nb cb : Nat) (bits : List UInt8) (w : World) (h : Deeds w w.heap.size A n xs) (hc : n ≤ c) (hm : c ≤ maxLen) (hbi : Holds w w.heap.size Ab nb bits) (hnb : nb ≤ maxLen) :
    Calls Try.prog 8 #[.slice A n c, .int .i64 fz, .slice Ab nb cb] w fun e w' => e = .returned (.bool true) ∧ Below w.heap.size w w' := by
  obtain ⟨z, hz, handz0⟩ := and_mask fz 15 4 rfl (by omega)
  have handz : Go.bits .and .i64 fz 15 = (z : Int) := handz0
  clear handz0
  have hfew : fewN n ≤ 40 ∧ fewN n ≤ n := by unfold fewN; split <;> omega
  go_enter Try.func8, Try.ntmps8
  go_wp2_with fail
  refine (alive_any _).mono ?_
  rintro e w1 ⟨rfl, hb1⟩
  go_wp2_with fail
  refine (new_d 4 4 0 _ rfl (by omega) (by omega)).mono ?_
  rintro e w2 ⟨pa, Fa0, rfl, hDa, hFa, hb2⟩
  have HDA := Lib.hid hDa; clear hDa
  have HFA := Lib.hid hFa; clear hFa
  have HB1 := Lib.hid hb1; clear hb1
  have HB2 := Lib.hid hb2; clear hb2
  go_wp2_with fail
  refine (new_d 4 4 0 _ rfl (by omega) (by omega)).mono ?_
  rintro e w3 ⟨pb, Fb0, rfl, hDb, hFb, hb3⟩
  have hP : Pair w w3 pa (Dk.Dk.new 4) 0 Fa0 pb (Dk.Dk.new 4) 0 Fb0 := by
    have h12 := HB1.out.trans (HB2.out.mono HB1.out.size)
    exact ⟨HDA.out.turns (G := fun _ => False) (Turns.of_below hb3) (fun _ _ e => e), hDb, fun q h1 h2 => by have := HDA.out.lt q h1; have := hFb q h2; omega, fun q h1 => by have := HFA.out q h1; have := HB1.out.size; omega,
      fun q h2 => by have := hFb q h2; have := h12.size; omega, h12.trans (hb3.mono h12.size)⟩
  have HP := Lib.hid hP; clear hP hDb hFb hb3 HDA HFA HB1 HB2
  go_wp2_with fail
  refine (fuse_d (z : Int) (by omega) _ pa 0 Fa0 w3 HP.out.one).mono ?_
  rintro e w4 ⟨Fa1, rfl, hD4, hF4, hT4⟩
  rw [setFuse_new] at hD4
  have hP4 := HP.out.first hD4 hF4 hT4
  have HP4 := Lib.hid hP4; clear hP4 hD4 hF4 hT4 HP
  go_wp2_with fail
  refine (few_any A n c _ hc hm (fun hn => by obtain ⟨b, off, e, _⟩ := h.2.1 hn; exact ⟨b, off, e⟩)).mono ?_
  rintro e w' ⟨rfl, rfl⟩
  obtain ⟨m, hmd⟩ : ∃ m, fewN n = m := ⟨_, rfl⟩
  rw [hmd] at hfew ⊢
  have hds := h.take (show m ≤ n by omega)
  obtain ⟨ys, hys⟩ : ∃ ys, ys = xs.take m := ⟨_, rfl⟩
  rw [← hys] at hds
  have HDS := Lib.hid hds; clear hds
  clear hmd hys
  have H := Lib.hid h; clear h
  have HBI := Lib.hid hbi; clear hbi
  have hyl : ys.length = m := HDS.out.1
  have hfit : ∀ v : Dk.Wr, ∀ k, some v ∈ (ys.map opOf).take k → v.1 < 4 ∧ v.2.length = 256 := fun v k hv => by
    obtain ⟨x, _, hx⟩ := List.mem_map.1 (List.mem_of_mem_take hv)
    exact opOf_fits x v hx
  have hok0 := Dk.new_ok 4
  have hok1 : ((Dk.Dk.new 4).fused (some z)).Ok := by rw [← setFuse_new]; exact Dk.fuse_ok _ hok0 _
  have hrd : ∀ k i, (run ((Dk.Dk.new 4).fused (some z)) ((ys.map opOf).take k)).read i = (run (Dk.Dk.new 4) ((ys.map opOf).take k)).read i := fun k i =>
    run_read _ _ _ hok1 hok0 rfl (fun v hv => hfit v k hv) (fun _ => rfl) i
  have hsz1 : ∀ k, (run ((Dk.Dk.new 4).fused (some z)) ((ys.map opOf).take k)).stable.length = 4 := fun k => run_size _ _
  have hsz2 : ∀ k, (run (Dk.Dk.new 4) ((ys.map opOf).take k)).stable.length = 4 := fun k => run_size _ _
  have HYL := Lib.hid hyl; clear hyl
  have HRD := Lib.hid hrd; clear hrd
  have HZ1 := Lib.hid hsz1; clear hsz1
  have HZ2 := Lib.hid hsz2; clear hsz2
  clear hok0 hok1 hfit
  go_wp2
  go_loopw [12] (fun i wr => ∃ (k : Nat) (Fa Fb : Nat → Prop), k ≤ m ∧ i = .int .i64 k ∧ Pair w wr pa (run ((Dk.Dk.new 4).fused (some z)) ((ys.map opOf).take k)) k Fa pb (run (Dk.Dk.new 4) ((ys.map opOf).take k)) k Fb) (fun i _ => m - (intOf i).toNat)
  case atStart => exact ⟨0, Fa1, Fb0, by omega, rfl, HP4.out⟩
  case round =>
    obtain ⟨k, Fa, Fb, hk, rfl, hP⟩ := hrel
    obtain ⟨wk, hwk⟩ : ∃ wk, wk = wr := ⟨_, rfl⟩
    subst hwk
    by_cases hlt : k < m
    · have hds := HDS.out.below hP.below
      obtain ⟨b, off, rfl, hbB, hcell⟩ := hds.2.1 (by omega)
      have hkl : k < ys.length := by rw [HYL.out]; exact hlt
      replace hcell := hcell k hkl
      have hr1 := run_step ((Dk.Dk.new 4).fused (some z)) ys k hkl
      have hr2 := run_step (Dk.Dk.new 4) ys k hkl
      have hrd1 := HRD.out (k + 1)
      have hs1 := HZ1.out (k + 1)
      have hs2 := HZ2.out (k + 1)
      have ht1 := HZ1.out k
      have ht2 := HZ2.out k
      generalize ys[k]'hkl = x at hcell hr1 hr2
      generalize run ((Dk.Dk.new 4).fused (some z)) ((ys.map opOf).take k) = d1 at hP hr1 ht1
      generalize run (Dk.Dk.new 4) ((ys.map opOf).take k) = d2 at hP hr2 ht2
      rw [hr1, hr2] at hrd1
      rw [hr1] at hs1
      rw [hr2] at hs2
      have e0 : wk.cell? ⟨b, off + k * 5, none⟩ = some (.int .i64 x.op) := hcell 0 (by omega)
      have e1 : wk.cell? ⟨b, off + k * 5 + 1, none⟩ = some (.int .i64 x.blk) := hcell 1 (by omega)
      have e2 : wk.cell? ⟨b, off + k * 5 + 2, none⟩ = some (.int .u8 (x.fill.toNat : Int)) := hcell 2 (by omega)
      have e3 : wk.cell? ⟨b, off + k * 5 + 3, none⟩ = some (.bool x.short) := hcell 3 (by omega)
      have e4 : wk.cell? ⟨b, off + k * 5 + 4, none⟩ = some (.slice x.A x.n x.c) := hcell 4 (by omega)
      clear hcell
      obtain ⟨k1, hk1, hand1⟩ := and_mask x.blk 3 2 rfl (by omega)
      have handb : Go.bits .and .i64 x.blk 3 = (k1 : Int) := hand1
      obtain ⟨k2, hk2, hand2⟩ := and_mask x.op 1 1 rfl (by omega)
      have hando : Go.bits .and .i64 x.op 1 = (k2 : Int) := hand2
      clear hand1 hand2
      have hi1 : (0 : Int) ≤ (k : Int) := by omega
      have hi2 : (k : Int) < (m : Int) := by omega
      have HP := Lib.hid hP; clear hP
      have HR1 := Lib.hid hr1; clear hr1
      have HR2 := Lib.hid hr2; clear hr2
      have HD1 := Lib.hid hrd1; clear hrd1
      have HS1 := Lib.hid hs1; clear hs1
      have HS2 := Lib.hid hs2; clear hs2
      have HT1 := Lib.hid ht1; clear ht1
      have HT2 := Lib.hid ht2; clear ht2
      clear hds
      rcases (show k2 = 0 ∨ k2 = 1 by omega) with c1 | c1
      · subst c1
        have hop := opOf_write x k1 hando handb
        rw [hop] at HR1 HR2 HD1 HS1 HS2
        have hr1 := HR1.out; clear HR1
        have hr2 := HR2.out; clear HR2
        have hrd' := HD1.out; clear HD1
        have hsz1 := HS1.out; clear HS1
        have hsz2 := HS2.out; clear HS2
        clear hop
        go_wp2_with fail
        have ht1 : Turns (fun _ => False) wk (wk.alloc (.cells #[.int .i64 x.op, .int .i64 x.blk, .int .u8 (x.fill.toNat : Int), .bool false, .slice x.A x.n x.c] 35)) := (Turns.refl _ wk).alloc _
        have hbx : (wk.alloc (.cells #[.int .i64 x.op, .int .i64 x.blk, .int .u8 (x.fill.toNat : Int), .bool false, .slice x.A x.n x.c] 35)).heap[wk.heap.size]? = some (.cells #[.int .i64 x.op, .int .i64 x.blk, .int .u8 (x.fill.toNat : Int), .bool false, .slice x.A x.n x.c] 35 (0, 0)) := heap_alloc_new wk _
        have hs1 : wk.heap.size < (wk.alloc (.cells #[.int .i64 x.op, .int .i64 x.blk, .int .u8 (x.fill.toNat : Int), .bool false, .slice x.A x.n x.c] 35)).heap.size := by simp
        generalize wk.alloc (.cells #[.int .i64 x.op, .int .i64 x.blk, .int .u8 (x.fill.toNat : Int), .bool false, .slice x.A x.n x.c] 35) = W1 at ht1 hbx hs1 ⊢
        clear e0 e1 e2 e3 e4
        have hS0 : Five W1.drew wk.heap.size x := ⟨cell_of_row _ _ _ _ _ _ hbx, cell_of_row _ _ _ _ _ _ hbx, cell_of_row _ _ _ _ _ _ hbx, cell_of_row _ _ _ _ _ _ hbx, cell_of_row _ _ _ _ _ _ hbx⟩
        have HLA : Hid (∀ q, Fa q → q < wk.heap.size) := Lib.hid HP.out.one.lt
        have HLB : Hid (∀ q, Fb q → q < wk.heap.size) := Lib.hid HP.out.two.lt
        have HP0 := Lib.hid ((HP.out.next ht1).next (Turns.refl _ _).drew)
        have hsD : wk.heap.size < W1.drew.heap.size := hs1
        clear HP ht1 hbx
        go_region_held (fun V => V.cell? ⟨wk.heap.size, 0, none⟩ = some (.int .i64 x.op) ∧ V.cell? ⟨wk.heap.size, 1, none⟩ = some (.int .i64 x.blk) ∧ V.cell? ⟨wk.heap.size, 2, none⟩ = some (.int .u8 (x.fill.toNat : Int)) ∧ V.cell? ⟨wk.heap.size, 3, none⟩ = some (.bool false) ∧ V.cell? ⟨wk.heap.size, 4, none⟩ = some (.slice x.A x.n x.c)) (assumption)
          (first
            | (go_at_call 24
               have hcall := data_long x.op x.blk x.fill x.A x.n x.c W1.drew
               with_reducible refine hcall.mono ?_
               clear hcall
               rintro e U1 ⟨b1, rfl, hl1, hbb1, hbl1, hw1⟩
               have hS1 : Five U1 wk.heap.size x := hS0.turns (F := fun _ => False) (Turns.of_below hw1) hsD (fun e => e)
               have hsU1 : wk.heap.size < U1.heap.size := by have := hw1.size; omega
               have HPU1 := Lib.hid (HP0.out.next (Turns.of_below hw1))
               have HL1 := Lib.hid hl1
               have HBL1 := Lib.hid hbl1
               clear hl1 hbl1 hw1 hbb1)
            | (go_at_call 23
               have hcall := writes_d (k1 : Int) k1 rfl b1 0 256 (dataL x.fill false) d1 pa k Fa U1 HPU1.out.one (by rw [HT1.out]; omega) HL1.out (range_of_heap HBL1.out) (by omega)
               with_reducible refine hcall.mono ?_
               clear hcall
               rintro e U2 ⟨FA, rfl, hD2, hF2, hT2⟩
               have hS2 : Five U2 wk.heap.size x := hS1.turns hT2 hsU1 (fun e => by have := HLA.out _ e; omega)
               have hsU2 : wk.heap.size < U2.heap.size := by have := hT2.size; omega
               have HPU2 := Lib.hid (HPU1.out.first hD2 hF2 hT2)
               clear hD2 hF2 hT2)
            | (go_at_call 24
               have hcall := data_long x.op x.blk x.fill x.A x.n x.c U2
               with_reducible refine hcall.mono ?_
               clear hcall
               rintro e U3 ⟨b3, rfl, hl3, hbb3, hbl3, hw3⟩
               have hS3 : Five U3 wk.heap.size x := hS2.turns (F := fun _ => False) (Turns.of_below hw3) hsU2 (fun e => e)
               have hsU3 : wk.heap.size < U3.heap.size := by have := hw3.size; omega
               have HPU3 := Lib.hid (HPU2.out.next (Turns.of_below hw3))
               have HL3 := Lib.hid hl3
               have HBL3 := Lib.hid hbl3
               clear hl3 hbl3 hw3 hbb3)
            | (go_at_call 23
               have hcall := writes_d (k1 : Int) k1 rfl b3 0 256 (dataL x.fill false) d2 pb k Fb U3 HPU3.out.two (by rw [HT2.out]; omega) HL3.out (range_of_heap HBL3.out) (by omega)
               with_reducible refine hcall.mono ?_
               clear hcall
               rintro e U4 ⟨FB, rfl, hD4, hF4, hT4⟩
               have hS4 : Five U4 wk.heap.size x := hS3.turns hT4 hsU3 (fun e => by have := HLB.out _ e; omega)
               have HQ := Lib.hid (HPU3.out.second hD4 hF4 hT4)
               clear hD4 hF4 hT4))
        clear hS0 hS1 hS2 hS3 hS4
        have hr1 : _ = d1.write k1 (dataL x.fill false) := hr1
        have hr2 : _ = d2.write k1 (dataL x.fill false) := hr2
        have hrd' : ∀ i, (d1.write k1 (dataL x.fill false)).read i = (d2.write k1 (dataL x.fill false)).read i := hrd'
        have hsz1 : (d1.write k1 (dataL x.fill false)).stable.length = 4 := hsz1
        have hsz2 : (d2.write k1 (dataL x.fill false)).stable.length = 4 := hsz2
        generalize d1.write k1 (dataL x.fill false) = D1 at HQ hr1 hrd' hsz1
        generalize d2.write k1 (dataL x.fill false) = D2 at HQ hr2 hrd' hsz2
        clear HPU1 HPU2 HPU3 HP0
        have himg : D1.image = D2.image := Dk.image_eq D1 D2 (by rw [hsz1, hsz2]) hrd'
        obtain ⟨IM, hIM⟩ : ∃ IM, IM = D2.image.flatten := ⟨_, rfl⟩
        have him1 : D1.image.flatten = IM := by rw [hIM, himg]
        have HIM1 := Lib.hid him1; clear him1
        have HIM2 := Lib.hid hIM.symm; clear hIM
        clear himg
        have HQ1 := Lib.hid (HQ.out.next (Turns.refl _ _).drew)
        have HR1 := Lib.hid hr1; clear hr1
        have HR2 := Lib.hid hr2; clear hr2
        clear hrd' hsz1 hsz2
        go_wp2_with fail
        go_region_with
          (first
            | (go_at_call 20
               have hiA := image_d D1 pa (k + 1) FA _ HQ1.out.one (by omega)
               rw [HIM1.out] at hiA
               with_reducible refine hiA.mono ?_
               rintro e V1 ⟨AA, cA, rfl, hoA, hwA⟩
               clear hiA
               have tA := run_text V1 _ _ _ cA _ (owned_holds hoA)
               have HOA := Lib.hid (owned_holds hoA)
               have HQ2 := Lib.hid (HQ1.out.next (Turns.of_below hwA))
               clear hoA hwA)
            | (go_at_call 20
               have hiB := image_d D2 pb (k + 1) FB _ HQ2.out.two (by omega)
               rw [HIM2.out] at hiB
               with_reducible refine hiB.mono ?_
               rintro e V2 ⟨AB, cB, rfl, hoB, hwB⟩
               clear hiB
               have tB := run_text V2 _ _ _ cB _ (owned_holds hoB)
               have tA2 := run_text V2 _ _ _ cA _ (HOA.out.below hwB)
               have HQ3 := Lib.hid (HQ2.out.next (Turns.of_below hwB))
               clear hoB hwB))
        all_goals
          go_wp2
          go_roundw
          case rel => exact ⟨k + 1, FA, FB, by omega, by go_num, by rw [HR1.out, HR2.out]; exact HQ3.out⟩
          case measure => simp [intOf]; omega
      · subst c1
        have hop := opOf_flush x hando
        rw [hop] at HR1 HR2 HD1 HS1 HS2
        have hr1 := HR1.out; clear HR1
        have hr2 := HR2.out; clear HR2
        have hrd' := HD1.out; clear HD1
        have hsz1 := HS1.out; clear HS1
        have hsz2 := HS2.out; clear HS2
        clear hop
        go_wp2_with fail
        have ht1 : Turns (fun _ => False) wk (wk.alloc (.cells #[.int .i64 x.op, .int .i64 x.blk, .int .u8 (x.fill.toNat : Int), .bool false, .slice x.A x.n x.c] 35)) := (Turns.refl _ wk).alloc _
        generalize wk.alloc (.cells #[.int .i64 x.op, .int .i64 x.blk, .int .u8 (x.fill.toNat : Int), .bool false, .slice x.A x.n x.c] 35) = W1 at ht1 ⊢
        clear e0 e1 e2 e3 e4
        have HP0 := Lib.hid (HP.out.next ht1)
        clear HP ht1
        refine (flush_d d1 pa k Fa W1 HP0.out.one (by omega)).mono ?_
        rintro e U1 ⟨FA, rfl, hD2, hF2, hT2⟩
        have HP1 := Lib.hid (HP0.out.first hD2 hF2 hT2)
        clear hD2 hF2 hT2
        go_wp2_with fail
        refine (flush_d d2 pb k Fb U1 HP1.out.two (by omega)).mono ?_
        rintro e U2 ⟨FB, rfl, hD2, hF2, hT2⟩
        have HQ := Lib.hid ((HP1.out.second hD2 hF2 hT2).more (show k ≤ k + 1 by omega) (show k ≤ k + 1 by omega))
        clear hD2 hF2 hT2
        have hr1 : _ = d1.flush := hr1
        have hr2 : _ = d2.flush := hr2
        have hrd' : ∀ i, d1.flush.read i = d2.flush.read i := hrd'
        have hsz1 : d1.flush.stable.length = 4 := hsz1
        have hsz2 : d2.flush.stable.length = 4 := hsz2
        generalize d1.flush = D1 at HQ hr1 hrd' hsz1
        generalize d2.flush = D2 at HQ hr2 hrd' hsz2
        clear HP0 HP1
        have himg : D1.image = D2.image := Dk.image_eq D1 D2 (by rw [hsz1, hsz2]) hrd'
        obtain ⟨IM, hIM⟩ : ∃ IM, IM = D2.image.flatten := ⟨_, rfl⟩
        have him1 : D1.image.flatten = IM := by rw [hIM, himg]
        have HIM1 := Lib.hid him1; clear him1
        have HIM2 := Lib.hid hIM.symm; clear hIM
        clear himg
        have HQ1 := Lib.hid (HQ.out.next (Turns.refl _ _).drew)
        have HR1 := Lib.hid hr1; clear hr1
        have HR2 := Lib.hid hr2; clear hr2
        clear hrd' hsz1 hsz2
        go_wp2_with fail
        go_region_with
          (first
            | (go_at_call 20
               have hiA := image_d D1 pa (k + 1) FA _ HQ1.out.one (by omega)
               rw [HIM1.out] at hiA
               with_reducible refine hiA.mono ?_
               rintro e V1 ⟨AA, cA, rfl, hoA, hwA⟩
               clear hiA
               have tA := run_text V1 _ _ _ cA _ (owned_holds hoA)
               have HOA := Lib.hid (owned_holds hoA)
               have HQ2 := Lib.hid (HQ1.out.next (Turns.of_below hwA))
               clear hoA hwA)
            | (go_at_call 20
               have hiB := image_d D2 pb (k + 1) FB _ HQ2.out.two (by omega)
               rw [HIM2.out] at hiB
               with_reducible refine hiB.mono ?_
               rintro e V2 ⟨AB, cB, rfl, hoB, hwB⟩
               clear hiB
               have tB := run_text V2 _ _ _ cB _ (owned_holds hoB)
               have tA2 := run_text V2 _ _ _ cA _ (HOA.out.below hwB)
               have HQ3 := Lib.hid (HQ2.out.next (Turns.of_below hwB))
               clear hoB hwB))
        all_goals
          go_wp2
          go_roundw
          case rel => exact ⟨k + 1, FA, FB, by omega, by go_num, by rw [HR1.out, HR2.out]; exact HQ3.out⟩
          case measure => simp [intOf]; omega
    · obtain rfl : k = m := by omega
      have hfin := fused_run (ys.map opOf) z (Dk.Dk.new 4) rfl
      have hall : (ys.map opOf).take k = ys.map opOf := List.take_of_length_le (by rw [List.length_map, HYL.out]; omega)
      rw [hall] at hP
      have hsa : (run ((Dk.Dk.new 4).fused (some z)) (ys.map opOf)).stable.length = 4 := run_size _ _
      generalize run ((Dk.Dk.new 4).fused (some z)) (ys.map opOf) = d1 at hP hfin hsa
      generalize run (Dk.Dk.new 4) ((ys.map opOf)) = d2 at hP
      have HFIN := Lib.hid hfin; clear hfin
      have HSA := Lib.hid hsa; clear hsa
      have HP := Lib.hid hP; clear hP
      clear hall HRD HZ1 HP4
      go_wp2_with fail
      refine (new_d 4 4 0 _ rfl (by omega) (by omega)).mono ?_
      rintro e w5 ⟨pc, Fc0, rfl, hDc, hFc, hb5⟩
      have HP5 := Lib.hid (HP.out.load hDc hFc hb5)
      clear hDc hFc hb5 HP
      clear hlt hk
      go_wp2
      go_loopw [16] (fun i wr => ∃ (j : Nat) (Fc : Nat → Prop), j ≤ k ∧ j ≤ z ∧ i = .int .i64 j ∧ Pair w wr pa d1 k Fa pc (run (Dk.Dk.new 4) ((ys.map opOf).take j)) j Fc) (fun i _ => k - (intOf i).toNat)
      case atStart => exact ⟨0, Fc0, by omega, by omega, rfl, HP5.out⟩
      case round =>
        obtain ⟨j, Fc, hjk, hjz, rfl, hP⟩ := hrel
        obtain ⟨wj, hwj⟩ : ∃ wj, wj = wr := ⟨_, rfl⟩
        subst hwj
        by_cases hgo : j < k ∧ j < z
        · obtain ⟨hlt, hlz⟩ := hgo
          have hds := HDS.out.below hP.below
          obtain ⟨b, off, rfl, hbB, hcell⟩ := hds.2.1 (by omega)
          have hkl : j < ys.length := by rw [HYL.out]; exact hlt
          replace hcell := hcell j hkl
          have hr2 := run_step (Dk.Dk.new 4) ys j hkl
          have ht2 := HZ2.out j
          generalize ys[j]'hkl = x at hcell hr2
          generalize run (Dk.Dk.new 4) ((ys.map opOf).take j) = d2 at hP hr2 ht2
          have e0 : wj.cell? ⟨b, off + j * 5, none⟩ = some (.int .i64 x.op) := hcell 0 (by omega)
          have e1 : wj.cell? ⟨b, off + j * 5 + 1, none⟩ = some (.int .i64 x.blk) := hcell 1 (by omega)
          have e2 : wj.cell? ⟨b, off + j * 5 + 2, none⟩ = some (.int .u8 (x.fill.toNat : Int)) := hcell 2 (by omega)
          have e3 : wj.cell? ⟨b, off + j * 5 + 3, none⟩ = some (.bool x.short) := hcell 3 (by omega)
          have e4 : wj.cell? ⟨b, off + j * 5 + 4, none⟩ = some (.slice x.A x.n x.c) := hcell 4 (by omega)
          clear hcell
          obtain ⟨k1, hk1, hand1⟩ := and_mask x.blk 3 2 rfl (by omega)
          have handb : Go.bits .and .i64 x.blk 3 = (k1 : Int) := hand1
          obtain ⟨k2, hk2, hand2⟩ := and_mask x.op 1 1 rfl (by omega)
          have hando : Go.bits .and .i64 x.op 1 = (k2 : Int) := hand2
          clear hand1 hand2
          have hi1 : (0 : Int) ≤ (j : Int) := by omega
          have hi2 : (j : Int) < (k : Int) := by omega
          have hi3 : (j : Int) < (z : Int) := by omega
          have HP := Lib.hid hP; clear hP
          have HR2 := Lib.hid hr2; clear hr2
          have HT2 := Lib.hid ht2; clear ht2
          clear hds
          rcases (show k2 = 0 ∨ k2 = 1 by omega) with c1 | c1
          · subst c1
            have hop := opOf_write x k1 hando handb
            rw [hop] at HR2
            have HR2 : Hid (_ = d2.write k1 (dataL x.fill false)) := HR2
            clear hop
            go_wp2_with fail
            have ht1 : Turns (fun _ => False) wj (wj.alloc (.cells #[.int .i64 x.op, .int .i64 x.blk, .int .u8 (x.fill.toNat : Int), .bool false, .slice x.A x.n x.c] 35)) := (Turns.refl _ wj).alloc _
            have hbx : (wj.alloc (.cells #[.int .i64 x.op, .int .i64 x.blk, .int .u8 (x.fill.toNat : Int), .bool false, .slice x.A x.n x.c] 35)).heap[wj.heap.size]? = some (.cells #[.int .i64 x.op, .int .i64 x.blk, .int .u8 (x.fill.toNat : Int), .bool false, .slice x.A x.n x.c] 35 (0, 0)) := heap_alloc_new wj _
            have hs1 : wj.heap.size < (wj.alloc (.cells #[.int .i64 x.op, .int .i64 x.blk, .int .u8 (x.fill.toNat : Int), .bool false, .slice x.A x.n x.c] 35)).heap.size := by simp
            generalize wj.alloc (.cells #[.int .i64 x.op, .int .i64 x.blk, .int .u8 (x.fill.toNat : Int), .bool false, .slice x.A x.n x.c] 35) = W1 at ht1 hbx hs1 ⊢
            clear e0 e1 e2 e3 e4
            have hS0 : Five W1.drew wj.heap.size x := ⟨cell_of_row _ _ _ _ _ _ hbx, cell_of_row _ _ _ _ _ _ hbx, cell_of_row _ _ _ _ _ _ hbx, cell_of_row _ _ _ _ _ _ hbx, cell_of_row _ _ _ _ _ _ hbx⟩
            have HLB : Hid (∀ q, Fc q → q < wj.heap.size) := Lib.hid HP.out.two.lt
            have HP0 := Lib.hid ((HP.out.next ht1).next (Turns.refl _ _).drew)
            have hsD : wj.heap.size < W1.drew.heap.size := hs1
            clear HP ht1 hbx
            go_region_held (fun V => V.cell? ⟨wj.heap.size, 0, none⟩ = some (.int .i64 x.op) ∧ V.cell? ⟨wj.heap.size, 1, none⟩ = some (.int .i64 x.blk) ∧ V.cell? ⟨wj.heap.size, 2, none⟩ = some (.int .u8 (x.fill.toNat : Int)) ∧ V.cell? ⟨wj.heap.size, 3, none⟩ = some (.bool false) ∧ V.cell? ⟨wj.heap.size, 4, none⟩ = some (.slice x.A x.n x.c)) (assumption)
              (first
                | (go_at_call 24
                   have hcall := data_long x.op x.blk x.fill x.A x.n x.c W1.drew
                   with_reducible refine hcall.mono ?_
                   clear hcall
                   rintro e U1 ⟨b1, rfl, hl1, hbb1, hbl1, hw1⟩
                   have hS1 : Five U1 wj.heap.size x := hS0.turns (F := fun _ => False) (Turns.of_below hw1) hsD (fun e => e)
                   have hsU1 : wj.heap.size < U1.heap.size := by have := hw1.size; omega
                   have HPU1 := Lib.hid (HP0.out.next (Turns.of_below hw1))
                   have HL1 := Lib.hid hl1
                   have HBL1 := Lib.hid hbl1
                   clear hl1 hbl1 hw1 hbb1)
                | (go_at_call 23
                   have hcall := writes_d (k1 : Int) k1 rfl b1 0 256 (dataL x.fill false) d2 pc j Fc U1 HPU1.out.two (by rw [HT2.out]; omega) HL1.out (range_of_heap HBL1.out) (by omega)
                   with_reducible refine hcall.mono ?_
                   clear hcall
                   rintro e U2 ⟨FC, rfl, hD2, hF2, hT2⟩
                   have hS2 : Five U2 wj.heap.size x := hS1.turns hT2 hsU1 (fun e => by have := HLB.out _ e; omega)
                   have HQ := Lib.hid (HPU1.out.second hD2 hF2 hT2)
                   clear hD2 hF2 hT2))
            clear hS0 hS1 hS2
            go_wp2
            go_roundw
            case rel => exact ⟨j + 1, FC, by omega, by omega, by go_num, by rw [HR2.out]; exact HQ.out⟩
            case measure => simp [intOf]; omega
          · subst c1
            have hop := opOf_flush x hando
            rw [hop] at HR2
            have HR2 : Hid (_ = d2.flush) := HR2
            clear hop
            go_wp2_with fail
            have ht1 : Turns (fun _ => False) wj (wj.alloc (.cells #[.int .i64 x.op, .int .i64 x.blk, .int .u8 (x.fill.toNat : Int), .bool false, .slice x.A x.n x.c] 35)) := (Turns.refl _ wj).alloc _
            generalize wj.alloc (.cells #[.int .i64 x.op, .int .i64 x.blk, .int .u8 (x.fill.toNat : Int), .bool false, .slice x.A x.n x.c] 35) = W1 at ht1 ⊢
            clear e0 e1 e2 e3 e4
            have HP0 := Lib.hid (HP.out.next ht1)
            clear HP ht1
            refine (flush_d d2 pc j Fc W1 HP0.out.two (by omega)).mono ?_
            rintro e U1 ⟨FC, rfl, hD2, hF2, hT2⟩
            have HQ := Lib.hid ((HP0.out.second hD2 hF2 hT2).more (Nat.le_refl k) (show j ≤ j + 1 by omega))
            clear hD2 hF2 hT2
            go_wp2
            go_roundw
            case rel => exact ⟨j + 1, FC, by omega, by omega, by go_num, by rw [HR2.out]; exact HQ.out⟩
            case measure => simp [intOf]; omega
        · have htk : (ys.map opOf).take j = (ys.map opOf).take z := by
            by_cases e : j = z
            · rw [e]
            · rw [List.take_of_length_le (by rw [List.length_map, HYL.out]; omega), List.take_of_length_le (by rw [List.length_map, HYL.out]; omega)]
          have hfin := HFIN.out
          have hsc := HZ2.out j
          rw [← htk] at hfin
          generalize run (Dk.Dk.new 4) ((ys.map opOf).take j) = d3 at hP hfin hsc
          have HE := Lib.hid ((hP.more (show k ≤ 64 by omega) (show j ≤ 64 by omega)))
          have HEQ := Lib.hid hfin; clear hfin
          have HSC := Lib.hid hsc; clear hsc
          clear hP htk HFIN HYL HDS H HZ2 HP5 hz
          obtain ⟨PL, hPL⟩ : ∃ PL, PL = d3.pend.length := ⟨_, rfl⟩
          have HPL3 := Lib.hid hPL.symm
          have HPL1 := Lib.hid (show d1.pend.length = PL by rw [hPL, HEQ.out.2])
          clear hPL
          obtain ⟨SB, hSB⟩ : ∃ SB, SB = d3.stable.flatten := ⟨_, rfl⟩
          have HSB3 := Lib.hid hSB.symm
          have HSB1 := Lib.hid (show d1.stable.flatten = SB by rw [hSB, HEQ.out.1])
          clear hSB
          have HE0 := Lib.hid (HE.out.next (Turns.refl _ _).drew)
          have hcase : (j < k ∧ j = z) ∨ j = k := by omega
          clear hgo
          rcases hcase with ⟨hi2, hi3⟩ | hi2
          · have hi2 : (j : Int) < (k : Int) := by omega
            subst hi3
            go_wp2_with fail
            clear hjk hjz
            go_region_with
              (first
                | (go_at_call 16
                   have hcall := pending_d d1 pa 64 Fa _ HE0.out.one
                   rw [HPL1.out] at hcall
                   with_reducible refine hcall.mono ?_
                   clear hcall
                   rintro e V0 ⟨rfl, rfl⟩)
                | (go_at_call 16
                   have hcall := pending_d d3 pc 64 Fc _ HE0.out.two
                   rw [HPL3.out] at hcall
                   with_reducible refine hcall.mono ?_
                   clear hcall
                   rintro e V0 ⟨rfl, rfl⟩)
                | (go_at_call 22
                   have hcall := stable_d d1 pa 64 Fa _ HE0.out.one
                   rw [HSB1.out] at hcall
                   with_reducible refine hcall.mono ?_
                   clear hcall
                   rintro e V1 ⟨AA, cA, rfl, hoA, hwA⟩
                   have tA := run_text V1 _ _ _ cA _ (owned_holds hoA)
                   have HOA := Lib.hid (owned_holds hoA)
                   have HE1 := Lib.hid (HE0.out.next (Turns.of_below hwA))
                   clear hoA hwA)
                | (go_at_call 22
                   have hcall := stable_d d3 pc 64 Fc V1 HE1.out.two
                   rw [HSB3.out] at hcall
                   with_reducible refine hcall.mono ?_
                   clear hcall
                   rintro e V2 ⟨AB, cB, rfl, hoB, hwB⟩
                   have tB := run_text V2 _ _ _ cB _ (owned_holds hoB)
                   have tA2 := run_text V2 _ _ _ cA _ (HOA.out.below hwB)
                   have HE2 := Lib.hid (HE1.out.next (Turns.of_below hwB))
                   clear hoB hwB))
            all_goals
              go_wp2_with fail
              clear tA tA2 tB
              refine (crash_d Ab nb cb w.heap.size bits d1 pa 64 Fa V2 HE2.out.one (by omega) (fun w' ht => HBI.out.below (HE2.out.below.trans (ht.below HE2.out.low1 HE2.out.below.size))) hnb).mono ?_
              rintro e V3 ⟨Fa3, rfl, hD3, hF3, hT3⟩
              have HE3 := Lib.hid (HE2.out.first hD3 hF3 hT3)
              clear hD3 hF3 hT3
              go_wp2_with fail
              refine (crash_d Ab nb cb w.heap.size bits d3 pc 64 Fc V3 HE3.out.two (by omega) (fun w' ht => HBI.out.below (HE3.out.below.trans (ht.below HE3.out.low2 HE3.out.below.size))) hnb).mono ?_
              rintro e V4 ⟨Fc4, rfl, hD4, hF4, hT4⟩
              have hE4 := HE3.out.second hD4 hF4 hT4
              clear hD4 hF4 hT4
              have hcs : d1.crash bits = d3.crash bits := crash_same d1 d3 HEQ.out.1 HEQ.out.2 bits
              have hcz : (d3.crash bits).stable.length = 4 := by rw [Dk.size_crash]; exact HSC.out
              have hcf : ((d3.crash bits).write 0 (dataL 0 false)).pend.length = 1 := by
                unfold Dk.Dk.write; rw [if_neg (by unfold Dk.Dk.crash Dk.Dk.blown; simp)]; unfold Dk.Dk.crash; simp
              rw [hcs] at hE4
              generalize d3.crash bits = dc at hE4 hcz hcf
              obtain ⟨IM, hIM⟩ : ∃ IM, IM = dc.image.flatten := ⟨_, rfl⟩
              have HIM := Lib.hid hIM.symm; clear hIM
              have HCZ := Lib.hid hcz; clear hcz
              have HCF := Lib.hid hcf; clear hcf
              clear hcs
              have HE4 := Lib.hid (hE4.next (Turns.refl _ _).drew)
              clear hE4 HE0 HE1 HE2 HE3 HE HEQ HSB1 HSB3 HPL1 HPL3 HOA
              go_wp2_with fail
              go_region_with
                (first
                  | (go_at_call 20
                     have hcall := image_d dc pa 0 Fa3 _ HE4.out.one (by omega)
                     rw [HIM.out] at hcall
                     with_reducible refine hcall.mono ?_
                     clear hcall
                     rintro e V5 ⟨AA, cA, rfl, hoA, hwA⟩
                     have tA := run_text V5 _ _ _ cA _ (owned_holds hoA)
                     have HOA := Lib.hid (owned_holds hoA)
                     have HE5 := Lib.hid (HE4.out.next (Turns.of_below hwA))
                     clear hoA hwA)
                  | (go_at_call 20
                     have hcall := image_d dc pc 0 Fc4 V5 HE5.out.two (by omega)
                     rw [HIM.out] at hcall
                     with_reducible refine hcall.mono ?_
                     clear hcall
                     rintro e V6 ⟨AB, cB, rfl, hoB, hwB⟩
                     have tB := run_text V6 _ _ _ cB _ (owned_holds hoB)
                     have tA2 := run_text V6 _ _ _ cA _ (HOA.out.below hwB)
                     have HE6 := Lib.hid (HE5.out.next (Turns.of_below hwB))
                     clear hoB hwB)
                  | (go_at_call 24
                     refine (data_long 0 0 0 none 0 0 V6).mono ?_
                     rintro e V7 ⟨b7, rfl, hl7, hbb7, hbl7, hw7⟩
                     have HE7 := Lib.hid (HE6.out.next (Turns.of_below hw7))
                     have HL7 := Lib.hid hl7
                     have HBL7 := Lib.hid hbl7
                     clear hl7 hbl7 hw7 hbb7)
                  | (go_at_call 23
                     refine (writes_d 0 0 rfl b7 0 256 (dataL 0 false) dc pa 0 Fa3 V7 HE7.out.one (by rw [HCZ.out]; omega) HL7.out (range_of_heap HBL7.out) (by omega)).mono ?_
                     rintro e V8 ⟨Fa8, rfl, hD8, hF8, hT8⟩
                     have HE8 := Lib.hid (HE7.out.first hD8 hF8 hT8)
                     clear hD8 hF8 hT8)
                  | (go_at_call 16
                     have hcall := pending_d (dc.write 0 (dataL 0 false)) pa 1 Fa8 V8 HE8.out.one
                     rw [HCF.out] at hcall
                     refine hcall.mono ?_
                     clear hcall
                     rintro e V9 ⟨rfl, rfl⟩))
              all_goals
                go_wp2
                go_ret
                exact ⟨rfl, HE8.out.below⟩
          · subst hi2
            go_wp2_with fail
            clear hjk hjz
            go_region_with
              (first
                | (go_at_call 16
                   have hcall := pending_d d1 pa 64 Fa _ HE0.out.one
                   rw [HPL1.out] at hcall
                   with_reducible refine hcall.mono ?_
                   clear hcall
                   rintro e V0 ⟨rfl, rfl⟩)
                | (go_at_call 16
                   have hcall := pending_d d3 pc 64 Fc _ HE0.out.two
                   rw [HPL3.out] at hcall
                   with_reducible refine hcall.mono ?_
                   clear hcall
                   rintro e V0 ⟨rfl, rfl⟩)
                | (go_at_call 22
                   have hcall := stable_d d1 pa 64 Fa _ HE0.out.one
                   rw [HSB1.out] at hcall
                   with_reducible refine hcall.mono ?_
                   clear hcall
                   rintro e V1 ⟨AA, cA, rfl, hoA, hwA⟩
                   have tA := run_text V1 _ _ _ cA _ (owned_holds hoA)
                   have HOA := Lib.hid (owned_holds hoA)
                   have HE1 := Lib.hid (HE0.out.next (Turns.of_below hwA))
                   clear hoA hwA)
                | (go_at_call 22
                   have hcall := stable_d d3 pc 64 Fc V1 HE1.out.two
                   rw [HSB3.out] at hcall
                   with_reducible refine hcall.mono ?_
                   clear hcall
                   rintro e V2 ⟨AB, cB, rfl, hoB, hwB⟩
                   have tB := run_text V2 _ _ _ cB _ (owned_holds hoB)
                   have tA2 := run_text V2 _ _ _ cA _ (HOA.out.below hwB)
                   have HE2 := Lib.hid (HE1.out.next (Turns.of_below hwB))
                   clear hoB hwB))
            all_goals
              go_wp2_with fail
              clear tA tA2 tB
              refine (crash_d Ab nb cb w.heap.size bits d1 pa 64 Fa V2 HE2.out.one (by omega) (fun w' ht => HBI.out.below (HE2.out.below.trans (ht.below HE2.out.low1 HE2.out.below.size))) hnb).mono ?_
              rintro e V3 ⟨Fa3, rfl, hD3, hF3, hT3⟩
              have HE3 := Lib.hid (HE2.out.first hD3 hF3 hT3)
              clear hD3 hF3 hT3
              go_wp2_with fail
              refine (crash_d Ab nb cb w.heap.size bits d3 pc 64 Fc V3 HE3.out.two (by omega) (fun w' ht => HBI.out.below (HE3.out.below.trans (ht.below HE3.out.low2 HE3.out.below.size))) hnb).mono ?_
              rintro e V4 ⟨Fc4, rfl, hD4, hF4, hT4⟩
              have hE4 := HE3.out.second hD4 hF4 hT4
              clear hD4 hF4 hT4
              have hcs : d1.crash bits = d3.crash bits := crash_same d1 d3 HEQ.out.1 HEQ.out.2 bits
              have hcz : (d3.crash bits).stable.length = 4 := by rw [Dk.size_crash]; exact HSC.out
              have hcf : ((d3.crash bits).write 0 (dataL 0 false)).pend.length = 1 := by
                unfold Dk.Dk.write; rw [if_neg (by unfold Dk.Dk.crash Dk.Dk.blown; simp)]; unfold Dk.Dk.crash; simp
              rw [hcs] at hE4
              generalize d3.crash bits = dc at hE4 hcz hcf
              obtain ⟨IM, hIM⟩ : ∃ IM, IM = dc.image.flatten := ⟨_, rfl⟩
              have HIM := Lib.hid hIM.symm; clear hIM
              have HCZ := Lib.hid hcz; clear hcz
              have HCF := Lib.hid hcf; clear hcf
              clear hcs
              have HE4 := Lib.hid (hE4.next (Turns.refl _ _).drew)
              clear hE4 HE0 HE1 HE2 HE3 HE HEQ HSB1 HSB3 HPL1 HPL3 HOA
              go_wp2_with fail
              go_region_with
                (first
                  | (go_at_call 20
                     have hcall := image_d dc pa 0 Fa3 _ HE4.out.one (by omega)
                     rw [HIM.out] at hcall
                     with_reducible refine hcall.mono ?_
                     clear hcall
                     rintro e V5 ⟨AA, cA, rfl, hoA, hwA⟩
                     have tA := run_text V5 _ _ _ cA _ (owned_holds hoA)
                     have HOA := Lib.hid (owned_holds hoA)
                     have HE5 := Lib.hid (HE4.out.next (Turns.of_below hwA))
                     clear hoA hwA)
                  | (go_at_call 20
                     have hcall := image_d dc pc 0 Fc4 V5 HE5.out.two (by omega)
                     rw [HIM.out] at hcall
                     with_reducible refine hcall.mono ?_
                     clear hcall
                     rintro e V6 ⟨AB, cB, rfl, hoB, hwB⟩
                     have tB := run_text V6 _ _ _ cB _ (owned_holds hoB)
                     have tA2 := run_text V6 _ _ _ cA _ (HOA.out.below hwB)
                     have HE6 := Lib.hid (HE5.out.next (Turns.of_below hwB))
                     clear hoB hwB)
                  | (go_at_call 24
                     refine (data_long 0 0 0 none 0 0 V6).mono ?_
                     rintro e V7 ⟨b7, rfl, hl7, hbb7, hbl7, hw7⟩
                     have HE7 := Lib.hid (HE6.out.next (Turns.of_below hw7))
                     have HL7 := Lib.hid hl7
                     have HBL7 := Lib.hid hbl7
                     clear hl7 hbl7 hw7 hbb7)
                  | (go_at_call 23
                     refine (writes_d 0 0 rfl b7 0 256 (dataL 0 false) dc pa 0 Fa3 V7 HE7.out.one (by rw [HCZ.out]; omega) HL7.out (range_of_heap HBL7.out) (by omega)).mono ?_
                     rintro e V8 ⟨Fa8, rfl, hD8, hF8, hT8⟩
                     have HE8 := Lib.hid (HE7.out.first hD8 hF8 hT8)
                     clear hD8 hF8 hT8)
                  | (go_at_call 16
                     have hcall := pending_d (dc.write 0 (dataL 0 false)) pa 1 Fa8 V8 HE8.out.one
                     rw [HCF.out] at hcall
                     refine hcall.mono ?_
                     clear hcall
                     rintro e V9 ⟨rfl, rfl⟩))
              all_goals
                go_wp2
                go_ret
                exact ⟨rfl, HE8.out.below⟩

theorem walks : Walks 8 Try.f8 All := by
  intro H enc W base args ds p hval hA hsz _
  rw [Try.params8] at hA hval
  obtain ⟨v0, vs0, d0, ds0, p0, q0, hargs, rfl, rfl, h0, r0⟩ := trodAll_cons hA
  obtain ⟨v1, vs1, d1, ds1, p1, q1, rfl, rfl, rfl, h1, r1⟩ := trodAll_cons r0
  obtain ⟨v2, vs2, d2, ds2, p2, q2, rfl, rfl, rfl, h2, r2⟩ := trodAll_cons r1
  obtain ⟨rfl, rfl, rfl⟩ := trodAll_nil r2
  obtain rfl : args = #[v0, v1, v2] := by cases args; simp_all
  obtain ⟨A, n, c, xs, rfl, hd, hn, hc⟩ := deeds_of (hval 0 _ v0 rfl rfl) h0
  obtain ⟨x, rfl, rfl, rfl, hx⟩ := open_int Try.underlying3 (hval 1 _ v1 rfl rfl) h1
  obtain ⟨A2, n2, c2, rfl⟩ := okWide_slice Try.underlying33 (hval 2 _ v2 rfl rfl)
  obtain ⟨fuel2, hf2⟩ := h2
  obtain ⟨A3, n3, c3, bs, hv, hb, hn2, hc2⟩ := bytes_part hf2
  injection hv with e1 e2 e3
  subst e1 e2 e3
  exact walk A n c xs x A2 n2 c2 bs W hd hn hc hb (by omega)

set_option maxRecDepth 100000 in
theorem proved : Rows.DiskFuseSaid :=
  OpenClaim.holds_of_wide 8 Try.f8 rfl rfl rfl rfl rfl rfl rfl ⟨rfl, rfl, rfl, rfl, rfl⟩ rfl rfl rfl rfl rfl (by kernel_rfl) Try.func8 (by kernel_rfl)
    (of_decide_eq_true (by kernel_rfl)) (by unfold Func.isWrapper; first | (rw [if_pos (by decide +kernel)]; kernel_rfl) | (rw [if_neg (by decide +kernel)]; exact ⟨rfl, rfl⟩))
    (fun os started H enc _ => lifted (s := Rows.diskFuseSpec) walks (by kernel_rfl) rfl rfl (fun H ds hl => by match ds, hl with | [d1, d2, d3], _ => rfl) (by kernel_rfl) Try.func8 os started H enc
      (ChangeSpec.witness6 (enc := enc) (C := Try.checked) false ⟨#[], #[.slice none 0 0, .int .i64 0, .slice none 0 0], []⟩ 8 (by kernel_rfl) (by kernel_rfl) (by kernel_rfl) (by kernel_rfl)))
#print axioms proved
end Go.Proofs.Ythhfebfabombjaa.DiskFuse
