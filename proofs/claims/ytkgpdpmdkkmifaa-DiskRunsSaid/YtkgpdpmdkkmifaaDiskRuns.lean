/- A disk reads, keeps and loses through any writes, flushes, settlings and crashes just what the document says: proved for every number of blocks and every list of deeds. -/
import Derived.Test.YtkgpdpmdkkmifaaDkTwin
import Derived.Test.YtkgpdpmdkkmifaaRegCall
import Derived.Deep.RegionHeld
import Derived.Deep.RegionWith
namespace Go.Proofs.Ytkgpdpmdkkmifaa.DiskRuns
set_option maxRecDepth 20000
open Go.ChangeShapes Go.WideShapes Go.ChangeAt Go.RowKit
open Go.Proofs.Ytkgpdpmdkkmifaa.Mem Go.Proofs.Ytkgpdpmdkkmifaa.Disk Go.Proofs.Ytkgpdpmdkkmifaa.Lift Go.Proofs.Ytkgpdpmdkkmifaa.Reg
attribute [local go_sem ↓] Go.wp_at_zero Go.wp_at_succ

/-- Two disks and a copy of the first. -/
structure Trio (w W : World) (p r : Nat) (d : Dk.Dk) (c : Nat) (F G : Nat → Prop) (q : Nat) (dq : Dk.Dk) (cq : Nat) (H : Nat → Prop) (z : Nat) : Prop where
  duo : Duo w W p r d c F G
  cp : DiskAt W q dq cq H
  low : ∀ k, H k → z ≤ k
  hF : ∀ k, F k → k < z
  hG : ∀ k, G k → k < z
  hz : w.heap.size ≤ z
  hW : z ≤ W.heap.size
theorem Trio.turns {w W W' : World} {p r c q cq z : Nat} {d dq : Dk.Dk} {F G H : Nat → Prop} (h : Trio w W p r d c F G q dq cq H z) (ht : Turns (fun _ => False) W W') : Trio w W' p r d c F G q dq cq H z :=
  ⟨h.duo.turns ht, h.cp.turns ht (fun _ _ e => e), h.low, h.hF, h.hG, h.hz, by have := h.hW; have := ht.size; omega⟩
theorem Trio.later {w W W' : World} {p r c q cq z : Nat} {d dq : Dk.Dk} {F G H : Nat → Prop} (h : Trio w W p r d c F G q dq cq H z) (hb : Below W.heap.size W W') : Trio w W' p r d c F G q dq cq H z := h.turns (Turns.of_below hb)
theorem Trio.now {w W W' : World} {p r c q cq cq' z : Nat} {d dq dq' : Dk.Dk} {F G H : Nat → Prop} (h : Trio w W p r d c F G q dq cq H z) {v : Value} {e : Ending} (hn : Now W q dq' cq' H v e W') : e = .returned v ∧ ∃ H', Trio w W' p r d c F G q dq' cq' H' z := by
  obtain ⟨H', rfl, hD, hH, hT⟩ := hn
  have hw := h.hW
  exact ⟨rfl, H', h.duo.beside hT (fun k e e' => by have := h.hF k e; have := h.low k e'; omega) (fun k e e' => by have := h.hG k e; have := h.low k e'; omega) (fun k e => by have := h.low k e; have := h.hz; omega), hD,
    fun k hk => (hH k hk).elim (h.low k) (fun e => by omega), h.hF, h.hG, h.hz, by have := hT.size; omega⟩

set_option maxRecDepth 100000 in
set_option maxHeartbeats 40000000 in
theorem walk_bad (b : Int) (A : Option Addr) (n c : Nat) (w : World) (hb : mayB b = false) :
    Calls Try.prog 3 #[.int .i64 b, .slice A n c] w fun e w' => e = .returned (.bool true) ∧ Below w.heap.size w w' := by
  have HB := Lib.hid hb; clear hb
  go_enter Try.func3, Try.ntmps3
  go_wp2_with fail
  refine (alive_any _).mono ?_
  rintro e w1 ⟨rfl, hb1⟩
  go_wp2_with fail
  refine (new_bad b _ HB.out).mono ?_
  rintro e w2 ⟨rfl, rfl⟩
  go_wp2_with fail
  refine (rnew_bad b _ HB.out).mono ?_
  rintro e w3 ⟨rfl, rfl⟩
  go_wp2
  go_ret
  exact ⟨rfl, hb1⟩

set_option maxRecDepth 100000 in
set_option maxHeartbeats 40000000 in
theorem walk_some (N : Nat) (A : Option Addr) (n c : Nat) (xs : List DeedR) (w : World) (h1 : 1 ≤ N) (h2 : N ≤ 1024) (h : Deeds w w.heap.size A n xs) (hc : n ≤ c) (hm : c ≤ maxLen) (hx : ∀ x ∈ xs, x.n ≤ 140737488351232) :
    Calls Try.prog 3 #[.int .i64 (N : Int), .slice A n c] w fun e w' => e = .returned (.bool true) ∧ Below w.heap.size w w' := by
  have hfew : fewN n ≤ 40 ∧ fewN n ≤ n := by unfold fewN; split <;> omega
  have HA := Lib.hid h; clear h
  go_enter Try.func3, Try.ntmps3
  go_wp2_with fail
  refine (alive_any _).mono ?_
  rintro e w1 ⟨rfl, hb1⟩
  go_wp2_with fail
  refine (new_d _ N 0 _ rfl h1 h2).mono ?_
  rintro e w2 ⟨p, F0, rfl, hD, hF, hb2⟩
  have HD := Lib.hid hD; clear hD
  have HF := Lib.hid hF; clear hF
  have HB1 := Lib.hid hb1; clear hb1
  have HB2 := Lib.hid hb2; clear hb2
  go_wp2_with fail
  refine (rnew_d N _ h1 h2).mono ?_
  rintro e w3 ⟨r, G0, rfl, hR, hG, hb3⟩
  have HP0 : Hid (Duo w w3 p r (Dk.Dk.new N) 0 F0 G0) := Lib.hid (duo_new HD.out (fun k hk => by have := HF.out k hk; have := HB1.out.size; omega) (HB1.out.trans (HB2.out.mono HB1.out.size)) hR hG hb3)
  clear hR hG hb3 HD HF HB1 HB2
  unfold ptr
  go_wp2_with fail
  refine (few_any A n c _ hc hm (fun hn => by obtain ⟨b, off, e, _⟩ := HA.out.2.1 hn; exact ⟨b, off, e⟩)).mono ?_
  rintro e w' ⟨rfl, rfl⟩
  obtain ⟨m, hmd⟩ : ∃ m, fewN n = m := ⟨_, rfl⟩
  rw [hmd] at hfew ⊢
  have HDS : Hid (Deeds w w.heap.size A m (xs.take m)) := Lib.hid (HA.out.take (by omega))
  have HDX : Hid (∀ x ∈ xs.take m, x.n ≤ 140737488351232) := Lib.hid (fun x h => hx x (List.mem_of_mem_take h))
  generalize xs.take m = zs at HDS HDX
  have hzl : zs.length = m := HDS.out.1
  clear hmd HA hx
  go_wp2
  go_loopw [10] (fun i wr => ∃ (k : Nat) (d : Dk.Dk) (F G : Nat → Prop), k ≤ m ∧ i = .int .i64 k ∧ Duo w wr p r d k F G) (fun i _ => m - (intOf i).toNat)
  case atStart => exact ⟨0, _, F0, G0, by omega, rfl, HP0.out⟩
  case round =>
    obtain ⟨k, d, F, G, hk, rfl, hP⟩ := hrel
    obtain ⟨wk, hwk⟩ : ∃ wk, wk = wr := ⟨_, rfl⟩
    subst hwk
    have HP := Lib.hid hP; clear hP
    by_cases hlt : k < m
    · obtain ⟨b, off, rfl, hbB, hcell⟩ := (HDS.out.below HP.out.below).2.1 (by omega)
      have hkl : k < zs.length := by omega
      replace hcell := hcell k hkl
      have HIS := Lib.hid (HDS.out.2.2 zs[k] (List.getElem_mem hkl))
      have HIN := Lib.hid (HDX.out zs[k] (List.getElem_mem hkl))
      generalize zs[k]'hkl = x at hcell HIS HIN
      have e0 : wk.drew.cell? ⟨b, off + k * 5, none⟩ = some (.int .i64 x.op) := hcell 0 (by omega)
      have e1 : wk.drew.cell? ⟨b, off + k * 5 + 1, none⟩ = some (.int .i64 x.blk) := hcell 1 (by omega)
      have e2 : wk.drew.cell? ⟨b, off + k * 5 + 2, none⟩ = some (.int .u8 (x.fill.toNat : Int)) := hcell 2 (by omega)
      have e3 : wk.drew.cell? ⟨b, off + k * 5 + 3, none⟩ = some (.bool x.short) := hcell 3 (by omega)
      have e4 : wk.drew.cell? ⟨b, off + k * 5 + 4, none⟩ = some (.slice x.A x.n x.c) := hcell 4 (by omega)
      clear hcell
      have hS := And.intro e0 (And.intro e1 (And.intro e2 (And.intro e3 e4)))
      clear e0 e1 e2 e3 e4
      have hKEEP : ∀ V, Below w.heap.size wk.drew V → (V.cell? ⟨b, off + k * 5, none⟩ = some (.int .i64 x.op) ∧ V.cell? ⟨b, off + k * 5 + 1, none⟩ = some (.int .i64 x.blk) ∧ V.cell? ⟨b, off + k * 5 + 2, none⟩ = some (.int .u8 (x.fill.toNat : Int)) ∧ V.cell? ⟨b, off + k * 5 + 3, none⟩ = some (.bool x.short) ∧ V.cell? ⟨b, off + k * 5 + 4, none⟩ = some (.slice x.A x.n x.c)) := fun V hV =>
        ⟨(hV.cell (p := ⟨b, off + k * 5, none⟩) hbB).trans hS.1, (hV.cell (p := ⟨b, off + k * 5 + 1, none⟩) hbB).trans hS.2.1, (hV.cell (p := ⟨b, off + k * 5 + 2, none⟩) hbB).trans hS.2.2.1, (hV.cell (p := ⟨b, off + k * 5 + 3, none⟩) hbB).trans hS.2.2.2.1, (hV.cell (p := ⟨b, off + k * 5 + 4, none⟩) hbB).trans hS.2.2.2.2⟩
      have HKEEP := Lib.hid hKEEP; clear hKEEP
      have HP1 := Lib.hid (HP.out.turns (Turns.refl (fun _ => False) wk).drew)
      have hC : Calls Try.prog 9 #[.pointer (some ⟨p, 0, none⟩), .pointer (some ⟨r, 0, none⟩), .agg #[.int .i64 x.op, .int .i64 x.blk, .int .u8 (x.fill.toNat : Int), .bool x.short, .slice x.A x.n x.c]] wk.drew fun e W' => e = .returned (.bool true) ∧ Below w.heap.size wk.drew W' ∧ ∃ d' F' G', Duo w W' p r d' (k + 1) F' G' := by
        refine (duo_both' x HP1.out HIS.out HIN.out (by omega)).mono ?_
        rintro e W' ⟨rfl, hb, d', F', G', hP'⟩
        exact ⟨rfl, hb, d', F', G', hP'⟩
      have HC := Lib.hid hC; clear hC
      have hi1 : (0 : Int) ≤ (k : Int) := by omega
      have hi2 : (k : Int) < (m : Int) := by omega
      go_wp2_with fail
      refine wp_region_E (fun V : World => V.cell? ⟨b, off + k * 5, none⟩ = some (.int .i64 x.op) ∧ V.cell? ⟨b, off + k * 5 + 1, none⟩ = some (.int .i64 x.blk) ∧ V.cell? ⟨b, off + k * 5 + 2, none⟩ = some (.int .u8 (x.fill.toNat : Int)) ∧ V.cell? ⟨b, off + k * 5 + 3, none⟩ = some (.bool x.short) ∧ V.cell? ⟨b, off + k * 5 + 4, none⟩ = some (.slice x.A x.n x.c)) 17 (by kernel_rfl) ?_
      refine wpE_take 0 _ (v := ?_) [6, 7, 8, 17] rfl (by kernel_rfl) (by kernel_rfl) (by kernel_rfl) (by kernel_rfl) (fun _ _ _ h => h) hS (Or.inl ⟨by rfl, ?_⟩) ?_
      rotate_left
      · (intro V hSw; obtain ⟨s1, s2, s3, s4, s5⟩ := hSw; go_simp; try with_reducible rfl)
      simp only [Act.put]
      refine wpE_take 1 _ (v := ?_) [6, 7, 8, 17] rfl (by kernel_rfl) (by kernel_rfl) (by kernel_rfl) (by kernel_rfl) (fun _ _ _ h => h) hS (Or.inl ⟨by rfl, ?_⟩) ?_
      rotate_left
      · (intro V hSw; obtain ⟨s1, s2, s3, s4, s5⟩ := hSw; go_simp; try with_reducible rfl)
      simp only [Act.put]
      refine wpE_take 2 _ (v := ?_) [4, 5, 6, 7, 8, 17] rfl (by kernel_rfl) (by kernel_rfl) (by kernel_rfl) (by kernel_rfl) (fun _ _ _ h => h) hS (Or.inl ⟨by rfl, ?_⟩) ?_
      rotate_left
      · (intro V hSw; obtain ⟨s1, s2, s3, s4, s5⟩ := hSw; go_simp; try with_reducible rfl)
      simp only [Act.put]
      refine wpE_take 3 _ (v := ?_) [4, 5, 6, 7, 8, 17] rfl (by kernel_rfl) (by kernel_rfl) (by kernel_rfl) (by kernel_rfl) (fun _ _ _ h => h) hS (Or.inl ⟨by rfl, ?_⟩) ?_
      rotate_left
      · (intro V hSw; obtain ⟨s1, s2, s3, s4, s5⟩ := hSw; go_simp; try with_reducible rfl)
      simp only [Act.put]
      refine wpE_take 4 _ (v := ?_) [5, 6, 7, 8, 17] rfl (by kernel_rfl) (by kernel_rfl) (by kernel_rfl) (by kernel_rfl) (fun _ _ _ h => h) hS (Or.inl ⟨by rfl, ?_⟩) ?_
      rotate_left
      · (intro V hSw; obtain ⟨s1, s2, s3, s4, s5⟩ := hSw; go_simp; try with_reducible rfl)
      simp only [Act.put]
      refine wpE_take 5 _ (v := ?_) [6, 7, 8, 17] rfl (by kernel_rfl) (by kernel_rfl) (by kernel_rfl) (by kernel_rfl) (fun _ _ _ h => h) hS (Or.inl ⟨by rfl, ?_⟩) ?_
      rotate_left
      · (intro V hSw; obtain ⟨s1, s2, s3, s4, s5⟩ := hSw; go_simp; try with_reducible rfl)
      simp only [Act.put]
      refine wpE_one 6 (by kernel_rfl) rfl (fun K hK => ?_)
      refine step_call_if ?hw 9 _ _ _ _ rfl Try.func9 (by kernel_rfl) rfl _ ?hv _ HC.out ?_
      case hw => kernel_rfl
      case hv => simp only [List.map_toArray, List.map_cons, List.map_nil]; go_simp
      rintro e U ⟨rfl, hbU, d', F', G', hP'⟩
      refine ⟨_, rfl, hK.out _ _ (HKEEP.out U hbU) (fun hS => ?_)⟩
      clear hK K HC
      have HP' := Lib.hid hP'
      obtain ⟨A1, c1, hy1⟩ := HP'.out.two.count
      have hpn := pending_t HP'.out.one U (Below.refl _ _)
      obtain ⟨PN, hPN⟩ : ∃ PN, PN = d'.pend.length := ⟨_, rfl⟩
      rw [← hPN] at hy1 hpn
      have HPN := Lib.hid hpn; clear hpn
      have HBU := Lib.hid hbU
      clear hP' hbU hPN
      have hS : (fun V : World => (V.cell? ⟨b, off + k * 5, none⟩ = some (.int .i64 x.op) ∧ V.cell? ⟨b, off + k * 5 + 1, none⟩ = some (.int .i64 x.blk) ∧ V.cell? ⟨b, off + k * 5 + 2, none⟩ = some (.int .u8 (x.fill.toNat : Int)) ∧ V.cell? ⟨b, off + k * 5 + 3, none⟩ = some (.bool x.short) ∧ V.cell? ⟨b, off + k * 5 + 4, none⟩ = some (.slice x.A x.n x.c)) ∧ V.cell? ⟨r, 1, none⟩ = some (.slice A1 PN c1)) U := ⟨hS, hy1⟩
      clear hy1
      refine wpE_weaken (S2 := (fun V : World => (V.cell? ⟨b, off + k * 5, none⟩ = some (.int .i64 x.op) ∧ V.cell? ⟨b, off + k * 5 + 1, none⟩ = some (.int .i64 x.blk) ∧ V.cell? ⟨b, off + k * 5 + 2, none⟩ = some (.int .u8 (x.fill.toNat : Int)) ∧ V.cell? ⟨b, off + k * 5 + 3, none⟩ = some (.bool x.short) ∧ V.cell? ⟨b, off + k * 5 + 4, none⟩ = some (.slice x.A x.n x.c)) ∧ V.cell? ⟨r, 1, none⟩ = some (.slice A1 PN c1))) (fun _ h => h.1) _ _ _ _ ?_
      simp only [Act.put]
      refine wpE_take 7 _ (v := ?_) [8, 17] rfl (by kernel_rfl) (by kernel_rfl) (by kernel_rfl) (by kernel_rfl) (fun _ _ _ h => h) hS (Or.inl ⟨by rfl, ?_⟩) ?_
      rotate_left
      · (intro V hSw; obtain ⟨⟨s1, s2, s3, s4, s5⟩, s6⟩ := hSw; go_simp; try with_reducible rfl)
      simp only [Act.put]
      refine wpE_take 8 _ (v := ?_) [17] rfl (by kernel_rfl) (by kernel_rfl) (by kernel_rfl) (by kernel_rfl) (fun _ _ _ h => h) hS (Or.inl ⟨by rfl, ?_⟩) ?_
      rotate_left
      · (intro V hSw; obtain ⟨⟨s1, s2, s3, s4, s5⟩, s6⟩ := hSw; go_simp; try with_reducible rfl)
      simp only [Act.put]
      refine wpE_take 9 _ (v := ?_) [10, 16, 17] rfl (by kernel_rfl) (by kernel_rfl) (by kernel_rfl) (by kernel_rfl) (fun _ _ _ h => h) hS (Or.inl ⟨by kernel_rfl, ?_⟩) ?_
      rotate_left
      · (intro V hSw; obtain ⟨⟨s1, s2, s3, s4, s5⟩, s6⟩ := hSw; go_simp; try with_reducible rfl)
      simp only [Act.put]
      refine wpE_take 11 _ (v := ?_) [12, 13, 14, 15, 16, 17] rfl (by kernel_rfl) (by kernel_rfl) (by kernel_rfl) (by kernel_rfl) (fun _ _ _ h => h) hS (Or.inl ⟨by kernel_rfl, ?_⟩) ?_
      rotate_left
      · (intro V hSw; obtain ⟨⟨s1, s2, s3, s4, s5⟩, s6⟩ := hSw; go_simp; try with_reducible rfl)
      simp only [Act.put]
      refine wpE_take 12 _ (v := ?_) [13, 14, 15, 16, 17] rfl (by kernel_rfl) (by kernel_rfl) (by kernel_rfl) (by kernel_rfl) (fun _ _ _ h => h) hS (Or.inl ⟨by kernel_rfl, ?_⟩) ?_
      rotate_left
      · (intro V hSw; obtain ⟨⟨s1, s2, s3, s4, s5⟩, s6⟩ := hSw; go_simp; try with_reducible rfl)
      simp only [Act.put]
      refine wpE_take 13 _ (v := ?_) [14, 15, 16, 17] rfl (by kernel_rfl) (by kernel_rfl) (by kernel_rfl) (by kernel_rfl) (fun _ _ _ h => h) hS (Or.inl ⟨by kernel_rfl, ?_⟩) ?_
      rotate_left
      · (intro V hSw; obtain ⟨⟨s1, s2, s3, s4, s5⟩, s6⟩ := hSw; go_simp; try with_reducible rfl)
      simp only [Act.put]
      refine wpE_take 14 _ (v := ?_) [15, 16, 17] rfl (by kernel_rfl) (by kernel_rfl) (by kernel_rfl) (by kernel_rfl) (fun _ _ _ h => h) hS (Or.inl ⟨by kernel_rfl, ?_⟩) ?_
      rotate_left
      · (intro V hSw; obtain ⟨⟨s1, s2, s3, s4, s5⟩, s6⟩ := hSw; go_simp; try with_reducible rfl)
      simp only [Act.put]
      refine wpE_take 15 _ (v := ?_) [16, 17] rfl (by kernel_rfl) (by kernel_rfl) (by kernel_rfl) (by kernel_rfl) (fun _ _ _ h => h) hS (Or.inl ⟨by kernel_rfl, ?_⟩) ?_
      rotate_left
      · (intro V hSw; obtain ⟨⟨s1, s2, s3, s4, s5⟩, s6⟩ := hSw; go_simp; try with_reducible rfl)
      simp only [Act.put]
      refine wpE_one 10 (by kernel_rfl) rfl (fun K hK => ?_)
      rw [if_pos (by kernel_rfl)]
      refine call_wp 10 _ _ _ _ rfl Try.func10 (by kernel_rfl) rfl _ ?hv _ HPN.out ?_
      case hv => simp only [List.map_toArray, List.map_cons, List.map_nil]; go_simp
      rintro e U2 ⟨rfl, rfl⟩
      refine ⟨_, rfl, hK.out _ _ hS (fun hS => ?_)⟩
      clear hK K HPN
      simp only [Act.put]
      refine wpE_take 16 _ (v := ?_) [17] rfl (by kernel_rfl) (by kernel_rfl) (by kernel_rfl) (by kernel_rfl) (fun _ _ _ h => h) hS (Or.inl ⟨by kernel_rfl, ?_⟩) ?_
      rotate_left
      · (intro V hSw; obtain ⟨⟨s1, s2, s3, s4, s5⟩, s6⟩ := hSw; go_simp; try with_reducible rfl)
      simp only [Act.put]
      refine wpE_last (by kernel_rfl) rfl (fun K hK => ?_)
      go_simp
      refine hK.out _ _ ?_
      clear hK K
      refine wpE_done (by kernel_rfl) ?_ _
      obtain ⟨⟨q0, q1, q2, q3, q4⟩, q5⟩ := hS
      have hR1 := readA_d x.blk d' p (k + 1) F' U HP'.out.one (by omega)
      unfold ptr at hR1
      obtain ⟨bs, hbs⟩ : ∃ bs, bs = rdBy d' x.blk := ⟨_, rfl⟩
      obtain ⟨er, her⟩ : ∃ er, er = rdErr d' x.blk := ⟨_, rfl⟩
      have hR2 : ∀ V, Below U.heap.size U V → Calls Try.prog 12 #[.pointer (some ⟨r, 0, none⟩), .int .i64 x.blk] V (RdAt V (rdBy d' x.blk) (rdErr d' x.blk)) := fun V hV => rreadA_d x.blk d' r (k + 1) G' V (HP'.out.two.later hV) (by omega)
      rw [← hbs, ← her] at hR1 hR2
      have HR1 := Lib.hid hR1
      have HR2 := Lib.hid hR2
      clear hR1 hR2 hbs her q0 q2 q3 q4 q5
      go_wp2_with fail
      with_reducible refine HR1.out.mono ?_
      rintro e U3 ⟨A3, n3, c3, rfl, hh3, hb3⟩
      clear HR1 q1
      have HB3 := Lib.hid hb3
      have HH3 := Lib.hid hh3
      obtain ⟨q0, q1, q2, q3, q4⟩ := HKEEP.out U3 (HBU.out.trans (hb3.mono (by have := HP'.out.below.size; omega)))
      clear hb3 hh3 q0 q2 q3 q4
      go_wp2_with fail
      with_reducible refine (HR2.out U3 HB3.out).mono ?_
      rintro e U4 ⟨A4, n4, c4, rfl, hh4, hb4⟩
      have HB4 : Hid (Below U.heap.size U U4) := Lib.hid (HB3.out.trans (hb4.mono HB3.out.size))
      have t3 := run_text U4 _ A3 n3 c3 _ (HH3.out.below hb4)
      have t4 := run_text U4 _ A4 n4 c4 _ hh4
      clear hh4 hb4 HH3 HR2 q1
      go_wp2
      go_roundw
      case rel => exact ⟨k + 1, d', F', G', by omega, by go_num, HP'.out.below' HB4.out⟩
      case measure => simp [intOf]; omega
    · obtain rfl : k = m := by omega
      clear HDS HDX hzl
      have hmm : (k : Int) ≤ (k : Int) := by omega
      have hcp := copy_d d p k F wk HP.out.one (by omega)
      unfold ptr at hcp
      have HCP := Lib.hid hcp; clear hcp
      go_wp2_with fail
      with_reducible refine HCP.out.mono ?_
      rintro e W5 ⟨q, F1, rfl, hD1, hF1, hb4⟩
      clear HCP
      have HT : Hid (Trio w W5 p r d k F G q d k F1 wk.heap.size) := Lib.hid ⟨HP.out.below' hb4, hD1, hF1, HP.out.one.lt, HP.out.two.lt, HP.out.below.size, hb4.size⟩
      clear hD1 hF1 hb4 HP
      obtain ⟨A0, n0, c0, A1, c1, hkeep⟩ := HT.out.duo.two.fields
      have hI := image_t HT.out.cp (by omega)
      have hRI := rimage_t HT.out.duo.two (by omega)
      have hSB := stable_t HT.out.cp
      have hPD := pending_t HT.out.cp
      obtain ⟨SI, hSI⟩ : ∃ s, s = txt d.image.flatten := ⟨_, rfl⟩
      obtain ⟨SS, hSS⟩ : ∃ s, s = txt d.stable.flatten := ⟨_, rfl⟩
      obtain ⟨PN, hPN⟩ : ∃ s, s = d.pend.length := ⟨_, rfl⟩
      rw [← hSI] at hI hRI
      rw [← hSS] at hSB hkeep
      rw [← hPN] at hPD hkeep
      have HSI := Lib.hid hSI; clear hSI
      have HSS := Lib.hid hSS; clear hSS
      have HPN := Lib.hid hPN; clear hPN
      have HI := Lib.hid hI; clear hI
      have HRI := Lib.hid hRI; clear hRI
      have HSB := Lib.hid hSB; clear hSB
      have HPD := Lib.hid hPD; clear hPD
      have HKEEP := Lib.hid hkeep; clear hkeep
      go_wp2_with fail
      have hS := HKEEP.out W5.drew (Below.refl _ W5).drew
      have HV0 : Hid (Below W5.heap.size W5 W5.drew) := Lib.hid (Below.refl _ W5).drew
      go_region_held (fun V => V.cell? ⟨r, 0, none⟩ = some (.slice A0 n0 c0) ∧ V.cell? ⟨r, 1, none⟩ = some (.slice A1 PN c1) ∧ (convert 33 9 (.slice A0 n0 c0)).run Try.prog V = .ok (.string SS) V) (assumption)
        (first
          | (go_at_call 14
             have hcall := HI.out _ HV0.out
             with_reducible refine hcall.mono ?_
             rintro e V1 ⟨AA, nA, cA, rfl, hV1, tA⟩
             clear hcall hS
             have hS1 := HKEEP.out V1 (HV0.out.trans (hV1.mono HV0.out.size))
             have tA1 := tA V1 (Below.refl _ _)
             have HV1 := Lib.hid (HV0.out.trans (hV1.mono HV0.out.size))
             have HTA := Lib.hid tA
             clear hV1 tA)
          | (go_at_call 15
             have hcall := HRI.out _ HV1.out
             with_reducible refine hcall.mono ?_
             rintro e V2 ⟨AB, nB, cB, rfl, hV2, tB⟩
             clear hcall hS1
             have hS2 := HKEEP.out V2 (HV1.out.trans (hV2.mono HV1.out.size))
             have tA2 := HTA.out V2 hV2
             have tB2 := tB V2 (Below.refl _ _)
             have HV2 := Lib.hid (HV1.out.trans (hV2.mono HV1.out.size))
             clear hV2 tB)
          | (go_at_call 16
             have hcall := HSB.out _ HV2.out
             with_reducible refine hcall.mono ?_
             rintro e V3 ⟨AC, nC, cC, rfl, hV3, tC⟩
             clear hcall hS2
             have hS3 := HKEEP.out V3 (HV2.out.trans (hV3.mono HV2.out.size))
             have tC3 := tC V3 (Below.refl _ _)
             have HV3 := Lib.hid (HV2.out.trans (hV3.mono HV2.out.size))
             clear hV3 tC)
          | (go_at_call 10
             have hcall := HPD.out _ HV3.out
             with_reducible refine hcall.mono ?_
             rintro e V4 ⟨rfl, rfl⟩
             clear hcall))
      all_goals
        clear HI HRI HSB HPD HKEEP HTA
        have HT3 := Lib.hid (HT.out.later HV3.out)
        clear tA1 tA2 tB2 tC3 hS3
        have hdl := data_long 0 0 9 none 0 0 V3
        have h9 : ((9 : UInt8).toNat : Int) = 9 := rfl
        rw [h9] at hdl
        have HDL := Lib.hid hdl; clear hdl h9
        go_wp2_with fail
        with_reducible refine HDL.out.mono ?_
        rintro e V5 ⟨b5, rfl, hl5, hbb5, hbl5, hw5⟩
        clear HDL
        have HT5 := Lib.hid (HT3.out.later hw5)
        have hwr := writes_d 0 0 rfl b5 0 256 (dataL 9 false) d q k F1 V5 HT5.out.cp (by have := HT5.out.cp.ok; omega) hl5 (range_of_heap hbl5) (by omega)
        unfold ptr at hwr
        generalize d.write 0 (dataL 9 false) = D6 at hwr
        have HWR := Lib.hid hwr
        clear hwr hl5 hbb5 hbl5 hw5 HT3
        go_wp2_with fail
        with_reducible refine HWR.out.mono ?_
        rintro e V6 hn6
        obtain ⟨rfl, H6, hT6⟩ := HT5.out.now hn6
        have HT6 := Lib.hid hT6
        clear hn6 hT6 HWR HT5
        have hfl := flush_d D6 q (k + 1) H6 V6 HT6.out.cp (by omega)
        unfold ptr at hfl
        generalize D6.flush = D7 at hfl
        have HFL := Lib.hid hfl; clear hfl
        go_wp2_with fail
        with_reducible refine HFL.out.mono ?_
        rintro e V7 hn7
        obtain ⟨rfl, H7, hT7⟩ := HT6.out.now hn7
        have HT7 := Lib.hid hT7
        clear hn7 hT7 HFL HT6
        have hcr : Calls Try.prog 20 #[.pointer (some ⟨q, 0, none⟩), .slice (some ⟨V7.heap.size, 0, none⟩) 1 1] (V7.alloc (.cells #[.int .u8 255] 5)) (fun e W' => e = .returned (.tuple #[]) ∧ ∃ D8 H8, Trio w W' p r d k F G q D8 0 H8 wk.heap.size) := by
          have ht : Turns (fun _ => False) V7 (V7.alloc (.cells #[.int .u8 255] 5)) := (Turns.refl _ V7).alloc _
          have hT := HT7.out.turns ht
          have hx : (V7.alloc (.cells #[.int .u8 255] 5)).heap[V7.heap.size]? = some (.cells #[.int .u8 255] 5 (0, 0)) := heap_alloc_new V7 _
          refine (crash_d (some ⟨V7.heap.size, 0, none⟩) 1 1 (V7.heap.size + 1) [255] D7 q (k + 1) H7 _ hT.cp (by omega) (fun w' hw' => ?_) (by unfold maxLen; omega)).mono ?_
          · have hx' := (hw'.block V7.heap.size (by simp) (fun e => by have := HT7.out.cp.lt _ e; omega)).trans hx
            exact ⟨rfl, fun _ => ⟨V7.heap.size, 0, rfl, by omega, fun j hj => by
              have : j = 0 := by simpa using hj
              subst this
              exact cell_of_row _ _ _ _ _ _ hx'⟩⟩
          · intro e W' hn
            obtain ⟨h1, H8, h2⟩ := hT.now hn
            exact ⟨h1, _, H8, h2⟩
        have HCR := Lib.hid hcr; clear hcr
        go_wp2_with fail
        with_reducible refine HCR.out.mono ?_
        rintro e V8 ⟨rfl, D8, H8, hT8⟩
        have HT8 := Lib.hid hT8
        clear hT8 HCR HT7
        obtain ⟨A0, n0, c0, A1, c1, hkeep⟩ := HT8.out.duo.two.fields
        have hI := image_t HT8.out.duo.one (by omega)
        have hRI := rimage_t HT8.out.duo.two (by omega)
        have hSB := stable_t HT8.out.duo.one
        have hPD := pending_t HT8.out.duo.one
        have hSZ : ∀ V, Below V8.heap.size V8 V → Calls Try.prog 21 #[.pointer (some ⟨p, 0, none⟩)] V fun e V' => e = .returned (.int .i64 (d.stable.length : Int)) ∧ V = V' := fun V hV => size_d d p k F V (HT8.out.duo.one.later hV)
        have hRS : ∀ V, Below V8.heap.size V8 V → Calls Try.prog 22 #[.pointer (some ⟨r, 0, none⟩)] V fun e V' => e = .returned (.int .i64 (d.stable.length : Int)) ∧ V = V' := fun V hV => rsize_d d r k G V (HT8.out.duo.two.later hV)
        obtain ⟨SZ, hsz⟩ : ∃ s, s = d.stable.length := ⟨_, rfl⟩
        rw [← hsz] at hSZ hRS
        rw [← HSI.out] at hI hRI
        rw [← HSS.out] at hSB hkeep
        rw [← HPN.out] at hPD hkeep
        have HSZ := Lib.hid hSZ; clear hSZ
        have HRS := Lib.hid hRS; clear hRS
        have HI := Lib.hid hI; clear hI
        have HRI := Lib.hid hRI; clear hRI
        have HSB := Lib.hid hSB; clear hSB
        have HPD := Lib.hid hPD; clear hPD
        have HKEEP := Lib.hid hkeep; clear hkeep
        have HBW : Hid (Below w.heap.size w V8) := Lib.hid HT8.out.duo.below
        have hwz := HT8.out.duo.below.size
        clear HT8 HT HSI HSS HPN hsz
        go_wp2_with fail
        have hS := HKEEP.out V8.drew (Below.refl _ V8).drew
        have HX0 : Hid (Below V8.heap.size V8 V8.drew) := Lib.hid (Below.refl _ V8).drew
        go_region_held (fun V => V.cell? ⟨r, 0, none⟩ = some (.slice A0 n0 c0) ∧ V.cell? ⟨r, 1, none⟩ = some (.slice A1 PN c1) ∧ (convert 33 9 (.slice A0 n0 c0)).run Try.prog V = .ok (.string SS) V) (assumption)
          (first
            | (go_at_call 21
               have hcall := HSZ.out _ HX0.out
               with_reducible refine hcall.mono ?_
               rintro e X0 ⟨rfl, rfl⟩
               clear hcall)
            | (go_at_call 22
               have hcall := HRS.out _ HX0.out
               with_reducible refine hcall.mono ?_
               rintro e X0 ⟨rfl, rfl⟩
               clear hcall)
            | (go_at_call 14
               have hcall := HI.out _ HX0.out
               with_reducible refine hcall.mono ?_
               rintro e X1 ⟨AD, nD, cD, rfl, hX1, tD⟩
               clear hcall hS
               have hY1 := HKEEP.out X1 (HX0.out.trans (hX1.mono HX0.out.size))
               have tD1 := tD X1 (Below.refl _ _)
               have HX1 := Lib.hid (HX0.out.trans (hX1.mono HX0.out.size))
               have HTD := Lib.hid tD
               clear hX1 tD)
            | (go_at_call 15
               have hcall := HRI.out _ HX1.out
               with_reducible refine hcall.mono ?_
               rintro e X2 ⟨AE, nE, cE, rfl, hX2, tE⟩
               clear hcall hY1
               have hY2 := HKEEP.out X2 (HX1.out.trans (hX2.mono HX1.out.size))
               have tD2 := HTD.out X2 hX2
               have tE2 := tE X2 (Below.refl _ _)
               have HX2 := Lib.hid (HX1.out.trans (hX2.mono HX1.out.size))
               clear hX2 tE)
            | (go_at_call 16
               have hcall := HSB.out _ HX2.out
               with_reducible refine hcall.mono ?_
               rintro e X3 ⟨AG, nG, cG, rfl, hX3, tG⟩
               clear hcall hY2
               have hY3 := HKEEP.out X3 (HX2.out.trans (hX3.mono HX2.out.size))
               have tG3 := tG X3 (Below.refl _ _)
               have HX3 := Lib.hid (HX2.out.trans (hX3.mono HX2.out.size))
               clear hX3 tG)
            | (go_at_call 10
               have hcall := HPD.out _ HX3.out
               with_reducible refine hcall.mono ?_
               rintro e X4 ⟨rfl, rfl⟩
               clear hcall))
        all_goals
          go_wp2
          go_ret
          exact ⟨rfl, HBW.out.trans (HX3.out.mono hwz)⟩

theorem walks : Walks 3 Try.f3 All := by
  intro H enc W base args ds p hval hA hsz _
  rw [Try.params3] at hA hval hsz
  obtain ⟨v0, vs0, d0, ds0, p0, q0, hargs, rfl, rfl, h0, r0⟩ := trodAll_cons hA
  obtain ⟨v1, vs1, d1, ds1, p1, q1, rfl, rfl, rfl, h1, r1⟩ := trodAll_cons r0
  obtain ⟨rfl, rfl, rfl⟩ := trodAll_nil r1
  obtain rfl : args = #[v0, v1] := by cases args; simp_all
  obtain ⟨x, rfl, rfl, rfl, hx⟩ := open_int Try.underlying3 (hval 0 _ v0 rfl rfl) h0
  obtain ⟨A, n, c, xs, rfl, hd, hn, hc⟩ := deeds_of (hval 1 _ v1 rfl rfl) h1
  cases hb : mayB x
  · exact walk_bad x A n c W hb
  · have hb' : 1 ≤ x ∧ x ≤ 1024 := by simpa [mayB] using hb
    obtain ⟨N, rfl⟩ : ∃ N : Nat, x = (N : Int) := ⟨x.toNat, by omega⟩
    exact walk_some N A n c xs W (by omega) (by omega) hd hn hc (deeds_wide h1 (deeds_weights hsz (j := 1) rfl rfl) rfl hd)

set_option maxRecDepth 100000 in
theorem proved : Rows.DiskRunsSaid :=
  OpenClaim.holds_of_wide 3 Try.f3 rfl rfl rfl rfl rfl rfl rfl ⟨rfl, rfl, rfl, rfl, rfl⟩ rfl rfl rfl rfl rfl (by kernel_rfl) Try.func3 (by kernel_rfl)
    (of_decide_eq_true (by kernel_rfl)) (by unfold Func.isWrapper; first | (rw [if_pos (by decide +kernel)]; kernel_rfl) | (rw [if_neg (by decide +kernel)]; exact ⟨rfl, rfl⟩))
    (fun os started H enc _ => lifted (s := Rows.diskRunsSpec) walks (by kernel_rfl) rfl rfl (fun H ds hl => by match ds, hl with | [d1, d2], _ => rfl) (by kernel_rfl) Try.func3 os started H enc
      (ChangeSpec.witness6 (enc := enc) (C := Try.checked) false ⟨#[], #[.int .i64 0, .slice none 0 0], []⟩ 8 (by kernel_rfl) (by kernel_rfl) (by kernel_rfl) (by kernel_rfl)))
#print axioms proved
end Go.Proofs.Ytkgpdpmdkkmifaa.DiskRuns
