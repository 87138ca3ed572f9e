/- Fill: a part is turned, in new memory. -/
import Derived.Test.YtnkiblifnknbkaaBtCount
import Derived.Test.YtnkiblifnknbkaaRcMem
namespace Go.Proofs.Ytnkiblifnknbkaa.Bits
set_option maxRecDepth 20000
open Go Go.RowKit Go.Shelf
open Go.Proofs.Ytnkiblifnknbkaa.Mem Go.Proofs.Ytnkiblifnknbkaa.Bt Go.Proofs.Ytnkiblifnknbkaa.Reg Go.Proofs.Ytnkiblifnknbkaa.Rec
attribute [local go_sem] Oper.semAt_some
attribute [local go_sem ↓] quoN_eq remN_eq shrB_eq shlB_eq andB_eq orB_eq clrB_eq subB_eq

def rowB (ys : List UInt8) : Obj := .cells (ys.map byteV).toArray 5 (0, 0)
theorem owned_row {w : World} {base g n : Nat} {ys : List UInt8} (h : w.heap[g]? = some (rowB ys)) (hg : base ≤ g) (hn : ys.length = n) (hm : n ≤ maxLen) : Owned w base (.slice (some ⟨g, 0, none⟩) n n) ys := by
  subst hn
  exact ⟨by simp, .inr ⟨g, ys.length, _, rfl, hg, h, Nat.le_refl _, hm, by simp, by rw [List.take_of_length_le (by simp)]⟩⟩

/-- 'copy(like, m)': as long as each other. -/
theorem copy_row (w : World) (g n c B : Nat) (A : Option Addr) (zs bs : List UInt8) (hg : w.heap[g]? = some (rowB zs)) (hz : zs.length = n) (h : Holds w B A n bs) :
    ∃ w', (Builtin.copy_ #[22, 22] 3 #[.slice (some ⟨g, 0, none⟩) n n, .slice A n c]).run Try.prog w = .ok (goInt n) w' ∧ w'.heap[g]? = some (rowB bs) ∧ w.grownBy w' (some g) := by
  have hl := h.1
  rcases Nat.eq_zero_or_pos n with h0 | h0
  · subst h0
    obtain rfl : bs = [] := List.eq_nil_of_length_eq_zero hl
    obtain rfl : zs = [] := List.eq_nil_of_length_eq_zero hz
    exact ⟨w, run_copy_none w 22 22 3 5 _ _ 0 0 0 c Try.underlying22 (by kernel_rfl) rfl, hg, World.grownBy.refl _ _⟩
  · obtain ⟨b, off, rfl, _, hcell⟩ := h.2 h0
    have hrun := run_copy_row (P := Try.prog) w 22 22 3 5 g 0 n n ⟨b, off, none⟩ n c (zs.map byteV).toArray 5 (bs.map byteV) Try.underlying22 (by kernel_rfl) hg (by simp [hl])
      (by
        intro j v hj
        have hlt : j < bs.length := by
          have := (List.getElem?_eq_some_iff.1 hj).1
          simpa using this
        have hadd : (⟨b, off, none⟩ : Addr).add j = ⟨b, off + j, none⟩ := by unfold Addr.add; split <;> simp_all
        rw [hadd, hcell j hlt]
        simpa [byteV, hlt] using hj)
      (by simp; omega) (by intro v hv; obtain ⟨u, _, rfl⟩ := List.mem_map.1 hv; rfl)
    simp only [List.length_map] at hrun
    rw [hl] at hrun
    refine ⟨_, hrun, ?_, ⟨rfl, rfl, rfl, by simp [World.setRow], fun k hk hf => setRow_other w g k _ (fun e => hf (by rw [e]))⟩⟩
    rw [setRow_heap w g _ _ _ _ hg]
    simp [rowB, hz]

theorem turn_mask (v : Bool) (u : UInt8) (a b j : Nat) (hj : st a j < b) : (turn v u (st a j % 8) (st a j % 8 + (en a b j - st a j))).toNat = if v then u.toNat ||| mask (st a j) b else u.toNat &&& (255 - mask (st a j) b) := by
  have he := st_en a b j hj
  rw [show st a j % 8 + (en a b j - st a j) = min (st a j % 8 + (b - st a j)) 8 by omega, turn_nat _ _ _ _ (by omega)]
  rfl
theorem getD_len {ys : List UInt8} {q n : Nat} (hl : ys.length = n) (hq : q < n) : ys.getD q 0 = ys[q]'(by omega) := by
  have : q < ys.length := by omega
  simp [List.getD, this]

set_option maxRecDepth 100000 in
set_option maxHeartbeats 4000000 in
theorem fill_any (A : Option Addr) (n c B : Nat) (bs : List UInt8) (fr to : Int) (v : Bool) (w : World) (h : Holds w B A n bs) (hB : B ≤ w.heap.size) (hn : n ≤ 140737488351232) :
    Calls Try.prog 24 #[.slice A n c, .int .i64 fr, .int .i64 to, .bool v] w fun e w' => ∃ ys, Filled bs fr.toNat (hiN n to) v ys ∧ Made w ys e w' := by
  have hhi := hiN_le n to
  obtain ⟨a, ha⟩ : ∃ a, a = fr.toNat := ⟨_, rfl⟩
  obtain ⟨bI, hbI⟩ : ∃ bI, bI = hiE n to := ⟨_, rfl⟩
  obtain ⟨b, hb⟩ : ∃ b, b = bI.toNat := ⟨_, rfl⟩
  have hbE : hiN n to = b := by unfold hiN; rw [← hbI, hb]
  rw [hbE] at hhi ⊢
  rw [← ha]
  obtain ⟨k, hk⟩ : ∃ k, k = rounds a b := ⟨_, rfl⟩
  have hkn : k ≤ n + 1 := by rw [hk]; unfold rounds; split <;> omega
  have hbI2 : bI < 4611686018427387904 := by omega
  refine (callsIn_wide (n := 3)).1 ?_
  refine callsIn_of_wp_marks Try.func24 rfl trivial ?_ rfl
  simp only [Try.ntmps24, List.size_toArray, List.length_cons, List.length_nil, Nat.reduceAdd, Nat.reduceSub, Array.replicate_succ, Array.replicate_zero, List.push_toArray, List.append_toArray, List.nil_append, List.cons_append]
  have hmk : ∀ W, (Instr.makeSlice 22 (.int .i64 (n : Int)) (.int .i64 (n : Int))).run Try.prog W = .ok (.slice (some ⟨W.heap.size, 0, none⟩) n n) (W.alloc (.cells ((List.replicate n (0 : UInt8)).map byteV).toArray 5)) := run_makeZ n (by omega)
  obtain ⟨z, hz⟩ : ∃ z : Array Value, z = ((List.replicate n (0 : UInt8)).map byteV).toArray := ⟨_, rfl⟩
  rw [← hz] at hmk
  have HZ := Lib.hid hz; clear hz
  gi_wp2_with fail
  clear hmk
  obtain ⟨W1, hW1⟩ : ∃ W1, W1 = ((w.alloc (.cells #[.bool v] 4)).alloc (.cells z 5)).alloc (.cells #[.slice (some ⟨w.heap.size + 1, 0, none⟩) n n] 22) := ⟨_, rfl⟩
  have z1 : (w.alloc (.cells #[.bool v] 4)).heap.size = w.heap.size + 1 := by simp
  have z2 : ((w.alloc (.cells #[.bool v] 4)).alloc (.cells z 5)).heap.size = w.heap.size + 2 := by simp
  have hM : W1.heap[w.heap.size]? = some (.cells #[.bool v] 4 (0, 0)) := by
    rw [hW1]
    exact (Below.heap_alloc _ _ _ (by rw [z2]; omega)).trans ((Below.heap_alloc _ _ _ (by rw [z1]; omega)).trans (heap_alloc_new w _))
  have hT : W1.heap[w.heap.size + 1]? = some (rowB (List.replicate n 0)) := by
    rw [hW1]
    refine (Below.heap_alloc _ _ _ (by rw [z2]; omega)).trans ?_
    rw [← z1, HZ.out]
    exact heap_alloc_new _ _
  have hL : W1.heap[w.heap.size + 2]? = some (.cells #[.slice (some ⟨w.heap.size + 1, 0, none⟩) n n] 22 (0, 0)) := by
    rw [hW1, ← z2]
    exact heap_alloc_new _ _
  have hz3 : W1.heap.size = w.heap.size + 3 := by rw [hW1]; simp
  have hbl : Below w.heap.size w W1 := by rw [hW1]; exact (((Below.refl _ w).alloc (Nat.le_refl _) _).alloc (by simp) _).alloc (by simp; omega) _
  rw [← hW1]
  clear hW1 z1 z2
  obtain ⟨W2, hrun, hT2, hgr2⟩ := copy_row W1 (w.heap.size + 1) n c B A _ bs hT (by simp) (h.below (hbl.mono hB))
  rw [hrun]
  have hM2 := (hgr2.block w.heap.size (by omega) (fun e => by injection e with e; omega)).trans hM
  have hL2 := (hgr2.block (w.heap.size + 2) (by omega) (fun e => by injection e with e; omega)).trans hL
  have hb2 : Below w.heap.size w W2 := below_grown hbl (by omega) hgr2
  have hz2 := hgr2.size
  rw [hz3] at hz2
  obtain ⟨Z, hZ⟩ : ∃ Z, Z = W2.heap.size := ⟨_, rfl⟩
  rw [← hZ] at hz2
  have hxm : W2.cell? ⟨w.heap.size + 1 + 1, 0, none⟩ = some (.slice (some ⟨w.heap.size + 1, 0, none⟩) n n) := cell_of_row W2 _ 0 _ _ _ hL2
  clear hrun hgr2 hz3 hbl hM hT hL W1
  simp only [Result.andThen_ok, Oper.uponIn_value]
  have HH := Lib.hid h; clear h
  have HM2 := Lib.hid hM2; clear hM2
  have HT2 := Lib.hid hT2; clear hT2
  have HL2 := Lib.hid hL2; clear hL2
  have HB2 := Lib.hid hb2; clear hb2
  have HZ2 := Lib.hid hZ; clear hZ
  have HBI := Lib.hid hbI; clear hbI
  have HA := Lib.hid ha; clear ha
  have HK := Lib.hid hk; clear hk
  have HBB := Lib.hid hb; clear hb hbE
  clear HZ z
  gi_wp2_with fail
  refine ⟨trivial, (callsIn_wide (n := 2)).2 ((part_mk A n c (by omega) fr to W2).mono ?_)⟩
  rintro e W0 ⟨rfl, hbl0, hq0, hq1, hz0⟩
  rw [loE_nat, ← HA.out] at hq0
  rw [← HBI.out] at hq1
  rw [← HZ2.out] at hq0 hq1 hz0 ⊢
  have hM0 := (hbl0.block w.heap.size (by have := HZ2.out; omega)).trans HM2.out
  have hT0 := (hbl0.block (w.heap.size + 1) (by have := HZ2.out; omega)).trans HT2.out
  have hL0 := (hbl0.block (w.heap.size + 2) (by have := HZ2.out; omega)).trans HL2.out
  have hB0 : Below w.heap.size w W0 := HB2.out.trans (hbl0.mono (by have := HZ2.out; omega))
  obtain ⟨M, hMe⟩ : ∃ M, M = w.heap.size := ⟨_, rfl⟩
  rw [← hMe] at hM0 hT0 hL0 hz2
  clear hbl0 hxm HM2 HT2 HL2 HB2 HZ2 W2
  have HB0 := Lib.hid hB0; clear hB0
  have HM0 := Lib.hid hM0; clear hM0
  have HT0 := Lib.hid hT0; clear hT0
  have HL0 := Lib.hid hL0; clear hL0
  have HQ0 := Lib.hid hq0; clear hq0
  have HQ1 := Lib.hid hq1; clear hq1
  have hMle : w.heap.size ≤ M := Nat.le_of_eq hMe.symm
  gi_wp2
  rw [← hMe]
  clear hMe
  refine wpIn_rangeFunc_ownG (F := Fence.wide) (n := 3) rfl (by omega) (gf := 42) (lb := #[.pointer (some ⟨Z, 0, none⟩), .pointer (some ⟨Z + 1, 0, none⟩)]) rfl trivial (enters_of Try.func42 (by kernel_rfl) rfl)
    (part_stops (3 - 1) (by omega) Z (Z + 1) a b k bI HBB.out HK.out hbI2 W0 (cell_of_row _ _ 0 _ _ _ HQ0.out) (cell_of_row _ _ 0 _ _ _ HQ1.out))
    (fun h1 h2 => ⟨h2.1.trans h1.1, h2.2.trans h1.2⟩) ?hKb (Below.refl _ _) (fun _ => rfl)
    (Lp W0 (M + 1) (fun (pre : List (Fin k)) o => o = rowB (turnedAll a b v bs (pre.map fun x => x.1)))) (fun _ _ _ => False) (lp_own W0 (M + 1) (by omega) _) (fun _ _ _ _ _ hs _ _ => hs) ⟨World.grownBy.refl _ _, _, HT0.out, rfl⟩
    (fun x => { tmps := #[.slice A n c, .int .i64 fr, .int .i64 to, .bool v, undef, undef, undef, .pointer (some ⟨M, 0, none⟩), .slice none 0 0, .pointer (some ⟨M + 1 + 1, 0, none⟩), .int .i64 ((a / 8 + x.1 : Nat) : Int), .int .u8 (mask (st a x.1) b : Int), .slice A n c, .int .i64 (n : Int), .slice (some ⟨M + 1, 0, none⟩) n n, .slice (some ⟨M + 1, 0, none⟩) n n, .slice A n c, .int .i64 (n : Int), .slice A n c, .int .i64 fr, .int .i64 to, .func (.func 42) #[] #[.pointer (some ⟨Z, 0, none⟩), .pointer (some ⟨Z + 1, 0, none⟩)], .int .i64 ((a / 8 + x.1 : Nat) : Int), .int .u8 (mask (st a x.1) b : Int), undef, undef, undef, undef, undef, undef, undef, undef, undef, undef, undef, undef, undef, undef, undef, undef], defers := [] }) ?assign ?body ?done ?stop
  case hKb =>
    intro V q o o' hq ho hoc hw
    exact ⟨World.putObj_heap_other (by omega), World.putObj_heap_other (by omega)⟩
  case assign =>
    intro l x V K hK
    dsimp only [partV] at hK ⊢
    obtain ⟨P, hP⟩ : ∃ P, P = a / 8 + x.1 := ⟨_, rfl⟩
    rw [← hP] at hK ⊢
    clear hP
    gi_wp2
    exact hK
  case body =>
    rintro l pre x V ⟨hg, o, ho, rfl⟩ hlen
    have hx := x.2
    have hs := (rounds_iff a b x.1).1 (by rw [← HK.out]; exact hx)
    have hby := st_byte a x.1
    have hl2 : (turnedAll a b v bs (pre.map fun x => x.1)).length = n := by rw [turnedAll_len]; exact HH.out.1
    have hsn : turnedAll a b v bs ((pre ++ [x]).map fun x => x.1) = turned a b v (turnedAll a b v bs (pre.map fun x => x.1)) x.1 := by rw [List.map_append]; exact turnedAll_snoc _ _ _ _ _ _
    unfold turned at hsn
    obtain ⟨ys, hys⟩ : ∃ ys, ys = turnedAll a b v bs (pre.map fun x => x.1) := ⟨_, rfl⟩
    rw [← hys] at ho hl2 hsn
    obtain ⟨P, hP⟩ : ∃ P, P = a / 8 + x.1 := ⟨_, rfl⟩
    have hPn : P < n := by omega
    rw [← hP] at hsn ⊢
    obtain ⟨u, hu⟩ : ∃ u, u = ys.getD P 0 := ⟨_, rfl⟩
    rw [← hu] at hsn
    have hcell : V.cell? ⟨M + 1, P, none⟩ = some (.int .u8 (u.toNat : Int)) := by
      rw [cell_of_row V _ P _ _ _ ho, hu, getD_len hl2 hPn]
      have : P < ys.length := by omega
      simp [this, byteV]
    have htm := turn_mask v u a b x.1 hs
    obtain ⟨y, hy⟩ : ∃ y, y = turn v u (st a x.1 % 8) (st a x.1 % 8 + (en a b x.1 - st a x.1)) := ⟨_, rfl⟩
    rw [← hy] at htm hsn
    obtain ⟨mm, hmm⟩ : ∃ mm, mm = mask (st a x.1) b := ⟨_, rfl⟩
    have hm256 : mm < 256 := hmm ▸ mask_lt _ _
    rw [← hmm] at htm ⊢
    have hPc1 : (0 : Int) ≤ (P : Int) := by omega
    have hPc2 : (P : Int) < (n : Int) := by omega
    have s1 : V.cell? ⟨M, 0, none⟩ = some (.bool v) := cell_of_row V _ 0 _ _ _ ((hg.block M (by omega) (fun e => by injection e with e; omega)).trans HM0.out)
    have s2 : V.cell? ⟨M + 1 + 1, 0, none⟩ = some (.slice (some ⟨M + 1, 0, none⟩) n n) := cell_of_row V _ 0 _ _ _ ((hg.block (M + 1 + 1) (by omega) (fun e => by injection e with e; omega)).trans HL0.out)
    have s3 : V.frozen? ⟨M + 1, P, none⟩ = false := frozen_of_row V _ P _ _ ho
    have HG := Lib.hid hg; clear hg
    have HO := Lib.hid ho; clear ho
    have HSN := Lib.hid hsn; clear hsn
    have hl3 : P < ys.length := by omega
    have hfin : KeepsFrom W0.heap.size V (V.setCell ⟨M + 1, P, none⟩ (.int .u8 (y.toNat : Int))) ∧ KpBox Z (Z + 1) V (V.setCell ⟨M + 1, P, none⟩ (.int .u8 (y.toNat : Int))) ∧ Lp W0 (M + 1) (fun (pre : List (Fin k)) o => o = rowB (turnedAll a b v bs (pre.map fun x => x.1))) (pre ++ [x]) (V.setCell ⟨M + 1, P, none⟩ (.int .u8 (y.toNat : Int))) := by
      have hgn : V.grownBy (V.setCell ⟨M + 1, P, none⟩ (.int .u8 (y.toNat : Int))) (some (M + 1)) := grown_set (World.grownBy.refl V _) _ rfl _
      have hVs := HG.out.size
      obtain ⟨k1, k2⟩ := lp_kept (W := W0) (Bs := Z) (Bn := Z + 1) hgn (by omega) (by omega) (by omega) (by omega) (by omega)
      refine ⟨k1, k2, HG.out.trans hgn, _, heap_setCell_same V (M + 1) P _ _ _ HO.out, ?_⟩
      dsimp only
      rw [HSN.out]
      simp [rowB, List.map_set, byteV]
    have HFIN := Lib.hid hfin; clear hfin
    clear hu hys hP hby hs hmm hy hl2 hl3 HSN
    cases v
    · have q1 := run_clrB u.toNat mm u.toNat_lt hm256
      rw [if_neg (by simp)] at htm
      rw [← htm] at q1
      clear htm
      gi_wp2
      exact HFIN.out
    · have q1 := run_orB u.toNat mm u.toNat_lt hm256
      rw [if_pos rfl] at htm
      rw [← htm] at q1
      clear htm
      gi_wp2
      exact HFIN.out
  case done =>
    rintro D ys V hD' rfl ⟨hg, o, ho, rfl⟩ hK
    rw [finRange_range, HK.out] at ho
    have s2 : V.cell? ⟨M + 1 + 1, 0, none⟩ = some (.slice (some ⟨M + 1, 0, none⟩) n n) := cell_of_row V _ 0 _ _ _ ((hg.block (M + 1 + 1) (by omega) (fun e => by injection e with e; omega)).trans HL0.out)
    have hfl := turnedAll_filled a b v bs (by rw [HH.out.1]; exact hhi)
    obtain ⟨ys, hys⟩ : ∃ ys, ys = turnedAll a b v bs (List.range (rounds a b)) := ⟨_, rfl⟩
    rw [← hys] at ho hfl
    have HFL := Lib.hid hfl; clear hfl hys
    gi_wp2
    refine ⟨by simp, .inl ⟨_, _, rfl, run_takeDeferred hK, ?_⟩⟩
    refine ⟨_, results_tmp rfl _ _ _, ?_⟩
    have hlen : ys.length = n := HFL.out.1.trans HH.out.1
    have hg' : W0.grownBy (V.putObj D (.deferred none)) (some (M + 1)) := hg.andThen (grownBy_putObj' V D _) (fun j hj => by cases hj; exact .inl hD')
    have ho' : (V.putObj D (.deferred none)).heap[M + 1]? = some (rowB ys) := (World.putObj_heap_other (by omega)).trans ho
    refine ⟨ys, HFL.out, some ⟨M + 1, 0, none⟩, n, ?_, ?_, below_grown HB0.out (by omega) hg'⟩
    · rw [hlen]; rfl
    · rw [hlen]
      exact owned_row ho' (by omega) hlen (by unfold maxLen; omega)
  case stop =>
    rintro D cc pre V _ _ h _
    exact h.elim
end Go.Proofs.Ytnkiblifnknbkaa.Bits
