/- First: the first bit of a part that is so. -/
import Derived.Test.YtnkiblifnknbkaaBtCount
namespace Go.Proofs.Ytnkiblifnknbkaa.Bits
set_option maxRecDepth 20000
open Go Go.RowKit Go.Shelf
open Go.Proofs.Ytnkiblifnknbkaa.Mem Go.Proofs.Ytnkiblifnknbkaa.Bt Go.Proofs.Ytnkiblifnknbkaa.Reg
def notB (x : Value) : Sem Value := Op.unary .xor x
theorem notB_eq (x : Value) : Op.unary .xor x = notB x := rfl
attribute [local go_sem] Oper.semAt_some
attribute [local go_sem ↓] quoN_eq remN_eq shrB_eq shlB_eq andB_eq orB_eq clrB_eq subB_eq notB_eq

theorem run_notB (x : Nat) (hx : x < 256) (W : World) : (notB (.int .u8 (x : Int))).run Try.prog W = .ok (.int .u8 ((255 - x : Nat) : Int)) W := by
  have h : (notB (.int .u8 (x : Int))).run Try.prog W = .ok (.int .u8 (Go.bits .xor .u8 ((255 : Nat) : Int) (x : Int))) W := rfl
  rw [h, u8_xor_nat 255 x (by omega) hx]
  have e : ∀ x : Fin 256, 255 ^^^ x.1 = 255 - x.1 := by decide +kernel
  rw [e ⟨x, hx⟩]

theorem results_cell_int {fn : Func} {p : Tmp} (h : fn.results = #[.cell p 3]) (tmps : Array Value) (w : World) (g : Nat) (x : Value) (hp : tmps.getD p undef = .pointer (some ⟨g, 0, none⟩)) (hc : w.cell? ⟨g, 0, none⟩ = some x) :
    (results fn tmps).run Try.prog w = .ok x w := by
  have hp' : tmps[p]?.getD undef = .pointer (some ⟨g, 0, none⟩) := by simpa using hp
  have hl : (loadVar 3 ⟨g, 0, none⟩).run Try.prog w = .ok x w := by go_simp
  simp [results, h, hp', asAddr, hl]

/-- Those of a round's bits that are so, as a byte. -/
def soB (v : Bool) (u : UInt8) (a b j : Nat) : Nat := (if v then u.toNat else 255 - u.toNat) &&& mask (st a j) b
theorem soB_lt (v : Bool) (u : UInt8) (a b j : Nat) : soB v u a b j < 256 := by
  have := u.toNat_lt
  have := Nat.and_le_left (n := if v then u.toNat else 255 - u.toNat) (m := mask (st a j) b)
  unfold soB
  split at this <;> simp_all <;> omega
theorem soB_bit (bs : List UInt8) (v : Bool) (a b j t : Nat) (hj : st a j < b) (ht : t < 8) : (soB v (bs.getD (a / 8 + j) 0) a b j).testBit t = ((bt bs (8 * (a / 8 + j) + t) == v) && decide (st a j ≤ 8 * (a / 8 + j) + t ∧ 8 * (a / 8 + j) + t < en a b j)) := by
  have hu := (bs.getD (a / 8 + j) 0).toNat_lt
  have hby := st_byte a j
  have he := st_en a b j hj
  rw [bt_byte _ _ _ ht]
  unfold soB mask
  rw [Nat.testBit_and, mk_bit _ _ _ (by omega) (by omega) (by omega) ht]
  have e : decide (st a j % 8 ≤ t ∧ t < min (st a j % 8 + (b - st a j)) 8) = decide (st a j ≤ 8 * (a / 8 + j) + t ∧ 8 * (a / 8 + j) + t < en a b j) := by
    apply decide_eq_decide.2
    omega
  rw [e]
  cases v
  · rw [if_neg (by simp), not_bit _ _ hu ht]; simp
  · rw [if_pos rfl]; simp
/-- None of a round's bits is so. -/
def NoneIn (bs : List UInt8) (v : Bool) (a b j : Nat) : Prop := ∀ i, st a j ≤ i → i < en a b j → (bt bs i == v) = false
theorem soB_none (bs : List UInt8) (v : Bool) (a b j : Nat) (hj : st a j < b) (h : soB v (bs.getD (a / 8 + j) 0) a b j = 0) : NoneIn bs v a b j := by
  intro i h1 h2
  have hr := round_in a b i j h1 h2
  have hb := soB_bit bs v a b j (i % 8) hj (by omega)
  rw [h, show 8 * (a / 8 + j) + i % 8 = i by omega, Nat.zero_testBit] at hb
  have : decide (st a j ≤ i ∧ i < en a b j) = true := by simp; omega
  rw [this, Bool.and_true] at hb
  exact hb.symm
theorem soB_some (bs : List UInt8) (v : Bool) (a b j : Nat) (hj : st a j < b) (h : soB v (bs.getD (a / 8 + j) 0) a b j ≠ 0) :
    ∃ i, i = 8 * (a / 8 + j) + low (soB v (bs.getD (a / 8 + j) 0) a b j) 0 8 ∧ st a j ≤ i ∧ i < en a b j ∧ (bt bs i == v) = true ∧ ∀ i', st a j ≤ i' → i' < i → (bt bs i' == v) = false := by
  obtain ⟨t, ht⟩ := Nat.exists_testBit_of_ne_zero h
  have ht8 : t < 8 := by
    rcases Nat.lt_or_ge t 8 with h8 | h8
    · exact h8
    · rw [Nat.testBit_lt_two_pow] at ht
      · cases ht
      · have := soB_lt v (bs.getD (a / 8 + j) 0) a b j
        have : 2 ^ 8 ≤ 2 ^ t := Nat.pow_le_pow_right (by omega) h8
        omega
  obtain ⟨_, g2, g3, g4⟩ := low_spec (soB v (bs.getD (a / 8 + j) 0) a b j) 8 0 ⟨t, Nat.zero_le _, by omega, ht⟩
  have hb := soB_bit bs v a b j _ hj (show low (soB v (bs.getD (a / 8 + j) 0) a b j) 0 8 < 8 by omega)
  rw [g3] at hb
  have hb' := (Bool.and_eq_true _ _).mp hb.symm
  have hd := of_decide_eq_true hb'.2
  refine ⟨_, rfl, hd.1, hd.2, hb'.1, fun i' h1 h2 => ?_⟩
  have hr := round_in a b i' j h1 (by omega)
  have hbi := soB_bit bs v a b j (i' % 8) hj (by omega)
  rw [g4 (i' % 8) (Nat.zero_le _) (by omega), show 8 * (a / 8 + j) + i' % 8 = i' by omega] at hbi
  have : decide (st a j ≤ i' ∧ i' < en a b j) = true := by simp; omega
  rw [this, Bool.and_true] at hbi
  exact hbi.symm

theorem fst_none (bs : List UInt8) (v : Bool) (a b k : Nat) (hk : k = rounds a b) (h : ∀ x ∈ List.finRange k, NoneIn bs v a b x.1) : IsFst (fun i => bt bs i == v) a b (-1) := by
  refine .inl ⟨rfl, fun i h1 h2 => ?_⟩
  obtain ⟨j, hj, k1, k2, _⟩ := in_round a b i h1 h2
  exact h ⟨j, by omega⟩ (List.mem_finRange _) i k1 k2
theorem prefix_fin {k : Nat} {l : List (Fin k)} {x : Fin k} (h : (l ++ [x]) <+: List.finRange k) : x.1 = l.length ∧ ∀ j, j < l.length → ∀ hk : j < k, (⟨j, hk⟩ : Fin k) ∈ l := by
  obtain ⟨r, hr⟩ := h
  have hlen : l.length + 1 + r.length = k := by
    have := congrArg List.length hr
    simp at this
    omega
  have hg : ∀ j (hj : j < k), (l ++ [x] ++ r)[j]? = some (⟨j, hj⟩ : Fin k) := fun j hj => by
    rw [hr]; simp [hj]
  refine ⟨?_, fun j hj hk => ?_⟩
  · have := hg l.length (by omega)
    rw [List.append_assoc, List.getElem?_append_right (Nat.le_refl _)] at this
    simp at this
    exact congrArg Fin.val this
  · have := hg j hk
    rw [List.append_assoc, List.getElem?_append_left hj] at this
    exact List.mem_of_getElem? this
theorem fst_some (bs : List UInt8) (v : Bool) (a b k i : Nat) (hk : k = rounds a b) (l : List (Fin k)) (x : Fin k) (hp : (l ++ [x]) <+: List.finRange k) (hl : ∀ y ∈ l, NoneIn bs v a b y.1)
    (h1 : st a x.1 ≤ i) (h2 : i < en a b x.1) (h3 : (bt bs i == v) = true) (h4 : ∀ i', st a x.1 ≤ i' → i' < i → (bt bs i' == v) = false) : IsFst (fun i => bt bs i == v) a b (i : Int) := by
  have hr := round_in a b i x.1 h1 h2
  obtain ⟨e, hm⟩ := prefix_fin hp
  refine .inr ⟨i, rfl, hr.1, hr.2.1, h3, fun i' k1 k2 => ?_⟩
  obtain ⟨j, hj, g1, g2, g3⟩ := in_round a b i' k1 (by omega)
  rcases Nat.lt_or_ge j x.1 with hl' | hl'
  · exact hl ⟨j, by omega⟩ (hm j (by omega) _) i' g1 g2
  · have hjx : j = x.1 := by omega
    subst hjx
    exact h4 i' g1 k2

/-- The first of a part's bits that is so is found in the last of these rounds. -/
def FoundO (bs : List UInt8) (v : Bool) (a b k : Nat) (cd : Code) (pre : List (Fin k)) (o : Obj) : Prop :=
  cd = .ret ∧ ∃ (l : List (Fin k)) (x : Fin k) (i : Nat), pre = l ++ [x] ∧ o = .cells #[.int .i64 (i : Int)] 3 (0, 0) ∧ (∀ y ∈ l, NoneIn bs v a b y.1) ∧ st a x.1 ≤ i ∧ i < en a b x.1 ∧ (bt bs i == v) = true ∧ ∀ i', st a x.1 ≤ i' → i' < i → (bt bs i' == v) = false

set_option maxRecDepth 100000 in
set_option maxHeartbeats 4000000 in
theorem first_any (A : Option Addr) (n c B : Nat) (bs : List UInt8) (fr to : Int) (v : Bool) (w : World) (h : Holds w B A n bs) (hB : B ≤ w.heap.size) (hn : n ≤ 140737488355328) :
    Calls Try.prog 29 #[.slice A n c, .int .i64 fr, .int .i64 to, .bool v] w fun e w' => ∃ r, IsFst (fun i => bt bs i == v) fr.toNat (hiN n to) r ∧ e = .returned (.int .i64 r) ∧ Below w.heap.size w w' := by
  have hhi := hiN_le n to
  obtain ⟨a, ha⟩ : ∃ a, a = fr.toNat := ⟨_, rfl⟩
  obtain ⟨bI, hbI⟩ : ∃ bI, bI = hiE n to := ⟨_, rfl⟩
  obtain ⟨b, hb⟩ : ∃ b, b = bI.toNat := ⟨_, rfl⟩
  have hbE : hiN n to = b := by unfold hiN; rw [← hbI, hb]
  rw [hbE] at hhi ⊢
  rw [← ha]
  obtain ⟨k, hk⟩ : ∃ k, k = rounds a b := ⟨_, rfl⟩
  have hkn : k ≤ n + 1 := by rw [hk]; unfold rounds; split <;> omega
  have hbI2 : bI < 4611686018427387904 := by omega
  refine (callsIn_wide (n := 3)).1 ?_
  refine callsIn_of_wp_marks Try.func29 rfl trivial ?_ rfl
  simp only [Try.ntmps29, List.size_toArray, List.length_cons, List.length_nil, Nat.reduceAdd, Nat.reduceSub, Array.replicate_succ, Array.replicate_zero, List.push_toArray, List.append_toArray, List.nil_append, List.cons_append]
  gi_wp2_with fail
  obtain ⟨W1, hW1⟩ : ∃ W1, W1 = ((w.alloc (.cells #[.slice A n c] 22)).alloc (.cells #[.bool v] 4)).alloc (.cells #[.int .i64 0] 3) := ⟨_, rfl⟩
  have z1 : (w.alloc (.cells #[.slice A n c] 22)).heap.size = w.heap.size + 1 := by simp
  have z2 : ((w.alloc (.cells #[.slice A n c] 22)).alloc (.cells #[.bool v] 4)).heap.size = w.heap.size + 2 := by simp
  have hM : W1.heap[w.heap.size]? = some (.cells #[.slice A n c] 22 (0, 0)) := by
    rw [hW1]
    exact (Below.heap_alloc _ _ _ (by rw [z2]; omega)).trans ((Below.heap_alloc _ _ _ (by rw [z1]; omega)).trans (heap_alloc_new w _))
  have hL : W1.heap[w.heap.size + 1]? = some (.cells #[.bool v] 4 (0, 0)) := by
    rw [hW1]
    refine (Below.heap_alloc _ _ _ (by rw [z2]; omega)).trans ?_
    rw [← z1]
    exact heap_alloc_new _ _
  have hT : W1.heap[w.heap.size + 2]? = some (.cells #[.int .i64 0] 3 (0, 0)) := by
    rw [hW1, ← z2]
    exact heap_alloc_new _ _
  have hz : W1.heap.size = w.heap.size + 3 := by rw [hW1]; simp
  have hbl : Below w.heap.size w W1 := by rw [hW1]; exact (((Below.refl _ w).alloc (Nat.le_refl _) _).alloc (by simp) _).alloc (by simp; omega) _
  rw [← hW1]
  clear hW1 z1 z2
  refine ⟨trivial, (callsIn_wide (n := 2)).2 ((part_mk A n c hn fr to W1).mono ?_)⟩
  rintro e W0 ⟨rfl, hbl0, hq0, hq1, hz0⟩
  rw [loE_nat, ← ha] at hq0
  rw [← hbI] at hq1
  have hM0 := (hbl0.block w.heap.size (by omega)).trans hM
  have hL0 := (hbl0.block (w.heap.size + 1) (by omega)).trans hL
  have hT0 := (hbl0.block (w.heap.size + 2) (by omega)).trans hT
  have hB0 : Below w.heap.size w W0 := hbl.trans (hbl0.mono (by omega))
  rw [hz] at hq0 hq1 hz0 ⊢
  clear hM hT hL hbl hbl0 hz hbI
  obtain ⟨M, hMe⟩ : ∃ M, M = w.heap.size := ⟨_, rfl⟩
  rw [← hMe] at hM0 hT0 hL0 hz0 hq0 hq1
  have HH := Lib.hid h; clear h
  have HB0 := Lib.hid hB0; clear hB0
  have HM0 := Lib.hid hM0; clear hM0
  have HT0 := Lib.hid hT0; clear hT0
  have HL0 := Lib.hid hL0; clear hL0
  have HQ0 := Lib.hid hq0; clear hq0
  have HQ1 := Lib.hid hq1; clear hq1
  have HK := Lib.hid hk; clear hk
  have HBB := Lib.hid hb; clear hb
  have HA := Lib.hid ha; clear ha hbE
  have hMle : w.heap.size ≤ M := Nat.le_of_eq hMe.symm
  gi_wp2
  rw [← hMe]
  clear hMe
  refine wpIn_rangeFunc_ownG (F := Fence.wide) (n := 3) rfl (by omega) (gf := 42) (lb := #[.pointer (some ⟨M + 3, 0, none⟩), .pointer (some ⟨M + 3 + 1, 0, none⟩)]) rfl trivial (enters_of Try.func42 (by kernel_rfl) rfl)
    (part_stops (3 - 1) (by omega) (M + 3) (M + 3 + 1) a b k bI HBB.out HK.out hbI2 W0 (cell_of_row _ _ 0 _ _ _ HQ0.out) (cell_of_row _ _ 0 _ _ _ HQ1.out))
    (fun h1 h2 => ⟨h2.1.trans h1.1, h2.2.trans h1.2⟩) ?hKb (Below.refl _ _) (fun _ => rfl)
    (Lp W0 (M + 2) (fun (pre : List (Fin k)) o => o = .cells #[.int .i64 0] 3 (0, 0) ∧ ∀ x ∈ pre, NoneIn bs v a b x.1))
    (fun cd => Lp W0 (M + 2) (FoundO bs v a b k cd))
    (lp_own W0 (M + 2) (by omega) _) (fun _ => lp_own W0 (M + 2) (by omega) _) ⟨World.grownBy.refl _ _, _, HT0.out, rfl, fun _ h => by cases h⟩
    (fun x => { tmps := #[.slice A n c, .int .i64 fr, .int .i64 to, .bool v, .pointer (some ⟨M, 0, none⟩), undef, undef, .pointer (some ⟨M + 1, 0, none⟩), .pointer (some ⟨M + 1 + 1, 0, none⟩), .int .i64 ((a / 8 + x.1 : Nat) : Int), .int .u8 (mask (st a x.1) b : Int), undef, .slice A n c, .int .i64 fr, .int .i64 to, .func (.func 42) #[] #[.pointer (some ⟨M + 3, 0, none⟩), .pointer (some ⟨M + 3 + 1, 0, none⟩)], .int .i64 ((a / 8 + x.1 : Nat) : Int), .int .u8 (mask (st a x.1) b : Int), undef, undef, undef, undef, undef, undef, undef, undef, undef, undef, undef, undef, undef, undef, undef, undef, undef, undef], defers := [] }) ?assign ?body ?done ?stop
  case hKb =>
    intro V q o o' hq ho hoc hw
    exact ⟨World.putObj_heap_other (by omega), World.putObj_heap_other (by omega)⟩
  case assign =>
    intro l x V K hK
    dsimp only [partV] at hK ⊢
    obtain ⟨P, hP⟩ : ∃ P, P = a / 8 + x.1 := ⟨_, rfl⟩
    rw [← hP] at hK ⊢
    clear hP
    gi_wp2
    exact hK
  case body =>
    rintro l pre x V ⟨hg, o, ho, rfl, hno⟩ hlen
    have hx := x.2
    have hs := (rounds_iff a b x.1).1 (by rw [← HK.out]; exact hx)
    have hby := st_byte a x.1
    have hz1 := soB_none bs v a b x.1 hs
    have hz2 := soB_some bs v a b x.1 hs
    obtain ⟨P, hP⟩ : ∃ P, P = a / 8 + x.1 := ⟨_, rfl⟩
    have hPn : P < n := by omega
    rw [← hP] at hz1 hz2 ⊢
    have hVB : Below w.heap.size w V := below_grown HB0.out (by omega) hg
    obtain ⟨bb, off, u, rfl, hu, hcell⟩ := holds_cell (holds_grown HH.out hB hVB) P hPn
    rw [hu] at hz1 hz2
    have hX : soB v u a b x.1 = (if v then u.toNat else 255 - u.toNat) &&& mask (st a x.1) b := rfl
    have hX2 := soB_lt v u a b x.1
    obtain ⟨X, hXe⟩ : ∃ X, X = soB v u a b x.1 := ⟨_, rfl⟩
    rw [← hXe] at hX hX2 hz1 hz2
    obtain ⟨mm, hmm⟩ : ∃ mm, mm = mask (st a x.1) b := ⟨_, rfl⟩
    have hm256 : mm < 256 := hmm ▸ mask_lt _ _
    rw [← hmm] at hX ⊢
    have hPc1 : (0 : Int) ≤ (P : Int) := by omega
    have hPc2 : (P : Int) < (n : Int) := by omega
    have s0 : V.cell? ⟨M, 0, none⟩ = some (.slice (some ⟨bb, off, none⟩) n c) := cell_of_row V _ 0 _ _ _ ((hg.block M (by omega) (fun e => by injection e with e; omega)).trans HM0.out)
    have s1 : V.cell? ⟨M + 1, 0, none⟩ = some (.bool v) := cell_of_row V _ 0 _ _ _ ((hg.block (M + 1) (by omega) (fun e => by injection e with e; omega)).trans HL0.out)
    have s2 : V.cell? ⟨M + 1 + 1, 0, none⟩ = some (.int .i64 0) := cell_of_row V _ 0 _ _ _ ho
    have f2 : V.frozen? ⟨M + 1 + 1, 0, none⟩ = false := frozen_of_row V _ 0 _ _ ho
    have hu256 := u.toNat_lt
    have hVs := hg.size
    have hgo : X = 0 → KeepsFrom W0.heap.size V V ∧ KpBox (M + 3) (M + 3 + 1) V V ∧ Lp W0 (M + 2) (fun (pre : List (Fin k)) o => o = .cells #[.int .i64 0] 3 (0, 0) ∧ ∀ x ∈ pre, NoneIn bs v a b x.1) (pre ++ [x]) V := fun e => by
      refine ⟨KeepsFrom.refl _ _, ⟨rfl, rfl⟩, hg, _, ho, rfl, fun y hy => ?_⟩
      rcases List.mem_append.1 hy with e1 | e1
      · exact hno y e1
      · rw [List.mem_singleton.1 e1]; exact hz1 e
    have hret : X ≠ 0 → ∀ V', V' = V.setCell ⟨M + 1 + 1, 0, none⟩ (.int .i64 ((P : Int) * 8 + (low X 0 8 : Int))) → KeepsFrom W0.heap.size V V' ∧ Lp W0 (M + 2) (FoundO bs v a b k .ret) (pre ++ [x]) V' := by
      rintro e V' rfl
      have hgn : V.grownBy (V.setCell ⟨M + 1 + 1, 0, none⟩ (.int .i64 ((P : Int) * 8 + (low X 0 8 : Int)))) (some (M + 2)) := grown_set (World.grownBy.refl V _) _ rfl _
      obtain ⟨i, hi, k1, k2, k3, k4⟩ := hz2 e
      refine ⟨KeepsFrom.of_grownBy hgn (fun j hj => by cases hj; omega), hg.trans hgn, _, heap_setCell_same V (M + 1 + 1) 0 _ _ _ ho, rfl, pre, x, i, rfl, ?_, hno, k1, k2, k3, k4⟩
      rw [show (P : Int) * 8 + (low X 0 8 : Int) = (i : Int) by omega]
      rfl
    have hcall := low8_any X hX2
    have HGO := Lib.hid hgo; clear hgo
    have HRET := Lib.hid hret; clear hret
    have HCALL := Lib.hid hcall; clear hcall
    have hlow := low_le X 8 0
    obtain ⟨Lw, hLw⟩ : ∃ Lw, Lw = low X 0 8 := ⟨_, rfl⟩
    rw [← hLw] at HRET HCALL hlow
    have q3 := run_notB u.toNat hu256
    clear ho hno hz1 hz2 hu hXe hmm hP hby hs hVB hg hLw
    cases v
    · rw [if_neg (by simp)] at hX
      have q1 := run_andB (255 - u.toNat) mm (by omega) hm256
      rw [← hX] at q1
      obtain ⟨nu, hnu⟩ : ∃ nu, nu = 255 - u.toNat := ⟨_, rfl⟩
      rw [← hnu] at q1 q3
      clear hX hnu
      by_cases hX0 : X = 0
      · have hfin := HGO.out hX0
        subst hX0
        have HFIN := Lib.hid hfin; clear hfin HRET HCALL HGO
        gi_wp2
        exact HFIN.out
      · have hX0' : ¬ (X : Int) = 0 := by omega
        gi_wp2
        refine ⟨trivial, CallsIn.inRound l ((callsIn_wide (n := 0)).2 ((HCALL.out V).mono ?_))⟩
        rintro e w2 ⟨rfl, rfl⟩
        clear HCALL
        gi_wp2
        exact HRET.out hX0 _ rfl
    · rw [if_pos rfl] at hX
      have q1 := run_andB u.toNat mm hu256 hm256
      rw [← hX] at q1
      clear hX q3
      by_cases hX0 : X = 0
      · have hfin := HGO.out hX0
        subst hX0
        have HFIN := Lib.hid hfin; clear hfin HRET HCALL HGO
        gi_wp2
        exact HFIN.out
      · have hX0' : ¬ (X : Int) = 0 := by omega
        gi_wp2
        refine ⟨trivial, CallsIn.inRound l ((callsIn_wide (n := 0)).2 ((HCALL.out V).mono ?_))⟩
        rintro e w2 ⟨rfl, rfl⟩
        clear HCALL
        gi_wp2
        exact HRET.out hX0 _ rfl
  case done =>
    rintro D ys V hD' rfl ⟨hg, o, ho, rfl, hno⟩ hK
    have hfst := fst_none bs v a b k HK.out hno
    have s2 : V.cell? ⟨M + 1 + 1, 0, none⟩ = some (.int .i64 0) := cell_of_row V _ 0 _ _ _ ho
    have f2 : V.frozen? ⟨M + 1 + 1, 0, none⟩ = false := frozen_of_row V _ 0 _ _ ho
    have HF := Lib.hid hfst; clear hfst hno
    gi_wp2
    have hgn : W0.grownBy (V.setCell ⟨M + 1 + 1, 0, none⟩ (.int .i64 (-1))) (some (M + 2)) := hg.trans (grown_set (World.grownBy.refl V _) _ rfl _)
    have hr := heap_setCell_same V (M + 1 + 1) 0 _ _ (.int .i64 (-1)) ho
    have hK' : (V.setCell ⟨M + 1 + 1, 0, none⟩ (.int .i64 (-1))).heap[D]? = some (.deferred (some [])) := (Below.heap_setCell _ _ _ _ (by show D ≠ M + 1 + 1; omega)).trans hK
    refine ⟨by simp, .inl ⟨_, _, rfl, run_takeDeferred hK', ?_⟩⟩
    refine ⟨_, results_cell_int rfl _ _ (M + 1 + 1) (.int .i64 (-1)) rfl (cell_of_row _ _ 0 _ _ _ ((World.putObj_heap_other (by omega)).trans hr)), ?_⟩
    have hg' : W0.grownBy ((V.setCell ⟨M + 1 + 1, 0, none⟩ (.int .i64 (-1))).putObj D (.deferred none)) (some (M + 2)) := hgn.andThen (grownBy_putObj' _ D _) (fun j hj => by cases hj; exact .inl hD')
    exact ⟨-1, HF.out, rfl, below_grown HB0.out (by omega) hg'⟩
  case stop =>
    rintro D cc pre V hD' hp ⟨hg, o, ho, rfl, l, x, i, rfl, rfl, h1, h2, h3, h4, h5⟩ hK
    have hfst := fst_some bs v a b k i HK.out l x hp h1 h2 h3 h4 h5
    have HF := Lib.hid hfst; clear hfst h1 h4 h5
    gi_wp2
    refine ⟨by simp, .inl ⟨_, _, rfl, run_takeDeferred hK, ?_⟩⟩
    refine ⟨_, results_cell_int rfl _ _ (M + 1 + 1) (.int .i64 (i : Int)) rfl (cell_of_row _ _ 0 _ _ _ ((World.putObj_heap_other (by omega)).trans ho)), ?_⟩
    have hg' : W0.grownBy (V.putObj D (.deferred none)) (some (M + 2)) := hg.andThen (grownBy_putObj' V D _) (fun j hj => by cases hj; exact .inl hD')
    exact ⟨i, HF.out, rfl, below_grown HB0.out (by omega) hg'⟩
end Go.Proofs.Ytnkiblifnknbkaa.Bits
