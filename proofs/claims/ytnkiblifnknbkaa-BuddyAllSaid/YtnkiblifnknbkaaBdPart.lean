/- The free chunks within one chunk, as the iterator's inner function hands them on: a function that calls itself. -/
import Derived.Test.YtnkiblifnknbkaaBdLow
namespace Go.Proofs.Ytnkiblifnknbkaa.Buddy
set_option maxRecDepth 20000
open Go Go.RowKit Go.Shelf
open Go.Proofs.Ytnkiblifnknbkaa.Mem Go.Proofs.Ytnkiblifnknbkaa.Bt Go.Proofs.Ytnkiblifnknbkaa.Rec Go.Proofs.Ytnkiblifnknbkaa.Bits Go.Proofs.Ytnkiblifnknbkaa.Bd Go.Proofs.Ytnkiblifnknbkaa.Reg
attribute [local go_sem] Oper.semAt_some
attribute [local go_sem ↓] shlN_eq

theorem anyDepth {F : Fence} (hd : F.depth = none) {m : Nat} (m' : Nat) {P : Program} {l : Nat} {args : Array Value} {W : World} {R : Ending → World → Prop} (h : YieldAt F m P l args W R) : YieldAt F m' P l args W R := by
  obtain ⟨fn, tmps, assign, body, hy, hR⟩ := h
  exact ⟨fn, tmps, assign, body, hy, hR.1, fun c cs _ => hR.2 c cs fun d h => by rw [hd] at h; cases h⟩

/-- What a round keeps: all below B, and every block of cells but those that it may turn. -/
structure KpT (B : Nat) (T : Nat → Prop) (W W' : World) : Prop where
  below : Below B W W'
  cells : ∀ b o, W.heap[b]? = some o → o.isCells = true → ¬ T b → W'.heap[b]? = some o
theorem KpT.refl (B : Nat) (T : Nat → Prop) (W : World) : KpT B T W W := ⟨Below.refl _ _, fun _ _ h _ _ => h⟩
theorem KpT.trans {B : Nat} {T : Nat → Prop} {X Y Z : World} (h : KpT B T X Y) (k : KpT B T Y Z) : KpT B T X Z := ⟨h.below.trans k.below, fun b o hb hc ht => k.cells b o (h.cells b o hb hc ht) hc ht⟩
theorem KpT.of_below {B : Nat} {T : Nat → Prop} {W W' : World} (h : Below W.heap.size W W') (hB : B ≤ W.heap.size) : KpT B T W W' :=
  ⟨h.mono hB, fun b _ hb _ _ => (h.block b (Array.getElem?_eq_some_iff.1 hb).1).trans hb⟩
theorem Below.grownN {W W' : World} (h : Below W.heap.size W W') : W.grownBy W' none := ⟨h.os, h.tape, h.output, h.size, fun k hk _ => h.block k hk⟩

def encC (x : Nat × Nat) : Array Value := #[.int .i64 (x.1 : Int), .int .i64 (x.2 : Int)]
/-- The inner function. -/
def innerV (Bm Bn By Bp : Nat) : Value := .func (.func 40) #[] #[.pointer (some ⟨Bm, 0, none⟩), .pointer (some ⟨Bn, 0, none⟩), .pointer (some ⟨By, 0, none⟩), .pointer (some ⟨Bp, 0, none⟩)]
/-- The boxes that it has captured. -/
structure Bx (Bm Bn By Bp l : Nat) (A : Option Addr) (len c nn : Nat) (W : World) : Prop where
  m : W.heap[Bm]? = some (.cells #[.slice A len c] 22 (0, 0))
  n : W.heap[Bn]? = some (.cells #[.int .i64 (nn : Int)] 3 (0, 0))
  y : W.heap[By]? = some (.cells #[.func (.yield l) #[] #[]] 61 (0, 0))
  p : W.heap[Bp]? = some (.cells #[innerV Bm Bn By Bp] 61 (0, 0))
theorem Bx.kept {Bm Bn By Bp l : Nat} {A : Option Addr} {len c nn B : Nat} {T : Nat → Prop} {W W' : World} (h : Bx Bm Bn By Bp l A len c nn W) (hk : KpT B T W W') (h1 : ¬ T Bm) (h2 : ¬ T Bn) (h3 : ¬ T By) (h4 : ¬ T Bp) : Bx Bm Bn By Bp l A len c nn W' :=
  ⟨hk.cells _ _ h.m rfl h1, hk.cells _ _ h.n rfl h2, hk.cells _ _ h.y rfl h3, hk.cells _ _ h.p rfl h4⟩
theorem Bx.below {Bm Bn By Bp l : Nat} {A : Option Addr} {len c nn : Nat} {W W' : World} (h : Bx Bm Bn By Bp l A len c nn W) (hb : Below W.heap.size W W') : Bx Bm Bn By Bp l A len c nn W' :=
  h.kept (T := fun _ => False) (KpT.of_below hb (Nat.le_refl _)) id id id id
theorem cnt_clamp (bs : List UInt8) (s z : Nat) : cnt (bt bs) s (hiN bs.length ((s + z : Nat) : Int) - s) = cnt (bt bs) s z := by
  have hh : hiN bs.length ((s + z : Nat) : Int) = min (8 * bs.length) (s + z) := by unfold hiN hiE; split <;> omega
  rw [hh]
  obtain ⟨d, hd⟩ : ∃ d, d = min (8 * bs.length) (s + z) - s := ⟨_, rfl⟩
  rw [← hd, show z = d + (z - d) by omega, cnt_add, cnt_none (a := s + d) (fun j hj => bt_none _ _ (by omega)), Nat.add_zero]

section
variable (Bm Bn By Bp l B : Nat) (A : Option Addr) (len c nn : Nat) (bs : List UInt8)
def innerArgs (s k : Nat) : Array Value := #[.int .i64 (s : Int), .int .i64 (k : Int), .pointer (some ⟨Bm, 0, none⟩), .pointer (some ⟨Bn, 0, none⟩), .pointer (some ⟨By, 0, none⟩), .pointer (some ⟨Bp, 0, none⟩)]

theorem count_at (W : World) (h : Holds W B A len bs) (hB : B ≤ W.heap.size) (hl : len ≤ 140737488355328) (s z : Nat) :
    Calls Try.prog 33 #[.slice A len c, .int .i64 (s : Int), .int .i64 ((s + z : Nat) : Int)] W fun e w' => e = .returned (.int .i64 (cnt (bt bs) s z : Int)) ∧ Below W.heap.size W w' := by
  have hc := count_any A len c B bs (s : Int) ((s + z : Nat) : Int) W h hB hl
  have e := cnt_clamp bs s z
  rw [h.1] at e
  rwa [Int.toNat_natCast, e] at hc

set_option maxHeartbeats 1000000 in
theorem part_pass (W : World) (hx : Bx Bm Bn By Bp l A len c nn W) (h : Holds W B A len bs) (hB : B ≤ W.heap.size) (hl : len ≤ 140737488355328) (s k : Nat) (hs : s ≤ 1125899906843648) (hk : k ≤ 6)
    (hno : ¬ FreeC (bt bs) nn s k) (hend : cnt (bt bs) s (2 ^ k) = 2 ^ k ∨ k = 0) :
    Calls Try.prog 40 (innerArgs Bm Bn By Bp s k) W fun e W' => e = .returned (.bool true) ∧ Below W.heap.size W W' := by
  have hc := count_at B A len c bs W h hB hl s (2 ^ k)
  have q := run_shl1 k (by omega)
  have hz1 : 1 ≤ 2 ^ k := Nat.two_pow_pos k
  have hz2 : 2 ^ k ≤ 2 ^ 6 := Nat.pow_le_pow_right (by omega) hk
  have hno' : ¬ (s + 2 ^ k ≤ nn ∧ cnt (bt bs) s (2 ^ k) = 0) := hno
  obtain ⟨z, hz⟩ : ∃ z, z = 2 ^ k := ⟨_, rfl⟩
  obtain ⟨t, ht⟩ : ∃ t, t = cnt (bt bs) s (2 ^ k) := ⟨_, rfl⟩
  rw [← ht] at hno' hc hend
  rw [← hz] at hno' hc hend q hz1 hz2
  clear hz ht hno h
  obtain ⟨E, hE⟩ : ∃ E, E = s + z := ⟨_, rfl⟩
  have e1 : IntKind.i64.wrap ((s : Int) + (z : Int)) = (E : Int) := by rw [IntWalk.i64_in _ (by omega)]; omega
  rw [← hE] at hc hno'
  have x0 : W.cell? ⟨Bm, 0, none⟩ = some (.slice A len c) := cell_of_row W _ 0 _ _ _ hx.m
  have x1 : ∀ W', Below W.heap.size W W' → W'.cell? ⟨Bn, 0, none⟩ = some (.int .i64 (nn : Int)) := fun W' hb => cell_of_row W' _ 0 _ _ _ (hx.below hb).n
  have HX1 := Lib.hid x1; clear x1 hx
  have HC := Lib.hid hc; clear hc
  have HE := Lib.hid hE; clear hE
  unfold innerArgs
  go_enter Try.func40, Try.ntmps40
  go_wp2_with fail
  with_reducible refine HC.out.mono ?_
  rintro e W1 ⟨rfl, hb1⟩
  have y1 := HX1.out W1 hb1
  have HB1 := Lib.hid hb1; clear hb1 HC
  by_cases h0 : t = 0
  · have h1 : ¬ E ≤ nn := fun hh => hno' ⟨hh, h0⟩
    have h2 : k = 0 := by rcases hend with hh | hh <;> omega
    have h1' : ¬ (E : Int) ≤ (nn : Int) := by omega
    have h3 : ¬ (0 : Int) = (z : Int) := by omega
    subst h0
    clear hno' hend HE
    subst h2
    have q' : ∀ W : World, (shlN (.int .i64 1) (.int .i64 0)).run Try.prog W = .ok (.int .i64 (z : Int)) W := q
    clear q
    go_wp2
    go_ret
    exact ⟨rfl, HB1.out⟩
  · have h0' : ¬ (t : Int) = 0 := by omega
    clear hno' HE
    by_cases h2 : t = z
    · subst h2
      go_wp2
      go_ret
      exact ⟨rfl, HB1.out⟩
    · have h2' : ¬ (t : Int) = (z : Int) := by omega
      have h3 : k = 0 := hend.resolve_left h2
      subst h3
      have q' : ∀ W : World, (shlN (.int .i64 1) (.int .i64 0)).run Try.prog W = .ok (.int .i64 (z : Int)) W := q
      clear q
      go_wp2
      go_ret
      exact ⟨rfl, HB1.out⟩

variable (T : Nat → Prop) (N : Nat) (J Jx : List (Nat × Nat) → World → Prop)
set_option maxHeartbeats 1000000 in
theorem part_yield (hY : ∀ m pre x W, x.1 + 2 ^ x.2 ≤ nn → x.2 ≤ 6 → J pre W → pre.length < N → YieldAt Fence.wide m Try.prog l (encC x) W fun e W' => (e = .returned (.bool true) ∧ J (pre ++ [x]) W' ∧ KpT B T W W') ∨ (e = .returned (.bool false) ∧ Jx (pre ++ [x]) W'))
    (hJ : ∀ pre V V', J pre V → Below V.heap.size V V' → J pre V')
    (W : World) (hx : Bx Bm Bn By Bp l A len c nn W) (h : Holds W B A len bs) (hB : B ≤ W.heap.size) (hl : len ≤ 140737488355328) (hnn : nn ≤ 1125899906842624) (s k : Nat) (hk : k ≤ 6)
    (hfree : FreeC (bt bs) nn s k) (pre : List (Nat × Nat)) (hp : J pre W) (hN : pre.length < N) :
    Calls Try.prog 40 (innerArgs Bm Bn By Bp s k) W fun e W' =>
      (e = .returned (.bool true) ∧ J (pre ++ [(s, k)]) W' ∧ KpT B T W W') ∨ (e = .returned (.bool false) ∧ Jx (pre ++ [(s, k)]) W') := by
  have hc := count_at B A len c bs W h hB hl s (2 ^ k)
  have q := run_shl1 k (by omega)
  have hz2 : 2 ^ k ≤ 2 ^ 6 := Nat.pow_le_pow_right (by omega) hk
  have hfr := hfree.1
  rw [hfree.2] at hc
  obtain ⟨z, hz⟩ : ∃ z, z = 2 ^ k := ⟨_, rfl⟩
  have HFREE := Lib.hid hfree; clear hfree
  rw [← hz] at hc q hz2 hfr
  clear hz h
  obtain ⟨E, hE⟩ : ∃ E, E = s + z := ⟨_, rfl⟩
  have e1 : IntKind.i64.wrap ((s : Int) + (z : Int)) = (E : Int) := by rw [IntWalk.i64_in _ (by omega)]; omega
  rw [← hE] at hc hfr
  have hfr' : (E : Int) ≤ (nn : Int) := by omega
  have x0 : W.cell? ⟨Bm, 0, none⟩ = some (.slice A len c) := cell_of_row W _ 0 _ _ _ hx.m
  have HX := Lib.hid hx; clear hx
  have HC := Lib.hid hc; clear hc
  have HE := Lib.hid hE; clear hE
  unfold innerArgs
  refine (callsIn_wide (n := 3)).1 ?_
  refine callsIn_of_wp Try.func40 rfl trivial ?_ rfl
  simp only [Try.ntmps40, List.size_toArray, List.length_cons, List.length_nil, Nat.reduceAdd, Nat.reduceSub, Array.replicate_succ, Array.replicate_zero, List.push_toArray, List.append_toArray, List.nil_append, List.cons_append]
  gi_wp2
  refine ⟨trivial, (callsIn_wide (n := 2)).2 (HC.out.mono ?_)⟩
  rintro e W1 ⟨rfl, hb1⟩
  have hx1 := HX.out.below hb1
  have y1 : W1.cell? ⟨Bn, 0, none⟩ = some (.int .i64 (nn : Int)) := cell_of_row W1 _ 0 _ _ _ hx1.n
  have y2 : W1.cell? ⟨By, 0, none⟩ = some (.func (.yield l) #[] #[]) := cell_of_row W1 _ 0 _ _ _ hx1.y
  obtain ⟨fn, tmps, assign, body, hy, hR⟩ := hY 2 pre (s, k) W1 HFREE.out.1 hk (hJ _ _ _ hp hb1) hN
  dsimp only [encC] at hy hR
  have hk1 : KpT B T W W1 := KpT.of_below hb1 hB
  have HK1 := Lib.hid hk1; clear hk1 hb1 hx1 HC HX
  clear hY hJ hp
  gi_wp2
  refine hR.mono ?_
  rintro e W3 (⟨rfl, hJ3, hk3⟩ | ⟨rfl, hJx3⟩)
  · gi_wp2
    go_ret
    exact .inl ⟨rfl, hJ3, HK1.out.trans hk3⟩
  · gi_wp2
    go_ret
    exact .inr ⟨rfl, hJx3⟩
variable (P1 X1 P2 X2 : World → Prop)
set_option maxRecDepth 100000 in
set_option maxHeartbeats 4000000 in
theorem part_split (W : World) (hx : Bx Bm Bn By Bp l A len c nn W) (h : Holds W B A len bs) (hB : B ≤ W.heap.size) (hl : len ≤ 140737488355328) (s k : Nat) (hs : s ≤ 1125899906843648) (hk : k < 6)
    (hno : ¬ FreeC (bt bs) nn s (k + 1)) (hall : cnt (bt bs) s (2 ^ (k + 1)) ≠ 2 ^ (k + 1))
    (hlow : ∀ V, Below W.heap.size W V → Calls Try.prog 40 (innerArgs Bm Bn By Bp s k) V fun e V1 => (e = .returned (.bool true) ∧ P1 V1) ∨ (e = .returned (.bool false) ∧ X1 V1))
    (hp : ∀ V, P1 V → V.cell? ⟨Bp, 0, none⟩ = some (innerV Bm Bn By Bp))
    (hhigh : ∀ V, P1 V → Calls Try.prog 40 (innerArgs Bm Bn By Bp (s + 2 ^ k) k) V fun e V1 => (e = .returned (.bool true) ∧ P2 V1) ∨ (e = .returned (.bool false) ∧ X2 V1)) :
    Calls Try.prog 40 (innerArgs Bm Bn By Bp s (k + 1)) W fun e W' => (e = .returned (.bool true) ∧ P2 W') ∨ (e = .returned (.bool false) ∧ (X1 W' ∨ X2 W')) := by
  have hc := count_at B A len c bs W h hB hl s (2 ^ (k + 1))
  have q := run_shl1 (k + 1) (by omega)
  have q2 := run_shl1 k (by omega)
  have hz2 : 2 ^ (k + 1) ≤ 2 ^ 6 := Nat.pow_le_pow_right (by omega) hk
  have hzz := two_succ k
  have hno' : ¬ (s + 2 ^ (k + 1) ≤ nn ∧ cnt (bt bs) s (2 ^ (k + 1)) = 0) := hno
  obtain ⟨z, hz⟩ : ∃ z, z = 2 ^ (k + 1) := ⟨_, rfl⟩
  obtain ⟨y, hy⟩ : ∃ y, y = 2 ^ k := ⟨_, rfl⟩
  obtain ⟨t, ht⟩ : ∃ t, t = cnt (bt bs) s (2 ^ (k + 1)) := ⟨_, rfl⟩
  rw [← ht] at hno' hc hall
  rw [← hz] at hno' hc hall q hz2 hzz
  rw [← hy] at hzz q2 hhigh
  clear hz hy ht hno h
  obtain ⟨E, hE⟩ : ∃ E, E = s + z := ⟨_, rfl⟩
  obtain ⟨D, hD⟩ : ∃ D, D = s + y := ⟨_, rfl⟩
  obtain ⟨k1, hk1⟩ : ∃ k1, k1 = k + 1 := ⟨_, rfl⟩
  have e1 : IntKind.i64.wrap ((s : Int) + (z : Int)) = (E : Int) := by rw [IntWalk.i64_in _ (by omega)]; omega
  have e2 : IntKind.i64.wrap ((s : Int) + (y : Int)) = (D : Int) := by rw [IntWalk.i64_in _ (by omega)]; omega
  have e3 : IntKind.i64.wrap ((k1 : Int) - 1) = (k : Int) := by rw [IntWalk.i64_in _ (by omega)]; omega
  rw [← hk1] at q ⊢
  rw [← hE] at hc hno'
  rw [← hD] at hhigh
  have hk0 : ¬ (k1 : Int) = 0 := by omega
  have hall' : ¬ (t : Int) = (z : Int) := by omega
  have x0 : W.cell? ⟨Bm, 0, none⟩ = some (.slice A len c) := cell_of_row W _ 0 _ _ _ hx.m
  have HX := Lib.hid hx; clear hx
  have HC := Lib.hid hc; clear hc
  have HLOW := Lib.hid hlow; clear hlow
  have HHIGH := Lib.hid hhigh; clear hhigh
  have HP := Lib.hid hp; clear hp
  have HS := Lib.hid (⟨hE, hD, hk1, hzz, hall⟩ : E = s + z ∧ D = s + y ∧ k1 = k + 1 ∧ z = y + y ∧ t ≠ z)
  clear hE hD hk1 hzz hall
  unfold innerArgs at HLOW HHIGH ⊢
  have hcase : (t = 0 ∧ ¬ E ≤ nn) ∨ t ≠ 0 := by
    by_cases h0 : t = 0
    · exact .inl ⟨h0, fun hh => hno' ⟨hh, h0⟩⟩
    · exact .inr h0
  clear hno'
  go_enter Try.func40, Try.ntmps40
  go_wp2_with fail
  with_reducible refine HC.out.mono ?_
  rintro e W1 ⟨rfl, hb1⟩
  have hx1 := HX.out.below hb1
  have y1 : W1.cell? ⟨Bn, 0, none⟩ = some (.int .i64 (nn : Int)) := cell_of_row W1 _ 0 _ _ _ hx1.n
  have y2 : W1.drew.cell? ⟨Bp, 0, none⟩ = some (innerV Bm Bn By Bp) := cell_of_row W1 _ 0 _ _ _ hx1.p
  have HL1 := Lib.hid (HLOW.out W1.drew hb1.drew)
  have HB1 := Lib.hid hb1; clear hb1 HC hx1 HX HLOW
  have hi : (t = 0 → (t : Int) = 0 ∧ ¬ (E : Int) ≤ (nn : Int)) := fun h0 => by rcases hcase with ⟨_, hh⟩ | hh <;> omega
  rcases hcase with ⟨h0, h1⟩ | h0
  · have h1' : ¬ (E : Int) ≤ (nn : Int) := by omega
    subst h0
    clear hi
    have b1 : (((0 : Nat) : Int) == (z : Int)) = false := by rw [beq_eq_false_iff_ne]; exact hall'
    have b1' : ((0 : Int) == (z : Int)) = false := b1
    have b2 : ((k1 : Int) == 0) = false := by rw [beq_eq_false_iff_ne]; exact hk0
    go_wp2_with fail
    refine wp_region_E (fun _ : World => True) 13 (by kernel_rfl) ?_
    refine wpE_take 1 ⟨some 42, _, _, _, _, _⟩ (v := ?_) [3, 4, 5, 6, 7, 8, 9, 10, 11, 12, 13] rfl (by kernel_rfl) (by kernel_rfl) (by kernel_rfl) (by kernel_rfl) (fun _ _ _ h => h) trivial (Or.inl ⟨by rfl, ?_⟩) ?_
    rotate_left
    · (intro V _; go_simp; try with_reducible rfl)
    try simp only [Act.put]
    refine wpE_take 2 ⟨some 43, _, _, _, _, _⟩ (v := ?_) [3, 4, 5, 6, 7, 8, 9, 10, 11, 12, 13] rfl (by kernel_rfl) (by kernel_rfl) (by kernel_rfl) (by kernel_rfl) (fun _ _ _ h => h) trivial (Or.inl ⟨by rfl, ?_⟩) ?_
    rotate_left
    · (intro V _; go_simp; try with_reducible rfl)
    try simp only [Act.put]
    refine wpE_one 0 (by kernel_rfl) rfl (fun K hK => ?_)
    go_simp
    refine hK.out _ _ trivial (fun _ => ?_)
    clear hK K
    try simp only [Act.put]
    refine wpE_one 3 (o := ⟨some 44, _, _, _, _, _⟩) (by kernel_rfl) rfl (fun K hK => ?_)
    rw [if_pos (by kernel_rfl)]
    refine call_val 40 _ _ _ _ _ _ rfl rfl Try.func40 (by kernel_rfl) rfl _ ?hv _ HL1.out ?_
    case hv => simp only [List.map_toArray, List.map_cons, List.map_nil]; go_simp
    rintro e V1 (⟨rfl, hp1⟩ | ⟨rfl, hx1⟩)
    · refine ⟨_, rfl, hK.out _ _ trivial (fun _ => ?_)⟩
      clear hK K HL1
      have y3 := HP.out V1 hp1
      have HL2 := Lib.hid (HHIGH.out V1 hp1)
      clear hp1
      try simp only [Act.put]
      refine wpE_one 4 (by kernel_rfl) rfl (fun K hK => ?_)
      go_simp
      refine hK.out _ _ trivial (fun _ => ?_)
      clear hK K
      try simp only [Act.put]
      refine wpE_take 6 ⟨some 47, _, _, _, _, _⟩ (v := ?_) [9, 11, 12, 13] rfl (by kernel_rfl) (by kernel_rfl) (by kernel_rfl) (by kernel_rfl) (fun _ _ _ h => h) trivial (Or.inl ⟨by rfl, ?_⟩) ?_
      rotate_left
      · (intro V _; go_simp; try with_reducible rfl)
      try simp only [Act.put]
      refine wpE_take 7 ⟨some 48, _, _, _, _, _⟩ (v := ?_) [8, 9, 11, 12, 13] rfl (by kernel_rfl) (by kernel_rfl) (by kernel_rfl) (by kernel_rfl) (fun _ _ _ h => h) trivial (Or.inl ⟨by rfl, ?_⟩) ?_
      rotate_left
      · (intro V _; go_simp; try with_reducible rfl)
      try simp only [Act.put]
      refine wpE_take 8 ⟨some 49, _, _, _, _, _⟩ (v := ?_) [9, 11, 12, 13] rfl (by kernel_rfl) (by kernel_rfl) (by kernel_rfl) (by kernel_rfl) (fun _ _ _ h => h) trivial (Or.inl ⟨by rfl, ?_⟩) ?_
      rotate_left
      · (intro V _; go_simp; try with_reducible rfl)
      try simp only [Act.put]
      refine wpE_take 9 ⟨some 50, _, _, _, _, _⟩ (v := ?_) [11, 12, 13] rfl (by kernel_rfl) (by kernel_rfl) (by kernel_rfl) (by kernel_rfl) (fun _ _ _ h => h) trivial (Or.inl ⟨by rfl, ?_⟩) ?_
      rotate_left
      · (intro V _; go_simp; try with_reducible rfl)
      try simp only [Act.put]
      refine wpE_take 10 ⟨some 51, _, _, _, _, _⟩ (v := ?_) [11, 12, 13] rfl (by kernel_rfl) (by kernel_rfl) (by kernel_rfl) (by kernel_rfl) (fun _ _ _ h => h) trivial (Or.inl ⟨by rfl, ?_⟩) ?_
      rotate_left
      · (intro V _; go_simp; try with_reducible rfl)
      try simp only [Act.put]
      refine wpE_one 5 (by kernel_rfl) rfl (fun K hK => ?_)
      go_simp
      refine hK.out _ _ trivial (fun _ => ?_)
      clear hK K
      try simp only [Act.put]
      refine wpE_one 11 (o := ⟨some 52, _, _, _, _, _⟩) (by kernel_rfl) rfl (fun K hK => ?_)
      rw [if_pos (by kernel_rfl)]
      refine call_val 40 _ _ _ _ _ _ rfl rfl Try.func40 (by kernel_rfl) rfl _ ?hv _ HL2.out ?_
      case hv => simp only [List.map_toArray, List.map_cons, List.map_nil]; go_simp
      rintro e V2 (⟨rfl, hp2⟩ | ⟨rfl, hx2⟩)
      all_goals
        refine ⟨_, rfl, hK.out _ _ trivial (fun _ => ?_)⟩
        clear hK K HL2
        try simp only [Act.put]
        refine wpE_one 12 (by kernel_rfl) rfl (fun K hK => ?_)
        go_simp
        refine hK.out _ _ trivial (fun _ => ?_)
        clear hK K
        try simp only [Act.put]
        refine wpE_last (by kernel_rfl) rfl (fun K hK => ?_)
        go_simp
        refine hK.out _ _ ?_
        clear hK K
        refine wpE_done (by kernel_rfl) ?_ _
        go_wp2
        go_ret
      · exact .inl ⟨rfl, hp2⟩
      · exact .inr ⟨rfl, .inr hx2⟩
    · refine ⟨_, rfl, hK.out _ _ trivial (fun _ => ?_)⟩
      clear hK K HL1
      try simp only [Act.put]
      refine wpE_one 4 (by kernel_rfl) rfl (fun K hK => ?_)
      go_simp
      refine hK.out _ _ trivial (fun _ => ?_)
      clear hK K
      try simp only [Act.put]
      refine wpE_take 6 _ (v := undef) [9, 11, 12, 13] rfl (by kernel_rfl) (by kernel_rfl) (by kernel_rfl) (by kernel_rfl) (fun _ _ _ h => h) trivial (Or.inr ⟨by kernel_rfl, rfl⟩) ?_
      try simp only [Act.put]
      refine wpE_take 7 _ (v := undef) [8, 9, 11, 12, 13] rfl (by kernel_rfl) (by kernel_rfl) (by kernel_rfl) (by kernel_rfl) (fun _ _ _ h => h) trivial (Or.inr ⟨by kernel_rfl, rfl⟩) ?_
      try simp only [Act.put]
      refine wpE_take 8 _ (v := undef) [9, 11, 12, 13] rfl (by kernel_rfl) (by kernel_rfl) (by kernel_rfl) (by kernel_rfl) (fun _ _ _ h => h) trivial (Or.inr ⟨by kernel_rfl, rfl⟩) ?_
      try simp only [Act.put]
      refine wpE_take 9 _ (v := undef) [11, 12, 13] rfl (by kernel_rfl) (by kernel_rfl) (by kernel_rfl) (by kernel_rfl) (fun _ _ _ h => h) trivial (Or.inr ⟨by kernel_rfl, rfl⟩) ?_
      try simp only [Act.put]
      refine wpE_take 10 _ (v := undef) [11, 12, 13] rfl (by kernel_rfl) (by kernel_rfl) (by kernel_rfl) (by kernel_rfl) (fun _ _ _ h => h) trivial (Or.inr ⟨by kernel_rfl, rfl⟩) ?_
      try simp only [Act.put]
      refine wpE_one 5 (by kernel_rfl) rfl (fun K hK => ?_)
      rw [if_neg (by simp only [Bool.not_eq_true]; kernel_rfl)]
      refine hK.out _ _ trivial (fun _ => ?_)
      clear hK K
      try simp only [Act.put]
      refine wpE_one 11 (by kernel_rfl) rfl (fun K hK => ?_)
      rw [if_neg (by simp only [Bool.not_eq_true]; kernel_rfl)]
      refine hK.out _ _ trivial (fun _ => ?_)
      clear hK K
      try simp only [Act.put]
      refine wpE_one 12 (by kernel_rfl) rfl (fun K hK => ?_)
      go_simp
      refine hK.out _ _ trivial (fun _ => ?_)
      clear hK K
      try simp only [Act.put]
      refine wpE_last (by kernel_rfl) rfl (fun K hK => ?_)
      go_simp
      refine hK.out _ _ ?_
      clear hK K
      refine wpE_done (by kernel_rfl) ?_ _
      go_wp2
      go_ret
      exact .inr ⟨rfl, .inl hx1⟩
  · have h0' : ¬ (t : Int) = 0 := by omega
    clear hi
    have b1 : ((t : Int) == (z : Int)) = false := by rw [beq_eq_false_iff_ne]; exact hall'
    have b2 : ((k1 : Int) == 0) = false := by rw [beq_eq_false_iff_ne]; exact hk0
    go_wp2_with fail
    refine wp_region_E (fun _ : World => True) 13 (by kernel_rfl) ?_
    refine wpE_take 1 ⟨some 42, _, _, _, _, _⟩ (v := ?_) [3, 4, 5, 6, 7, 8, 9, 10, 11, 12, 13] rfl (by kernel_rfl) (by kernel_rfl) (by kernel_rfl) (by kernel_rfl) (fun _ _ _ h => h) trivial (Or.inl ⟨by rfl, ?_⟩) ?_
    rotate_left
    · (intro V _; go_simp; try with_reducible rfl)
    try simp only [Act.put]
    refine wpE_take 2 ⟨some 43, _, _, _, _, _⟩ (v := ?_) [3, 4, 5, 6, 7, 8, 9, 10, 11, 12, 13] rfl (by kernel_rfl) (by kernel_rfl) (by kernel_rfl) (by kernel_rfl) (fun _ _ _ h => h) trivial (Or.inl ⟨by rfl, ?_⟩) ?_
    rotate_left
    · (intro V _; go_simp; try with_reducible rfl)
    try simp only [Act.put]
    refine wpE_one 0 (by kernel_rfl) rfl (fun K hK => ?_)
    go_simp
    refine hK.out _ _ trivial (fun _ => ?_)
    clear hK K
    try simp only [Act.put]
    refine wpE_one 3 (o := ⟨some 44, _, _, _, _, _⟩) (by kernel_rfl) rfl (fun K hK => ?_)
    rw [if_pos (by kernel_rfl)]
    refine call_val 40 _ _ _ _ _ _ rfl rfl Try.func40 (by kernel_rfl) rfl _ ?hv _ HL1.out ?_
    case hv => simp only [List.map_toArray, List.map_cons, List.map_nil]; go_simp
    rintro e V1 (⟨rfl, hp1⟩ | ⟨rfl, hx1⟩)
    · refine ⟨_, rfl, hK.out _ _ trivial (fun _ => ?_)⟩
      clear hK K HL1
      have y3 := HP.out V1 hp1
      have HL2 := Lib.hid (HHIGH.out V1 hp1)
      clear hp1
      try simp only [Act.put]
      refine wpE_one 4 (by kernel_rfl) rfl (fun K hK => ?_)
      go_simp
      refine hK.out _ _ trivial (fun _ => ?_)
      clear hK K
      try simp only [Act.put]
      refine wpE_take 6 ⟨some 47, _, _, _, _, _⟩ (v := ?_) [9, 11, 12, 13] rfl (by kernel_rfl) (by kernel_rfl) (by kernel_rfl) (by kernel_rfl) (fun _ _ _ h => h) trivial (Or.inl ⟨by rfl, ?_⟩) ?_
      rotate_left
      · (intro V _; go_simp; try with_reducible rfl)
      try simp only [Act.put]
      refine wpE_take 7 ⟨some 48, _, _, _, _, _⟩ (v := ?_) [8, 9, 11, 12, 13] rfl (by kernel_rfl) (by kernel_rfl) (by kernel_rfl) (by kernel_rfl) (fun _ _ _ h => h) trivial (Or.inl ⟨by rfl, ?_⟩) ?_
      rotate_left
      · (intro V _; go_simp; try with_reducible rfl)
      try simp only [Act.put]
      refine wpE_take 8 ⟨some 49, _, _, _, _, _⟩ (v := ?_) [9, 11, 12, 13] rfl (by kernel_rfl) (by kernel_rfl) (by kernel_rfl) (by kernel_rfl) (fun _ _ _ h => h) trivial (Or.inl ⟨by rfl, ?_⟩) ?_
      rotate_left
      · (intro V _; go_simp; try with_reducible rfl)
      try simp only [Act.put]
      refine wpE_take 9 ⟨some 50, _, _, _, _, _⟩ (v := ?_) [11, 12, 13] rfl (by kernel_rfl) (by kernel_rfl) (by kernel_rfl) (by kernel_rfl) (fun _ _ _ h => h) trivial (Or.inl ⟨by rfl, ?_⟩) ?_
      rotate_left
      · (intro V _; go_simp; try with_reducible rfl)
      try simp only [Act.put]
      refine wpE_take 10 ⟨some 51, _, _, _, _, _⟩ (v := ?_) [11, 12, 13] rfl (by kernel_rfl) (by kernel_rfl) (by kernel_rfl) (by kernel_rfl) (fun _ _ _ h => h) trivial (Or.inl ⟨by rfl, ?_⟩) ?_
      rotate_left
      · (intro V _; go_simp; try with_reducible rfl)
      try simp only [Act.put]
      refine wpE_one 5 (by kernel_rfl) rfl (fun K hK => ?_)
      go_simp
      refine hK.out _ _ trivial (fun _ => ?_)
      clear hK K
      try simp only [Act.put]
      refine wpE_one 11 (o := ⟨some 52, _, _, _, _, _⟩) (by kernel_rfl) rfl (fun K hK => ?_)
      rw [if_pos (by kernel_rfl)]
      refine call_val 40 _ _ _ _ _ _ rfl rfl Try.func40 (by kernel_rfl) rfl _ ?hv _ HL2.out ?_
      case hv => simp only [List.map_toArray, List.map_cons, List.map_nil]; go_simp
      rintro e V2 (⟨rfl, hp2⟩ | ⟨rfl, hx2⟩)
      all_goals
        refine ⟨_, rfl, hK.out _ _ trivial (fun _ => ?_)⟩
        clear hK K HL2
        try simp only [Act.put]
        refine wpE_one 12 (by kernel_rfl) rfl (fun K hK => ?_)
        go_simp
        refine hK.out _ _ trivial (fun _ => ?_)
        clear hK K
        try simp only [Act.put]
        refine wpE_last (by kernel_rfl) rfl (fun K hK => ?_)
        go_simp
        refine hK.out _ _ ?_
        clear hK K
        refine wpE_done (by kernel_rfl) ?_ _
        go_wp2
        go_ret
      · exact .inl ⟨rfl, hp2⟩
      · exact .inr ⟨rfl, .inr hx2⟩
    · refine ⟨_, rfl, hK.out _ _ trivial (fun _ => ?_)⟩
      clear hK K HL1
      try simp only [Act.put]
      refine wpE_one 4 (by kernel_rfl) rfl (fun K hK => ?_)
      go_simp
      refine hK.out _ _ trivial (fun _ => ?_)
      clear hK K
      try simp only [Act.put]
      refine wpE_take 6 _ (v := undef) [9, 11, 12, 13] rfl (by kernel_rfl) (by kernel_rfl) (by kernel_rfl) (by kernel_rfl) (fun _ _ _ h => h) trivial (Or.inr ⟨by kernel_rfl, rfl⟩) ?_
      try simp only [Act.put]
      refine wpE_take 7 _ (v := undef) [8, 9, 11, 12, 13] rfl (by kernel_rfl) (by kernel_rfl) (by kernel_rfl) (by kernel_rfl) (fun _ _ _ h => h) trivial (Or.inr ⟨by kernel_rfl, rfl⟩) ?_
      try simp only [Act.put]
      refine wpE_take 8 _ (v := undef) [9, 11, 12, 13] rfl (by kernel_rfl) (by kernel_rfl) (by kernel_rfl) (by kernel_rfl) (fun _ _ _ h => h) trivial (Or.inr ⟨by kernel_rfl, rfl⟩) ?_
      try simp only [Act.put]
      refine wpE_take 9 _ (v := undef) [11, 12, 13] rfl (by kernel_rfl) (by kernel_rfl) (by kernel_rfl) (by kernel_rfl) (fun _ _ _ h => h) trivial (Or.inr ⟨by kernel_rfl, rfl⟩) ?_
      try simp only [Act.put]
      refine wpE_take 10 _ (v := undef) [11, 12, 13] rfl (by kernel_rfl) (by kernel_rfl) (by kernel_rfl) (by kernel_rfl) (fun _ _ _ h => h) trivial (Or.inr ⟨by kernel_rfl, rfl⟩) ?_
      try simp only [Act.put]
      refine wpE_one 5 (by kernel_rfl) rfl (fun K hK => ?_)
      rw [if_neg (by simp only [Bool.not_eq_true]; kernel_rfl)]
      refine hK.out _ _ trivial (fun _ => ?_)
      clear hK K
      try simp only [Act.put]
      refine wpE_one 11 (by kernel_rfl) rfl (fun K hK => ?_)
      rw [if_neg (by simp only [Bool.not_eq_true]; kernel_rfl)]
      refine hK.out _ _ trivial (fun _ => ?_)
      clear hK K
      try simp only [Act.put]
      refine wpE_one 12 (by kernel_rfl) rfl (fun K hK => ?_)
      go_simp
      refine hK.out _ _ trivial (fun _ => ?_)
      clear hK K
      try simp only [Act.put]
      refine wpE_last (by kernel_rfl) rfl (fun K hK => ?_)
      go_simp
      refine hK.out _ _ ?_
      clear hK K
      refine wpE_done (by kernel_rfl) ?_ _
      go_wp2
      go_ret
      exact .inr ⟨rfl, .inl hx1⟩
end
end Go.Proofs.Ytnkiblifnknbkaa.Buddy
