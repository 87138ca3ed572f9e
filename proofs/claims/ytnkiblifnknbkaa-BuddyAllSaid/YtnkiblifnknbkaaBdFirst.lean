/- first: where the first free chunk of an order from a goal on begins, or else the first of all. -/
import Derived.Test.YtnkiblifnknbkaaBdChunks
namespace Go.Proofs.Ytnkiblifnknbkaa.Buddy
set_option maxRecDepth 20000
open Go Go.RowKit Go.Shelf
open Go.Proofs.Ytnkiblifnknbkaa.Mem Go.Proofs.Ytnkiblifnknbkaa.Bt Go.Proofs.Ytnkiblifnknbkaa.Rec Go.Proofs.Ytnkiblifnknbkaa.Bits Go.Proofs.Ytnkiblifnknbkaa.Bd Go.Proofs.Ytnkiblifnknbkaa.Reg
attribute [local go_sem] Oper.semAt_some

theorem run_quoZ (a z : Nat) (ha : a < 9223372036854775808) (hz : 1 ≤ z) (W : World) : (quoN (.int .i64 (a : Int)) (.int .i64 (z : Int))).run Try.prog W = .ok (.int .i64 ((a / z : Nat) : Int)) W := by
  have e : IntKind.i64.wrap ((a : Int).tdiv (z : Int)) = (a : Int) / (z : Int) := IntWalk.i64_quo _ _ (by omega)
  have e2 : IntKind.i64.wrap ((a : Int) / (z : Int)) = (a : Int) / (z : Int) := by
    rw [← e]
    rw [Int.tdiv_eq_ediv_of_nonneg (by omega)] at e ⊢
    rw [e, e]
  have hz' : ¬ z = 0 := by omega
  unfold quoN
  rw [binOp_quo]
  simp [Op.intDiv, hz', e2]
attribute [local go_sem ↓] shlN_eq quoN_eq

/-- The first of these that is so great. -/
def allF (k : Nat) (l : List (Nat × Nat)) : Int := match l.find? (fun x => decide (k ≤ x.2)) with | none => -1 | some x => (x.1 : Int)
theorem allF_small {k : Nat} {l : List (Nat × Nat)} {x : Nat × Nat} (h : x.2 < k) : allF k (l ++ [x]) = allF k l := by
  unfold allF
  rw [List.find?_append]
  have : List.find? (fun x => decide (k ≤ x.2)) [x] = none := by simp; omega
  rw [this, Option.or_none]
theorem allF_new {k : Nat} {l : List (Nat × Nat)} {x : Nat × Nat} (h : k ≤ x.2) (hn : allF k l < 0) : allF k (l ++ [x]) = (x.1 : Int) := by
  unfold allF at hn ⊢
  rw [List.find?_append]
  have : List.find? (fun x => decide (k ≤ x.2)) [x] = some x := by simp [h]
  rw [this]
  cases hf : List.find? (fun x => decide (k ≤ x.2)) l with
  | none => rfl
  | some y => rw [hf] at hn; simp only at hn; omega
theorem allF_more {k : Nat} {l : List (Nat × Nat)} {x : Nat × Nat} (hn : ¬ allF k l < 0) : allF k (l ++ [x]) = allF k l := by
  unfold allF at hn ⊢
  rw [List.find?_append]
  cases hf : List.find? (fun x => decide (k ≤ x.2)) l with
  | none => rw [hf] at hn; simp at hn
  | some y => rfl
theorem allF_is {f : Nat → Bool} {n k goal : Nat} : ∀ l : List (Nat × Nat), l.Pairwise (fun x y => x.1 + 2 ^ x.2 ≤ y.1) → (∀ x ∈ l, 2 ^ x.2 ∣ x.1 ∧ FreeC f n x.1 x.2) → (∀ x ∈ l, k ≤ x.2 → x.1 + 2 ^ x.2 - 2 ^ k < goal) → IsAll f n k goal l (allF k l) := by
  intro l hs hm hg
  unfold allF
  cases hf : List.find? (fun x => decide (k ≤ x.2)) l with
  | none =>
    refine .inl ⟨rfl, fun x hx => ?_⟩
    have := List.find?_eq_none.1 hf x hx
    simp at this
    exact this
  | some x =>
    obtain ⟨hp, us, vs, rfl, has⟩ := List.find?_eq_some_iff_append.1 hf
    have hk : k ≤ x.2 := by simpa using hp
    have hxm : x ∈ us ++ x :: vs := by simp
    refine .inr ⟨x.1, rfl, chunk_ch (hm x hxm).1 (hm x hxm).2 hk, fun y hy hky => ⟨?_, hg y hy hky⟩, x, hxm, hk, rfl⟩
    rcases List.mem_append.1 hy with h1 | h1
    · have := has y h1
      simp at this
      omega
    · rcases List.mem_cons.1 h1 with e | e
      · rw [e]
        exact Nat.le_refl _
      · have := (List.pairwise_cons.1 (List.pairwise_append.1 hs).2.1).1 y e
        have := Nat.two_pow_pos x.2
        omega
theorem allF_ge {k : Nat} {l : List (Nat × Nat)} : -1 ≤ allF k l := by
  unfold allF
  split <;> omega

theorem KpT.own {B : Nat} {T : Nat → Prop} {W0 V V' : World} {row : Option Nat} (h : KpT B T W0 V) (hg : V.grownBy V' row) (hB : B ≤ W0.heap.size) (hr : ∀ r, row = some r → W0.heap.size ≤ r ∧ ∃ o : Obj, V.heap[r]? = some o ∧ o.isCells = false) : KpT B T W0 V' :=
  ⟨h.below.grown hg (by have := h.below.size; omega) (fun r e => by have := (hr r e).1; omega), fun b o hb hc hT => by
    have h1 := h.cells b o hb hc hT
    refine (hg.block b (Array.getElem?_eq_some_iff.1 h1).1 (fun e => ?_)).trans h1
    obtain ⟨_, o', ho', hc'⟩ := hr b e.symm
    rw [h1] at ho'
    cases ho'
    rw [hc] at hc'
    cases hc'⟩
theorem KpT.set {B : Nat} {T : Nat → Prop} (V : World) (p : Addr) (v : Value) (hB : B ≤ p.block) (hT : T p.block) : KpT B T V (V.setCell p v) :=
  ⟨(Below.refl B V).setCell hB v, fun b o hb _ hn => (Below.heap_setCell _ _ _ _ (fun e => hn (by rw [e]; exact hT))).trans hb⟩
theorem KpT.drew {B : Nat} {T : Nat → Prop} {W V : World} (h : KpT B T W V) : KpT B T W V.drew := ⟨h.below.drew, h.cells⟩

section
variable {nn : Nat}
/-- Between two rounds: the boxes of 'all' and of the answer. -/
def FsI (W0 : World) (B M k goal : Nat) (T : Nat → Prop) (pre : List (Ck nn)) (V : World) : Prop :=
  KpT B T W0 V ∧ V.heap[M + 4]? = some (.cells #[.int .i64 (allF k (raw pre))] 3 (0, 0)) ∧ V.heap[M + 2]? = some (.cells #[.int .i64 0] 3 (0, 0)) ∧ ∀ x ∈ raw pre, k ≤ x.2 → x.1 + 2 ^ x.2 - 2 ^ k < goal
def FsX (W0 : World) (B M k goal : Nat) (T : Nat → Prop) (cd : Code) (pre : List (Ck nn)) (V : World) : Prop :=
  cd = .ret ∧ KpT B T W0 V ∧ ∃ (l : List (Ck nn)) (x : Ck nn), pre = l ++ [x] ∧ (∀ y ∈ raw l, k ≤ y.2 → y.1 + 2 ^ y.2 - 2 ^ k < goal) ∧ k ≤ x.1.2 ∧ goal + 2 ^ k ≤ x.1.1 + 2 ^ x.1.2 ∧
    V.heap[M + 2]? = some (.cells #[.int .i64 ((max x.1.1 ((goal + 2 ^ k - 1) / 2 ^ k * 2 ^ k) : Nat) : Int)] 3 (0, 0))
theorem cells_kept {V V' : World} {row : Option Nat} {b : Nat} {cs : Array Value} {t : TypeId} (h : V.heap[b]? = some (.cells cs t (0, 0))) (hg : V.grownBy V' row) (hr : ∀ r, row = some r → ∃ o : Obj, V.heap[r]? = some o ∧ o.isCells = false) : V'.heap[b]? = some (.cells cs t (0, 0)) :=
  (hg.block b (Array.getElem?_eq_some_iff.1 h).1 (fun e => by obtain ⟨o, ho, hc⟩ := hr b e.symm; rw [h] at ho; cases ho; cases hc)).trans h
theorem fsI_own (W0 : World) (B M k goal : Nat) (T : Nat → Prop) (hB : B ≤ W0.heap.size) : OwnFrom W0.heap.size (FsI (nn := nn) W0 B M k goal T) := fun _ _ _ _ ⟨h1, h2, h3, h4⟩ hg hr =>
  ⟨h1.own hg hB hr, cells_kept h2 hg (fun r e => (hr r e).2), cells_kept h3 hg (fun r e => (hr r e).2), h4⟩
theorem fsX_own (W0 : World) (B M k goal : Nat) (T : Nat → Prop) (cd : Code) (hB : B ≤ W0.heap.size) : OwnFrom W0.heap.size (FsX (nn := nn) W0 B M k goal T cd) := fun _ _ _ _ ⟨h0, h1, l, x, e, h2, h3, h4, h5⟩ hg hr =>
  ⟨h0, h1.own hg hB hr, l, x, e, h2, h3, h4, cells_kept h5 hg (fun r e => (hr r e).2)⟩
end

set_option maxRecDepth 100000 in
set_option maxHeartbeats 4000000 in
theorem bfirst_any (A : Option Addr) (len c B : Nat) (bs : List UInt8) (nn k goal : Nat) (w : World) (h : Holds w B A len bs) (hB : B ≤ w.heap.size) (hl : len ≤ 140737488355328) (hnn : nn ≤ 1125899906842624) (hk : k ≤ 6) (hg : goal ≤ 9223372036854775807) :
    Calls Try.prog 23 #[.slice A len c, .int .i64 (nn : Int), .int .i64 (k : Int), .int .i64 (goal : Int)] w fun e w' => ∃ r, IsFind (bt bs) nn k goal r ∧ e = .returned (.int .i64 r) ∧ Below w.heap.size w w' := by
  have q := run_shl1 k (by omega)
  have hz1 := Nat.two_pow_pos k
  have hz2 : 2 ^ k ≤ 2 ^ 6 := Nat.pow_le_pow_right (by omega) hk
  obtain ⟨z, hz⟩ : ∃ z, z = 2 ^ k := ⟨_, rfl⟩
  rw [← hz] at q hz1 hz2
  have HZ := Lib.hid hz; clear hz
  have HG := Lib.hid hg; clear hg
  have HNN := Lib.hid hnn; clear hnn
  refine (callsIn_wide (n := 5)).1 ?_
  refine callsIn_of_wp_marks Try.func23 rfl trivial ?_ rfl
  simp only [Try.ntmps23, List.size_toArray, List.length_cons, List.length_nil, Nat.reduceAdd, Nat.reduceSub, Array.replicate_succ, Array.replicate_zero, List.push_toArray, List.append_toArray, List.nil_append, List.cons_append]
  gi_wp2_with fail
  obtain ⟨V1, hV1⟩ : ∃ V1, V1 = w.alloc (.cells #[.int .i64 (k : Int)] 3) := ⟨_, rfl⟩
  obtain ⟨V2, hV2⟩ : ∃ V2, V2 = V1.alloc (.cells #[.int .i64 (goal : Int)] 3) := ⟨_, rfl⟩
  obtain ⟨V3, hV3⟩ : ∃ V3, V3 = V2.alloc (.cells #[.int .i64 0] 3) := ⟨_, rfl⟩
  obtain ⟨V4, hV4⟩ : ∃ V4, V4 = V3.alloc (.cells #[.int .i64 (z : Int)] 3) := ⟨_, rfl⟩
  obtain ⟨V5, hV5⟩ : ∃ V5, V5 = V4.alloc (.cells #[.int .i64 (-1)] 3) := ⟨_, rfl⟩
  rw [← hV1, ← hV2, ← hV3, ← hV4, ← hV5]
  have z1 : V1.heap.size = w.heap.size + 1 := by rw [hV1]; simp
  have z2 : V2.heap.size = w.heap.size + 2 := by rw [hV2]; simp [z1]
  have z3 : V3.heap.size = w.heap.size + 3 := by rw [hV3]; simp [z2]
  have z4 : V4.heap.size = w.heap.size + 4 := by rw [hV4]; simp [z3]
  have z5 : V5.heap.size = w.heap.size + 5 := by rw [hV5]; simp [z4]
  have up : ∀ {X Y : World} {o : Obj} (b : Nat) (O : Obj), Y = X.alloc o → b < X.heap.size → X.heap[b]? = some O → Y.heap[b]? = some O := fun b O e hb hO => by rw [e]; exact (Below.heap_alloc _ _ _ (by omega)).trans hO
  have b0 : V1.heap[w.heap.size]? = some (.cells #[.int .i64 (k : Int)] 3 (0, 0)) := by rw [hV1]; exact heap_alloc_new _ _
  have b1 : V2.heap[w.heap.size + 1]? = some (.cells #[.int .i64 (goal : Int)] 3 (0, 0)) := by rw [hV2, ← z1]; exact heap_alloc_new _ _
  have b2 : V3.heap[w.heap.size + 2]? = some (.cells #[.int .i64 0] 3 (0, 0)) := by rw [hV3, ← z2]; exact heap_alloc_new _ _
  have b3 : V4.heap[w.heap.size + 3]? = some (.cells #[.int .i64 (z : Int)] 3 (0, 0)) := by rw [hV4, ← z3]; exact heap_alloc_new _ _
  have b4 : V5.heap[w.heap.size + 4]? = some (.cells #[.int .i64 (-1)] 3 (0, 0)) := by rw [hV5, ← z4]; exact heap_alloc_new _ _
  replace b0 := up _ _ hV5 (by omega) (up _ _ hV4 (by omega) (up _ _ hV3 (by omega) (up _ _ hV2 (by omega) b0)))
  replace b1 := up _ _ hV5 (by omega) (up _ _ hV4 (by omega) (up _ _ hV3 (by omega) b1))
  replace b2 := up _ _ hV5 (by omega) (up _ _ hV4 (by omega) b2)
  replace b3 := up _ _ hV5 (by omega) b3
  have hbl : Below w.heap.size w V5 := by
    rw [hV5, hV4, hV3, hV2, hV1]
    exact (((((Below.refl _ w).alloc (Nat.le_refl _) _).alloc (by simp) _).alloc (by simp; omega) _).alloc (by simp; omega) _).alloc (by simp; omega) _
  clear up hV1 hV2 hV3 hV4 hV5 z1 z2 z3 z4
  refine ⟨trivial, (callsIn_wide (n := 4)).2 ((chunks_mk A len c nn V5).mono ?_)⟩
  rintro e W0 ⟨rfl, hbl0, hq0, hq1, hz0⟩
  replace b0 := (hbl0.block _ (by omega)).trans b0
  replace b1 := (hbl0.block _ (by omega)).trans b1
  replace b2 := (hbl0.block _ (by omega)).trans b2
  replace b3 := (hbl0.block _ (by omega)).trans b3
  replace b4 := (hbl0.block _ (by omega)).trans b4
  have hB0 : Below w.heap.size w W0 := hbl.trans (hbl0.mono (by omega))
  rw [z5] at hq0 hq1 hz0 ⊢
  clear hbl hbl0
  obtain ⟨M, hMe⟩ : ∃ M, M = w.heap.size := ⟨_, rfl⟩
  rw [← hMe] at b0 b1 b2 b3 b4 hq0 hq1 hz0
  have hMle : w.heap.size ≤ M := Nat.le_of_eq hMe.symm
  have hBM : B ≤ M := by omega
  have hh0 : Holds W0 B A len bs := h.below (hB0.mono hB)
  have HI0 : Hid (FsI (nn := nn) W0 w.heap.size M k goal (fun b => b = M + 2 ∨ b = M + 4) [] W0) := Lib.hid ⟨KpT.refl _ _ _, b4, b2, fun _ h => by cases h⟩
  have HB0 := Lib.hid hB0; clear hB0
  have HH0 := Lib.hid hh0; clear hh0 h
  have BX0 := Lib.hid b0; clear b0
  have BX1 := Lib.hid b1; clear b1
  have BX3 := Lib.hid b3; clear b3
  clear b2 b4 z5
  have HQ0 := Lib.hid hq0; clear hq0
  have HQ1 := Lib.hid hq1; clear hq1
  gi_wp2
  rw [← hMe]
  have HM := Lib.hid hMe; clear hMe
  refine wpIn_rangeFunc_ownG (F := Fence.wide) (n := 5) rfl (by omega) (gf := 39) (lb := #[.pointer (some ⟨M + 5, 0, none⟩), .pointer (some ⟨M + 5 + 1, 0, none⟩)]) rfl trivial (enters_of Try.func39 (by kernel_rfl) rfl)
    (chunks_stops (M + 5) (M + 5 + 1) w.heap.size A len c nn bs (fun b => b = M + 2 ∨ b = M + 4) (5 - 1) (by omega) (by omega) hl HNN.out W0 (fun b hb => by omega) HQ0.out HQ1.out (HH0.out.more hB) (by omega))
    KpT.trans ?hKb (Below.refl _ _) (fun _ => rfl)
    (FsI W0 w.heap.size M k goal (fun b => b = M + 2 ∨ b = M + 4)) (FsX W0 w.heap.size M k goal (fun b => b = M + 2 ∨ b = M + 4)) (fsI_own _ _ _ _ _ _ (by omega)) (fun _ => fsX_own _ _ _ _ _ _ _ (by omega)) HI0.out
    (fun x => { tmps := #[.slice A len c, .int .i64 (nn : Int), .int .i64 (k : Int), .int .i64 (goal : Int), undef, undef, .pointer (some ⟨M, 0, none⟩), .pointer (some ⟨M + 1, 0, none⟩), .pointer (some ⟨M + 1 + 1, 0, none⟩), .pointer (some ⟨M + 1 + 1 + 1, 0, none⟩), .pointer (some ⟨M + 1 + 1 + 1 + 1, 0, none⟩), .int .i64 (x.1.1 : Int), .int .i64 (x.1.2 : Int), .int .i64 (k : Int), .int .i64 (z : Int), .slice A len c, .int .i64 (nn : Int), .func (.func 39) #[] #[.pointer (some ⟨M + 5, 0, none⟩), .pointer (some ⟨M + 5 + 1, 0, none⟩)], .int .i64 (x.1.1 : Int), .int .i64 (x.1.2 : Int), undef, undef, undef, undef, undef, undef, undef, undef, undef, undef, undef, undef, undef, undef, undef, undef, undef, undef, undef, undef, undef, undef, undef, undef, undef], defers := [] }) ?assign ?body ?done ?stop
  case hKb =>
    intro V q o o' hq ho hoc hw
    exact ⟨belowK_b (w := W0) (by omega) V q o o' (by omega) ho hoc hw, fun b o2 hb hc _ => (World.putObj_heap_other (fun e => by subst e; rw [hb] at ho; cases ho; rw [hc] at hoc; cases hoc)).trans hb⟩
  case assign =>
    intro l x V K hK
    dsimp only [encK, encC] at hK ⊢
    gi_wp2
    exact hK
  case body =>
    rintro l pre x V ⟨hkp, ha, hr0, hno⟩ hlen
    clear hlen
    obtain ⟨⟨s, wv⟩, hx1, hx2⟩ := x
    dsimp only at hx1 hx2 ⊢
    have hVs : W0.heap.size ≤ V.heap.size := hkp.below.size
    have x0 : V.cell? ⟨M, 0, none⟩ = some (.int .i64 (k : Int)) := cell_of_row V _ 0 _ _ _ (hkp.cells _ _ BX0.out rfl (by omega))
    have x1 : V.cell? ⟨M + 1, 0, none⟩ = some (.int .i64 (goal : Int)) := cell_of_row V _ 0 _ _ _ (hkp.cells _ _ BX1.out rfl (by omega))
    have x3 : V.cell? ⟨M + 1 + 1 + 1, 0, none⟩ = some (.int .i64 (z : Int)) := cell_of_row V _ 0 _ _ _ (hkp.cells _ _ BX3.out rfl (by omega))
    have hage := allF_ge (k := k) (l := raw pre)
    have hnew := fun (h1 : k ≤ wv) (h2 : allF k (raw pre) < 0) => allF_new (k := k) (l := raw pre) (x := (s, wv)) h1 h2
    have hmore := fun (h2 : ¬ allF k (raw pre) < 0) => allF_more (k := k) (l := raw pre) (x := (s, wv)) h2
    have hsmall := fun (h2 : wv < k) => allF_small (k := k) (l := raw pre) (x := (s, wv)) h2
    have hraw : raw (pre ++ [mkCk (s, wv) hx1 hx2]) = raw pre ++ [(s, wv)] := raw_snoc pre (mkCk (s, wv) hx1 hx2)
    obtain ⟨a, hae⟩ : ∃ a, a = allF k (raw pre) := ⟨_, rfl⟩
    rw [← hae] at ha hage hnew hmore hsmall
    have x4 : V.cell? ⟨M + 1 + 1 + 1 + 1, 0, none⟩ = some (.int .i64 a) := cell_of_row V _ 0 _ _ _ ha
    have f4 : V.frozen? ⟨M + 1 + 1 + 1 + 1, 0, none⟩ = false := frozen_of_row V _ 0 _ _ ha
    have x2 : V.cell? ⟨M + 1 + 1, 0, none⟩ = some (.int .i64 0) := cell_of_row V _ 0 _ _ _ hr0
    have f2 : V.frozen? ⟨M + 1 + 1, 0, none⟩ = false := frozen_of_row V _ 0 _ _ hr0
    -- what a round that goes on leaves
    have hgo : ∀ V', KpT w.heap.size (fun b => b = M + 2 ∨ b = M + 4) V V' → KeepsFrom W0.heap.size V V' → V'.heap[M + 4]? = some (.cells #[.int .i64 (allF k (raw pre ++ [(s, wv)]))] 3 (0, 0)) → V'.heap[M + 2]? = some (.cells #[.int .i64 0] 3 (0, 0)) → (k ≤ wv → s + 2 ^ wv - z < goal) →
        KeepsFrom W0.heap.size V V' ∧ KpT w.heap.size (fun b => b = M + 2 ∨ b = M + 4) V V' ∧ FsI W0 w.heap.size M k goal (fun b => b = M + 2 ∨ b = M + 4) (pre ++ [mkCk (s, wv) hx1 hx2]) V' := fun V' g1 g2 g3 g4 g5 => by
      refine ⟨g2, g1, hkp.trans g1, by rw [hraw]; exact g3, g4, fun y hy hky => ?_⟩
      rw [hraw] at hy
      rcases List.mem_append.1 hy with e1 | e1
      · exact hno y e1 hky
      · rw [List.mem_singleton.1 e1] at hky ⊢
        rw [← HZ.out]
        exact g5 hky
    have hret : ∀ V', KpT w.heap.size (fun b => b = M + 2 ∨ b = M + 4) V V' → KeepsFrom W0.heap.size V V' → V'.heap[M + 2]? = some (.cells #[.int .i64 ((max s ((goal + z - 1) / z * z) : Nat) : Int)] 3 (0, 0)) → k ≤ wv → goal + z ≤ s + 2 ^ wv →
        KeepsFrom W0.heap.size V V' ∧ FsX W0 w.heap.size M k goal (fun b => b = M + 2 ∨ b = M + 4) .ret (pre ++ [mkCk (s, wv) hx1 hx2]) V' := fun V' g1 g2 g3 g4 g5 => by
      rw [HZ.out] at g3 g5
      exact ⟨g2, rfl, hkp.trans g1, pre, _, rfl, hno, g4, g5, g3⟩
    have HGO := Lib.hid hgo; clear hgo
    have HRET := Lib.hid hret; clear hret hno hkp hraw hae
    have HA := Lib.hid ha; clear ha
    have HR0 := Lib.hid hr0; clear hr0
    have HAGE := Lib.hid hage; clear hage
    by_cases hkw : k ≤ wv
    · have hkw' : ¬ (wv : Int) < (k : Int) := by omega
      have q8 := run_shl1 wv (by omega)
      have hy2 : 2 ^ wv ≤ 2 ^ 6 := Nat.pow_le_pow_right (by omega) hx2
      have hzy : z ≤ 2 ^ wv := by rw [HZ.out]; exact Nat.pow_le_pow_right (by omega) hkw
      have hdz : 1 ≤ z := hz1
      obtain ⟨y, hy⟩ : ∃ y, y = 2 ^ wv := ⟨_, rfl⟩
      have HGO2 := Lib.hid HGO.out; clear HGO
      have HRET2 := Lib.hid HRET.out; clear HRET
      rw [← hy] at hy2 hzy q8 hx1 HGO2 HRET2
      clear hy
      obtain ⟨E, hE⟩ : ∃ E, E = s + y := ⟨_, rfl⟩
      obtain ⟨D, hD⟩ : ∃ D, D = s + y - z := ⟨_, rfl⟩
      have hnn := HNN.out
      have e1 : IntKind.i64.wrap ((s : Int) + (y : Int)) = (E : Int) := by rw [IntWalk.i64_in _ (by omega)]; omega
      have e2 : IntKind.i64.wrap ((E : Int) - (z : Int)) = (D : Int) := by rw [IntWalk.i64_in _ (by omega)]; omega
      have HHD := Lib.hid (⟨hE, hD⟩ : E = s + y ∧ D = s + y - z); clear hE hD
      have HNUM := Lib.hid (⟨hx1, hy2, hzy, hnn⟩ : s + y ≤ nn ∧ y ≤ 2 ^ 6 ∧ z ≤ y ∧ nn ≤ 1125899906842624); clear hx1 hy2 hzy hnn
      by_cases hlt : a < 0
      · have hnw := hnew hkw hlt
        clear hnew hmore hsmall
        have hfa : (V.setCell ⟨M + 1 + 1 + 1 + 1, 0, none⟩ (.int .i64 (s : Int))).heap[M + 4]? = some (.cells #[.int .i64 (s : Int)] 3 (0, 0)) := heap_setCell_same V (M + 4) 0 _ _ _ HA.out
        have hfr : (V.setCell ⟨M + 1 + 1 + 1 + 1, 0, none⟩ (.int .i64 (s : Int))).heap[M + 2]? = some (.cells #[.int .i64 0] 3 (0, 0)) := (Below.heap_setCell _ _ _ _ (by show M + 2 ≠ M + 1 + 1 + 1 + 1; omega)).trans HR0.out
        have hk2 : KpT w.heap.size (fun b => b = M + 2 ∨ b = M + 4) V (V.setCell ⟨M + 1 + 1 + 1 + 1, 0, none⟩ (.int .i64 (s : Int))) := KpT.set V _ _ (by show w.heap.size ≤ M + 4; omega) (.inr rfl)
        have hkf : KeepsFrom W0.heap.size V (V.setCell ⟨M + 1 + 1 + 1 + 1, 0, none⟩ (.int .i64 (s : Int))) := KeepsFrom.of_grownBy (grown_set (T := M + 4) (World.grownBy.refl V _) _ rfl _) (fun j hj => by cases hj; omega)
        have hS : (V.setCell ⟨M + 1 + 1 + 1 + 1, 0, none⟩ (.int .i64 (s : Int))).drew.cell? ⟨M + 1, 0, none⟩ = some (.int .i64 (goal : Int)) ∧ (V.setCell ⟨M + 1 + 1 + 1 + 1, 0, none⟩ (.int .i64 (s : Int))).drew.cell? ⟨M + 1 + 1 + 1, 0, none⟩ = some (.int .i64 (z : Int)) :=
          ⟨(World.cell?_of_block (a := ⟨M + 1, 0, none⟩) (Below.heap_setCell _ _ _ _ (by show M + 1 ≠ M + 1 + 1 + 1 + 1; omega))).trans x1, (World.cell?_of_block (a := ⟨M + 1 + 1 + 1, 0, none⟩) (Below.heap_setCell _ _ _ _ (by show M + 1 + 1 + 1 ≠ M + 1 + 1 + 1 + 1; omega))).trans x3⟩
        gi_wp2_with fail
        obtain ⟨U, hU⟩ : ∃ U, U = V.setCell ⟨M + 1 + 1 + 1 + 1, 0, none⟩ (.int .i64 (s : Int)) := ⟨_, rfl⟩
        rw [← hU] at hfa hfr hk2 hkf hS ⊢
        clear hU
        rw [← hnw] at hfa
        by_cases hc : goal ≤ D
        · have hc' : (goal : Int) ≤ (D : Int) := by omega
          have hn := HNUM.out
          have hd := HHD.out
          obtain ⟨G1, hG1⟩ : ∃ G1, G1 = goal + z := ⟨_, rfl⟩
          obtain ⟨G2, hG2⟩ : ∃ G2, G2 = goal + z - 1 := ⟨_, rfl⟩
          have e3 : IntKind.i64.wrap ((goal : Int) + (z : Int)) = (G1 : Int) := by rw [IntWalk.i64_in _ (by omega)]; omega
          have e4 : IntKind.i64.wrap ((G1 : Int) - 1) = (G2 : Int) := by rw [IntWalk.i64_in _ (by omega)]; omega
          have q9 := run_quoZ G2 z (by omega) hdz
          have hc1 := ceil_spec goal z hdz
          rw [← hG2] at hc1
          obtain ⟨Q, hQ⟩ : ∃ Q, Q = G2 / z := ⟨_, rfl⟩
          rw [← hQ] at q9 hc1
          obtain ⟨C, hC⟩ : ∃ C, C = Q * z := ⟨_, rfl⟩
          rw [← hC] at hc1
          have e5 : IntKind.i64.wrap ((Q : Int) * (z : Int)) = (C : Int) := by rw [show (Q : Int) * (z : Int) = (C : Int) by rw [hC]; push_cast; rfl, IntWalk.i64_in _ (by omega)]
          have q10 : ∀ (ts : Array TypeId) (t : TypeId) (W : World), (Builtin.max_ ts t #[.int .i64 (s : Int), .int .i64 (C : Int)]).run Try.prog W = .ok (.int .i64 ((max s C : Nat) : Int)) W := fun ts t W => by
            rw [run_max_int2]
            congr 2
            split <;> omega
          obtain ⟨X, hX⟩ : ∃ X, X = max s C := ⟨_, rfl⟩
          rw [← hX] at q10
          have hXe : X = max s ((goal + z - 1) / z * z) := by rw [hX, hC, hQ, hG2]
          have hfin : ∀ v, v = Value.int .i64 (X : Int) → KeepsFrom W0.heap.size V (U.setCell ⟨M + 1 + 1, 0, none⟩ v).drew.drew ∧ FsX W0 w.heap.size M k goal (fun b => b = M + 2 ∨ b = M + 4) .ret (pre ++ [mkCk (s, wv) hx1 hx2]) (U.setCell ⟨M + 1 + 1, 0, none⟩ v).drew.drew := fun v hv => HRET2.out _ ((hk2.trans (KpT.set U _ _ (by show w.heap.size ≤ M + 2; omega) (.inl rfl))).drew.drew) (hkf.trans (KeepsFrom.of_grownBy (grown_drew (grown_drew (grown_set (T := M + 2) (World.grownBy.refl U _) _ rfl _))) (fun j hj => by cases hj; omega))) (by rw [hv, ← hXe]; exact heap_setCell_same U (M + 2) 0 _ _ _ hfr) hkw (by omega)
          have HFIN := Lib.hid hfin; clear hfin hXe hX hC hQ hG1 hG2 hc1 hn hd HGO2 HRET2 hnw hk2 hkf hfa
          have hfr8 := Lib.hid hfr; clear hfr
          refine wpIn_region_E (fun V : World => V.cell? ⟨M + 1, 0, none⟩ = some (.int .i64 (goal : Int)) ∧ V.cell? ⟨M + 1 + 1 + 1, 0, none⟩ = some (.int .i64 (z : Int))) 7 (by kernel_rfl) (by kernel_rfl) (by rintro ⟨_, _, h⟩; exact h) ?_
          refine wpE_take 0 ⟨some 26, _, _, _, _, _⟩ (v := ?_) [7] rfl (by kernel_rfl) (by kernel_rfl) (by kernel_rfl) (by kernel_rfl) (fun _ _ _ h => h) hS (Or.inl ⟨by rfl, ?_⟩) ?_
          rotate_left
          · (intro V hSw; obtain ⟨s1, s3⟩ := hSw; go_simp; try with_reducible rfl)
          try simp only [Act.put]
          refine wpE_take 1 ⟨some 27, _, _, _, _, _⟩ (v := ?_) [4, 6, 7] rfl (by kernel_rfl) (by kernel_rfl) (by kernel_rfl) (by kernel_rfl) (fun _ _ _ h => h) hS (Or.inl ⟨by rfl, ?_⟩) ?_
          rotate_left
          · (intro V hSw; obtain ⟨s1, s3⟩ := hSw; go_simp; try with_reducible rfl)
          try simp only [Act.put]
          refine wpE_take 2 ⟨some 28, _, _, _, _, _⟩ (v := ?_) [3, 4, 6, 7] rfl (by kernel_rfl) (by kernel_rfl) (by kernel_rfl) (by kernel_rfl) (fun _ _ _ h => h) hS (Or.inl ⟨by rfl, ?_⟩) ?_
          rotate_left
          · (intro V hSw; obtain ⟨s1, s3⟩ := hSw; go_simp; try with_reducible rfl)
          try simp only [Act.put]
          refine wpE_take 3 ⟨some 29, _, _, _, _, _⟩ (v := ?_) [4, 6, 7] rfl (by kernel_rfl) (by kernel_rfl) (by kernel_rfl) (by kernel_rfl) (fun _ _ _ h => h) hS (Or.inl ⟨by rfl, ?_⟩) ?_
          rotate_left
          · (intro V hSw; obtain ⟨s1, s3⟩ := hSw; go_simp; try with_reducible rfl)
          try simp only [Act.put]
          refine wpE_take 4 ⟨some 30, _, _, _, _, _⟩ (v := ?_) [6, 7] rfl (by kernel_rfl) (by kernel_rfl) (by kernel_rfl) (by kernel_rfl) (fun _ _ _ h => h) hS (Or.inl ⟨by rfl, ?_⟩) ?_
          rotate_left
          · (intro V hSw; obtain ⟨s1, s3⟩ := hSw; go_simp; try with_reducible rfl)
          try simp only [Act.put]
          refine wpE_take 5 ⟨some 31, _, _, _, _, _⟩ (v := ?_) [6, 7] rfl (by kernel_rfl) (by kernel_rfl) (by kernel_rfl) (by kernel_rfl) (fun _ _ _ h => h) hS (Or.inl ⟨by rfl, ?_⟩) ?_
          rotate_left
          · (intro V hSw; obtain ⟨s1, s3⟩ := hSw; go_simp; try with_reducible rfl)
          try simp only [Act.put]
          refine wpE_take 6 ⟨some 32, _, _, _, _, _⟩ (v := ?_) [7] rfl (by kernel_rfl) (by kernel_rfl) (by kernel_rfl) (by kernel_rfl) (fun _ _ _ h => h) hS (Or.inl ⟨by rfl, ?_⟩) ?_
          rotate_left
          · (intro V hSw; obtain ⟨s1, s3⟩ := hSw; go_simp; try with_reducible rfl)
          try simp only [Act.put]
          refine wpE_last (by kernel_rfl) rfl (fun K hK => ?_)
          go_simp
          refine hK.out _ _ ?_
          clear hK K
          refine wpE_done (by kernel_rfl) ?_ _
          have g0 : U.cell? ⟨M + 1 + 1, 0, none⟩ = some (.int .i64 0) := cell_of_row U _ 0 _ _ _ hfr8.out
          have g1 : U.drew.cell? ⟨M + 1 + 1, 0, none⟩ = some (.int .i64 0) := g0
          have g2 : U.drew.drew.cell? ⟨M + 1 + 1, 0, none⟩ = some (.int .i64 0) := g0
          have g3 : U.frozen? ⟨M + 1 + 1, 0, none⟩ = false := frozen_of_row U _ 0 _ _ hfr8.out
          have g4 : U.drew.frozen? ⟨M + 1 + 1, 0, none⟩ = false := g3
          have g5 : U.drew.drew.frozen? ⟨M + 1 + 1, 0, none⟩ = false := g3
          gi_wp2_with fail
          refine wpIn_region_E (fun V : World => V.cell? ⟨M + 1, 0, none⟩ = some (.int .i64 (goal : Int)) ∧ V.cell? ⟨M + 1 + 1 + 1, 0, none⟩ = some (.int .i64 (z : Int))) 10 (by kernel_rfl) (by kernel_rfl) (by rintro ⟨_, _, h⟩; exact h) ?_
          refine wpE_take 0 ⟨some 34, _, _, _, _, _⟩ (v := ?_) [9, 10] rfl (by kernel_rfl) (by kernel_rfl) (by kernel_rfl) (by kernel_rfl) (fun _ _ _ h => h) hS (Or.inl ⟨by rfl, ?_⟩) ?_
          rotate_left
          · (intro V hSw; obtain ⟨s1, s3⟩ := hSw; go_simp; try with_reducible rfl)
          try simp only [Act.put]
          refine wpE_take 1 ⟨some 35, _, _, _, _, _⟩ (v := ?_) [3, 4, 6, 8, 9, 10] rfl (by kernel_rfl) (by kernel_rfl) (by kernel_rfl) (by kernel_rfl) (fun _ _ _ h => h) hS (Or.inl ⟨by rfl, ?_⟩) ?_
          rotate_left
          · (intro V hSw; obtain ⟨s1, s3⟩ := hSw; go_simp; try with_reducible rfl)
          try simp only [Act.put]
          refine wpE_take 2 ⟨some 36, _, _, _, _, _⟩ (v := ?_) [3, 4, 6, 8, 9, 10] rfl (by kernel_rfl) (by kernel_rfl) (by kernel_rfl) (by kernel_rfl) (fun _ _ _ h => h) hS (Or.inl ⟨by rfl, ?_⟩) ?_
          rotate_left
          · (intro V hSw; obtain ⟨s1, s3⟩ := hSw; go_simp; try with_reducible rfl)
          try simp only [Act.put]
          refine wpE_take 3 ⟨some 37, _, _, _, _, _⟩ (v := ?_) [4, 6, 8, 9, 10] rfl (by kernel_rfl) (by kernel_rfl) (by kernel_rfl) (by kernel_rfl) (fun _ _ _ h => h) hS (Or.inl ⟨by rfl, ?_⟩) ?_
          rotate_left
          · (intro V hSw; obtain ⟨s1, s3⟩ := hSw; go_simp; try with_reducible rfl)
          try simp only [Act.put]
          refine wpE_take 4 ⟨some 38, _, _, _, _, _⟩ (v := ?_) [6, 8, 9, 10] rfl (by kernel_rfl) (by kernel_rfl) (by kernel_rfl) (by kernel_rfl) (fun _ _ _ h => h) hS (Or.inl ⟨by rfl, ?_⟩) ?_
          rotate_left
          · (intro V hSw; obtain ⟨s1, s3⟩ := hSw; go_simp; try with_reducible rfl)
          try simp only [Act.put]
          refine wpE_take 5 ⟨some 39, _, _, _, _, _⟩ (v := ?_) [6, 8, 9, 10] rfl (by kernel_rfl) (by kernel_rfl) (by kernel_rfl) (by kernel_rfl) (fun _ _ _ h => h) hS (Or.inl ⟨by rfl, ?_⟩) ?_
          rotate_left
          · (intro V hSw; obtain ⟨s1, s3⟩ := hSw; go_simp; try with_reducible rfl)
          try simp only [Act.put]
          refine wpE_take 6 ⟨some 40, _, _, _, _, _⟩ (v := ?_) [8, 9, 10] rfl (by kernel_rfl) (by kernel_rfl) (by kernel_rfl) (by kernel_rfl) (fun _ _ _ h => h) hS (Or.inl ⟨by rfl, ?_⟩) ?_
          rotate_left
          · (intro V hSw; obtain ⟨s1, s3⟩ := hSw; go_simp; try with_reducible rfl)
          try simp only [Act.put]
          refine wpE_take 7 ⟨some 41, _, _, _, _, _⟩ (v := ?_) [8, 9, 10] rfl (by kernel_rfl) (by kernel_rfl) (by kernel_rfl) (by kernel_rfl) (fun _ _ _ h => h) hS (Or.inl ⟨by rfl, ?_⟩) ?_
          rotate_left
          · (intro V hSw; obtain ⟨s1, s3⟩ := hSw; go_simp; try with_reducible rfl)
          try simp only [Act.put]
          refine wpE_take 8 ⟨some 42, _, _, _, _, _⟩ (v := ?_) [9, 10] rfl (by kernel_rfl) (by kernel_rfl) (by kernel_rfl) (by kernel_rfl) (fun _ _ _ h => h) hS (Or.inl ⟨by rfl, ?_⟩) ?_
          rotate_left
          · (intro V hSw; obtain ⟨s1, s3⟩ := hSw; go_simp; try with_reducible rfl)
          try simp only [Act.put]
          refine wpE_take 9 ⟨some 43, _, _, _, _, _⟩ (v := ?_) [10] rfl (by kernel_rfl) (by kernel_rfl) (by kernel_rfl) (by kernel_rfl) (fun _ _ _ h => h) hS (Or.inl ⟨by rfl, ?_⟩) ?_
          rotate_left
          · (intro V hSw; obtain ⟨s1, s3⟩ := hSw; go_simp; try with_reducible rfl)
          try simp only [Act.put]
          refine wpE_last (by kernel_rfl) rfl (fun K hK => ?_)
          go_simp
          refine hK.out _ _ ?_
          clear hK K
          refine wpE_done (by kernel_rfl) ?_ _
          gi_wp2
          first | exact HFIN.out _ rfl | (have hh := HFIN.out _ rfl; rw [hz0] at hh; exact hh)
        · have hc' : ¬ (goal : Int) ≤ (D : Int) := by omega
          have hend := HGO2.out U.drew hk2.drew (hkf.trans ⟨Nat.le_refl _, fun _ _ _ h _ => h⟩) hfa hfr (fun _ => by have := HHD.out; omega)
          have HE := Lib.hid hend; clear hend HGO2 HRET2 hfa hfr hk2 hkf hnw
          refine wpIn_region_E (fun V : World => V.cell? ⟨M + 1, 0, none⟩ = some (.int .i64 (goal : Int)) ∧ V.cell? ⟨M + 1 + 1 + 1, 0, none⟩ = some (.int .i64 (z : Int))) 7 (by kernel_rfl) (by kernel_rfl) (by rintro ⟨_, _, h⟩; exact h) ?_
          refine wpE_take 0 ⟨some 26, _, _, _, _, _⟩ (v := ?_) [7] rfl (by kernel_rfl) (by kernel_rfl) (by kernel_rfl) (by kernel_rfl) (fun _ _ _ h => h) hS (Or.inl ⟨by rfl, ?_⟩) ?_
          rotate_left
          · (intro V hSw; obtain ⟨s1, s3⟩ := hSw; go_simp; try with_reducible rfl)
          try simp only [Act.put]
          refine wpE_take 1 ⟨some 27, _, _, _, _, _⟩ (v := ?_) [4, 6, 7] rfl (by kernel_rfl) (by kernel_rfl) (by kernel_rfl) (by kernel_rfl) (fun _ _ _ h => h) hS (Or.inl ⟨by rfl, ?_⟩) ?_
          rotate_left
          · (intro V hSw; obtain ⟨s1, s3⟩ := hSw; go_simp; try with_reducible rfl)
          try simp only [Act.put]
          refine wpE_take 2 ⟨some 28, _, _, _, _, _⟩ (v := ?_) [3, 4, 6, 7] rfl (by kernel_rfl) (by kernel_rfl) (by kernel_rfl) (by kernel_rfl) (fun _ _ _ h => h) hS (Or.inl ⟨by rfl, ?_⟩) ?_
          rotate_left
          · (intro V hSw; obtain ⟨s1, s3⟩ := hSw; go_simp; try with_reducible rfl)
          try simp only [Act.put]
          refine wpE_take 3 ⟨some 29, _, _, _, _, _⟩ (v := ?_) [4, 6, 7] rfl (by kernel_rfl) (by kernel_rfl) (by kernel_rfl) (by kernel_rfl) (fun _ _ _ h => h) hS (Or.inl ⟨by rfl, ?_⟩) ?_
          rotate_left
          · (intro V hSw; obtain ⟨s1, s3⟩ := hSw; go_simp; try with_reducible rfl)
          try simp only [Act.put]
          refine wpE_take 4 ⟨some 30, _, _, _, _, _⟩ (v := ?_) [6, 7] rfl (by kernel_rfl) (by kernel_rfl) (by kernel_rfl) (by kernel_rfl) (fun _ _ _ h => h) hS (Or.inl ⟨by rfl, ?_⟩) ?_
          rotate_left
          · (intro V hSw; obtain ⟨s1, s3⟩ := hSw; go_simp; try with_reducible rfl)
          try simp only [Act.put]
          refine wpE_take 5 ⟨some 31, _, _, _, _, _⟩ (v := ?_) [6, 7] rfl (by kernel_rfl) (by kernel_rfl) (by kernel_rfl) (by kernel_rfl) (fun _ _ _ h => h) hS (Or.inl ⟨by rfl, ?_⟩) ?_
          rotate_left
          · (intro V hSw; obtain ⟨s1, s3⟩ := hSw; go_simp; try with_reducible rfl)
          try simp only [Act.put]
          refine wpE_take 6 ⟨some 32, _, _, _, _, _⟩ (v := ?_) [7] rfl (by kernel_rfl) (by kernel_rfl) (by kernel_rfl) (by kernel_rfl) (fun _ _ _ h => h) hS (Or.inl ⟨by rfl, ?_⟩) ?_
          rotate_left
          · (intro V hSw; obtain ⟨s1, s3⟩ := hSw; go_simp; try with_reducible rfl)
          try simp only [Act.put]
          refine wpE_last (by kernel_rfl) rfl (fun K hK => ?_)
          go_simp
          refine hK.out _ _ ?_
          clear hK K
          refine wpE_done (by kernel_rfl) ?_ _
          gi_wp2
          first | exact HE.out | (have hh := HE.out; rw [hz0] at hh; exact hh)
      · have hnw := hmore hlt
        clear hnew hmore hsmall
        have hfa := HA.out
        rw [← hnw] at hfa
        have hfr := HR0.out
        have hk2 : KpT w.heap.size (fun b => b = M + 2 ∨ b = M + 4) V V := KpT.refl _ _ _
        have hkf : KeepsFrom W0.heap.size V V := KeepsFrom.refl _ _
        have hS : V.drew.cell? ⟨M + 1, 0, none⟩ = some (.int .i64 (goal : Int)) ∧ V.drew.cell? ⟨M + 1 + 1 + 1, 0, none⟩ = some (.int .i64 (z : Int)) := ⟨x1, x3⟩
        gi_wp2_with fail
        by_cases hc : goal ≤ D
        · have hc' : (goal : Int) ≤ (D : Int) := by omega
          have hn := HNUM.out
          have hd := HHD.out
          obtain ⟨G1, hG1⟩ : ∃ G1, G1 = goal + z := ⟨_, rfl⟩
          obtain ⟨G2, hG2⟩ : ∃ G2, G2 = goal + z - 1 := ⟨_, rfl⟩
          have e3 : IntKind.i64.wrap ((goal : Int) + (z : Int)) = (G1 : Int) := by rw [IntWalk.i64_in _ (by omega)]; omega
          have e4 : IntKind.i64.wrap ((G1 : Int) - 1) = (G2 : Int) := by rw [IntWalk.i64_in _ (by omega)]; omega
          have q9 := run_quoZ G2 z (by omega) hdz
          have hc1 := ceil_spec goal z hdz
          rw [← hG2] at hc1
          obtain ⟨Q, hQ⟩ : ∃ Q, Q = G2 / z := ⟨_, rfl⟩
          rw [← hQ] at q9 hc1
          obtain ⟨C, hC⟩ : ∃ C, C = Q * z := ⟨_, rfl⟩
          rw [← hC] at hc1
          have e5 : IntKind.i64.wrap ((Q : Int) * (z : Int)) = (C : Int) := by rw [show (Q : Int) * (z : Int) = (C : Int) by rw [hC]; push_cast; rfl, IntWalk.i64_in _ (by omega)]
          have q10 : ∀ (ts : Array TypeId) (t : TypeId) (W : World), (Builtin.max_ ts t #[.int .i64 (s : Int), .int .i64 (C : Int)]).run Try.prog W = .ok (.int .i64 ((max s C : Nat) : Int)) W := fun ts t W => by
            rw [run_max_int2]
            congr 2
            split <;> omega
          obtain ⟨X, hX⟩ : ∃ X, X = max s C := ⟨_, rfl⟩
          rw [← hX] at q10
          have hXe : X = max s ((goal + z - 1) / z * z) := by rw [hX, hC, hQ, hG2]
          have hfin : ∀ v, v = Value.int .i64 (X : Int) → KeepsFrom W0.heap.size V (V.setCell ⟨M + 1 + 1, 0, none⟩ v).drew.drew ∧ FsX W0 w.heap.size M k goal (fun b => b = M + 2 ∨ b = M + 4) .ret (pre ++ [mkCk (s, wv) hx1 hx2]) (V.setCell ⟨M + 1 + 1, 0, none⟩ v).drew.drew := fun v hv => HRET2.out _ ((hk2.trans (KpT.set V _ _ (by show w.heap.size ≤ M + 2; omega) (.inl rfl))).drew.drew) (hkf.trans (KeepsFrom.of_grownBy (grown_drew (grown_drew (grown_set (T := M + 2) (World.grownBy.refl V _) _ rfl _))) (fun j hj => by cases hj; omega))) (by rw [hv, ← hXe]; exact heap_setCell_same V (M + 2) 0 _ _ _ hfr) hkw (by omega)
          have HFIN := Lib.hid hfin; clear hfin hXe hX hC hQ hG1 hG2 hc1 hn hd HGO2 HRET2 hnw hk2 hkf hfa
          have hfr8 := Lib.hid hfr; clear hfr
          refine wpIn_region_E (fun V : World => V.cell? ⟨M + 1, 0, none⟩ = some (.int .i64 (goal : Int)) ∧ V.cell? ⟨M + 1 + 1 + 1, 0, none⟩ = some (.int .i64 (z : Int))) 7 (by kernel_rfl) (by kernel_rfl) (by rintro ⟨_, _, h⟩; exact h) ?_
          refine wpE_take 0 ⟨some 26, _, _, _, _, _⟩ (v := ?_) [7] rfl (by kernel_rfl) (by kernel_rfl) (by kernel_rfl) (by kernel_rfl) (fun _ _ _ h => h) hS (Or.inl ⟨by rfl, ?_⟩) ?_
          rotate_left
          · (intro V hSw; obtain ⟨s1, s3⟩ := hSw; go_simp; try with_reducible rfl)
          try simp only [Act.put]
          refine wpE_take 1 ⟨some 27, _, _, _, _, _⟩ (v := ?_) [4, 6, 7] rfl (by kernel_rfl) (by kernel_rfl) (by kernel_rfl) (by kernel_rfl) (fun _ _ _ h => h) hS (Or.inl ⟨by rfl, ?_⟩) ?_
          rotate_left
          · (intro V hSw; obtain ⟨s1, s3⟩ := hSw; go_simp; try with_reducible rfl)
          try simp only [Act.put]
          refine wpE_take 2 ⟨some 28, _, _, _, _, _⟩ (v := ?_) [3, 4, 6, 7] rfl (by kernel_rfl) (by kernel_rfl) (by kernel_rfl) (by kernel_rfl) (fun _ _ _ h => h) hS (Or.inl ⟨by rfl, ?_⟩) ?_
          rotate_left
          · (intro V hSw; obtain ⟨s1, s3⟩ := hSw; go_simp; try with_reducible rfl)
          try simp only [Act.put]
          refine wpE_take 3 ⟨some 29, _, _, _, _, _⟩ (v := ?_) [4, 6, 7] rfl (by kernel_rfl) (by kernel_rfl) (by kernel_rfl) (by kernel_rfl) (fun _ _ _ h => h) hS (Or.inl ⟨by rfl, ?_⟩) ?_
          rotate_left
          · (intro V hSw; obtain ⟨s1, s3⟩ := hSw; go_simp; try with_reducible rfl)
          try simp only [Act.put]
          refine wpE_take 4 ⟨some 30, _, _, _, _, _⟩ (v := ?_) [6, 7] rfl (by kernel_rfl) (by kernel_rfl) (by kernel_rfl) (by kernel_rfl) (fun _ _ _ h => h) hS (Or.inl ⟨by rfl, ?_⟩) ?_
          rotate_left
          · (intro V hSw; obtain ⟨s1, s3⟩ := hSw; go_simp; try with_reducible rfl)
          try simp only [Act.put]
          refine wpE_take 5 ⟨some 31, _, _, _, _, _⟩ (v := ?_) [6, 7] rfl (by kernel_rfl) (by kernel_rfl) (by kernel_rfl) (by kernel_rfl) (fun _ _ _ h => h) hS (Or.inl ⟨by rfl, ?_⟩) ?_
          rotate_left
          · (intro V hSw; obtain ⟨s1, s3⟩ := hSw; go_simp; try with_reducible rfl)
          try simp only [Act.put]
          refine wpE_take 6 ⟨some 32, _, _, _, _, _⟩ (v := ?_) [7] rfl (by kernel_rfl) (by kernel_rfl) (by kernel_rfl) (by kernel_rfl) (fun _ _ _ h => h) hS (Or.inl ⟨by rfl, ?_⟩) ?_
          rotate_left
          · (intro V hSw; obtain ⟨s1, s3⟩ := hSw; go_simp; try with_reducible rfl)
          try simp only [Act.put]
          refine wpE_last (by kernel_rfl) rfl (fun K hK => ?_)
          go_simp
          refine hK.out _ _ ?_
          clear hK K
          refine wpE_done (by kernel_rfl) ?_ _
          have g0 : V.cell? ⟨M + 1 + 1, 0, none⟩ = some (.int .i64 0) := cell_of_row V _ 0 _ _ _ hfr8.out
          have g1 : V.drew.cell? ⟨M + 1 + 1, 0, none⟩ = some (.int .i64 0) := g0
          have g2 : V.drew.drew.cell? ⟨M + 1 + 1, 0, none⟩ = some (.int .i64 0) := g0
          have g3 : V.frozen? ⟨M + 1 + 1, 0, none⟩ = false := frozen_of_row V _ 0 _ _ hfr8.out
          have g4 : V.drew.frozen? ⟨M + 1 + 1, 0, none⟩ = false := g3
          have g5 : V.drew.drew.frozen? ⟨M + 1 + 1, 0, none⟩ = false := g3
          gi_wp2_with fail
          refine wpIn_region_E (fun V : World => V.cell? ⟨M + 1, 0, none⟩ = some (.int .i64 (goal : Int)) ∧ V.cell? ⟨M + 1 + 1 + 1, 0, none⟩ = some (.int .i64 (z : Int))) 10 (by kernel_rfl) (by kernel_rfl) (by rintro ⟨_, _, h⟩; exact h) ?_
          refine wpE_take 0 ⟨some 34, _, _, _, _, _⟩ (v := ?_) [9, 10] rfl (by kernel_rfl) (by kernel_rfl) (by kernel_rfl) (by kernel_rfl) (fun _ _ _ h => h) hS (Or.inl ⟨by rfl, ?_⟩) ?_
          rotate_left
          · (intro V hSw; obtain ⟨s1, s3⟩ := hSw; go_simp; try with_reducible rfl)
          try simp only [Act.put]
          refine wpE_take 1 ⟨some 35, _, _, _, _, _⟩ (v := ?_) [3, 4, 6, 8, 9, 10] rfl (by kernel_rfl) (by kernel_rfl) (by kernel_rfl) (by kernel_rfl) (fun _ _ _ h => h) hS (Or.inl ⟨by rfl, ?_⟩) ?_
          rotate_left
          · (intro V hSw; obtain ⟨s1, s3⟩ := hSw; go_simp; try with_reducible rfl)
          try simp only [Act.put]
          refine wpE_take 2 ⟨some 36, _, _, _, _, _⟩ (v := ?_) [3, 4, 6, 8, 9, 10] rfl (by kernel_rfl) (by kernel_rfl) (by kernel_rfl) (by kernel_rfl) (fun _ _ _ h => h) hS (Or.inl ⟨by rfl, ?_⟩) ?_
          rotate_left
          · (intro V hSw; obtain ⟨s1, s3⟩ := hSw; go_simp; try with_reducible rfl)
          try simp only [Act.put]
          refine wpE_take 3 ⟨some 37, _, _, _, _, _⟩ (v := ?_) [4, 6, 8, 9, 10] rfl (by kernel_rfl) (by kernel_rfl) (by kernel_rfl) (by kernel_rfl) (fun _ _ _ h => h) hS (Or.inl ⟨by rfl, ?_⟩) ?_
          rotate_left
          · (intro V hSw; obtain ⟨s1, s3⟩ := hSw; go_simp; try with_reducible rfl)
          try simp only [Act.put]
          refine wpE_take 4 ⟨some 38, _, _, _, _, _⟩ (v := ?_) [6, 8, 9, 10] rfl (by kernel_rfl) (by kernel_rfl) (by kernel_rfl) (by kernel_rfl) (fun _ _ _ h => h) hS (Or.inl ⟨by rfl, ?_⟩) ?_
          rotate_left
          · (intro V hSw; obtain ⟨s1, s3⟩ := hSw; go_simp; try with_reducible rfl)
          try simp only [Act.put]
          refine wpE_take 5 ⟨some 39, _, _, _, _, _⟩ (v := ?_) [6, 8, 9, 10] rfl (by kernel_rfl) (by kernel_rfl) (by kernel_rfl) (by kernel_rfl) (fun _ _ _ h => h) hS (Or.inl ⟨by rfl, ?_⟩) ?_
          rotate_left
          · (intro V hSw; obtain ⟨s1, s3⟩ := hSw; go_simp; try with_reducible rfl)
          try simp only [Act.put]
          refine wpE_take 6 ⟨some 40, _, _, _, _, _⟩ (v := ?_) [8, 9, 10] rfl (by kernel_rfl) (by kernel_rfl) (by kernel_rfl) (by kernel_rfl) (fun _ _ _ h => h) hS (Or.inl ⟨by rfl, ?_⟩) ?_
          rotate_left
          · (intro V hSw; obtain ⟨s1, s3⟩ := hSw; go_simp; try with_reducible rfl)
          try simp only [Act.put]
          refine wpE_take 7 ⟨some 41, _, _, _, _, _⟩ (v := ?_) [8, 9, 10] rfl (by kernel_rfl) (by kernel_rfl) (by kernel_rfl) (by kernel_rfl) (fun _ _ _ h => h) hS (Or.inl ⟨by rfl, ?_⟩) ?_
          rotate_left
          · (intro V hSw; obtain ⟨s1, s3⟩ := hSw; go_simp; try with_reducible rfl)
          try simp only [Act.put]
          refine wpE_take 8 ⟨some 42, _, _, _, _, _⟩ (v := ?_) [9, 10] rfl (by kernel_rfl) (by kernel_rfl) (by kernel_rfl) (by kernel_rfl) (fun _ _ _ h => h) hS (Or.inl ⟨by rfl, ?_⟩) ?_
          rotate_left
          · (intro V hSw; obtain ⟨s1, s3⟩ := hSw; go_simp; try with_reducible rfl)
          try simp only [Act.put]
          refine wpE_take 9 ⟨some 43, _, _, _, _, _⟩ (v := ?_) [10] rfl (by kernel_rfl) (by kernel_rfl) (by kernel_rfl) (by kernel_rfl) (fun _ _ _ h => h) hS (Or.inl ⟨by rfl, ?_⟩) ?_
          rotate_left
          · (intro V hSw; obtain ⟨s1, s3⟩ := hSw; go_simp; try with_reducible rfl)
          try simp only [Act.put]
          refine wpE_last (by kernel_rfl) rfl (fun K hK => ?_)
          go_simp
          refine hK.out _ _ ?_
          clear hK K
          refine wpE_done (by kernel_rfl) ?_ _
          gi_wp2
          first | exact HFIN.out _ rfl | (have hh := HFIN.out _ rfl; rw [hz0] at hh; exact hh)
        · have hc' : ¬ (goal : Int) ≤ (D : Int) := by omega
          have hend := HGO2.out V.drew hk2.drew (hkf.trans ⟨Nat.le_refl _, fun _ _ _ h _ => h⟩) hfa hfr (fun _ => by have := HHD.out; omega)
          have HE := Lib.hid hend; clear hend HGO2 HRET2 hfa hfr hk2 hkf hnw
          refine wpIn_region_E (fun V : World => V.cell? ⟨M + 1, 0, none⟩ = some (.int .i64 (goal : Int)) ∧ V.cell? ⟨M + 1 + 1 + 1, 0, none⟩ = some (.int .i64 (z : Int))) 7 (by kernel_rfl) (by kernel_rfl) (by rintro ⟨_, _, h⟩; exact h) ?_
          refine wpE_take 0 ⟨some 26, _, _, _, _, _⟩ (v := ?_) [7] rfl (by kernel_rfl) (by kernel_rfl) (by kernel_rfl) (by kernel_rfl) (fun _ _ _ h => h) hS (Or.inl ⟨by rfl, ?_⟩) ?_
          rotate_left
          · (intro V hSw; obtain ⟨s1, s3⟩ := hSw; go_simp; try with_reducible rfl)
          try simp only [Act.put]
          refine wpE_take 1 ⟨some 27, _, _, _, _, _⟩ (v := ?_) [4, 6, 7] rfl (by kernel_rfl) (by kernel_rfl) (by kernel_rfl) (by kernel_rfl) (fun _ _ _ h => h) hS (Or.inl ⟨by rfl, ?_⟩) ?_
          rotate_left
          · (intro V hSw; obtain ⟨s1, s3⟩ := hSw; go_simp; try with_reducible rfl)
          try simp only [Act.put]
          refine wpE_take 2 ⟨some 28, _, _, _, _, _⟩ (v := ?_) [3, 4, 6, 7] rfl (by kernel_rfl) (by kernel_rfl) (by kernel_rfl) (by kernel_rfl) (fun _ _ _ h => h) hS (Or.inl ⟨by rfl, ?_⟩) ?_
          rotate_left
          · (intro V hSw; obtain ⟨s1, s3⟩ := hSw; go_simp; try with_reducible rfl)
          try simp only [Act.put]
          refine wpE_take 3 ⟨some 29, _, _, _, _, _⟩ (v := ?_) [4, 6, 7] rfl (by kernel_rfl) (by kernel_rfl) (by kernel_rfl) (by kernel_rfl) (fun _ _ _ h => h) hS (Or.inl ⟨by rfl, ?_⟩) ?_
          rotate_left
          · (intro V hSw; obtain ⟨s1, s3⟩ := hSw; go_simp; try with_reducible rfl)
          try simp only [Act.put]
          refine wpE_take 4 ⟨some 30, _, _, _, _, _⟩ (v := ?_) [6, 7] rfl (by kernel_rfl) (by kernel_rfl) (by kernel_rfl) (by kernel_rfl) (fun _ _ _ h => h) hS (Or.inl ⟨by rfl, ?_⟩) ?_
          rotate_left
          · (intro V hSw; obtain ⟨s1, s3⟩ := hSw; go_simp; try with_reducible rfl)
          try simp only [Act.put]
          refine wpE_take 5 ⟨some 31, _, _, _, _, _⟩ (v := ?_) [6, 7] rfl (by kernel_rfl) (by kernel_rfl) (by kernel_rfl) (by kernel_rfl) (fun _ _ _ h => h) hS (Or.inl ⟨by rfl, ?_⟩) ?_
          rotate_left
          · (intro V hSw; obtain ⟨s1, s3⟩ := hSw; go_simp; try with_reducible rfl)
          try simp only [Act.put]
          refine wpE_take 6 ⟨some 32, _, _, _, _, _⟩ (v := ?_) [7] rfl (by kernel_rfl) (by kernel_rfl) (by kernel_rfl) (by kernel_rfl) (fun _ _ _ h => h) hS (Or.inl ⟨by rfl, ?_⟩) ?_
          rotate_left
          · (intro V hSw; obtain ⟨s1, s3⟩ := hSw; go_simp; try with_reducible rfl)
          try simp only [Act.put]
          refine wpE_last (by kernel_rfl) rfl (fun K hK => ?_)
          go_simp
          refine hK.out _ _ ?_
          clear hK K
          refine wpE_done (by kernel_rfl) ?_ _
          gi_wp2
          first | exact HE.out | (have hh := HE.out; rw [hz0] at hh; exact hh)
    · have hkw' : (wv : Int) < (k : Int) := by omega
      have hsm := hsmall (by omega)
      clear hnew hmore hsmall
      have hfa := HA.out
      rw [← hsm] at hfa
      have hend := HGO.out V (KpT.refl _ _ _) (KeepsFrom.refl _ _) hfa HR0.out (fun hh => absurd hh hkw)
      have HE := Lib.hid hend; clear hend HGO HRET hfa hsm
      gi_wp2
      exact HE.out
  case done =>
    rintro D ys V hD' hys ⟨hkp, ha, hr0, hno⟩ hK
    rw [hys] at ha hno
    have hfin := find_end hk (allF_is (n := nn) (f := bt bs) (chunksL (bt bs) nn) (chunksTo_sorted _ _ _) (fun x hx => (chunks_mem hx).2) hno)
    have hage := allF_ge (k := k) (l := chunksL (bt bs) nn)
    obtain ⟨a, hae⟩ : ∃ a, a = allF k (chunksL (bt bs) nn) := ⟨_, rfl⟩
    rw [← hae] at ha hfin
    have x4 : V.cell? ⟨M + 1 + 1 + 1 + 1, 0, none⟩ = some (.int .i64 a) := cell_of_row V _ 0 _ _ _ ha
    have x2 : V.cell? ⟨M + 1 + 1, 0, none⟩ = some (.int .i64 0) := cell_of_row V _ 0 _ _ _ hr0
    have f2 : V.frozen? ⟨M + 1 + 1, 0, none⟩ = false := frozen_of_row V _ 0 _ _ hr0
    have hVs := hkp.below.size
    have HF := Lib.hid hfin; clear hfin hno hae hage ha hys
    gi_wp2
    have hr := heap_setCell_same V (M + 1 + 1) 0 _ _ (.int .i64 a) hr0
    have hK' : (V.setCell ⟨M + 1 + 1, 0, none⟩ (.int .i64 a)).heap[D]? = some (.deferred (some [])) := (Below.heap_setCell _ _ _ _ (by show D ≠ M + 1 + 1; omega)).trans hK
    refine ⟨by simp, .inl ⟨_, _, rfl, run_takeDeferred hK', ?_⟩⟩
    refine ⟨_, results_cell_int rfl _ _ (M + 1 + 1) (.int .i64 a) rfl (cell_of_row _ _ 0 _ _ _ ((World.putObj_heap_other (by omega)).trans hr)), ?_⟩
    have hb2 : Below w.heap.size w (V.setCell ⟨M + 1 + 1, 0, none⟩ (.int .i64 a)) := (HB0.out.trans hkp.below).setCell (p := ⟨M + 1 + 1, 0, none⟩) (by show w.heap.size ≤ M + 1 + 1; omega) _
    exact ⟨a, HF.out, rfl, hb2.grown (grownBy_putObj' _ D _) (by have := hb2.size; omega) (fun j hj => by cases hj; omega)⟩
  case stop =>
    rintro D cc pre V hD' hp ⟨rfl, hkp, l, x, rfl, hno, hkx, hgx, hr0⟩ hK
    rw [raw_snoc] at hp
    obtain ⟨post, hpost⟩ := hp
    rw [List.append_assoc, List.singleton_append] at hpost
    have hso := chunksTo_sorted (bt bs) nn (rnds nn)
    rw [show chunksTo (bt bs) nn (rnds nn) = raw l ++ x.1 :: post from hpost.symm] at hso
    have hIA := allF_is (n := nn) (f := bt bs) (raw l) (List.pairwise_append.1 hso).1 (fun y hy => (chunks_mem (show y ∈ chunksL (bt bs) nn by rw [← hpost]; exact List.mem_append.2 (.inl hy))).2) hno
    have hfin := find_here hk hpost.symm hIA hkx hgx
    obtain ⟨X, hX⟩ : ∃ X, X = max x.1.1 ((goal + 2 ^ k - 1) / 2 ^ k * 2 ^ k) := ⟨_, rfl⟩
    rw [← hX] at hr0 hfin
    have hVs := hkp.below.size
    have HF := Lib.hid hfin; clear hfin hno hX hIA hso hpost
    gi_wp2
    refine ⟨by simp, .inl ⟨_, _, rfl, run_takeDeferred hK, ?_⟩⟩
    refine ⟨_, results_cell_int rfl _ _ (M + 1 + 1) (.int .i64 (X : Int)) rfl (cell_of_row _ _ 0 _ _ _ ((World.putObj_heap_other (by omega)).trans hr0)), ?_⟩
    exact ⟨X, HF.out, rfl, (HB0.out.trans hkp.below).grown (grownBy_putObj' _ D _) (by have := HB0.out.size; omega) (fun j hj => by cases hj; omega)⟩
end Go.Proofs.Ytnkiblifnknbkaa.Buddy
