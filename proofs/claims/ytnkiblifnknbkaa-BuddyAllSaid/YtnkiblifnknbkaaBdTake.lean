/- Take: what it answers. -/
import Derived.Test.YtnkiblifnknbkaaBdCalls
import Derived.Deep.MidRow
namespace Go.Proofs.Ytnkiblifnknbkaa.Buddy
set_option maxRecDepth 20000
open Go Go.RowKit
open Go.Proofs.Ytnkiblifnknbkaa.Mem Go.Proofs.Ytnkiblifnknbkaa.Bt Go.Proofs.Ytnkiblifnknbkaa.Rec Go.Proofs.Ytnkiblifnknbkaa.Bits Go.Proofs.Ytnkiblifnknbkaa.Bd Go.Proofs.Ytnkiblifnknbkaa.Reg

def stS (x v : Value) : Sem Unit := Instr.storeAt 27 x v
theorem stS_eq (x v : Value) : Instr.storeAt 27 x v = stS x v := rfl
theorem run_stS_new (w : World) (s l : Int) :
    (stS (.pointer (some ⟨w.heap.size, 0, none⟩)) (.agg (spanV s l))).run Try.prog (w.alloc (.cells #[.int .i64 0, .int .i64 0] 27)) = .ok () (w.alloc (.cells (spanV s l) 27)) :=
  run_storeAt_new w 27 _ (spanV s l) (by kernel_rfl) rfl (by simp [spanV, Value.oneCell'])
/-- A store of a whole span into a variable of one's own. -/
theorem run_stS_at (W : World) (g : Nat) (s l s' l' : Int) (hg : W.heap[g]? = some (.cells (spanV s' l') 27 (0, 0))) :
    ∃ W', (stS (.pointer (some ⟨g, 0, none⟩)) (.agg (spanV s l))).run Try.prog W = .ok () W' ∧ W'.heap[g]? = some (.cells (spanV s l) 27 (0, 0)) ∧ W.grownBy W' (some g) := by
  have hs := run_storeAt_mid (P := Try.prog) W g 0 27 (spanV s l) ?_ (by kernel_rfl) (by simp [spanV, Value.oneCell'])
  · refine ⟨_, hs, ?_, ?_⟩
    · rw [setCells_heap g _ 0 W _ _ hg (by exact Nat.le_refl _)]
      rfl
    · have h2 : W.setCells g 0 (spanV s l).toList = (W.setCell ⟨g, 0, none⟩ (.int .i64 s)).setCell ⟨g, 1, none⟩ (.int .i64 l) := rfl
      rw [h2]
      exact grown_set (T := g) (grown_set (T := g) (World.grownBy.refl W _) ⟨g, 0, none⟩ rfl _) ⟨g, 1, none⟩ rfl _
  · intro j hj
    have : j < (spanV s' l').size := hj
    rw [Nat.zero_add]
    exact ⟨by rw [cell_of_row _ _ _ _ _ _ hg, Array.getElem?_eq_getElem this]; rfl, frozen_of_row _ _ _ _ _ hg⟩
theorem results_span {fn : Func} {p u v : Tmp} (h : fn.results = #[.tmp u, .cell p 27, .tmp v]) (tmps : Array Value) (w : World) (g : Nat) (s l : Int) (a b : Value)
    (hp : tmps.getD p undef = .pointer (some ⟨g, 0, none⟩)) (ha : tmps.getD u undef = a) (hb : tmps.getD v undef = b) (hg : w.heap[g]? = some (.cells (spanV s l) 27 (0, 0))) :
    (results fn tmps).run Try.prog w = .ok (.tuple #[a, .agg (spanV s l), b]) w := by
  have hl : (loadVar 27 ⟨g, 0, none⟩).run Try.prog w = .ok (.agg (spanV s l)) w := run_loadVar_row w g _ _ (spanV s l) (0, 0) _ hg Try.underlying27 rfl (by kernel_rfl)
  have hp' : tmps[p]?.getD undef = .pointer (some ⟨g, 0, none⟩) := by simpa using hp
  have ha' : tmps[u]?.getD undef = a := by simpa using ha
  have hb' : tmps[v]?.getD undef = b := by simpa using hb
  simp [results, h, hp', ha', hb', asAddr, hl, Result.andThen]
attribute [local go_sem ↓] ldS_eq stS_eq shlN_eq

theorem Owned.grownFar {w w' : World} {base r : Nat} {v : Value} {bs : List UInt8} (h : Owned w base v bs) (hg : w.grownBy w' (some r)) (hne : ∀ k, v.ownBlock = some k → some k ≠ some r) : Owned w' base v bs := by
  refine ⟨h.1, h.2.imp id ?_⟩
  rintro ⟨g, cap, cur, e, h1, h2, h3⟩
  exact ⟨g, cap, cur, e, h1, (hg.block g (Array.getElem?_eq_some_iff.1 h2).1 (hne g (by rw [e]; rfl))).trans h2, h3⟩
def takeB (len : Nat) (x want goal : Int) : Bool := poolB len x && decide (1 ≤ want ∧ want ≤ 64 ∧ 0 ≤ goal)

section
variable (A : Option Addr) (len c B : Nat) (bs : List UInt8) (w : World)
set_option maxHeartbeats 1000000 in
theorem take_bad (x want goal : Int) (hl : len ≤ 140737488355328) (hp : takeB len x want goal = false) :
    Calls Try.prog 11 #[.slice A len c, .int .i64 x, .int .i64 want, .int .i64 goal] w fun e w' => e = .returned (.tuple #[.slice none 0 0, .agg (spanV 0 0), .int .i64 1]) ∧ Below w.heap.size w w' := by
  have hb : Below w.heap.size w (w.alloc (.cells #[.int .i64 0, .int .i64 0] 27)) := (Below.refl _ w).alloc (Nat.le_refl _) _
  have q := run_stS_new w 0 0
  have q' : (stS (.pointer (some ⟨w.heap.size, 0, none⟩)) (.agg #[.int .i64 0, .int .i64 0])).run Try.prog (w.alloc (.cells #[.int .i64 0, .int .i64 0] 27)) = .ok () (w.alloc (.cells #[.int .i64 0, .int .i64 0] 27)) := q
  clear q
  have hpool := fun W => pool_any A len c x W hl
  unfold takeB at hp
  have HB := Lib.hid hb; clear hb
  cases hpb : poolB len x with
  | false =>
    rw [hpb] at hpool
    have HP := Lib.hid hpool; clear hpool hp hpb
    go_enter Try.func11, Try.ntmps11
    go_wp2_with fail
    with_reducible refine (HP.out _).mono ?_
    rintro e w1 ⟨rfl, rfl⟩
    go_wp2
    exact bodyPost_ret (results_span rfl _ _ _ _ _ _ _ rfl rfl rfl (heap_alloc_new w _)) rfl ⟨rfl, HB.out⟩
  | true =>
    rw [hpb, Bool.true_and] at hp
    rw [hpb] at hpool
    have hp' := of_decide_eq_false hp
    have HP := Lib.hid hpool; clear hpool hp hpb
    rcases (show want < 1 ∨ (1 ≤ want ∧ 64 < want) ∨ (1 ≤ want ∧ want ≤ 64 ∧ goal < 0) by omega) with h1 | ⟨h1, h2⟩ | ⟨h1, h2, h3⟩
    all_goals
      clear hp'
      go_enter Try.func11, Try.ntmps11
      go_wp2_with fail
      with_reducible refine (HP.out _).mono ?_
      rintro e w1 ⟨rfl, rfl⟩
      go_wp2
      exact bodyPost_ret (results_span rfl _ _ _ _ _ _ _ rfl rfl rfl (heap_alloc_new w _)) rfl ⟨rfl, HB.out⟩

/-- What Take tells: a span of so many blocks, and the map behind it; or none. -/
def TakeOut (nn want : Nat) (r : Option (Nat × Nat)) (e : Ending) (w' : World) : Prop :=
  match r with
  | none => e = .returned (.tuple #[.slice none 0 0, .agg (spanV 0 0), .int .i64 9]) ∧ Below w.heap.size w w'
  | some (a, o) => a + min want (2 ^ o) ≤ nn ∧ ∃ A' c', e = .returned (.tuple #[.slice A' len c', .agg (spanV (a : Int) ((min want (2 ^ o) : Nat) : Int)), .int .i64 0]) ∧ Below w.heap.size w w' ∧
      Owned w' w.heap.size (.slice A' len c') (fillL bs (a : Int) ((a + min want (2 ^ o) : Nat) : Int) true) ∧ Text w' (.slice A' len c') (fillL bs (a : Int) ((a + min want (2 ^ o) : Nat) : Int) true)

set_option maxRecDepth 100000 in
set_option maxHeartbeats 4000000 in
theorem take_run (nn want goal : Nat) (h : Holds w B A len bs) (hB : B ≤ w.heap.size) (hl : len ≤ 140737488351232) (hnn : nn ≤ 8 * len) (h1 : 1 ≤ want) (h2 : want ≤ 64) (hg : goal ≤ 9223372036854775807) :
    Calls Try.prog 11 #[.slice A len c, .int .i64 (nn : Int), .int .i64 (want : Int), .int .i64 (goal : Int)] w fun e w' => ∃ r, IsTake (bt bs) nn (leastO want) goal r ∧ TakeOut len bs w nn want r e w' := by
  obtain ⟨W, hW⟩ : ∃ W, W = w.alloc (.cells #[.int .i64 0, .int .i64 0] 27) := ⟨_, rfl⟩
  have hb : Below w.heap.size w W := by rw [hW]; exact (Below.refl _ w).alloc (Nat.le_refl _) _
  have hx : W.heap[w.heap.size]? = some (.cells (spanV 0 0) 27 (0, 0)) := by rw [hW]; exact heap_alloc_new w _
  have hz : W.heap.size = w.heap.size + 1 := by rw [hW]; simp
  have hpool := pool_any A len c (nn : Int) W (by omega)
  have hpb : poolB len (nn : Int) = true := decide_eq_true (by omega)
  rw [hpb] at hpool
  have hleast := fun V => least_any want h2 V
  have hk6 := leastO_le want
  obtain ⟨K, hK⟩ : ∃ K, K = leastO want := ⟨_, rfl⟩
  rw [← hK] at hleast hk6 ⊢
  clear hK
  have hfirst := fun (k : Nat) (hk : k ≤ 6) (V : World) (hV : Below W.heap.size W V) => bfirst_any A len c B bs nn k goal V ((h.below (hb.mono hB)).below (hV.mono (by omega))) (by have := hV.size; omega) (by omega) (by omega) hk hg
  have hfil := fun (fr to : Int) (V : World) (hV : Below W.heap.size W V) => fill_told A len c B bs true V fr to ((h.below (hb.mono hB)).below (hV.mono (by omega))) (by have := hV.size; omega) (by omega)
  have HP := Lib.hid hpool; clear hpool hpb
  have HL := Lib.hid hleast; clear hleast
  have HF := Lib.hid hfirst; clear hfirst
  have HFIL := Lib.hid hfil; clear hfil h
  have HB := Lib.hid hb; clear hb
  have HX := Lib.hid hx; clear hx
  have HW := Lib.hid hW; clear hW
  have HG := Lib.hid hg; clear hg
  go_enter Try.func11, Try.ntmps11
  go_wp2_with fail
  rw [← HW.out]
  with_reducible refine HP.out.mono ?_
  rintro e w1 ⟨rfl, rfl⟩
  go_wp2_with fail
  with_reducible refine (HL.out _).mono ?_
  rintro e w1 ⟨rfl, rfl⟩
  clear HP HL
  go_wp2_with fail
  obtain ⟨M, hMe⟩ : ∃ M, M = w.heap.size := ⟨_, rfl⟩
  rw [← hMe]
  have HM := Lib.hid hMe; clear hMe
  go_loopw [11] (fun i wr => ∃ o : Int, -1 ≤ o ∧ o ≤ K ∧ i = .int .i64 o ∧ (∀ j : Nat, o < j → j ≤ K → ∀ a, ¬ Ch (bt bs) nn j a) ∧ Below W.heap.size W wr) (fun i _ => (intOf i + 1).toNat)
  case atStart => exact ⟨(K : Int), by omega, by omega, by first | trivial | rfl, fun j hj hk => by omega, Below.refl _ _⟩
  case round =>
    obtain ⟨o, ho1, ho2, rfl, hno, hbr⟩ := hrel
    have hrow : wr.heap[M]? = some (.cells (spanV 0 0) 27 (0, 0)) := by
      rw [HM.out]; exact (hbr.block _ (by omega)).trans HX.out
    by_cases ho : 0 ≤ o
    · obtain ⟨j, rfl⟩ : ∃ j : Nat, o = (j : Int) := ⟨o.toNat, by omega⟩
      have HNO := Lib.hid hno; clear hno
      have HROW := Lib.hid hrow; clear hrow
      have HBR := Lib.hid hbr; clear hbr
      have hcall := HF.out j (by omega) wr HBR.out
      go_wp2_with fail
      with_reducible refine hcall.mono ?_
      rintro e w2 ⟨r, hr, rfl, hb2⟩
      clear hcall
      have hb2' : Below W.heap.size W w2 := HBR.out.trans (hb2.mono HBR.out.size)
      by_cases hr0 : 0 ≤ r
      · obtain ⟨a, rfl⟩ : ∃ a : Nat, r = (a : Int) := ⟨r.toNat, by omega⟩
        have hch := isFind_ch hr
        have han := hch.2.1
        have q := run_shl1 j (by omega)
        have hz6 : 2 ^ j ≤ 2 ^ 6 := Nat.pow_le_pow_right (by omega) (by omega)
        have hrow2 : w2.heap[M]? = some (.cells (spanV 0 0) 27 (0, 0)) := by rw [HM.out]; exact (hb2'.block _ (by omega)).trans HX.out
        have hans : ∀ e w', TakeOut len bs w nn want (some (a, j)) e w' → ∃ r, IsTake (bt bs) nn K goal r ∧ TakeOut len bs w nn want r e w' := fun e w' ht => ⟨some (a, j), ⟨by omega, hr, fun i hi hk => HNO.out i (by omega) hk⟩, ht⟩
        have hout : ∀ e w', (a + min want (2 ^ j) ≤ nn ∧ ∃ A' c', e = .returned (.tuple #[.slice A' len c', .agg (spanV (a : Int) ((min want (2 ^ j) : Nat) : Int)), .int .i64 0]) ∧ Below w.heap.size w w' ∧
            Owned w' w.heap.size (.slice A' len c') (fillL bs (a : Int) ((a + min want (2 ^ j) : Nat) : Int) true) ∧ Text w' (.slice A' len c') (fillL bs (a : Int) ((a + min want (2 ^ j) : Nat) : Int) true)) → ∃ r, IsTake (bt bs) nn K goal r ∧ TakeOut len bs w nn want r e w' := fun e w' ht => hans e w' ht
        clear hans hr hch
        obtain ⟨z, hz'⟩ : ∃ z, z = 2 ^ j := ⟨_, rfl⟩
        rw [← hz'] at q hz6 hout han
        clear hz'
        obtain ⟨L, hL⟩ : ∃ L, L = min want z := ⟨_, rfl⟩
        have q2 : ∀ (ts : Array TypeId) (t : TypeId) (V : World), (Builtin.min_ ts t #[.int .i64 (want : Int), .int .i64 (z : Int)]).run Try.prog V = .ok (.int .i64 (L : Int)) V := fun ts t V => by
          rw [run_min_int2]
          congr 2
          split <;> omega
        rw [← hL] at hout
        obtain ⟨E, hE⟩ : ∃ E, E = a + L := ⟨_, rfl⟩
        rw [← hE] at hout
        have e1 : IntKind.i64.wrap ((a : Int) + (L : Int)) = (E : Int) := by rw [IntWalk.i64_in _ (by omega)]; omega
        have hEn : E ≤ nn := by omega
        have q3 := run_stS_new w2 (a : Int) (L : Int)
        have q3' : (stS (.pointer (some ⟨w2.heap.size, 0, none⟩)) (.agg #[.int .i64 (a : Int), .int .i64 (L : Int)])).run Try.prog (w2.alloc (.cells #[.int .i64 0, .int .i64 0] 27)) = .ok () (w2.alloc (.cells #[.int .i64 (a : Int), .int .i64 (L : Int)] 27)) := q3
        clear q3
        have HOUT := Lib.hid hout; clear hout hE hL
        have HROW2 := Lib.hid hrow2; clear hrow2
        have HB2 := Lib.hid hb2'; clear hb2 hb2'
        go_wp2_with fail
        obtain ⟨Z, hZ⟩ : ∃ Z, Z = w2.heap.size := ⟨_, rfl⟩
        obtain ⟨w3, hw3⟩ : ∃ w3, w3 = w2.alloc (.cells #[.int .i64 (a : Int), .int .i64 (L : Int)] 27) := ⟨_, rfl⟩
        have hS : w3.drew.heap[Z]? = some (.cells (spanV (a : Int) (L : Int)) 27 (0, 0)) := by rw [hw3, hZ]; exact heap_alloc_new _ _
        have hb3 : Below W.heap.size W w3.drew := by rw [hw3]; exact (HB2.out.alloc HB2.out.size _).drew
        have hZ3 : w3.drew.heap.size = Z + 1 := by rw [hw3, hZ]; simp
        have hZW : W.heap.size ≤ Z := by rw [hZ]; exact HB2.out.size
        rw [← hZ, ← hw3]
        clear hZ hw3 q3'
        have hcall := HFIL.out (a : Int) (E : Int) w3.drew hb3
        have HCALL := Lib.hid hcall; clear hcall
        have HB3 := Lib.hid hb3; clear hb3
        refine wp_region_E (fun V : World => V.heap[Z]? = some (.cells (spanV (a : Int) (L : Int)) 27 (0, 0))) 10 (by kernel_rfl) ?_
        refine wpE_take 0 ⟨some 50, _, _, _, _, _⟩ (v := ?_) [6, 8, 9, 10] rfl (by kernel_rfl) (by kernel_rfl) (by kernel_rfl) (by kernel_rfl) (fun _ _ _ h => h) hS (Or.inl ⟨by rfl, ?_⟩) ?_
        rotate_left
        · (intro V hSw; have c1 : V.cell? ⟨Z, 1, none⟩ = some (.int .i64 (L : Int)) := cell_of_row V Z 1 _ _ _ hSw; have c2 := run_ldS V Z (a : Int) (L : Int) hSw; go_simp; try with_reducible rfl)
        try simp only [Act.put]
        refine wpE_take 1 ⟨some 51, _, _, _, _, _⟩ (v := ?_) [6, 8, 9, 10] rfl (by kernel_rfl) (by kernel_rfl) (by kernel_rfl) (by kernel_rfl) (fun _ _ _ h => h) hS (Or.inl ⟨by rfl, ?_⟩) ?_
        rotate_left
        · (intro V hSw; have c1 : V.cell? ⟨Z, 1, none⟩ = some (.int .i64 (L : Int)) := cell_of_row V Z 1 _ _ _ hSw; have c2 := run_ldS V Z (a : Int) (L : Int) hSw; go_simp; try with_reducible rfl)
        try simp only [Act.put]
        refine wpE_take 2 ⟨some 52, _, _, _, _, _⟩ (v := ?_) [5, 6, 8, 9, 10] rfl (by kernel_rfl) (by kernel_rfl) (by kernel_rfl) (by kernel_rfl) (fun _ _ _ h => h) hS (Or.inl ⟨by rfl, ?_⟩) ?_
        rotate_left
        · (intro V hSw; have c1 : V.cell? ⟨Z, 1, none⟩ = some (.int .i64 (L : Int)) := cell_of_row V Z 1 _ _ _ hSw; have c2 := run_ldS V Z (a : Int) (L : Int) hSw; go_simp; try with_reducible rfl)
        try simp only [Act.put]
        refine wpE_take 3 ⟨some 53, _, _, _, _, _⟩ (v := ?_) [4, 5, 6, 8, 9, 10] rfl (by kernel_rfl) (by kernel_rfl) (by kernel_rfl) (by kernel_rfl) (fun _ _ _ h => h) hS (Or.inl ⟨by rfl, ?_⟩) ?_
        rotate_left
        · (intro V hSw; have c1 : V.cell? ⟨Z, 1, none⟩ = some (.int .i64 (L : Int)) := cell_of_row V Z 1 _ _ _ hSw; have c2 := run_ldS V Z (a : Int) (L : Int) hSw; go_simp; try with_reducible rfl)
        try simp only [Act.put]
        refine wpE_take 4 ⟨some 54, _, _, _, _, _⟩ (v := ?_) [5, 6, 8, 9, 10] rfl (by kernel_rfl) (by kernel_rfl) (by kernel_rfl) (by kernel_rfl) (fun _ _ _ h => h) hS (Or.inl ⟨by rfl, ?_⟩) ?_
        rotate_left
        · (intro V hSw; have c1 : V.cell? ⟨Z, 1, none⟩ = some (.int .i64 (L : Int)) := cell_of_row V Z 1 _ _ _ hSw; have c2 := run_ldS V Z (a : Int) (L : Int) hSw; go_simp; try with_reducible rfl)
        try simp only [Act.put]
        refine wpE_take 5 ⟨some 55, _, _, _, _, _⟩ (v := ?_) [6, 8, 9, 10] rfl (by kernel_rfl) (by kernel_rfl) (by kernel_rfl) (by kernel_rfl) (fun _ _ _ h => h) hS (Or.inl ⟨by rfl, ?_⟩) ?_
        rotate_left
        · (intro V hSw; have c1 : V.cell? ⟨Z, 1, none⟩ = some (.int .i64 (L : Int)) := cell_of_row V Z 1 _ _ _ hSw; have c2 := run_ldS V Z (a : Int) (L : Int) hSw; go_simp; try with_reducible rfl)
        try simp only [Act.put]
        refine wpE_take 7 ⟨some 57, _, _, _, _, _⟩ (v := ?_) [9, 10] rfl (by kernel_rfl) (by kernel_rfl) (by kernel_rfl) (by kernel_rfl) (fun _ _ _ h => h) hS (Or.inl ⟨by rfl, ?_⟩) ?_
        rotate_left
        · (intro V hSw; have c1 : V.cell? ⟨Z, 1, none⟩ = some (.int .i64 (L : Int)) := cell_of_row V Z 1 _ _ _ hSw; have c2 := run_ldS V Z (a : Int) (L : Int) hSw; go_simp; try with_reducible rfl)
        try simp only [Act.put]
        refine wpE_one 6 (o := ⟨some 56, _, _, _, _, _⟩) (by kernel_rfl) rfl (fun K' hK' => ?_)
        rw [if_pos (by kernel_rfl)]
        refine call_wp 24 _ _ _ _ rfl Try.func24 (by kernel_rfl) rfl _ ?hv _ HCALL.out ?_
        case hv => simp only [List.map_toArray, List.map_cons, List.map_nil]; go_simp
        rintro e w4 ⟨A', c', rfl, hb4, hown, htext⟩
        have hS4 : w4.heap[Z]? = some (.cells (spanV (a : Int) (L : Int)) 27 (0, 0)) := (hb4.block Z (by omega)).trans hS
        refine ⟨_, rfl, hK'.out _ _ hS4 (fun hS => ?_)⟩
        clear hK' K' HCALL
        have hb4' : Below W.heap.size W w4 := HB3.out.trans (hb4.mono (by omega))
        have hrow4 : w4.heap[M]? = some (.cells (spanV 0 0) 27 (0, 0)) := by rw [HM.out]; exact (hb4'.block _ (by omega)).trans HX.out
        obtain ⟨w5, hst, hrow5, hg5⟩ := run_stS_at w4 M (a : Int) (L : Int) 0 0 hrow4
        have hS5 : w5.heap[Z]? = some (.cells (spanV (a : Int) (L : Int)) 27 (0, 0)) := (hg5.block Z (by have := hb4.size; omega) (fun e => by injection e with e; have := HM.out; omega)).trans hS
        have hb5 : Below w.heap.size w w5 := (HB.out.trans (hb4'.mono (by omega))).grown hg5 (by have := hb4'.size; omega) (fun k e => by cases e; have := HM.out; omega)
        have hown5 : Owned w5 w.heap.size (.slice A' len c') (fillL bs (a : Int) (E : Int) true) := Owned.mono (Owned.grownFar hown hg5 (fun k hk e => by have := Owned.base_le hown k hk; have := HM.out; injection e with e; omega)) (by have := HB.out.size; omega)
        have htext5 : Text w5 (.slice A' len c') (fillL bs (a : Int) (E : Int) true) := fun V hV => run_text V w5.heap.size A' len c' _ ((Owned.reads hown5).below hV)
        have hfin := HOUT.out (.returned (.tuple #[.slice A' len c', .agg (spanV (a : Int) (L : Int)), .int .i64 0])) w5 ⟨hEn, A', c', rfl, hb5, hown5, htext5⟩
        have HFIN := Lib.hid hfin; clear hfin HOUT
        clear hown htext hown5 htext5 hb5 hg5 hb4 hb4' hrow4 hS4
        try simp only [Act.put]
        refine wpE_take 8 ⟨some 8, _, _, _, _, _⟩ (v := ?_) [9, 10] rfl (by kernel_rfl) (by kernel_rfl) (by kernel_rfl) (by kernel_rfl) (fun _ _ _ h => h) hS (Or.inl ⟨by rfl, ?_⟩) ?_
        rotate_left
        · (intro V hSw; go_simp; try with_reducible rfl)
        try simp only [Act.put]
        refine wpE_one 9 (by kernel_rfl) rfl (fun K' hK' => ?_)
        have hst' : (stS (.pointer (some ⟨M, 0, none⟩)) (.agg #[.int .i64 (a : Int), .int .i64 (L : Int)])).run Try.prog w4 = .ok () w5 := hst
        go_simp
        refine hK'.out _ _ hS5 (fun hS => ?_)
        clear hK' K' hst hst'
        try simp only [Act.put]
        refine wpE_last (by kernel_rfl) rfl (fun K' hK' => ?_)
        go_simp
        refine hK'.out _ _ ?_
        clear hK' K'
        refine wpE_done (by kernel_rfl) ?_ _
        go_wp2
        exact bodyPost_ret (results_span rfl _ _ M (a : Int) (L : Int) (.slice A' len c') (.int .i64 0) rfl rfl rfl hrow5) rfl HFIN.out
      · have hr1 : ¬ r ≥ 0 := hr0
        have hno2 : ∀ i : Nat, ((j : Int) - 1 < (i : Int)) → i ≤ K → ∀ a, ¬ Ch (bt bs) nn i a := fun i hi hk a hc => by
          rcases hr with ⟨_, h0⟩ | ⟨b, hb, _⟩
          · rcases (show i = j ∨ j < i by omega) with e | e
            · subst e; exact h0 a hc
            · exact HNO.out i (by omega) hk a hc
          · omega
        have HNO2 := Lib.hid hno2; clear hno2 hr
        have HB2 := Lib.hid hb2'; clear hb2 hb2'
        go_wp2
        go_roundw
        case rel => exact ⟨(j : Int) - 1, by omega, by omega, by go_num, HNO2.out, HB2.out⟩
        case measure => first | (simp [intOf]; done) | (simp [intOf]; omega)
    · have hfin : ∀ w5, Below w.heap.size w w5 → ∃ r, IsTake (bt bs) nn K goal r ∧ TakeOut len bs w nn want r (.returned (.tuple #[.slice none 0 0, .agg (spanV 0 0), .int .i64 9])) w5 := fun w5 hb5 =>
        ⟨none, fun j hj a => hno j (by omega) hj a, rfl, hb5⟩
      obtain ⟨w5, hst, hrow5, hg5⟩ := run_stS_at wr M 0 0 0 0 hrow
      have hb5 : Below w.heap.size w w5 := (HB.out.trans (hbr.mono (by omega))).grown hg5 (by have := hbr.size; omega) (fun k e => by cases e; have := HM.out; omega)
      have HFIN := Lib.hid (hfin w5 hb5); clear hfin hb5 hg5 hbr hno hrow
      have hst' : (stS (.pointer (some ⟨M, 0, none⟩)) (.agg #[.int .i64 0, .int .i64 0])).run Try.prog wr = .ok () w5 := hst
      clear hst
      go_wp2
      exact bodyPost_ret (results_span rfl _ _ M 0 0 (.slice none 0 0) (.int .i64 9) rfl rfl rfl hrow5) rfl HFIN.out
end
end Go.Proofs.Ytnkiblifnknbkaa.Buddy
