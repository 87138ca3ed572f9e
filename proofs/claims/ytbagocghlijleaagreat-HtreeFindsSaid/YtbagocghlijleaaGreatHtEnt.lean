/- An entry in memory: entryOf, told, order; the closure that compares two names. -/
import Derived.Test.YtbagocghlijleaaGreatHtNodes
import Derived.Test.YtbagocghlijleaaGreatHtCmp
import Derived.Test.YtbagocghlijleaaGreatRegF
import Derived.Deep.MidRow
namespace Go.Proofs.YtbagocghlijleaaGreat.Ht
set_option maxRecDepth 20000
open Go.RowKit
open Go.Proofs.YtbagocghlijleaaGreat.Mem Go.Proofs.YtbagocghlijleaaGreat.Crc Go.Proofs.YtbagocghlijleaaGreat.Rec Go.Proofs.YtbagocghlijleaaGreat.Reg Go.Proofs.YtbagocghlijleaaGreat.Lf

/-- An entry's cells: its name's sum, its name, its inode. -/
def eL (x : Nm) : List Value := [.int .u32 (Crc.sum x.t : Int), .string ⟨x.t.toArray⟩, .int .i64 x.i]
def eC (x : Nm) : Array Value := #[.int .u32 (Crc.sum x.t : Int), .string ⟨x.t.toArray⟩, .int .i64 x.i]
theorem eC_eq (x : Nm) : (eL x).toArray = eC x := rfl
def EN : Rk Nm := ⟨68, 62, 3, 32, .agg #[.int .u32 0, .string ⟨#[]⟩, .int .i64 0], eL⟩
def XK : Rk Nm := ⟨48, 38, 2, 24, .agg #[.string ⟨#[]⟩, .int .i64 0], Nm.cl⟩
theorem EN_ok : EN.Ok where
  len x := rfl
  one x u hu := by
    have : u ∈ eL x := hu
    simp [eL] at this
    rcases this with rfl | rfl | rfl <;> rfl
  pos := by decide
  und := Tryz.underlying62
  info := by kernel_rfl
  zs := rfl
  bound := by decide
theorem XK_ok : XK.Ok where
  len x := rfl
  one x u hu := by
    have : u ∈ Nm.cl x := hu
    simp [Nm.cl] at this
    rcases this with rfl | rfl <;> rfl
  pos := by decide
  und := Tryz.underlying38
  info := info_x
  zs := rfl
  bound := by decide
theorem ownX_C {w : World} {base : Nat} {v : Value} {l : List Nm} : OwnX w base v l ↔ OwnC XK w base v l := Iff.rfl

/-! ### A variable of one entry -/
def ldE (x : Value) : Sem Value := Instr.loadAt 68 x
theorem ldE_eq (x : Value) : Instr.loadAt 68 x = ldE x := rfl
def stE (x v : Value) : Sem Unit := Instr.storeAt 68 x v
theorem stE_eq (x v : Value) : Instr.storeAt 68 x v = stE x v := rfl
def VarE (w : World) (g : Nat) (x : Nm) : Prop := w.heap[g]? = some (.cells (eC x) 68 (0, 0))
theorem VarE.lt {w : World} {g : Nat} {x : Nm} (h : VarE w g x) : g < w.heap.size := (Array.getElem?_eq_some_iff.1 h).1
theorem VarE.keep {w w' : World} {g B : Nat} {x : Nm} (h : VarE w g x) (hb : Below B w w') (hg : g < B) : VarE w' g x := (hb.block _ hg).trans h
theorem VarE.new (w : World) (x : Nm) : VarE (w.alloc (.cells (eC x) 68)) w.heap.size x := heap_alloc_new w _
theorem VarE.alloc {w : World} {g : Nat} {x : Nm} (h : VarE w g x) (o : Obj) : VarE (w.alloc o) g x := (heap_alloc_old w o h.lt).trans h
theorem VarE.cells {w : World} {g : Nat} {x : Nm} (h : VarE w g x) :
    w.cell? ⟨g, 0, none⟩ = some (.int .u32 (Crc.sum x.t : Int)) ∧ w.cell? ⟨g, 1, none⟩ = some (.string ⟨x.t.toArray⟩) ∧ w.cell? ⟨g, 2, none⟩ = some (.int .i64 x.i) :=
  ⟨cell_of_row w g 0 _ _ _ h, cell_of_row w g 1 _ _ _ h, cell_of_row w g 2 _ _ _ h⟩
theorem VarE.load {w : World} {g : Nat} {x : Nm} (h : VarE w g x) : (ldE (.pointer (some ⟨g, 0, none⟩))).run Tryz.prog w = .ok (.agg (eC x)) w := by
  have hl : (loadVar 68 ⟨g, 0, none⟩).run Tryz.prog w = .ok (.agg (eC x)) w := run_loadVar_row w g _ _ (eC x) (0, 0) _ h Tryz.underlying68 rfl (by kernel_rfl)
  unfold ldE Instr.loadAt Instr.sureAddr
  simp [hl]
def zeroE : Array Value := #[.int .u32 0, .string ⟨#[]⟩, .int .i64 0]
theorem run_stE_new (w : World) (x : Nm) :
    (stE (.pointer (some ⟨w.heap.size, 0, none⟩)) (.agg (eC x))).run Tryz.prog (w.alloc (.cells zeroE 68)) = .ok () (w.alloc (.cells (eC x) 68)) :=
  run_storeAt_new w 68 _ (eC x) (by kernel_rfl) rfl (by simp [eC, Value.oneCell'])
/-- An entry of a slice, read whole. -/
theorem run_ldE_at {w : World} {B b off n : Nat} {l : List Nm} (h : HoldsC EN w B (some ⟨b, off, none⟩) n l) (j : Nat) (hj : j < l.length) (o : Nat) (ho : o = off + j * 3) :
    (ldE (.pointer (some ⟨b, o, none⟩))).run Tryz.prog w = .ok (.agg (eC l[j])) w := by
  subst ho
  exact run_loadAt_mid w b (off + j * 3) 68 (eL l[j]) _ (h.range EN_ok j hj) Tryz.underlying68 rfl (by kernel_rfl)
attribute [local go_sem ↓] ldE_eq stE_eq ldX_eq stX_eq

theorem results_nm {fn : Func} {p : Tmp} (h : fn.results = #[.cell p 48]) (tmps : Array Value) (w : World) (g : Nat) (x : Nm)
    (hp : tmps.getD p undef = .pointer (some ⟨g, 0, none⟩)) (hg : VarX w g x) : (results fn tmps).run Tryz.prog w = .ok (.agg x.c) w := by
  have hl : (loadVar 48 ⟨g, 0, none⟩).run Tryz.prog w = .ok (.agg x.c) w := run_loadVar_row w g _ _ x.c (0, 0) _ hg Tryz.underlying48 rfl (by kernel_rfl)
  have hp' : tmps[p]?.getD undef = .pointer (some ⟨g, 0, none⟩) := by simpa using hp
  simp [results, h, hp', asAddr, hl]
theorem results_en {fn : Func} {p : Tmp} (h : fn.results = #[.cell p 68]) (tmps : Array Value) (w : World) (g : Nat) (x : Nm)
    (hp : tmps.getD p undef = .pointer (some ⟨g, 0, none⟩)) (hg : VarE w g x) : (results fn tmps).run Tryz.prog w = .ok (.agg (eC x)) w := by
  have hl : (loadVar 68 ⟨g, 0, none⟩).run Tryz.prog w = .ok (.agg (eC x)) w := run_loadVar_row w g _ _ (eC x) (0, 0) _ hg Tryz.underlying68 rfl (by kernel_rfl)
  have hp' : tmps[p]?.getD undef = .pointer (some ⟨g, 0, none⟩) := by simpa using hp
  simp [results, h, hp', asAddr, hl]

theorem orI_any (a b : Int) (g : Nat) (T : TypeId) (z : Nat × Nat) (w : World) (h : w.heap[g]? = some (.cells #[.int .i64 a, .int .i64 b] T z)) :
    Calls Tryz.prog 64 #[.slice (some ⟨g, 0, none⟩) 2 2] w fun e w' => e = .returned (.int .i64 (orI a b)) ∧ w = w' := by
  have c0 : w.cell? ⟨g, 0, none⟩ = some (.int .i64 a) := cell_of_row w g 0 _ _ _ h
  have c1 : w.cell? ⟨g, 1, none⟩ = some (.int .i64 b) := cell_of_row w g 1 _ _ _ h
  clear h
  obtain ⟨r, hr⟩ : ∃ r, r = orI a b := ⟨_, rfl⟩
  rw [← hr]
  unfold orI at hr
  by_cases ha : a = 0
  · rw [if_neg (by omega)] at hr
    by_cases hb : b = 0
    · obtain rfl : r = 0 := by omega
      subst ha hb
      clear hr
      go_enter Tryz.func64, Tryz.ntmps64
      go_wp2
      refine wp_loop_rounds 3 ?_
      rw [rounds_succ]
      go_wp2
      rw [rounds_succ]
      go_wp2
      rw [rounds_succ]
      go_wp2
      go_ret
      exact ⟨rfl, rfl⟩
    · subst hr
      subst ha
      go_enter Tryz.func64, Tryz.ntmps64
      go_wp2
      refine wp_loop_rounds 3 ?_
      rw [rounds_succ]
      go_wp2
      rw [rounds_succ]
      go_wp2
      go_ret
      exact ⟨rfl, rfl⟩
  · rw [if_pos ha] at hr
    subst hr
    go_enter Tryz.func64, Tryz.ntmps64
    go_wp2
    refine wp_loop_rounds 3 ?_
    rw [rounds_succ]
    go_wp2
    go_ret
    exact ⟨rfl, rfl⟩

set_option maxHeartbeats 1000000 in
theorem told_e (x : Nm) (w : World) : Calls Tryz.prog 40 #[.agg (eC x)] w fun e w' => e = .returned (.agg x.c) ∧ Below w.heap.size w w' := by
  obtain ⟨E, hE⟩ : ∃ E, E = eC x := ⟨_, rfl⟩
  have hv : VarE (w.alloc (.cells (eC x) 68)) w.heap.size x := VarE.new w x
  obtain ⟨-, c1, c2⟩ := (hv.alloc (.cells #[.string ⟨#[]⟩, .int .i64 0] 48)).cells
  have hst := run_stX_new (w.alloc (.cells (eC x) 68)) x
  have hnew := VarX.new (w.alloc (.cells (eC x) 68)) x
  have hz : (w.alloc (.cells (eC x) 68)).heap.size = w.heap.size + 1 := by simp
  have hb : Below w.heap.size w ((w.alloc (.cells (eC x) 68)).alloc (.cells x.c 48)) := ((Below.refl _ w).alloc (Nat.le_refl _) _).alloc (by simp) _
  rw [hz] at hst hnew
  rw [← hE] at c1 c2 hst hnew hb ⊢
  have HNEW := Lib.hid hnew
  have HB := Lib.hid hb
  clear hv hE hz hnew hb
  unfold Nm.c at hst
  go_enter Tryz.func40, Tryz.ntmps40
  go_wp2
  exact bodyPost_ret (results_nm rfl _ _ (w.heap.size + 1) x rfl HNEW.out) rfl ⟨rfl, HB.out⟩

set_option maxHeartbeats 1000000 in
/-- The closure that leafOf sorts by: the two names' boxes are laid. -/
theorem cmpX_any (x y : Nm) (w : World) : Calls Tryz.prog 49 #[.agg x.c, .agg y.c] w fun e w' => e = .returned (.int .i64 (cmpX x y)) ∧ ∃ q os, w' = Sort.grow (w.drewN q) os := by
  obtain ⟨X, hX⟩ : ∃ X, X = x.c := ⟨_, rfl⟩
  obtain ⟨Y, hY⟩ : ∃ Y, Y = y.c := ⟨_, rfl⟩
  have hvx : VarX (w.alloc (.cells x.c 48)) w.heap.size x := VarX.new w x
  have hvy := VarX.new (w.alloc (.cells x.c 48)) y
  have hz : (w.alloc (.cells x.c 48)).heap.size = w.heap.size + 1 := by simp
  rw [hz] at hvy
  have c1 := (hvx.alloc (.cells y.c 48)).cells.1
  have c2 := hvy.cells.1
  have hc := fun W => cmpS_any x.t y.t W
  rw [← hX, ← hY] at c1 c2 ⊢
  unfold cmpX
  generalize cmpT x.t y.t = r at hc ⊢
  clear hvx hvy hz hX hY
  go_enter Tryz.func49, Tryz.ntmps49
  go_wp2_with (with_reducible refine (hc _).mono ?_; rintro E w' ⟨rfl, rfl⟩)
  go_ret
  exact ⟨rfl, 0, _, by rw [Sort.alloc_eq_grow, Sort.alloc_eq_grow, Sort.grow_grow]; rfl⟩

def boxE (w : World) (x y : Nm) : World := (w.alloc (.cells (eC x) 68)).alloc (.cells (eC y) 68)
theorem boxE_vars (w : World) (x y : Nm) : VarE (boxE w x y) w.heap.size x ∧ VarE (boxE w x y) (w.heap.size + 1) y := by
  unfold boxE
  refine ⟨(VarE.new w x).alloc _, ?_⟩
  have := VarE.new (w.alloc (.cells (eC x) 68)) y
  simpa using this
set_option maxHeartbeats 1000000 in
theorem order_any (x y : Nm) (w : World) : Calls Tryz.prog 39 #[.agg (eC x), .agg (eC y)] w fun e w' => e = .returned (.int .i64 (cmpE x y)) ∧ ∃ q os, w' = Sort.grow (w.drewN q) os := by
  have hv := boxE_vars w x y
  obtain ⟨W, hW⟩ : ∃ W, W = boxE w x y := ⟨_, rfl⟩
  have hsz : W.heap.size = w.heap.size + 2 := by rw [hW]; unfold boxE; simp
  rw [← hW] at hv
  unfold boxE at hW
  obtain ⟨X, hX⟩ : ∃ X, X = eC x := ⟨_, rfl⟩
  obtain ⟨Y, hY⟩ : ∃ Y, Y = eC y := ⟨_, rfl⟩
  rw [← hX, ← hY] at hW ⊢
  have HX := Lib.hid hX; clear hX
  have HY := Lib.hid hY; clear hY
  have HV := Lib.hid hv; clear hv
  have HW := Lib.hid hW; clear hW
  have hcS := fun V => cmpS_any x.t y.t V
  have hcN := fun V => cmpN_any (Crc.sum x.t) (Crc.sum y.t) V
  obtain ⟨r, hr⟩ : ∃ r, r = cmpE x y := ⟨_, rfl⟩
  rw [← hr]
  unfold cmpE at hr
  generalize cmpT x.t y.t = rs at hcS hr
  generalize cmpN (Crc.sum x.t) (Crc.sum y.t) = rn at hcN hr
  have HR := Lib.hid hr; clear hr
  have hS4 : ∀ V, (VarE V w.heap.size x ∧ VarE V (w.heap.size + 1) y) → V.cell? ⟨w.heap.size, 0, none⟩ = some (.int .u32 (Crc.sum x.t : Int)) ∧ V.cell? ⟨w.heap.size + 1, 0, none⟩ = some (.int .u32 (Crc.sum y.t : Int)) ∧ V.cell? ⟨w.heap.size, 1, none⟩ = some (.string ⟨x.t.toArray⟩) ∧ V.cell? ⟨w.heap.size + 1, 1, none⟩ = some (.string ⟨y.t.toArray⟩) :=
    fun V hV => ⟨hV.1.cells.1, hV.2.cells.1, hV.1.cells.2.1, hV.2.cells.2.1⟩
  have HS4 := Lib.hid hS4; clear hS4
  go_enter Tryz.func39, Tryz.ntmps39
  go_wp2
  rw [← HW.out]
  refine wp_region_E (fun V => VarE V w.heap.size x ∧ VarE V (w.heap.size + 1) y) 99 rfl ?_
  have hS := (show VarE W.drew w.heap.size x ∧ VarE W.drew (w.heap.size + 1) y from HV.out)
  refine wpE_takeF 0 ⟨some 5, _, _, _, _, _⟩ (v := ?_) (by decide) rfl (by kernel_rfl) (by kernel_rfl) (by kernel_rfl) (fun _ _ _ h => h) hS (Or.inl ⟨by kernel_rfl, ?_⟩) ?_
  rotate_left
  · (intro V hSw; obtain ⟨q0, q1, q2, q3⟩ := HS4.out V hSw; go_simp; try with_reducible rfl)
  try simp only [Act.put]
  refine wpE_takeF 1 ⟨some 6, _, _, _, _, _⟩ (v := ?_) (by decide) rfl (by kernel_rfl) (by kernel_rfl) (by kernel_rfl) (fun _ _ _ h => h) hS (Or.inl ⟨by kernel_rfl, ?_⟩) ?_
  rotate_left
  · (intro V hSw; obtain ⟨q0, q1, q2, q3⟩ := HS4.out V hSw; go_simp; try with_reducible rfl)
  try simp only [Act.put]
  refine wpE_takeF 2 ⟨some 7, _, _, _, _, _⟩ (v := ?_) (by decide) rfl (by kernel_rfl) (by kernel_rfl) (by kernel_rfl) (fun _ _ _ h => h) hS (Or.inl ⟨by kernel_rfl, ?_⟩) ?_
  rotate_left
  · (intro V hSw; obtain ⟨q0, q1, q2, q3⟩ := HS4.out V hSw; go_simp; try with_reducible rfl)
  try simp only [Act.put]
  refine wpE_takeF 3 ⟨some 8, _, _, _, _, _⟩ (v := ?_) (by decide) rfl (by kernel_rfl) (by kernel_rfl) (by kernel_rfl) (fun _ _ _ h => h) hS (Or.inl ⟨by kernel_rfl, ?_⟩) ?_
  rotate_left
  · (intro V hSw; obtain ⟨q0, q1, q2, q3⟩ := HS4.out V hSw; go_simp; try with_reducible rfl)
  try simp only [Act.put]
  refine wpE_takeCF 4 ⟨some 9, _, _, _, _, _⟩ (v := .int .i64 rn) (by decide) rfl (by kernel_rfl) (by kernel_rfl) (by kernel_rfl) (fun _ _ _ h => h) hS (yieldsC_of (by kernel_rfl) 65 _ _ _ _ rfl Tryz.func65 (by kernel_rfl) rfl #[.int .u32 (Crc.sum x.t : Int), .int .u32 (Crc.sum y.t : Int)] ?hv (fun V _ => hcN V)) ?_
  case hv => simp only [List.map_toArray, List.map_cons, List.map_nil]; go_simp
  try simp only [Act.put]
  refine wpE_takeF 5 ⟨some 10, _, _, _, _, _⟩ (v := ?_) (by decide) rfl (by kernel_rfl) (by kernel_rfl) (by kernel_rfl) (fun _ _ _ h => h) hS (Or.inl ⟨by kernel_rfl, ?_⟩) ?_
  rotate_left
  · (intro V hSw; obtain ⟨q0, q1, q2, q3⟩ := HS4.out V hSw; go_simp; try with_reducible rfl)
  try simp only [Act.put]
  refine wpE_takeF 6 ⟨some 11, _, _, _, _, _⟩ (v := ?_) (by decide) rfl (by kernel_rfl) (by kernel_rfl) (by kernel_rfl) (fun _ _ _ h => h) hS (Or.inl ⟨by kernel_rfl, ?_⟩) ?_
  rotate_left
  · (intro V hSw; obtain ⟨q0, q1, q2, q3⟩ := HS4.out V hSw; go_simp; try with_reducible rfl)
  try simp only [Act.put]
  refine wpE_takeF 7 ⟨some 12, _, _, _, _, _⟩ (v := ?_) (by decide) rfl (by kernel_rfl) (by kernel_rfl) (by kernel_rfl) (fun _ _ _ h => h) hS (Or.inl ⟨by kernel_rfl, ?_⟩) ?_
  rotate_left
  · (intro V hSw; obtain ⟨q0, q1, q2, q3⟩ := HS4.out V hSw; go_simp; try with_reducible rfl)
  try simp only [Act.put]
  refine wpE_takeF 8 ⟨some 13, _, _, _, _, _⟩ (v := ?_) (by decide) rfl (by kernel_rfl) (by kernel_rfl) (by kernel_rfl) (fun _ _ _ h => h) hS (Or.inl ⟨by kernel_rfl, ?_⟩) ?_
  rotate_left
  · (intro V hSw; obtain ⟨q0, q1, q2, q3⟩ := HS4.out V hSw; go_simp; try with_reducible rfl)
  try simp only [Act.put]
  refine wpE_takeCF 9 ⟨some 14, _, _, _, _, _⟩ (v := .int .i64 rs) (by decide) rfl (by kernel_rfl) (by kernel_rfl) (by kernel_rfl) (fun _ _ _ h => h) hS (yieldsC_of (by kernel_rfl) 50 _ _ _ _ rfl Tryz.func50 (by kernel_rfl) rfl #[.string ⟨x.t.toArray⟩, .string ⟨y.t.toArray⟩] ?hv (fun V _ => hcS V)) ?_
  case hv => simp only [List.map_toArray, List.map_cons, List.map_nil]; go_simp
  try simp only [Act.put]
  refine wpE_one 10 (by kernel_rfl) rfl (fun K' hK' => ?_)
  go_simp
  refine hK'.out _ _ ⟨hS.1.alloc _, hS.2.alloc _⟩ (fun hS => ?_)
  clear hK' K'
  try simp only [Act.put]
  refine wpE_one 11 (o := ⟨some 16, _, _, _, _, _⟩) (by kernel_rfl) rfl (fun K' hK' => ?_)
  rw [if_pos (by kernel_rfl)]
  refine call_wp 64 _ _ _ _ rfl Tryz.func64 (by kernel_rfl) rfl _ ?hv _ (orI_any rn rs W.drew.heap.size _ _ _ (heap_alloc_new _ _)) ?_
  case hv => simp only [List.map_toArray, List.map_cons, List.map_nil]; go_simp
  rintro E w2 ⟨rfl, rfl⟩
  refine ⟨_, rfl, hK'.out _ _ hS (fun hS => ?_)⟩
  clear hK' K'
  try simp only [Act.put]
  refine wpE_takeF 12 ⟨some 4, _, _, _, _, _⟩ (v := ?_) (by decide) rfl (by kernel_rfl) (by kernel_rfl) (by kernel_rfl) (fun _ _ _ h => h) hS (Or.inl ⟨by kernel_rfl, ?_⟩) ?_
  rotate_left
  · (intro V hSw; go_simp; try with_reducible rfl)
  try simp only [Act.put]
  refine wpE_done (by kernel_rfl) ?_ _
  try simp only [List.setIfInBounds_toArray, List.set_cons_succ, List.set_cons_zero]
  go_wp2
  go_ret
  exact ⟨by rw [HR.out]; rfl, 1, _, by rw [HW.out, Sort.alloc_eq_grow, Sort.alloc_eq_grow, Sort.alloc_eq_grow, Sort.grow_grow, Sort.grow_grow]; rfl⟩
end Go.Proofs.YtbagocghlijleaaGreat.Ht
