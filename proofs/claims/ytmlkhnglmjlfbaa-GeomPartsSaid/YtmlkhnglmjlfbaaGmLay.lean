/- Contracts of a device's geometry: the program's Layout and the document's answer the same for every number of blocks, and make new memory only. -/
import Derived.Test.YtmlkhnglmjlfbaaMem
import Derived.Laws.ResultCell
import Derived.Laws.StructEq
import Derived.Deep.WholeRow
namespace Go.Proofs.Ytmlkhnglmjlfbaa.Gm
set_option maxRecDepth 20000
open Go.RowKit
open Go.Proofs.Ytmlkhnglmjlfbaa.Mem

/-- A geometry's eight numbers. -/
structure Gm where
  (blocks inodes bmap imap table log len data : Int)
  deriving DecidableEq
def Gm.c (g : Gm) : Array Value := #[.int .i64 g.blocks, .int .i64 g.inodes, .int .i64 g.bmap, .int .i64 g.imap, .int .i64 g.table, .int .i64 g.log, .int .i64 g.len, .int .i64 g.data]
/-- The geometry of so many blocks. -/
def lay (b : Int) : Gm := ⟨b, b / 4, 1, 2, 3, 3 + (b / 4 + 1) / 2, 32 + b / 32, 3 + (b / 4 + 1) / 2 + (32 + b / 32)⟩
/-- What is answered beside an error. -/
def gm0 : Gm := ⟨0, 0, 0, 0, 0, 0, 0, 0⟩
/-- Is it a geometry: the one of its number of blocks? -/
def Gm.is (g : Gm) : Bool := decide (128 ≤ g.blocks ∧ g.blocks ≤ 1024 ∧ g = lay g.blocks)

theorem results_geom {fn : Func} {p u : Tmp} (h : fn.results = #[.cell p 23, .tmp u]) (tmps : Array Value) (w : World) (g : Nat) (cs : Array Value) (v : Value)
    (hp : tmps.getD p undef = .pointer (some ⟨g, 0, none⟩)) (hv : tmps.getD u undef = v) (h8 : cs.size = 8) (hg : w.heap[g]? = some (.cells cs 23 (0, 0))) :
    (results fn tmps).run Try.prog w = .ok (.tuple #[.agg cs, v]) w := by
  have hl : (loadVar 23 ⟨g, 0, none⟩).run Try.prog w = .ok (.agg cs) w := run_loadVar_row w g _ _ cs (0, 0) _ hg Try.underlying23 rfl (by rw [h8]; kernel_rfl)
  rw [results_cell_tmp h, hp, hv]
  simp [asAddr, hl, Result.andThen]

set_option maxRecDepth 100000 in
theorem layout_no (b : Int) (w : World) (h : b < 128 ∨ 1024 < b) :
    Calls Try.prog 9 #[.int .i64 b] w fun e w' => e = .returned (.tuple #[.agg gm0.c, .int .i64 1]) ∧ Below w.heap.size w w' := by
  rcases Int.lt_or_le b 128 with h1 | h1
  · go_enter Try.func9, Try.ntmps9
    go_wp2
    exact bodyPost_ret (results_geom rfl _ _ _ _ _ rfl rfl rfl (heap_alloc_new w _)) rfl ⟨rfl, (Below.refl _ _).alloc (Nat.le_refl _) _⟩
  · have h2 : 1024 < b := by omega
    go_enter Try.func9, Try.ntmps9
    go_wp2
    exact bodyPost_ret (results_geom rfl _ _ _ _ _ rfl rfl rfl (heap_alloc_new w _)) rfl ⟨rfl, (Below.refl _ _).alloc (Nat.le_refl _) _⟩

set_option maxRecDepth 100000 in
theorem layout_ok (b : Int) (w : World) (h1 : 128 ≤ b) (h2 : b ≤ 1024) :
    Calls Try.prog 9 #[.int .i64 b] w fun e w' => e = .returned (.tuple #[.agg (lay b).c, .int .i64 0]) ∧ Below w.heap.size w w' := by
  go_enter Try.func9, Try.ntmps9
  go_wp2
  exact bodyPost_ret (results_geom rfl _ _ _ _ (.int .i64 0) rfl rfl rfl (heap_alloc2_old w _ _)) rfl ⟨rfl, ((Below.refl _ _).alloc (Nat.le_refl _) _).alloc (by simp) _⟩

set_option maxRecDepth 100000 in
theorem rlayout_no (b : Int) (w : World) (h : b < 128 ∨ 1024 < b) :
    Calls Try.prog 10 #[.int .i64 b] w fun e w' => e = .returned (.tuple #[.agg gm0.c, .int .i64 1]) ∧ Below w.heap.size w w' := by
  rcases Int.lt_or_le b 128 with h1 | h1
  · go_enter Try.func10, Try.ntmps10
    go_wp2
    exact bodyPost_ret (results_geom rfl _ _ _ _ _ rfl rfl rfl (heap_alloc_new w _)) rfl ⟨rfl, (Below.refl _ _).alloc (Nat.le_refl _) _⟩
  · have h2 : 1024 < b := by omega
    go_enter Try.func10, Try.ntmps10
    go_wp2
    exact bodyPost_ret (results_geom rfl _ _ _ _ _ rfl rfl rfl (heap_alloc_new w _)) rfl ⟨rfl, (Below.refl _ _).alloc (Nat.le_refl _) _⟩

set_option maxRecDepth 100000 in
theorem rlayout_ok (b : Int) (w : World) (h1 : 128 ≤ b) (h2 : b ≤ 1024) :
    Calls Try.prog 10 #[.int .i64 b] w fun e w' => e = .returned (.tuple #[.agg (lay b).c, .int .i64 0]) ∧ Below w.heap.size w w' := by
  go_enter Try.func10, Try.ntmps10
  go_wp2
  exact bodyPost_ret (results_geom rfl _ _ _ _ (.int .i64 0) rfl rfl rfl (heap_alloc2_old w _ _)) rfl ⟨rfl, ((Below.refl _ _).alloc (Nat.le_refl _) _).alloc (by simp) _⟩

/-! ### The operations on a whole geometry, sealed -/
def ldG (x : Value) : Sem Value := Instr.loadAt 23 x
def eqG (x y : Value) : Sem Value := binOp .eql 23 x y
theorem ldG_eq (x : Value) : Instr.loadAt 23 x = ldG x := rfl
theorem eqG_eq (x y : Value) : binOp .eql 23 x y = eqG x y := rfl
theorem run_ldG (w : World) (g : Nat) (h : Gm) (hg : w.heap[g]? = some (.cells h.c 23 (0, 0))) : (ldG (.pointer (some ⟨g, 0, none⟩))).run Try.prog w = .ok (.agg h.c) w := by
  have hl : (loadVar 23 ⟨g, 0, none⟩).run Try.prog w = .ok (.agg h.c) w := run_loadVar_row w g _ _ h.c (0, 0) _ hg Try.underlying23 rfl (by kernel_rfl)
  unfold ldG Instr.loadAt Instr.sureAddr
  simp [hl]
def stG (x v : Value) : Sem Unit := Instr.storeAt 23 x v
theorem stG_eq (x v : Value) : Instr.storeAt 23 x v = stG x v := rfl
theorem run_stG_new (w : World) (h : Gm) :
    (stG (.pointer (some ⟨w.heap.size, 0, none⟩)) (.agg h.c)).run Try.prog (w.alloc (.cells #[.int .i64 0, .int .i64 0, .int .i64 0, .int .i64 0, .int .i64 0, .int .i64 0, .int .i64 0, .int .i64 0] 23)) = .ok () (w.alloc (.cells h.c 23)) :=
  run_storeAt_new w 23 _ h.c (by kernel_rfl) rfl (by simp [Gm.c, Value.oneCell'])
theorem run_eqG (w : World) (g h : Gm) : (eqG (.agg g.c) (.agg h.c)).run Try.prog w = .ok (.bool (decide (g = h))) w := by
  have u3 := Try.underlying3
  have hS : Try.prog.underlying 23 = some (.struct (Try.prog.fieldsOf 23)) := by kernel_rfl
  have hp : Try.prog.stoodInHeld 23 = false := by kernel_rfl
  obtain ⟨a1, a2, a3, a4, a5, a6, a7, a8⟩ := g
  obtain ⟨b1, b2, b3, b4, b5, b6, b7, b8⟩ := h
  unfold eqG Gm.c
  rw [run_eql_struct, show (10000 : Nat) = 9999 + 1 from rfl, run_equalIn_agg w 9999 23 _ _ hS hp]
  simp only [Program.fieldsOf, Try.underlying23]
  by_cases h1 : a1 = b1
  · by_cases h2 : a2 = b2
    · by_cases h3 : a3 = b3
      · by_cases h4 : a4 = b4
        · by_cases h5 : a5 = b5
          · by_cases h6 : a6 = b6
            · by_cases h7 : a7 = b7
              · by_cases h8 : a8 = b8
                · go_simp
                · go_simp
              · go_simp
            · go_simp
          · go_simp
        · go_simp
      · go_simp
    · go_simp
  · go_simp
end Go.Proofs.Ytmlkhnglmjlfbaa.Gm
