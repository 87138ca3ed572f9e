/- The table of the places that were seen, keyed by two numbers; how many blocks of each part there are. -/
import Derived.Test.YtmlkhnglmjlfbaaGmAny
import Derived.Test.YtmlkhnglmjlfbaaLift
import Derived.Maps.OwnSet
import Derived.Maps.OwnOps
import Derived.DeepKeys4
import Derived.WideKeyArgs2
namespace Go.Proofs.Ytmlkhnglmjlfbaa.Gm
set_option maxRecDepth 20000
open Go.RowKit
open Go.Proofs.Ytmlkhnglmjlfbaa.Mem Go.Proofs.Ytmlkhnglmjlfbaa.Lift

theorem wf_lit {x : Int} (h1 : -9223372036854775808 ≤ x) (h2 : x ≤ 9223372036854775807) : (Lit.int .i64 x).wf = true := by
  simp [Lit.wf, show IntKind.i64.min = -9223372036854775808 from rfl, show IntKind.i64.max = 9223372036854775807 from rfl]
  omega
theorem pairRow : (39 : TypeId) < Try.prog.types.size := of_decide_eq_true (by kernel_rfl)
theorem pairWide : (match Try.prog.underlying 39 with | some (.array _ _) | some (.struct _) => true | _ => false) = true := by rw [Try.underlying39]
theorem pairLaw : WideMaps.KeyLaw Try.prog 39 := deep_law_laid laidOut (m := 2) (by omega) pairRow (by kernel_rfl) pairWide
theorem pairKey : Maps.Keyed Try.prog 39 := Maps.Keyed.of_law pairLaw
theorem pairCells : Try.prog.cellsOf 39 = 2 := by kernel_rfl
theorem intCells : Try.prog.cellsOf 3 = 1 := by kernel_rfl
theorem typesPos : 0 < Try.prog.types.size := of_decide_eq_true (by kernel_rfl)
theorem pair_keyOf (x y : Int) (hx : (Lit.int .i64 x).wf = true) (hy : (Lit.int .i64 y).wf = true) : keyOf Try.prog 39 (.agg #[.int .i64 x, .int .i64 y]) = some (.string (keyBytes [.int .i64 x, .int .i64 y])) := by
  have hk : Try.prog.keyType 39 = true := by kernel_rfl
  have hf : (Value.agg #[.int .i64 x, .int .i64 y]).formed Try.prog 39 = true := by simp [Value.formed, Try.underlying39, pairCells]
  obtain ⟨m, hm⟩ : ∃ m, Try.prog.types.size = m + 1 := ⟨Try.prog.types.size - 1, by have := typesPos; omega⟩
  have hi : ∀ z : Int, (Lit.int .i64 z).wf = true → Try.prog.keyLits (m + 1) 3 [.int .i64 z] = some [.int .i64 z] := fun z hz => by
    simp [Program.keyLits, Try.underlying3, hz]
  have hl : Try.prog.keyLits (Try.prog.types.size + 1) 39 [.int .i64 x, .int .i64 y] = some [.int .i64 x, .int .i64 y] := by
    rw [hm]
    unfold Program.keyLits
    simp [Try.underlying39, pairCells, intCells, List.range_succ, hi x hx, hi y hy]
  unfold keyOf
  simp only [Try.underlying39, hk, hf, Bool.and_self, if_true]
  simp only [Value.cells]
  rw [hl]
  rfl

/-- The place of an inode, as a key. -/
def placeV (i : Nat) : Value := .agg #[.int .i64 (3 + (i : Int) / 2), .int .i64 ((i : Int) % 2 * 128)]
def placeK (i : Nat) : Lit := .string (keyBytes [.int .i64 (3 + (i : Int) / 2), .int .i64 ((i : Int) % 2 * 128)])
theorem place_key (i : Nat) (h : i ≤ 1024) : keyOf Try.prog 39 (placeV i) = some (placeK i) :=
  pair_keyOf (3 + (i : Int) / 2) ((i : Int) % 2 * 128) (wf_lit (by omega) (by omega)) (wf_lit (by omega) (by omega))
theorem place_inj (i j : Nat) (hi : i ≤ 1024) (hj : j ≤ 1024) (h : placeK i = placeK j) : i = j := by
  have h1 := place_key i hi
  have h2 := place_key j hj
  rw [h] at h1
  have h3 := pairKey.inj h1 h2
  simp only [placeV, Value.agg.injEq, Array.mk.injEq, List.cons.injEq, Value.int.injEq, true_and, and_true] at h3
  omega
/-- The table of the first n places. -/
def seenD : Nat → DataW Unit
  | 0 => .map []
  | n + 1 => (seenD n).put (placeK n) (.lit (.int .i64 1))
theorem seenD_at (j : Nat) (hj : j ≤ 1024) : ∀ n, n ≤ j → (seenD n).atKey (placeK j) (.lit (.int .i64 0)) = .lit (.int .i64 0)
  | 0, _ => by simp [seenD]; rfl
  | n + 1, h => by
    show DataW.atKey ((seenD n).put _ _) _ _ = _
    rw [Maps.atKey_put_other (fun e => by have := place_inj _ _ hj (by omega) e; omega)]
    exact seenD_at j hj n (by omega)
abbrev Seen (w : World) (m n k : Nat) : Prop := w.ownsMap Try.prog 39 (plainElem Try.prog 3) m n (seenD k)
theorem run_seen (W : World) (m n j : Nat) (hj : j ≤ 1024) (h : Seen W m n j) :
    (Instr.lookup 38 (.map (some m)) (placeV j) false).run Try.prog W = .ok (.int .i64 0) W := by
  have hz : (zeroValue 3).run Try.prog W = .ok (.int .i64 0) W := by rfl
  obtain ⟨c, hrun, hat, _⟩ := h.lookup_int pairKey Try.underlying38 Try.underlying3 hz (place_key j hj)
  rw [hrun]
  rw [seenD_at j hj j (Nat.le_refl _)] at hat
  injection hat with hat
  injection hat with _ hat
  rw [hat]
theorem run_see (W : World) (m n j : Nat) (hj : j ≤ 1024) (hn : n < maxLen) (h : Seen W m n j) :
    ∃ w', (Instr.mapUpdate 38 (.map (some m)) (placeV j) (.int .i64 1)).run Try.prog W = .ok () w' ∧ Seen w' m (n + 1) (j + 1) ∧ W.grownBy w' (some m) :=
  h.update (t := 38) pairKey Try.underlying38 hn (place_key j hj) (plainElem_int (a := 1) Try.underlying3 (wf_lit (by decide) (by decide)))

/-! ### The parts' blocks -/
/-- The part of a block of a device of b blocks. -/
def whN (b i : Nat) : Nat := if i < 1 then 1 else if i < 2 then 2 else if i < 3 then 3 else if i < 3 + (b / 4 + 1) / 2 then 4 else if i < 3 + (b / 4 + 1) / 2 + (32 + b / 32) then 5 else 6
theorem whN_is (b i : Nat) (h1 : 128 ≤ b) (h2 : b ≤ 1024) (hi : i < b) : whereE (lay (b : Int)) (i : Int) = (whN b i : Int) := by
  unfold whereE
  rw [if_pos ⟨is_lay b h1 h2, by omega, by show (i : Int) < (b : Int); omega⟩]
  show (if (i : Int) < 1 then (1 : Int) else if (i : Int) < 2 then 2 else if (i : Int) < 3 then 3 else if (i : Int) < 3 + ((b : Int) / 4 + 1) / 2 then 4 else if (i : Int) < 3 + ((b : Int) / 4 + 1) / 2 + (32 + (b : Int) / 32) then 5 else 6) = _
  unfold whN
  repeat' split
  all_goals omega
theorem where_end (b : Nat) : whereE (lay (b : Int)) (b : Int) = 0 := by
  unfold whereE
  rw [if_neg]
  rintro ⟨_, _, h⟩
  exact absurd h (by show ¬ (b : Int) < (b : Int); omega)
theorem where_neg (b : Nat) : whereE (lay (b : Int)) (-1) = 0 := by
  unfold whereE
  rw [if_neg]
  rintro ⟨_, h, _⟩
  omega
def lastN (b : Nat) : Nat → Nat
  | 0 => 0
  | i + 1 => whN b i
theorem last_step (b i : Nat) (h1 : 128 ≤ b) (h2 : b ≤ 1024) (hi : i < b) : lastN b i ≤ whN b i ∧ whN b i ≤ lastN b i + 1 ∧ 1 ≤ whN b i ∧ whN b i ≤ 6 := by
  cases i with
  | zero => simp [lastN, whN]
  | succ i =>
    simp only [lastN]
    unfold whN
    repeat' split
    all_goals omega
theorem last_end (b : Nat) (h1 : 128 ≤ b) (h2 : b ≤ 1024) : lastN b b = 6 := by
  obtain ⟨c, rfl⟩ : ∃ c, b = c + 1 := ⟨b - 1, by omega⟩
  simp only [lastN]
  unfold whN
  repeat' split
  all_goals omega
/-- Where part p begins. -/
def begN (b : Nat) : Nat → Nat
  | 0 => 0
  | 1 => 0
  | 2 => 1
  | 3 => 2
  | 4 => 3
  | 5 => 3 + (b / 4 + 1) / 2
  | 6 => 3 + (b / 4 + 1) / 2 + (32 + b / 32)
  | _ => b
/-- How many of the first i blocks are of part p. -/
def cntN (b i p : Nat) : Nat := min i (begN b (p + 1)) - min i (begN b p)
def cntV (b i : Nat) : Array Value := #[.int .i64 0, .int .i64 (cntN b i 1 : Nat), .int .i64 (cntN b i 2 : Nat), .int .i64 (cntN b i 3 : Nat), .int .i64 (cntN b i 4 : Nat), .int .i64 (cntN b i 5 : Nat), .int .i64 (cntN b i 6 : Nat)]
theorem cntV_zero (b : Nat) : cntV b 0 = #[.int .i64 0, .int .i64 0, .int .i64 0, .int .i64 0, .int .i64 0, .int .i64 0, .int .i64 0] := by
  unfold cntV cntN
  simp
theorem cntV_get (b i p : Nat) (h1 : 1 ≤ p) (h2 : p ≤ 6) : (cntV b i)[p]? = some (.int .i64 (cntN b i p : Nat)) := by
  have : p = 1 ∨ p = 2 ∨ p = 3 ∨ p = 4 ∨ p = 5 ∨ p = 6 := by omega
  rcases this with rfl | rfl | rfl | rfl | rfl | rfl <;> rfl
theorem cnt_step (b i p : Nat) (h1 : 128 ≤ b) (h2 : b ≤ 1024) (hi : i < b) (hp1 : 1 ≤ p) (hp2 : p ≤ 6) : cntN b (i + 1) p = cntN b i p + (if whN b i = p then 1 else 0) := by
  have : p = 1 ∨ p = 2 ∨ p = 3 ∨ p = 4 ∨ p = 5 ∨ p = 6 := by omega
  unfold cntN whN
  rcases this with rfl | rfl | rfl | rfl | rfl | rfl <;> simp only [begN] <;> (repeat' split) <;> omega
theorem cntV_step (b i : Nat) (h1 : 128 ≤ b) (h2 : b ≤ 1024) (hi : i < b) : (cntV b i).setIfInBounds (whN b i) (.int .i64 ((cntN b i (whN b i) : Nat) + 1)) = cntV b (i + 1) := by
  have hs := fun p a c => cnt_step b i p h1 h2 hi a c
  obtain ⟨_, _, l1, l2⟩ := last_step b i h1 h2 hi
  generalize whN b i = q at hs l1 l2
  have : q = 1 ∨ q = 2 ∨ q = 3 ∨ q = 4 ∨ q = 5 ∨ q = 6 := by omega
  have e1 := hs 1 (by omega) (by omega)
  have e2 := hs 2 (by omega) (by omega)
  have e3 := hs 3 (by omega) (by omega)
  have e4 := hs 4 (by omega) (by omega)
  have e5 := hs 5 (by omega) (by omega)
  have e6 := hs 6 (by omega) (by omega)
  unfold cntV
  rcases this with rfl | rfl | rfl | rfl | rfl | rfl <;> simp at e1 e2 e3 e4 e5 e6 <;> simp [e1, e2, e3, e4, e5, e6]
theorem cnt_ends (b : Nat) (h1 : 128 ≤ b) (h2 : b ≤ 1024) : cntN b b 1 = 1 ∧ cntN b b 2 = 1 ∧ cntN b b 3 = 1 ∧ cntN b b 5 = 32 + b / 32 ∧ 1 ≤ cntN b b 6 ∧ cntN b b 6 ≤ 1024 := by
  unfold cntN
  simp only [begN]
  omega
end Go.Proofs.Ytmlkhnglmjlfbaa.Gm
