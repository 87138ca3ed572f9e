/- A span and a wish among the arguments; two rows of numbers compared. -/
import Derived.Test.YtnkiblifnknbkaaBdRefT
import Derived.Test.YtnkiblifnknbkaaBdAlive
import Derived.Test.YtnkiblifnknbkaaLift
import Derived.Deep.Fields
import Derived.RegionTactic
import Derived.ChangeAlike
import Derived.Deep.QuietTactic
import Derived.BigQuiet
namespace Go.Proofs.Ytnkiblifnknbkaa.Buddy
set_option maxRecDepth 20000
open Go Go.RowKit Go.ChangeShapes Go.WideShapes Go.ChangeAt Go.Deep
open Go.Proofs.Ytnkiblifnknbkaa.Mem Go.Proofs.Ytnkiblifnknbkaa.Bt Go.Proofs.Ytnkiblifnknbkaa.Rec Go.Proofs.Ytnkiblifnknbkaa.Bits Go.Proofs.Ytnkiblifnknbkaa.Bd Go.Proofs.Ytnkiblifnknbkaa.Lift

section
variable {H : Type} {enc : TypeId × Value → H} {P : Program} {w : World} {base : Nat} {spare : Nat → Bool} {held : Bool}
/-- A struct whose fields have one cell each, field by field. -/
theorem fields_of {t : TypeId} {fs : Array Field} {fuel : Nat} {cs : List Value} {x : DataW H × List MemPlace} (hs : P.underlying t = some (.struct fs)) (hone : oneCellFields P fs = true) (hC : P.cellsOf t = fs.size)
    (h : DataW.trod enc P w base spare held fuel t cs = some x) : cs.length = fs.size ∧ ∃ n, ∀ (j : Nat) (f : Field) (v : Value), fs[j]? = some f → cs[j]? = some v → ∃ y, DataW.trod enc P w base spare held n f.type [v] = some y := by
  obtain ⟨ys, n, _, _, hl, hyl, hf⟩ := DataW.trod_struct hs h
  refine ⟨hl.trans hC, n, fun j f v hj hv => ?_⟩
  obtain ⟨ho, hk⟩ := hone_of hone j f hj
  have hlt : j < cs.length := (List.getElem?_eq_some_iff.1 hv).1
  have h1 := hf j f hj
  rw [ho, hk, List.drop_eq_getElem_cons hlt] at h1
  have hcv : cs[j] = v := Option.some.inj ((List.getElem?_eq_getElem hlt).symm.trans hv)
  rw [hcv] at h1
  have hjl : j < ys.length := by have := (Array.getElem?_eq_some_iff.1 hj).1; omega
  exact ⟨ys[j], h1.trans (List.getElem?_eq_getElem hjl)⟩
end
theorem wf_i64 {x : Int} (h : (Lit.int .i64 x).wf = true) : -9223372036854775808 ≤ x ∧ x ≤ 9223372036854775807 := by
  simp [Lit.wf, show IntKind.i64.min = -9223372036854775808 from rfl, show IntKind.i64.max = 9223372036854775807 from rfl] at h
  omega
theorem open_span {H : Type} {enc : TypeId × Value → H} {W : World} {b0 : Nat} {v : Value} {d : DataW H} {p : List MemPlace} (hv : Value.okWide Try.prog W .any b0 27 v)
    (h : DataW.Trod enc Try.prog W 0 (fun _ => true) true 27 v d p) : ∃ s l : Int, v = .agg (spanV s l) ∧ (-9223372036854775808 ≤ s ∧ s ≤ 9223372036854775807) ∧ (-9223372036854775808 ≤ l ∧ l ≤ 9223372036854775807) := by
  obtain ⟨cs, rfl, _⟩ := okWide_struct Try.underlying27 hv
  obtain ⟨fuel, hf⟩ := h
  obtain ⟨hl, n, hf⟩ := fields_of Try.underlying27 (by kernel_rfl) (by kernel_rfl) hf
  obtain ⟨l⟩ := cs
  simp only [Value.cells] at hl hf
  match l, hl with
  | [v0, v1], _ =>
    obtain ⟨y0, h0⟩ := hf 0 _ v0 rfl rfl
    obtain ⟨y1, h1⟩ := hf 1 _ v1 rfl rfl
    obtain ⟨a0, e0, _, g0⟩ := DataW.trod_int Try.underlying3 h0
    obtain ⟨a1, e1, _, g1⟩ := DataW.trod_int Try.underlying3 h1
    simp at e0 e1
    subst e0 e1
    exact ⟨a0, a1, rfl, wf_i64 g0, wf_i64 g1⟩

def wishV (x y z : Int) : Array Value := #[.int .i64 x, .int .i64 y, .int .i64 z]
theorem open_wish {H : Type} {enc : TypeId × Value → H} {W : World} {b0 : Nat} {v : Value} {d : DataW H} {p : List MemPlace} (hv : Value.okWide Try.prog W .any b0 24 v)
    (h : DataW.Trod enc Try.prog W 0 (fun _ => true) true 24 v d p) : ∃ x y z : Int, v = .agg (wishV x y z) ∧ (-9223372036854775808 ≤ x ∧ x ≤ 9223372036854775807) ∧ (-9223372036854775808 ≤ y ∧ y ≤ 9223372036854775807) ∧ (-9223372036854775808 ≤ z ∧ z ≤ 9223372036854775807) := by
  obtain ⟨cs, rfl, _⟩ := okWide_struct Try.underlying24 hv
  obtain ⟨fuel, hf⟩ := h
  obtain ⟨hl, n, hf⟩ := fields_of Try.underlying24 (by kernel_rfl) (by kernel_rfl) hf
  obtain ⟨l⟩ := cs
  simp only [Value.cells] at hl hf
  match l, hl with
  | [v0, v1, v2], _ =>
    obtain ⟨y0, h0⟩ := hf 0 _ v0 rfl rfl
    obtain ⟨y1, h1⟩ := hf 1 _ v1 rfl rfl
    obtain ⟨y2, h2⟩ := hf 2 _ v2 rfl rfl
    obtain ⟨a0, e0, _, g0⟩ := DataW.trod_int Try.underlying3 h0
    obtain ⟨a1, e1, _, g1⟩ := DataW.trod_int Try.underlying3 h1
    obtain ⟨a2, e2, _, g2⟩ := DataW.trod_int Try.underlying3 h2
    simp at e0 e1 e2
    subst e0 e1 e2
    exact ⟨a0, a1, a2, rfl, wf_i64 g0, wf_i64 g1, wf_i64 g2⟩
theorem holds_nil (w : World) (B : Nat) : Holds w B none 0 [] := ⟨rfl, fun h => absurd h (by omega)⟩
/-- A slice's text, in every later world. -/
theorem text_of {w : World} {B : Nat} {A : Option Addr} {n c : Nat} {bs : List UInt8} (h : Holds w B A n bs) (hB : B ≤ w.heap.size) : Text w (.slice A n c) bs := fun W hW => run_text W B A n c bs (h.below (hW.mono hB))
theorem thenB {X Y Z : World} (h : Below X.heap.size X Y) (k : Below Y.heap.size Y Z) : Below X.heap.size X Z := h.trans (k.mono h.size)

/-- Two rows of seven numbers that are the same. -/
theorem same7_any (M M' : Nat) (l : List (Nat × Nat)) (w : World) (h : w.heap[M]? = some (.cells (cnts l) 3 (0, 0))) (h' : w.heap[M']? = some (.cells (cnts l) 3 (0, 0))) :
    Calls Try.prog 19 #[.slice (some ⟨M, 0, none⟩) 7 7, .slice (some ⟨M', 0, none⟩) 7 7] w fun e w' => e = .returned (.bool true) ∧ Below w.heap.size w w' := by
  have H := Lib.hid h; clear h
  have H' := Lib.hid h'; clear h'
  go_enter Try.func19, Try.ntmps19
  go_wp2
  go_loopw [5] (fun i wr => ∃ k m : Nat, k ≤ 7 ∧ i = .int .i64 k ∧ wr = w.drewN m) (fun i _ => 7 - (intOf i).toNat)
  case atStart => exact ⟨0, 0, by omega, by first | trivial | rfl, rfl⟩
  case round =>
    obtain ⟨k, m, hk, rfl, rfl⟩ := hrel
    by_cases hlt : k < 7
    · have e0 : w.cell? ⟨M, k, none⟩ = some (.int .i64 (many l k : Int)) := (cell_of_row w M k _ _ _ H.out).trans (cnts_get _ _ (by omega))
      have e1 : w.cell? ⟨M', k, none⟩ = some (.int .i64 (many l k : Int)) := (cell_of_row w M' k _ _ _ H'.out).trans (cnts_get _ _ (by omega))
      have hk0 : (0 : Int) ≤ (k : Int) := by omega
      have hkn : (k : Int) < 7 := by omega
      go_wp2
      go_quiet (fail)
      all_goals
        go_wp2
        go_roundw
        case rel => exact ⟨k + 1, _, by omega, by go_num, rfl⟩
        case measure => simp [intOf]; omega
    · obtain rfl : k = 7 := by omega
      go_wp2
      go_ret
      exact ⟨rfl, ⟨rfl, rfl, rfl, Nat.le_refl _, fun _ _ => rfl⟩⟩
theorem same0_any (w : World) :
    Calls Try.prog 19 #[.slice none 0 0, .slice none 0 0] w fun e w' => e = .returned (.bool true) ∧ Below w.heap.size w w' := by
  go_enter Try.func19, Try.ntmps19
  go_wp2
  go_loopw [5] (fun i wr => ∃ k : Nat, i = .int .i64 k ∧ wr = w) (fun i _ => 7 - (intOf i).toNat)
  case atStart => exact ⟨0, by first | trivial | rfl, by first | trivial | rfl⟩
  case round =>
    obtain ⟨k, rfl, hw⟩ := hrel
    have hkn : ¬ (k : Int) < 0 := by omega
    subst hw
    go_wp2
    go_ret
    exact ⟨rfl, Below.refl _ _⟩
end Go.Proofs.Ytnkiblifnknbkaa.Buddy
