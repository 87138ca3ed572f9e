/- What Layout and Encode answer of whatever they are given, the program's and the document's; that two geometries differ. -/
import Derived.Test.YtmlkhnglmjlfbaaGmAlive
import Derived.Test.YtmlkhnglmjlfbaaGmREnc
namespace Go.Proofs.Ytmlkhnglmjlfbaa.Gm
set_option maxRecDepth 20000
open Go.RowKit
open Go.Proofs.Ytmlkhnglmjlfbaa.Mem Go.Proofs.Ytmlkhnglmjlfbaa.Crc Go.Proofs.Ytmlkhnglmjlfbaa.Rec

def neqG (x y : Value) : Sem Value := binOp .neq 23 x y
theorem neqG_eq (x y : Value) : binOp .neq 23 x y = neqG x y := rfl
theorem run_neqG (w : World) (g h : Gm) : (neqG (.agg g.c) (.agg h.c)).run Try.prog w = .ok (.bool (!decide (g = h))) w := by
  have h1 := run_eqG w g h
  unfold eqG at h1
  unfold neqG
  rw [run_eql_struct] at h1
  rw [run_neq_struct]
  generalize (Op.equalIn 10000 23 (.agg g.c) (.agg h.c)).run Try.prog w = r at h1 ⊢
  cases r with
  | ok b w' =>
    simp only [Result.andThen_ok, Result.ok.injEq, Value.bool.injEq] at h1 ⊢
    obtain ⟨rfl, rfl⟩ := h1
    exact ⟨rfl, rfl⟩
  | halt x w' => simp [Result.andThen] at h1

/-- What Layout answers. -/
def layE (b : Int) : Gm × Int := if 128 ≤ b ∧ b ≤ 1024 then (lay b, 0) else (gm0, 1)
theorem layout_any (b : Int) (w : World) :
    Calls Try.prog 9 #[.int .i64 b] w fun e w' => e = .returned (.tuple #[.agg (layE b).1.c, .int .i64 (layE b).2]) ∧ Below w.heap.size w w' := by
  unfold layE
  by_cases h : 128 ≤ b ∧ b ≤ 1024
  · rw [if_pos h]; exact layout_ok b w h.1 h.2
  · rw [if_neg h]; exact layout_no b w (by omega)
theorem rlayout_any (b : Int) (w : World) :
    Calls Try.prog 10 #[.int .i64 b] w fun e w' => e = .returned (.tuple #[.agg (layE b).1.c, .int .i64 (layE b).2]) ∧ Below w.heap.size w w' := by
  unfold layE
  by_cases h : 128 ≤ b ∧ b ≤ 1024
  · rw [if_pos h]; exact rlayout_ok b w h.1 h.2
  · rw [if_neg h]; exact rlayout_no b w (by omega)
/-- What Encode answers: bytes that read as a list, and an error. -/
def Enc (L : List UInt8) (x : Int) (w : World) (e : Ending) (w' : World) : Prop :=
  ∃ A c, e = .returned (.tuple #[.slice A L.length c, .int .i64 x]) ∧ Holds w' w'.heap.size A L.length L ∧ Below w.heap.size w w'
def encL (g : Gm) : List UInt8 := if g.is then sup g.blocks.toNat else []
def encX (g : Gm) : Int := if g.is then 0 else 1
theorem encode_any (g : Gm) (w : World) : Calls Try.prog 11 #[.agg g.c] w (Enc (encL g) (encX g) w) := by
  unfold encL encX
  cases h : g.is with
  | false => exact (encode_no g w h).mono fun e w' ⟨he, hb⟩ => ⟨none, 0, he, ⟨rfl, fun h => absurd h (by simp)⟩, hb⟩
  | true =>
    obtain ⟨b, h1, h2, rfl⟩ := is_cases h
    refine (encode_ok b w h1 h2).mono fun e w' ⟨A, c, he, ho, hb⟩ => ?_
    rw [show (lay (b : Int)).blocks.toNat = b from rfl]
    simp only [if_true]
    refine ⟨A, c, ?_, ?_, hb⟩
    · rw [sup_len]; exact he
    · rw [sup_len]; exact Owned.reads ho
theorem rencode_any (g : Gm) (w : World) : Calls Try.prog 12 #[.agg g.c] w (Enc (encL g) (encX g) w) := by
  unfold encL encX
  cases h : g.is with
  | false => exact (rencode_no g w h).mono fun e w' ⟨he, hb⟩ => ⟨none, 0, he, ⟨rfl, fun h => absurd h (by simp)⟩, hb⟩
  | true =>
    obtain ⟨b, h1, h2, rfl⟩ := is_cases h
    refine (rencode_ok b w h1 h2).mono fun e w' ⟨A, c, he, ho, hb⟩ => ?_
    rw [show (lay (b : Int)).blocks.toNat = b from rfl]
    simp only [if_true]
    refine ⟨A, c, ?_, ?_, hb⟩
    · rw [sup_len]; exact he
    · rw [sup_len]; exact Owned.reads ho
/-- What Inode answers. -/
theorem inodeE_form (g : Gm) (i : Int) : ∃ x y z : Int, inodeE g i = .tuple #[.int .i64 x, .int .i64 y, .int .i64 z] := by
  unfold inodeE
  split
  · exact ⟨_, _, _, rfl⟩
  · exact ⟨_, _, _, rfl⟩

end Go.Proofs.Ytmlkhnglmjlfbaa.Gm
