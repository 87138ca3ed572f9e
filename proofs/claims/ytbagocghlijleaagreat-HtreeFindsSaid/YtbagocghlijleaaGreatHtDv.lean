/- Deeds in memory: a variable of one, one of a slice, read and stored whole; what a deed keeps of a directory. -/
import Derived.Test.YtbagocghlijleaaGreatHtArgD
import Derived.Test.YtbagocghlijleaaGreatHtDo
namespace Go.Proofs.YtbagocghlijleaaGreat.Ht
set_option maxRecDepth 20000
open Go.RowKit
open Go.Proofs.YtbagocghlijleaaGreat.Mem Go.Proofs.YtbagocghlijleaaGreat.Crc Go.Proofs.YtbagocghlijleaaGreat.Rec Go.Proofs.YtbagocghlijleaaGreat.Reg Go.Proofs.YtbagocghlijleaaGreat.Lf

theorem DK_ok : DK.Ok where
  len _ := rfl
  one x u hu := by
    have h1 : u ∈ [Value.int .i64 x.op, .string ⟨x.e.t.toArray⟩, .int .i64 x.e.i] := hu
    simp only [List.mem_cons, List.not_mem_nil, or_false] at h1
    rcases h1 with rfl | rfl | rfl <;> rfl
  pos := by decide
  und := Tryz.underlying22
  info := by kernel_rfl
  zs := rfl
  bound := by decide
def ldD (x : Value) : Sem Value := Instr.loadAt 33 x
theorem ldD_eq (x : Value) : Instr.loadAt 33 x = ldD x := rfl
def stD (x v : Value) : Sem Unit := Instr.storeAt 33 x v
theorem stD_eq (x v : Value) : Instr.storeAt 33 x v = stD x v := rfl
def VarD (w : World) (g : Nat) (x : Dd) : Prop := w.heap[g]? = some (.cells x.c 33 (0, 0))
theorem VarD.lt {w : World} {g : Nat} {x : Dd} (h : VarD w g x) : g < w.heap.size := (Array.getElem?_eq_some_iff.1 h).1
theorem VarD.keep {w w' : World} {g B : Nat} {x : Dd} (h : VarD w g x) (hb : Below B w w') (hg : g < B) : VarD w' g x := (hb.block _ hg).trans h
theorem VarD.new (w : World) (x : Dd) : VarD (w.alloc (.cells x.c 33)) w.heap.size x := heap_alloc_new w _
theorem VarD.cells {w : World} {g : Nat} {x : Dd} (h : VarD w g x) :
    w.cell? ⟨g, 0, none⟩ = some (.int .i64 x.op) ∧ w.cell? ⟨g, 1, none⟩ = some (.string ⟨x.e.t.toArray⟩) ∧ w.cell? ⟨g, 2, none⟩ = some (.int .i64 x.e.i) :=
  ⟨cell_of_row w g 0 _ _ _ h, cell_of_row w g 1 _ _ _ h, cell_of_row w g 2 _ _ _ h⟩
theorem VarD.load {w : World} {g : Nat} {x : Dd} (h : VarD w g x) : (ldD (.pointer (some ⟨g, 0, none⟩))).run Tryz.prog w = .ok (.agg x.c) w := by
  have hl : (loadVar 33 ⟨g, 0, none⟩).run Tryz.prog w = .ok (.agg x.c) w := run_loadVar_row w g _ _ x.c (0, 0) _ h Tryz.underlying33 rfl (by kernel_rfl)
  unfold ldD Instr.loadAt Instr.sureAddr
  simp [hl]
theorem run_stD_new (w : World) (x : Dd) :
    (stD (.pointer (some ⟨w.heap.size, 0, none⟩)) (.agg x.c)).run Tryz.prog (w.alloc (.cells #[.int .i64 0, .string ⟨#[]⟩, .int .i64 0] 33)) = .ok () (w.alloc (.cells x.c 33)) :=
  run_storeAt_new w 33 _ x.c (by kernel_rfl) rfl (by simp [Dd.c, Value.oneCell'])
theorem run_ldD_at {w : World} {B b off n : Nat} {l : List Dd} (h : HoldsC DK w B (some ⟨b, off, none⟩) n l) (j : Nat) (hj : j < l.length) (o : Nat) (ho : o = off + j * 3) :
    (ldD (.pointer (some ⟨b, o, none⟩))).run Tryz.prog w = .ok (.agg (l[j]).c) w := by
  subst ho
  exact run_loadAt_mid w b (off + j * 3) 33 (l[j]).cl _ (h.range DK_ok j hj) Tryz.underlying33 rfl (by kernel_rfl)

/-- What a deed that is done leaves: a right directory, all other names as they were. -/
theorem doD_keeps {d r : List (List UInt8)} {T : Leaves} (h : readD d = some T) (op : Int) (e : Nm) (hd : doD d op e = (r, 0)) : ∃ U, readD r = some U ∧ ∀ x, x.t ≠ e.t → (has U x ↔ has T x) := by
  unfold doD at hd
  have hadd : addD d e = (r, 0) → ∃ U, readD r = some U ∧ ∀ x, x.t ≠ e.t → (has U x ↔ has T x) := fun hd => by
    obtain ⟨_, _, U, hU, hx⟩ := addD_ok h hd
    exact ⟨U, hU, fun x hn => by rw [hx]; exact ⟨fun k => k.resolve_left (fun e2 => hn (by rw [e2])), .inr⟩⟩
  split at hd
  · rcases removeD_ok h e.t with ⟨_, h2⟩ | ⟨_, _, h2⟩ | ⟨_, _, r', U, h2, hU, hx⟩
    · rw [h2] at hd; have h3 : _ = (0 : Int) := congrArg Prod.snd hd; exact absurd h3 (by decide)
    · rw [h2] at hd; have h3 : _ = (0 : Int) := congrArg Prod.snd hd; exact absurd h3 (by decide)
    · rw [h2] at hd
      have : r' = r := congrArg Prod.fst hd
      subst this
      exact ⟨U, hU, fun x hn => by rw [hx]; exact ⟨And.left, fun k => ⟨k, hn⟩⟩⟩
  · split at hd
    · rcases setD_ok h e with ⟨_, h2⟩ | ⟨_, _, h2⟩ | ⟨_, _, r', U, h2, hU, hx⟩
      · rw [h2] at hd; have h3 : _ = (0 : Int) := congrArg Prod.snd hd; exact absurd h3 (by decide)
      · rw [h2] at hd; have h3 : _ = (0 : Int) := congrArg Prod.snd hd; exact absurd h3 (by decide)
      · rw [h2] at hd
        have : r' = r := congrArg Prod.fst hd
        subst this
        exact ⟨U, hU, fun x hn => by rw [hx]; exact ⟨fun k => (k.resolve_left (fun e2 => hn (by rw [e2]))).1, fun k => .inr ⟨k, hn⟩⟩⟩
    · exact hadd hd
end Go.Proofs.YtbagocghlijleaaGreat.Ht
