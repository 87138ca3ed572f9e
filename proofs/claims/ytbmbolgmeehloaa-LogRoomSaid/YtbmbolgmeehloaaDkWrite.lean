/- Contract of the program's write to a disk whose fuse isn't blown. -/
import Derived.Test.YtbmbolgmeehloaaDkAdd
namespace Go.Proofs.Ytbmbolgmeehloaa.Disk
set_option maxRecDepth 20000
open Go.RowKit
open Go.Proofs.Ytbmbolgmeehloaa.Mem
attribute [local go_sem ↓] Go.wp_at_zero Go.wp_at_succ ldW_eq stW_eq newW_eq mkW_eq oneW_eq

theorem write_hasnt (i : Int) (A : Option Addr) (k c : Nat) (L : Low) (p m n : Nat) (vs vw : Value) (w : World) (h : LowAt w p L vs vw m) (hn : L.st.length = 256 * n) (hm : n ≤ 1024) (hi : hasB n i = false) :
    Calls Try.prog 24 #[.pointer (some ⟨p, 0, none⟩), .int .i64 i, .slice A k c] w fun e w' => e = .returned (.int .i64 16) ∧ w = w' := by
  have HN := Lib.hid hn; clear hn
  go_enter Try.func24, Try.ntmps24
  go_wp2_with fail
  refine (has_any i L p m n vs vw _ h HN.out hm).mono ?_
  rintro e w' ⟨rfl, rfl⟩
  go_wp2
  go_ret
  exact ⟨rfl, rfl⟩
theorem write_nil (i : Int) (A : Option Addr) (k c : Nat) (w : World) :
    Calls Try.prog 24 #[.pointer none, .int .i64 i, .slice A k c] w fun e w' => e = .returned (.int .i64 16) ∧ w = w' := by
  go_enter Try.func24, Try.ntmps24
  go_wp2_with fail
  refine (has_nil i _).mono ?_
  rintro e w' ⟨rfl, rfl⟩
  go_wp2
  go_ret
  exact ⟨rfl, rfl⟩
theorem write_short (i : Int) (A : Option Addr) (k c : Nat) (L : Low) (p m n : Nat) (vs vw : Value) (w : World) (h : LowAt w p L vs vw m) (hn : L.st.length = 256 * n) (hm : n ≤ 1024) (hi : hasB n i = true) (hk : ¬ k = 256) :
    Calls Try.prog 24 #[.pointer (some ⟨p, 0, none⟩), .int .i64 i, .slice A k c] w fun e w' => e = .returned (.int .i64 1) ∧ w = w' := by
  have HN := Lib.hid hn; clear hn
  have hk' : ((k : Int) != 256) = true := by simp; omega
  go_enter Try.func24, Try.ntmps24
  go_wp2_with fail
  refine (has_any i L p m n vs vw _ h HN.out hm).mono ?_
  rintro e w' ⟨rfl, rfl⟩
  go_wp2
  go_ret
  exact ⟨rfl, rfl⟩

/-- The device behind a call that answered r. -/
def Did (w : World) (p m : Nat) (L : Low) (vs vw : Value) (r : Value) (e : Ending) (w' : World) : Prop :=
  ∃ vw', e = .returned r ∧ LowAt w' p L vs vw' m ∧ (∀ k, vw'.ownBlock = some k → vw.ownBlock = some k ∨ w.heap.size ≤ k) ∧ Turns (Foot p m vs vw) w w'

/-- The bytes laid into the new write. -/
theorem run_copy_in (w : World) (i b o c : Nat) (data : List UInt8) (hl : data.length = 256) (hd : w.rangeAt b o (data.map byteV)) :
    (Builtin.copy_ #[33, 33] 3 #[Value.slice (some ⟨w.heap.size, 1, none⟩) 256 256, Value.slice (some ⟨b, o, none⟩) 256 c]).run Try.prog (w.alloc (.cells (Value.int .i64 (i : Int) :: (List.replicate 256 (0 : UInt8)).map byteV).toArray 96)) =
      .ok (goInt 256) (w.alloc (.cells (wcells (i, data)).toArray 96)) := by
  obtain ⟨z, hz⟩ : ∃ z, z = (List.replicate 256 (0 : UInt8)).map byteV := ⟨_, rfl⟩
  have hzl : z.length = 256 := by rw [hz, List.length_map, List.length_replicate]
  rw [← hz]
  clear hz
  have hdl : (data.map byteV).length = 256 := by rw [List.length_map, hl]
  have h := run_copy_row (P := Try.prog) (w.alloc (.cells (Value.int .i64 (i : Int) :: z).toArray 96)) 33 33 3 5 w.heap.size 1 256 256 ⟨b, o, none⟩ 256 c
    (Value.int .i64 (i : Int) :: z).toArray 96 (data.map byteV) Try.underlying33 info_byte (heap_alloc_new w _) (by rw [hdl]; rfl)
    (fun j v hv => by rw [Addr.add_mid]; exact World.rangeAt_alloc hd _ j v hv) (by rw [hdl, List.size_toArray, List.length_cons, hzl]; omega) (by intro v hv; obtain ⟨u, _, rfl⟩ := List.mem_map.1 hv; rfl)
  rw [hdl, World.setRow_alloc_new] at h
  rw [h]
  have e : List.take 1 (Value.int .i64 (i : Int) :: z) ++ (data.map byteV ++ List.drop (1 + 256) (Value.int .i64 (i : Int) :: z)) = wcells (i, data) := by
    have h0 : List.drop (1 + 256) (Value.int .i64 (i : Int) :: z) = [] := List.drop_eq_nil_of_le (by rw [List.length_cons, hzl]; omega)
    rw [h0, List.append_nil]
    rfl
  rw [List.toList_toArray, List.append_assoc, e]
  rfl

set_option maxRecDepth 100000 in
set_option maxHeartbeats 1000000 in
theorem write_some (i : Nat) (b o c : Nat) (data : List UInt8) (L : Low) (p m n : Nat) (vs vw : Value) (w : World) (h : LowAt w p L vs vw m) (hn : L.st.length = 256 * n) (hm : n ≤ 1024) (hi : i < n) (hl : data.length = 256)
    (hd : w.rangeAt b o (data.map byteV)) (hw : L.ws.length ≤ 1048576) (hpd : L.pend ≤ 1048576) (hbl : L.blown = false) (hlf : L.left ≤ 9223372036854775807) :
    Calls Try.prog 24 #[.pointer (some ⟨p, 0, none⟩), .int .i64 (i : Int), .slice (some ⟨b, o, none⟩) 256 c] w (Did w p m (Low.burnt { L with ws := L.ws ++ [(i, data)], pend := L.pend + 1 }) vs vw (.int .i64 0)) := by
  have hhas : hasB n (i : Int) = true := by simp [hasB]; omega
  have hcp := run_copy_in w i b o c data hl hd
  obtain ⟨cs0, hcs0⟩ : ∃ cs0, cs0 = Value.int .i64 (i : Int) :: (List.replicate 256 (0 : UInt8)).map byteV := ⟨_, rfl⟩
  have hl0 : cs0.length = 257 := by rw [hcs0]; simp
  have hone0 : ∀ v ∈ cs0, v.oneCell' = true := by
    intro v hv; rw [hcs0] at hv
    rcases List.mem_cons.1 hv with e | e
    · subst e; rfl
    · obtain ⟨u, _, rfl⟩ := List.mem_map.1 e; rfl
  have hmk := fun W => run_mkW (i : Int) W
  rw [← hcs0] at hmk hcp
  have hnw := run_newW
  have hst := fun W => run_stW_new W cs0 hl0 hone0
  obtain ⟨cs, hcs⟩ : ∃ cs, cs = wcells (i, data) := ⟨_, rfl⟩
  rw [← hcs] at hcp
  have hcl : cs.length = 257 := by rw [hcs, wcells_len _ hl]
  have HCS := Lib.hid hcs; clear hcs
  have HCL := Lib.hid hcl; clear hcl
  have HC0 := Lib.hid hcs0; clear hcs0
  have HL0 := Lib.hid hl0; clear hl0
  have HO0 := Lib.hid hone0; clear hone0
  have HN := Lib.hid hn; clear hn
  have HL := Lib.hid hl; clear hl
  have HBL := Lib.hid hbl; clear hbl
  go_enter Try.func24, Try.ntmps24
  go_wp2_with fail
  refine (has_any i L p m n vs vw _ h HN.out hm).mono ?_
  rintro e w' ⟨rfl, rfl⟩
  go_wp2_with fail
  clear hcp hst
  have ht1 : Turns (fun _ => False) w (w.alloc (.cells cs.toArray 96)) := (Turns.refl _ w).alloc _
  have hB : (w.alloc (.cells cs.toArray 96)).heap[w.heap.size]? = some (.cells cs.toArray 96 (0, 0)) := heap_alloc_new w _
  have hW1 : w.heap.size < (w.alloc (.cells cs.toArray 96)).heap.size := by simp
  generalize w.alloc (.cells cs.toArray 96) = W at ht1 hB hW1 ⊢
  have h1 : LowAt W p L vs vw m := h.turns ht1 (fun _ _ e => e)
  have hld : (ldW (.pointer (some ⟨w.heap.size, 0, none⟩))).run Try.prog W = .ok (.agg cs.toArray) W := run_ldW W _ 0 cs (fun j v hv => by rw [Nat.zero_add, cell_of_row _ _ _ _ _ _ hB]; simpa using hv) HCL.out
  have HB := Lib.hid hB; clear hB
  have H := Lib.hid h; clear h
  refine (blown_any L p m vs vw W h1).mono ?_
  rintro e w' ⟨rfl, rfl⟩
  rw [HBL.out]
  go_wp2_with fail
  clear hld
  rw [HCS.out]
  refine (add_any L p m n (i, data) vs vw W h1 hm hi HL.out hw hpd).mono ?_
  rintro e w2 ⟨vw2, rfl, h2, hfr2, ht2⟩
  go_wp2_with fail
  refine (burn_any _ p m vs vw2 w2 h2 (by have := HBL.out; simpa [Low.blown] using this) hlf).mono ?_
  rintro e w3 ⟨rfl, h3, ht3⟩
  go_wp2
  go_ret
  have hh := H.out
  refine ⟨vw2, rfl, h3, fun k hk => ?_, ?_⟩
  · rcases hfr2 k hk with e | e
    · exact .inl e
    · exact .inr (by omega)
  · refine ((ht1.mono (F := Foot p m vs vw) (fun _ _ e => e.elim)).trans (ht2.mono (F := Foot p m vs vw) ?_) (fun _ _ e => e)).trans ht3 (fun k _ e => .inl e)
    rintro k _ (e | e | e)
    · exact .inl e
    · exact .inr (.inl e)
    · exact .inr (.inr (.inr e))
end Go.Proofs.Ytbmbolgmeehloaa.Disk
