/- Contracts of the small calls of the program's disk: whether a number may be, whether a block is there, whether the fuse is blown, the bit of a list, the fuse's burning, and a disk that is made anew. -/
import Derived.Test.YtbmbolgmeehloaaDkMem
import Derived.WalkSpells
import Derived.WalkLawsBesides
import Derived.Lib.Hide
import Derived.Deep.OwnRows
import Derived.Test.YtbmbolgmeehloaaDkMath
namespace Go.Proofs.Ytbmbolgmeehloaa.Disk
set_option maxRecDepth 20000
open Go.RowKit
open Go.Proofs.Ytbmbolgmeehloaa.Mem
open Go.ChangeMaps Go.MapKept

def mayB (n : Int) : Bool := decide (1 ≤ n) && decide (n ≤ 1024)
theorem mayBe_any (n : Int) (w : World) : Calls Try.prog 46 #[.int .i64 n] w fun e w' => e = .returned (.bool (mayB n)) ∧ w = w' := by
  unfold mayB
  by_cases h1 : 1 ≤ n
  · by_cases h2 : n ≤ 1024
    all_goals
      go_enter Try.func46, Try.ntmps46
      go_wp2
      go_ret
      exact ⟨by simp [h1, h2], rfl⟩
  · have hd : decide (1 ≤ n) = false := by simpa using h1
    go_enter Try.func46, Try.ntmps46
    go_wp2
    go_ret
    exact ⟨by simp, rfl⟩

def Low.blown (L : Low) : Bool := L.fused && decide (L.left = 0)

theorem blown_any (L : Low) (p m : Nat) (vs vw : Value) (w : World) (h : LowAt w p L vs vw m) :
    Calls Try.prog 58 #[.pointer (some ⟨p, 0, none⟩)] w fun e w' => e = .returned (.bool L.blown) ∧ w = w' := by
  have h4 := h.f4
  have h5 := h.f5
  clear h
  unfold Low.blown
  generalize L.fused = b at h4 ⊢
  generalize L.left = n at h5 ⊢
  cases b
  all_goals
    go_enter Try.func58, Try.ntmps58
    go_wp2
    go_ret
    exact ⟨by simp; try (rw [Bool.eq_iff_iff]; simp), rfl⟩

/-- What is left when an operation was made. -/
def Low.burnt (L : Low) : Low := if L.fused then { L with left := L.left - 1 } else L
theorem turns_cell (w : World) (p j : Nat) (u : Value) : Turns (fun k => k = p) w (w.setCell ⟨p, j, none⟩ u) := (Turns.refl (fun k => k = p) w).setCell (p := ⟨p, j, none⟩) (fun _ => rfl) u
theorem LowAt.store {w : World} {p m : Nat} {L L' : Low} {vs vw vs' vw' : Value} (h : LowAt w p L vs vw m) (j : Nat) (u : Value) (he : (headOf vs vw m L).setIfInBounds j u = headOf vs' vw' m L')
    (hs : Row w 5 1 vs' L'.st.length (L'.st.map byteV)) (hw : Row w 96 257 vw' L'.ws.length (flat L'.ws)) (hd : nums L'.ws = nums L.ws)
    (ns : vs'.ownBlock ≠ some p) (nw : vw'.ownBlock ≠ some p) : LowAt (w.setCell ⟨p, j, none⟩ u) p L' vs' vw' m := by
  have ht : Turns (fun k => k = p) w (w.setCell ⟨p, j, none⟩ u) := turns_cell w p j u
  refine ⟨?_, hs.turns ht (fun k hk e => ns (by rw [hk, e])), hw.turns ht (fun k hk e => nw (by rw [hk, e])), ?_⟩
  · rw [heap_setCell_same w p j _ _ u h.head, he]
  · have hl : L'.ws.length = L.ws.length := by have := congrArg List.length hd; simpa [nums] using this
    rw [hl, hd]
    obtain ⟨es, clock, h1, h2⟩ := h.last
    exact ⟨es, clock, (ht.block m h.last.lt (fun e => h.apart.1 e.symm)).trans h1, h2⟩
theorem LowAt.number {w : World} {p m : Nat} {L L' : Low} {vs vw : Value} (h : LowAt w p L vs vw m) (j : Nat) (u : Value) (he : (headOf vs vw m L).setIfInBounds j u = headOf vs vw m L') (es : L'.st = L.st) (ew : L'.ws = L.ws) :
    LowAt (w.setCell ⟨p, j, none⟩ u) p L' vs vw m :=
  h.store j u he (by rw [es]; exact h.st) (by rw [ew]; exact h.ws) (by rw [ew]) h.apart.2.1 h.apart.2.2.1

theorem burn_any (L : Low) (p m : Nat) (vs vw : Value) (w : World) (h : LowAt w p L vs vw m) (hb : L.blown = false) (hl : L.left ≤ 9223372036854775807) :
    Calls Try.prog 61 #[.pointer (some ⟨p, 0, none⟩)] w fun e w' => e = .returned (.tuple #[]) ∧ LowAt w' p L.burnt vs vw m ∧ Turns (fun k => k = p) w w' := by
  have h4 := h.f4
  have h5 := h.f5
  have hz := h.open_ 5
  unfold Low.burnt
  cases hf : L.fused
  · rw [hf] at h4
    have H := Lib.hid h; clear h
    have HF := Lib.hid hf; clear hf
    have HB := Lib.hid hb; clear hb
    go_enter Try.func61, Try.ntmps61
    go_wp2
    go_end0
    exact ⟨rfl, H.out, Turns.refl _ _⟩
  · rw [hf] at h4
    have hp : 1 ≤ L.left := by
      simp [Low.blown, hf] at hb; omega
    have H := Lib.hid h; clear h
    have HF := Lib.hid hf; clear hf
    have HB := Lib.hid hb; clear hb
    go_enter Try.func61, Try.ntmps61
    go_wp2
    go_end0
    refine ⟨rfl, H.out.number 5 _ ?_ rfl rfl, turns_cell _ _ _ _⟩
    simp [headOf, HF.out]
    omega

theorem size_any (L : Low) (p m n : Nat) (vs vw : Value) (w : World) (h : LowAt w p L vs vw m) (hn : L.st.length = 256 * n) (hm : n ≤ 1024) :
    Calls Try.prog 28 #[.pointer (some ⟨p, 0, none⟩)] w fun e w' => e = .returned (.int .i64 (n : Int)) ∧ w = w' := by
  have h0 := h.f0
  obtain ⟨A, c, rfl, _⟩ := h.st.holds
  rw [hn] at h0
  clear h hn
  go_enter Try.func28, Try.ntmps28
  go_wp2
  go_ret
  exact ⟨rfl, rfl⟩
theorem size_nil (w : World) : Calls Try.prog 28 #[.pointer none] w fun e w' => e = .returned (.int .i64 0) ∧ w = w' := by
  go_enter Try.func28, Try.ntmps28
  go_wp2
  go_ret
  exact ⟨rfl, rfl⟩
def hasB (n : Nat) (i : Int) : Bool := decide (0 ≤ i) && decide (i < (n : Int))
theorem has_any (i : Int) (L : Low) (p m n : Nat) (vs vw : Value) (w : World) (h : LowAt w p L vs vw m) (hn : L.st.length = 256 * n) (hm : n ≤ 1024) :
    Calls Try.prog 54 #[.pointer (some ⟨p, 0, none⟩), .int .i64 i] w fun e w' => e = .returned (.bool (hasB n i)) ∧ w = w' := by
  unfold hasB
  have HN := Lib.hid hn; clear hn
  by_cases h1 : 0 ≤ i
  · go_enter Try.func54, Try.ntmps54
    go_wp2_with fail
    refine (size_any L p m n vs vw _ h HN.out hm).mono ?_
    rintro e w' ⟨rfl, rfl⟩
    go_wp2
    go_ret
    exact ⟨by simp [h1], rfl⟩
  · have hd : decide (0 ≤ i) = false := by simpa using h1
    go_enter Try.func54, Try.ntmps54
    go_wp2
    go_ret
    exact ⟨by simp, rfl⟩
theorem has_nil (i : Int) (w : World) : Calls Try.prog 54 #[.pointer none, .int .i64 i] w fun e w' => e = .returned (.bool false) ∧ w = w' := by
  by_cases h1 : 0 ≤ i
  · go_enter Try.func54, Try.ntmps54
    go_wp2_with fail
    refine (size_nil _).mono ?_
    rintro e w' ⟨rfl, rfl⟩
    go_wp2
    go_ret
    exact ⟨by simp; omega, rfl⟩
  · have hd : decide (0 ≤ i) = false := by simpa using h1
    go_enter Try.func54, Try.ntmps54
    go_wp2
    go_ret
    exact ⟨by simp, rfl⟩
theorem pending_any (L : Low) (p m : Nat) (vs vw : Value) (w : World) (h : LowAt w p L vs vw m) :
    Calls Try.prog 17 #[.pointer (some ⟨p, 0, none⟩)] w fun e w' => e = .returned (.int .i64 (L.pend : Int)) ∧ w = w' := by
  have h0 := h.f2
  clear h
  go_enter Try.func17, Try.ntmps17
  go_wp2
  go_ret
  exact ⟨rfl, rfl⟩
theorem pending_nil (w : World) : Calls Try.prog 17 #[.pointer none] w fun e w' => e = .returned (.int .i64 0) ∧ w = w' := by
  go_enter Try.func17, Try.ntmps17
  go_wp2
  go_ret
  exact ⟨rfl, rfl⟩

theorem bit_one : ∀ u : Fin 256, ∀ s : Fin 8, (bits .and .u8 ((u.val : Int) / 2 ^ s.val) 1 == 1) = decide (u.val / 2 ^ s.val % 2 = 1) := by decide +kernel
theorem isOne_any (A : Option Addr) (nb c B k : Nat) (bs : List UInt8) (w : World) (h : Holds w B A nb bs) (hm : nb ≤ maxLen) (hk : k ≤ 4398046511104) :
    Calls Try.prog 64 #[.slice A nb c, .int .i64 (k : Int)] w fun e w' => e = .returned (.bool (Dk.bit bs k)) ∧ w = w' := by
  unfold maxLen at hm
  obtain ⟨hl, hc⟩ := h
  unfold Dk.bit
  by_cases h1 : k / 8 < nb
  · obtain ⟨b, off, rfl, _, hcell⟩ := hc (by omega)
    have hcell := hcell (k / 8) (by omega)
    rw [List.getElem?_eq_getElem (by omega)]
    have hlt := (bs[k / 8]'(by omega)).toNat_lt
    generalize bs[k / 8]'(by omega) = u at hcell hlt ⊢
    have HL := Lib.hid hl; clear hl
    go_enter Try.func64, Try.ntmps64
    go_wp2
    go_ret
    exact ⟨by rw [show (bits .and .u8 ((u.toNat : Int) / 2 ^ (k % 8)) 1 == 1) = decide (u.toNat / 2 ^ (k % 8) % 2 = 1) from bit_one ⟨u.toNat, hlt⟩ ⟨k % 8, by omega⟩]; rfl, rfl⟩
  · have hd : decide (k / 8 < nb) = false := by simpa using h1
    rw [List.getElem?_eq_none (by omega)]
    have HL := Lib.hid hl; clear hl
    clear hc
    go_enter Try.func64, Try.ntmps64
    go_wp2
    go_ret
    exact ⟨by simp, rfl⟩

theorem run_clear (w : World) (m : Nat) (es : Array MapEntry) (clock : Nat) (h : w.heap[m]? = some (.map es clock)) :
    (Builtin.clear_ #[90] 0 #[Value.map (some m)]).run Try.prog w = .ok (.tuple #[]) (setBlock w m (.map #[] clock)) := by
  simp [Builtin.clear_, run_underlying Try.underlying90, MapKept.run_getObj_map h, MapKept.run_setObj_map _ h, Result.andThen]
  rfl

set_option maxRecDepth 20000 in
theorem forget_any (L : Low) (p m : Nat) (vs vw : Value) (w : World) (h : LowAt w p L vs vw m) :
    Calls Try.prog 63 #[.pointer (some ⟨p, 0, none⟩)] w fun e w' => e = .returned (.tuple #[]) ∧ LowAt w' p { L with ws := [], pend := 0 } vs (.slice none 0 0) m ∧ Turns (fun k => k = p ∨ k = m) w w' := by
  have h3 := h.f3
  have f1 := h.open_ 1
  have f2 := h.open_ 2
  have c1 := h.f1
  have c2 := h.f2
  have ha := h.apart
  obtain ⟨es, clock, hm, -⟩ := h.last
  have hW : ((w.setCell ⟨p, 1, none⟩ (.slice none 0 0)).setCell ⟨p, 2, none⟩ (.int .i64 0)).heap[m]? = some (.map es clock) := by
    rw [Below.heap_setCell _ _ _ _ (fun e => ha.1 e.symm), Below.heap_setCell _ _ _ _ (fun e => ha.1 e.symm)]; exact hm
  have hq := run_clear _ m es clock hW
  have ht : Turns (fun k => k = p ∨ k = m) w (setBlock ((w.setCell ⟨p, 1, none⟩ (.slice none 0 0)).setCell ⟨p, 2, none⟩ (.int .i64 0)) m (.map #[] clock)) := by
    refine (((Turns.refl (fun k => k = p ∨ k = m) w).setCell (fun _ => .inl rfl) _).setCell (fun _ => .inl rfl) _).trans (G := fun k => k = m) ⟨rfl, rfl, rfl, by simp [setBlock], fun i _ hi => heap_setBlock_other hW _ hi⟩ (fun _ _ e => .inr e)
  have hL : LowAt (setBlock ((w.setCell ⟨p, 1, none⟩ (.slice none 0 0)).setCell ⟨p, 2, none⟩ (.int .i64 0)) m (.map #[] clock)) p { L with ws := [], pend := 0 } vs (.slice none 0 0) m := by
    refine ⟨?_, h.st.turns ht (fun k hk e => ?_), World.ownsRow_nil _ _ _ _, #[], clock, heap_setBlock_same hW _, ⟨by simp, stamped_empty clock, by simp⟩, Nat.le_refl _, rfl⟩
    · rw [heap_setBlock_other hW _ ha.1]
      rw [heap_setCell_same _ p 2 _ _ _ (heap_setCell_same w p 1 _ _ _ h.head)]
      rfl
    · rcases e with e | e
      · subst e; exact ha.2.1 hk
      · subst e; exact ha.2.2.2.1 hk
  clear h hW hm ha
  have HT := Lib.hid ht; clear ht
  have HL := Lib.hid hL; clear hL
  have HQ := Lib.hid hq; clear hq
  go_enter Try.func63, Try.ntmps63
  go_wp2
  rw [HQ.out]
  simp only [Result.andThen]
  rw [Oper.upon_value]
  go_wp2
  go_end0
  exact ⟨rfl, HL.out, HT.out⟩

/-- A disk's blocks lie where they didn't before, and nothing else has turned. -/
def NewLow (w : World) (L : Low) (e : Ending) (w' : World) : Prop := ∃ p m vs vw, e = .returned (.pointer (some ⟨p, 0, none⟩)) ∧ LowAt w' p L vs vw m ∧ (∀ k, Foot p m vs vw k → w.heap.size ≤ k) ∧ Below w.heap.size w w'
theorem made_any (n : Nat) (w : World) (hn : n ≤ 1024) :
    Calls Try.prog 47 #[.int .i64 (n : Int)] w (NewLow w { st := List.replicate (256 * n) 0, ws := [], pend := 0, fused := false, left := 0 }) := by
  have hq : (Instr.makeSlice 33 (.int .i64 ((n : Int) * 256)) (.int .i64 ((n : Int) * 256))).run Try.prog w = .ok (.slice (some ⟨w.heap.size, 0, none⟩) (256 * n) (256 * n)) (w.alloc (.cells (madeCells #[.int .u8 0] (256 * n)) 5)) := by
    rw [show ((n : Int) * 256) = ((256 * n : Nat) : Int) by omega]
    exact run_make_row' 33 5 (.int .u8 0) 1 Try.underlying33 info_u8 rfl .i64 .i64 (256 * n) (by omega) (by omega) w
  have hmc : madeCells #[.int .u8 0] (256 * n) = ((List.replicate (256 * n) (0 : UInt8)).map byteV).toArray := by
    apply Array.ext_getElem?
    intro j
    simp only [madeCells, byteV, Array.getElem?_map, List.map_replicate, List.getElem?_toArray, List.getElem?_replicate]
    by_cases hj : j < 256 * n
    · have : j % 1 = 0 := by omega
      simp [hj, this]
    · simp [hj]
  rw [hmc] at hq
  have HQ := Lib.hid hq; clear hq hmc
  have hmm := @run_makeMap Try.prog
  go_enter Try.func47, Try.ntmps47
  go_wp2
  rw [HQ.out]
  simp only [Result.andThen]
  rw [Oper.upon_value]
  obtain ⟨w1, hw1⟩ : ∃ w1, w1 = w.alloc (.cells ((List.replicate (256 * n) (0 : UInt8)).map byteV).toArray 5) := ⟨_, rfl⟩
  rw [← hw1]
  have HW := Lib.hid hw1; clear hw1
  go_wp2
  go_ret
  have hr : Row w1 5 1 (.slice (some ⟨w.heap.size, 0, none⟩) (256 * n) (256 * n)) (256 * n) ((List.replicate (256 * n) (0 : UInt8)).map byteV) := by
    have h := owned_made w (List.replicate (256 * n) 0) 0 (Nat.zero_le _) (by unfold maxLen; simp; omega)
    rw [← HW.out] at h
    simpa [Owned, Row] using h
  have hs : w1.heap.size = w.heap.size + 1 := by rw [HW.out]; simp
  have hb1 : Below w.heap.size w w1 := by rw [HW.out]; exact (Below.refl _ _).alloc (Nat.le_refl _) _
  have hmm' := World.ownsMap_made w1 Try.prog 3 (plainElem (H := Unit) Try.prog 3)
  refine ⟨w1.heap.size + 1, w1.heap.size, .slice (some ⟨w.heap.size, 0, none⟩) (256 * n) (256 * n), .slice none 0 0, rfl, ⟨?_, ?_, World.ownsRow_nil _ _ _ _, hmm'.alloc _⟩, ?_, ?_⟩
  · exact heap_alloc2_new w1 _ _
  · show Row _ _ _ _ (List.replicate (256 * n) 0).length _
    rw [List.length_replicate]
    exact (World.ownsRow.alloc hr _).alloc _
  · intro k hk
    rcases hk with rfl | rfl | hk | hk
    · omega
    · omega
    · simp [Value.ownBlock] at hk; omega
    · cases hk
  · exact (hb1.alloc (by omega) _).alloc (by simp; omega) _
end Go.Proofs.Ytbmbolgmeehloaa.Disk
