/- Contracts of the text of bytes, of the document's comparing of lists, and of the fixed fact with which every statement of layer 1 begins. -/
import Derived.Test.YtemkdnakkdnbhaaNums
import Derived.Laws.BytesArg
import Derived.Lib.SlBytesConst
namespace Go.Proofs.Ytemkdnakkdnbhaa.Crc
open Go.RowKit

/-- 'string(b)'. -/
theorem run_text (w : World) (B : Nat) (A : Option Addr) (n c : Nat) (bs : List UInt8) (h : Holds w B A n bs) :
    (convert 22 9 (.slice A n c)).run Try.prog w = .ok (.string ⟨bs.toArray⟩) w := by
  obtain ⟨hl, hc⟩ := h
  subst hl
  rcases A with _ | ad
  · have hn : bs = [] := by
      rcases Nat.eq_zero_or_pos bs.length with h0 | h0
      · exact List.eq_nil_of_length_eq_zero h0
      · obtain ⟨b, off, e, _⟩ := hc h0; cases e
    subst hn
    exact run_convert_bytes_nil w 22 5 Try.underlying22 Try.underlying5 _ _ _ Try.underlying9
  · have hcells : (loadCells ad bs.length).run Try.prog w = .ok ((bs.map fun c => (c.toNat : Int)).map (Value.int .u8)).toArray w := by
      have := run_loadCells_list (P := Try.prog) w ad ((bs.map fun c => (c.toNat : Int)).map (Value.int .u8)) (fun j v hj => by
        have hlt : j < bs.length := by
          rcases Nat.lt_or_ge j bs.length with h | h
          · exact h
          · rw [List.getElem?_eq_none (by simpa using h)] at hj; cases hj
        obtain ⟨b, off, e, _, hcell⟩ := hc (by omega)
        injection e with e
        subst e
        have hadd : (⟨b, off, none⟩ : Addr).add j = ⟨b, off + j, none⟩ := by unfold Addr.add; split <;> simp_all
        rw [hadd, hcell j hlt]
        simpa [hlt] using hj)
      simpa using this
    rw [run_convert_bytes_string w 22 9 5 _ _ _ Try.underlying22 Try.underlying5 Try.underlying9, run_bytesToString w ad _ c _ hcells, foldl_push_bytes]
    have e : ((bs.map fun c => (c.toNat : Int)).map fun n => UInt8.ofNat n.toNat) = bs := by
      rw [List.map_map]
      have : ((fun n : Int => UInt8.ofNat n.toNat) ∘ fun c : UInt8 => (c.toNat : Int)) = id := funext fun c => by simp
      rw [this, List.map_id]
    rw [e]
    simp [ByteArray.empty, ByteArray.emptyWithCapacity]
    rfl

/-- The document's 'the same': by the bytes. -/
theorem same_any (A A' : Option Addr) (n n' c c' B B' : Nat) (bs bs' : List UInt8) (w : World) (h : Holds w B A n bs) (h' : Holds w B' A' n' bs') (heq : bs = bs') :
    Calls Try.prog 17 #[.slice A n c, .slice A' n' c'] w fun e w' => e = .returned (.bool true) ∧ w = w' := by
  subst heq
  have t1 := run_text w B A n c bs h
  have t2 := run_text w B' A' n' c' bs h'
  clear h h'
  go_enter Try.func17, Try.ntmps17
  go_wp2
  go_ret
  exact ⟨rfl, rfl⟩

/-- Bytes laid as a literal. -/
theorem holds_lit (w : World) (bs : List UInt8) (cs : Array Value) (h : cs = (bs.map byteV).toArray) (fr : Nat × Nat := (0, 0)) : Holds (w.alloc (.cells cs 5 fr)) (w.heap.size + 1) (some ⟨w.heap.size, 0, none⟩) bs.length bs := by
  subst h
  refine ⟨rfl, fun _ => ⟨w.heap.size, 0, rfl, by omega, fun j hj => ?_⟩⟩
  rw [cell_of_row _ _ _ _ _ _ (heap_alloc_new w _)]
  simp [hj, byteV]

theorem alive_num : numAt [2, 1] 2 = 258 := by decide
theorem alive_sum : sum [49, 50, 51, 52, 53, 54, 55, 56, 57] = 3808858755 := by decide +kernel
theorem alive_bytes : bytesL 258 2 = [2, 1] := by decide

theorem alive_any (w : World) : Calls Try.prog 10 #[] w fun e w' => e = .returned (.bool true) ∧ Below w.heap.size w w' := by
  have kc := fun (w : World) (C : Array Value) (n c : Nat) => Lib.run_convert_bytes_const (P := Try.prog) w 22 5 C n c Try.underlying22 Try.underlying5
  go_enter Try.func10, Try.ntmps10
  go_wp2_with fail
  refine (number_any _ 2 2 _ [2, 1] _ (holds_lit w [2, 1] _ rfl (0, 0)) (by omega)).mono ?_
  rintro e w' ⟨rfl, rfl⟩
  rw [alive_num]
  have hb0 := (Below.refl w.heap.size w).alloc (Nat.le_refl _) (.cells (List.map byteV [2, 1]).toArray 5)
  generalize w.alloc (.cells (List.map byteV [2, 1]).toArray 5) = W0 at hb0 ⊢
  go_wp2_with fail
  refine (sum_any _ 9 9 [49, 50, 51, 52, 53, 54, 55, 56, 57] _ ((holds_lit _ [49, 50, 51, 52, 53, 54, 55, 56, 57] _ rfl (9, 10)).more (by simp)) (by unfold maxLen; omega)).mono ?_
  rintro e w1 ⟨rfl, hb⟩
  rw [alive_sum]
  have hb1 := (hb0.alloc hb0.size (.cells #[.int .u8 49, .int .u8 50, .int .u8 51, .int .u8 52, .int .u8 53, .int .u8 54, .int .u8 55, .int .u8 56, .int .u8 57] 5 (9, 10))).trans (hb.mono (by have := hb0.size; simp; omega))
  clear hb
  go_wp2_with fail
  refine (bytes_any 258 2 _ 2 (by omega) (by omega) (by omega)).mono ?_
  rintro e w2 ⟨rfl, rfl⟩
  have t := run_text _ _ _ 2 2 _ (holds_lit w1 (bytesL 258 2) (bAt 258 2 2) (bAt_full 258 2) (0, 0))
  rw [alive_bytes] at t
  have hb2 := hb1.alloc hb1.size (.cells (bAt 258 2 2) 5)
  clear hb1
  go_wp2
  go_ret
  exact ⟨rfl, hb2⟩
end Go.Proofs.Ytemkdnakkdnbhaa.Crc
