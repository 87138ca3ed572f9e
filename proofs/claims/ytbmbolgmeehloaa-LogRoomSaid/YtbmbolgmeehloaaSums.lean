/- Contracts of the sums, the program's and the document's: for every slice that reads as a list of bytes both answer the sum of the plain arithmetic; the document's leaves the world alone, the program's makes new memory only. -/
import Derived.Test.YtbmbolgmeehloaaTable
import Derived.Test.YtbmbolgmeehloaaMem
import Derived.Lib.Hide
namespace Go.Proofs.Ytbmbolgmeehloaa.Crc
set_option maxRecDepth 20000
open Go.RowKit
open Go.Proofs.Ytbmbolgmeehloaa.Mem

theorem flip_bits (s : Nat) (hs : s < 4294967296) : bits .xor .u32 IntKind.u32.max (s : Int) = ((s ^^^ 4294967295 : Nat) : Int) := by
  have h := u32_xor_nat 4294967295 s (by omega) hs
  rw [Nat.xor_comm] at h
  rw [← h]; rfl

theorem take_snoc (l : List UInt8) (k : Nat) (h : k < l.length) : l.take (k + 1) = l.take k ++ [l[k]] := by
  rw [List.take_succ_eq_append_getElem h]

/-- The place in the table. -/
def place (word : Nat) (c : UInt8) : Nat := word % 256 ^^^ c.toNat
theorem place_lt (word : Nat) (c : UInt8) : place word c < 256 := Nat.xor_lt_two_pow (n := 8) (by omega) c.toNat_lt
theorem place_bits (word : Nat) (c : UInt8) : bits .xor .u8 ((word : Int) % 256) (c.toNat : Int) = (place word c : Int) := u8_xor_nat (word % 256) c.toNat (by omega) c.toNat_lt
theorem table_bits (word : Nat) (c : UInt8) (h : word < 4294967296) : bits .xor .u32 ((word : Int) / 256) (turns 8 (place word c) : Int) = (stepB word c.toNat : Int) := by
  have := place_lt word c
  rw [stepB_table]
  exact u32_xor_nat (word / 256) _ (by omega) (turns_lt 8 _ (by omega))

theorem fold_take (f k : Nat) (bs : List UInt8) (h : k < bs.length) : stepB (fold f (bs.take k)) bs[k].toNat = fold f (bs.take (k + 1)) := by
  rw [take_snoc bs k h, fold_snoc]

set_option maxRecDepth 100000 in
theorem more_any (s : Nat) (A : Option Addr) (n c : Nat) (bs : List UInt8) (w : World) (hs : s < 4294967296) (h : Holds w w.heap.size A n bs) (hm : n ≤ maxLen) :
    Calls Try.prog 115 #[.int .u32 (s : Int), .slice A n c] w fun e w' => e = .returned (.int .u32 (more s bs : Int)) ∧ Below w.heap.size w w' := by
  have hz := (zero_of_info info_tbl).1
  unfold maxLen at hm
  have hF := flip_bits s hs
  have hf := flip_lt s hs
  have hsg : IntKind.u32.signed = false := rfl
  unfold more
  generalize s ^^^ 4294967295 = f at hF hf
  go_enter Try.func115, Try.ntmps115
  go_wp2_with fail
  refine (words_any _).mono ?_
  rintro e W1 ⟨rfl, hb⟩
  go_wp2_with (with_reducible refine wpList_store_row rfl 145 _ _ rfl W1.heap.size (tblAt 256) rfl rfl 145 (Array.replicate 256 (.int .u32 0)) (heap_alloc_last W1 _) (by rw [tbl_size]; exact (zero_of_info info_tbl).2) (by rw [tbl_size, Array.size_replicate]) tbl_one ?_)
  clear hz
  rw [World.setRow_alloc_new]
  have h' := h.below (hb.alloc hb.size (.cells (tblAt 256) 145))
  have hb' := hb.alloc hb.size (.cells (tblAt 256) 145)
  have ht := heap_alloc_last W1 (.cells (tblAt 256) 145)
  generalize W1.alloc (.cells (tblAt 256) 145) = W at h' hb' ht ⊢
  have HT : Hid (_ = _) := ht
  clear ht hb h
  go_loop [6, 8, 14] (fun v _ i => ∃ k : Nat, k ≤ n ∧ i = .int .i64 k ∧ v = .int .u32 (fold f (bs.take k) : Int)) (fun _ _ i => n - (intOf i).toNat)
  case atStart => exact ⟨0, by omega, rfl, rfl⟩
  case round =>
    obtain ⟨k, hk, rfl, rfl⟩ := hrel
    obtain ⟨hl, hc⟩ := h'
    by_cases hlt : k < n
    · obtain ⟨b, off, rfl, _, hcell⟩ := hc (by omega)
      have hx := hcell k (by omega)
      have hfl := fold_lt (bs.take k) f hf
      have R : Hid (_ = _) := fold_take f k bs (by omega)
      have hcb := (bs[k]'(by omega)).toNat_lt
      generalize bs[k]'(by omega) = u at hx R hcb
      generalize fold f (bs.take k) = word at hfl R ⊢
      have hp := place_bits word u
      have hpl := place_lt word u
      have htb := table_bits word u hfl
      have htc : W.cell? ⟨W1.heap.size, place word u, none⟩ = some (.int .u32 (turns 8 (place word u) : Int)) := by
        rw [cell_of_row W _ _ _ _ _ HT.out]; exact tbl_get 256 _ hpl hpl
      clear hcell hc hl
      go_wp2
      go_round
      case rel => exact ⟨k + 1, by omega, by go_num, by rw [← R.out]⟩
      case measure => simp [intOf]; omega
    · obtain rfl : k = n := by omega
      have e : bs.take k = bs := List.take_of_length_le (by omega)
      rw [e]
      have hG := flip_bits _ (fold_lt bs f hf)
      clear hc hl e
      go_wp2
      go_ret
      exact ⟨rfl, hb'⟩

theorem sum_any (A : Option Addr) (n c : Nat) (bs : List UInt8) (w : World) (h : Holds w w.heap.size A n bs) (hm : n ≤ maxLen) :
    Calls Try.prog 100 #[.slice A n c] w fun e w' => e = .returned (.int .u32 (sum bs : Int)) ∧ Below w.heap.size w w' := by
  have H := Lib.hid h
  clear h
  go_enter Try.func100, Try.ntmps100
  go_wp2_with fail
  refine (more_any 0 A n c bs _ (by omega) H.out hm).mono ?_
  rintro e w' ⟨rfl, hb⟩
  go_wp2
  go_ret
  exact ⟨rfl, hb⟩

/-- The sum in any world that is as an earlier one was below its end: for statements that leave the order of several calls open. -/
theorem sum_later (W : World) (A : Option Addr) (n c : Nat) (bs : List UInt8) (h : Holds W W.heap.size A n bs) (hm : n ≤ maxLen) (w : World) (hb : Below W.heap.size W w) :
    Calls Try.prog 100 #[.slice A n c] w fun e w' => e = .returned (.int .u32 (sum bs : Int)) ∧ Below W.heap.size W w' :=
  (sum_any A n c bs w ((h.below hb).more hb.size) hm).mono fun _ _ ⟨he, h'⟩ => ⟨he, hb.trans (h'.mono hb.size)⟩

/-- The document's own, which makes no memory. -/
theorem refmore_any (s : Nat) (A : Option Addr) (n c B : Nat) (bs : List UInt8) (w : World) (hs : s < 4294967296) (h : Holds w B A n bs) (hm : n ≤ maxLen) :
    Calls Try.prog 109 #[.int .u32 (s : Int), .slice A n c] w fun e w' => e = .returned (.int .u32 (more s bs : Int)) ∧ w = w' := by
  unfold maxLen at hm
  have hF := flip_bits s hs
  have hf := flip_lt s hs
  have hsg : IntKind.u32.signed = false := rfl
  unfold more
  generalize s ^^^ 4294967295 = f at hF hf
  go_enter Try.func109, Try.ntmps109
  go_wp2
  go_loop [5, 6] (fun v i => ∃ k : Nat, k ≤ n ∧ i = .int .i64 k ∧ v = .int .u32 (fold f (bs.take k) : Int)) (fun _ i => n - (intOf i).toNat)
  case atStart => exact ⟨0, by omega, rfl, rfl⟩
  case round =>
    obtain ⟨k, hk, rfl, rfl⟩ := hrel
    obtain ⟨hl, hc⟩ := h
    by_cases hlt : k < n
    · obtain ⟨b, off, rfl, _, hcell⟩ := hc (by omega)
      have hx := hcell k (by omega)
      have hfl := fold_lt (bs.take k) f hf
      have R : Hid (_ = _) := fold_take f k bs (by omega)
      have hcb := (bs[k]'(by omega)).toNat_lt
      generalize bs[k]'(by omega) = u at hx R hcb
      generalize fold f (bs.take k) = word at hfl R ⊢
      clear hcell hc hl
      go_wp2_with fail
      refine (step_any word u _ hfl).mono ?_
      rintro e w' ⟨rfl, rfl⟩
      go_wp2
      go_round
      case rel => exact ⟨k + 1, by omega, by go_num, by rw [← R.out]⟩
      case measure => simp [intOf]; omega
    · obtain rfl : k = n := by omega
      have e : bs.take k = bs := List.take_of_length_le (by omega)
      rw [e]
      have hG := flip_bits _ (fold_lt bs f hf)
      clear hc hl e
      go_wp2
      go_ret
      exact ⟨rfl, rfl⟩

theorem refsum_any (A : Option Addr) (n c B : Nat) (bs : List UInt8) (w : World) (h : Holds w B A n bs) (hm : n ≤ maxLen) :
    Calls Try.prog 88 #[.slice A n c] w fun e w' => e = .returned (.int .u32 (sum bs : Int)) ∧ w = w' := by
  have H := Lib.hid h
  clear h
  go_enter Try.func88, Try.ntmps88
  go_wp2_with fail
  refine (refmore_any 0 A n c B bs _ (by omega) H.out hm).mono ?_
  rintro e w' ⟨rfl, rfl⟩
  go_wp2
  go_ret
  exact ⟨rfl, rfl⟩
end Go.Proofs.Ytbmbolgmeehloaa.Crc
