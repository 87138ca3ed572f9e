/- Contracts of numbers as bytes and bytes as numbers, the program's and the document's, for every number, count and list; and what an append onto a slice of the call's own does. -/
import Derived.Test.YtbmbolgmeehloaaSums
import Derived.OwnWalk
import Derived.Maps.AppendAt
namespace Go.Proofs.Ytbmbolgmeehloaa.Crc
set_option maxRecDepth 20000
open Go.RowKit
open Go.Proofs.Ytbmbolgmeehloaa.Mem

/-- The number of the first k bytes, as both loops make it. -/
def numAt (bs : List UInt8) : Nat → Nat
  | 0 => 0
  | k + 1 => numAt bs k ||| (bs.getD k 0).toNat * 2 ^ (8 * k)

theorem numAt_lt (bs : List UInt8) : ∀ k, numAt bs k < 2 ^ (8 * k)
  | 0 => by simp [numAt]
  | k + 1 => by
    have h := numAt_lt bs k
    have hc := (bs.getD k 0).toNat_lt
    have e : 8 * (k + 1) = 8 * k + 8 := by omega
    refine Nat.or_lt_two_pow (Nat.lt_of_lt_of_le h (Nat.pow_le_pow_right (by omega) (by omega))) ?_
    rw [e, Nat.pow_add, Nat.mul_comm]
    exact Nat.mul_lt_mul_of_pos_left (by omega) (Nat.pow_pos (by omega))

theorem number_step (bs : List UInt8) (k : Nat) (u : UInt8) (hk : k < 8) (hu : bs.getD k 0 = u) :
    Value.int .u64 (bits .or .u64 (numAt bs k : Int) (IntKind.u64.wrap ((u.toNat : Int) * 2 ^ (8 * k)))) = .int .u64 (numAt bs (k + 1) : Int) := by
  have hc := u.toNat_lt
  have hn := numAt_lt bs k
  have h1 : u.toNat * 2 ^ (8 * k) < 18446744073709551616 := by
    have hp : 2 ^ (8 * k) ≤ 2 ^ 56 := Nat.pow_le_pow_right (by omega) (by omega)
    have := Nat.mul_le_mul (show u.toNat ≤ 255 by omega) hp
    omega
  have h2 : numAt bs k < 18446744073709551616 := Nat.lt_of_lt_of_le hn (Nat.le_trans (Nat.pow_le_pow_right (n := 2) (by omega) (show 8 * k ≤ 64 by omega)) (by omega))
  have e : ((u.toNat : Int) * 2 ^ (8 * k)) = ((u.toNat * 2 ^ (8 * k) : Nat) : Int) := by simp
  have hw : IntKind.u64.wrap ((u.toNat * 2 ^ (8 * k) : Nat) : Int) = ((u.toNat * 2 ^ (8 * k) : Nat) : Int) := by
    rw [IntKind.wrap_u64]; omega
  rw [e, hw, u64_or_nat _ _ h2 h1]
  show _ = Value.int .u64 ((numAt bs k ||| (bs.getD k 0).toNat * 2 ^ (8 * k) : Nat) : Int)
  rw [hu]

theorem number_long (A : Option Addr) (n c : Nat) (w : World) (h : 8 < n) (hm : n ≤ maxLen) :
    Calls Try.prog 84 #[.slice A n c] w fun e w' => e = .returned (.tuple #[.int .u64 0, .bool false]) ∧ w = w' := by
  unfold maxLen at hm
  have h8 : (8 : Int) < (n : Int) := by omega
  go_enter Try.func84, Try.ntmps84
  go_wp2
  go_ret2
  exact ⟨rfl, rfl⟩
theorem refnumber_long (A : Option Addr) (n c : Nat) (w : World) (h : 8 < n) (hm : n ≤ maxLen) :
    Calls Try.prog 93 #[.slice A n c] w fun e w' => e = .returned (.tuple #[.int .u64 0, .bool false]) ∧ w = w' := by
  unfold maxLen at hm
  have h8 : (8 : Int) < (n : Int) := by omega
  go_enter Try.func93, Try.ntmps93
  go_wp2
  go_ret2
  exact ⟨rfl, rfl⟩

set_option maxRecDepth 100000 in
theorem number_any (A : Option Addr) (n c B : Nat) (bs : List UInt8) (w : World) (h : Holds w B A n bs) (hm : n ≤ 8) :
    Calls Try.prog 84 #[.slice A n c] w fun e w' => e = .returned (.tuple #[.int .u64 (numAt bs n : Int), .bool true]) ∧ w = w' := by
  have h8 : ¬ ((8 : Int) < (n : Int)) := by omega
  go_enter Try.func84, Try.ntmps84
  go_wp2
  go_loop [4, 5, 6, 12] (fun v _ _ i => ∃ k : Nat, k ≤ n ∧ i = .int .i64 k ∧ v = .int .u64 (numAt bs k : Int)) (fun _ _ _ i => n - (intOf i).toNat)
  case atStart => exact ⟨0, by omega, rfl, rfl⟩
  case round =>
    obtain ⟨k, hk, rfl, rfl⟩ := hrel
    obtain ⟨hl, hc⟩ := h
    by_cases hlt : k < n
    · obtain ⟨b, off, rfl, _, hcell⟩ := hc (by omega)
      have hx := hcell k (by omega)
      obtain ⟨u, he⟩ : ∃ u, bs[k]'(by omega) = u := ⟨_, rfl⟩
      rw [he] at hx
      have hcb := u.toNat_lt
      have R : Hid (_ = _) := number_step bs k u (by omega) (by rw [← he]; simp [List.getD, List.getElem?_eq_getElem (show k < bs.length by omega)])
      clear hcell hc hl he
      go_wp2
      go_round
      case rel => exact ⟨k + 1, by omega, by go_num, R.out⟩
      case measure => simp [intOf]; omega
    · obtain rfl : k = n := by omega
      go_wp2
      go_ret2
      exact ⟨rfl, rfl⟩

set_option maxRecDepth 100000 in
theorem refnumber_any (A : Option Addr) (n c B : Nat) (bs : List UInt8) (w : World) (h : Holds w B A n bs) (hm : n ≤ 8) :
    Calls Try.prog 93 #[.slice A n c] w fun e w' => e = .returned (.tuple #[.int .u64 (numAt bs n : Int), .bool true]) ∧ w = w' := by
  have h8 : ¬ ((8 : Int) < (n : Int)) := by omega
  go_enter Try.func93, Try.ntmps93
  go_wp2
  go_loop [4, 5] (fun v i => ∃ k : Nat, k ≤ n ∧ i = .int .i64 k ∧ v = .int .u64 (numAt bs k : Int)) (fun _ i => n - (intOf i).toNat)
  case atStart => exact ⟨0, by omega, rfl, rfl⟩
  case round =>
    obtain ⟨k, hk, rfl, rfl⟩ := hrel
    obtain ⟨hl, hc⟩ := h
    by_cases hlt : k < n
    · obtain ⟨b, off, rfl, _, hcell⟩ := hc (by omega)
      have hx := hcell k (by omega)
      obtain ⟨u, he⟩ : ∃ u, bs[k]'(by omega) = u := ⟨_, rfl⟩
      rw [he] at hx
      have hcb := u.toNat_lt
      have R : Hid (_ = _) := number_step bs k u (by omega) (by rw [← he]; simp [List.getD, List.getElem?_eq_getElem (show k < bs.length by omega)])
      clear hcell hc hl he
      go_wp2
      go_round
      case rel => exact ⟨k + 1, by omega, by go_num, R.out⟩
      case measure => simp [intOf]; omega
    · obtain rfl : k = n := by omega
      go_wp2
      go_ret2
      exact ⟨rfl, rfl⟩

/-! ### Bytes -/
def byteN (v j : Nat) : UInt8 := UInt8.ofNat (v / 2 ^ (8 * j))
def bytesL (v L : Nat) : List UInt8 := (List.range L).map (byteN v)
def bAt (v L i : Nat) : Array Value := partly (fun j => byteV (byteN v j)) (.int .u8 0) L i
theorem bAt_full (v L : Nat) : bAt v L L = ((bytesL v L).map byteV).toArray := by
  apply Array.ext_getElem?
  intro j
  by_cases hj : j < L
  · rw [bAt, partly_get _ _ L L j hj hj]
    simp [bytesL, hj]
  · rw [Array.getElem?_eq_none (by rw [bAt, partly_size]; omega), Array.getElem?_eq_none (by simp [bytesL]; omega)]
theorem byteN_val (v j : Nat) : ((byteN v j).toNat : Int) = (v : Int) / 2 ^ (8 * j) % 256 := by
  simp [byteN]

theorem bytes_round (v L k : Nat) (hk : k < L) : (bAt v L k).setIfInBounds k (.int .u8 ((v : Int) / 2 ^ (8 * k) % 256)) = bAt v L (k + 1) := by
  have h := partly_set (fun j => byteV (byteN v j)) (.int .u8 0) L k hk
  unfold byteV at h
  rw [byteN_val] at h
  exact h

set_option maxRecDepth 100000 in
theorem bytes_any (v : Nat) (n : Int) (w : World) (L : Nat) (hL : (L : Int) = min (max n 0) 8) (h1 : -9223372036854775808 ≤ n) (h2 : n ≤ 9223372036854775807) :
    Calls Try.prog 99 #[.int .u64 (v : Int), .int .i64 n] w fun e w' => e = .returned (.slice (some ⟨w.heap.size, 0, none⟩) L L) ∧ w.alloc (.cells (bAt v L L) 5) = w' := by
  obtain ⟨i0, hi, hz0, hz1, hz2⟩ := info_parts info_u8
  have mk : ∀ x : Int, x = min (max n 0) 8 → ∀ W, (Instr.makeSlice 33 (.int .i64 x) (.int .i64 x)).run Try.prog W = .ok (.slice (some ⟨W.heap.size, 0, none⟩) L L) (W.alloc (.cells (bAt v L 0) 5)) := by
    intro x hx W
    have h := run_make (P := Try.prog) W 33 5 i0 (.int .u8 0) Try.underlying33 hi hz0 .i64 .i64 x x (by omega) (Int.le_refl _) (by rw [hz2]; omega) (by omega)
    rw [show x.toNat = L by omega] at h
    simp only [hz1, Nat.mul_one] at h
    rw [h, bAt, ← partly_zero]
    congr 3
    exact Array.toList_inj.1 ((toList_madeCells_one _ _).trans (Array.toList_replicate).symm)
  have H := Lib.hid mk
  clear mk hi hz0 hz1 hz2
  have HL := Lib.hid hL
  have hL8 : L ≤ 8 := by omega
  clear hL
  rcases Int.lt_or_le n 0 with hn | hn
  · have hmk := H.out 0 (by omega)
    clear H HL
    go_enter Try.func99, Try.ntmps99
    go_wp2
    go_loopw [6, 13] (fun _ i wr => ∃ k : Nat, k ≤ L ∧ i = .int .i64 k ∧ wr = w.alloc (.cells (bAt v L k) 5)) (fun _ i _ => L - (intOf i).toNat)
    case atStart => exact ⟨0, by omega, rfl, rfl⟩
    case round =>
      obtain ⟨k, hk, rfl, rfl⟩ := hrel
      by_cases hlt : k < L
      · have hsz : (bAt v L k).size = L := partly_size _ _ L k
        have R : Hid (_ = _) := bytes_round v L k hlt
        go_wp2
        go_roundw
        case rel => exact ⟨k + 1, by omega, by go_num, by rw [← R.out]⟩
        case measure => simp [intOf]; omega
      · obtain rfl : k = L := by omega
        go_wp2
        go_ret
        exact ⟨rfl, rfl⟩
  · rcases Int.lt_or_le 8 n with hn8 | hn8
    · have hmk := H.out 8 (by omega)
      clear H HL
      go_enter Try.func99, Try.ntmps99
      go_wp2
      go_loopw [6, 13] (fun _ i wr => ∃ k : Nat, k ≤ L ∧ i = .int .i64 k ∧ wr = w.alloc (.cells (bAt v L k) 5)) (fun _ i _ => L - (intOf i).toNat)
      case atStart => exact ⟨0, by omega, rfl, rfl⟩
      case round =>
        obtain ⟨k, hk, rfl, rfl⟩ := hrel
        by_cases hlt : k < L
        · have hsz : (bAt v L k).size = L := partly_size _ _ L k
          have R : Hid (_ = _) := bytes_round v L k hlt
          go_wp2
          go_roundw
          case rel => exact ⟨k + 1, by omega, by go_num, by rw [← R.out]⟩
          case measure => simp [intOf]; omega
        · obtain rfl : k = L := by omega
          go_wp2
          go_ret
          exact ⟨rfl, rfl⟩
    · have hmk := H.out n (by omega)
      clear H HL
      go_enter Try.func99, Try.ntmps99
      go_wp2
      go_loopw [6, 13] (fun _ i wr => ∃ k : Nat, k ≤ L ∧ i = .int .i64 k ∧ wr = w.alloc (.cells (bAt v L k) 5)) (fun _ i _ => L - (intOf i).toNat)
      case atStart => exact ⟨0, by omega, rfl, rfl⟩
      case round =>
        obtain ⟨k, hk, rfl, rfl⟩ := hrel
        by_cases hlt : k < L
        · have hsz : (bAt v L k).size = L := partly_size _ _ L k
          have R : Hid (_ = _) := bytes_round v L k hlt
          go_wp2
          go_roundw
          case rel => exact ⟨k + 1, by omega, by go_num, by rw [← R.out]⟩
          case measure => simp [intOf]; omega
        · obtain rfl : k = L := by omega
          go_wp2
          go_ret
          exact ⟨rfl, rfl⟩
theorem byteN_cell (v k : Nat) : Value.int .u8 ((v : Int) / 2 ^ (8 * k) % 256) = byteV (byteN v k) := by unfold byteV; rw [byteN_val]
theorem bytesL_len (v L : Nat) : (bytesL v L).length = L := by simp [bytesL]
theorem bytesL_snoc (v k : Nat) : bytesL v (k + 1) = bytesL v k ++ [byteN v k] := by simp [bytesL, List.range_succ]


set_option maxRecDepth 100000 in
theorem refbytes_any (v : Nat) (n : Int) (w : World) (L : Nat) (hL : (L : Int) = min (max n 0) 8) (h1 : -9223372036854775808 ≤ n) (h2 : n ≤ 9223372036854775807) :
    Calls Try.prog 87 #[.int .u64 (v : Int), .int .i64 n] w fun e w' => ∃ sv, e = .returned sv ∧ Owned w' w.heap.size sv (bytesL v L) ∧ Below w.heap.size w w' := by
  obtain ⟨i0, hi, hz0, hz1, hz2⟩ := info_parts info_u8
  have hL8 : L ≤ 8 := by omega
  have HL := Lib.hid hL
  clear hL
  go_enter Try.func87, Try.ntmps87
  go_wp2
  go_loopw [5, 6] (fun sv i wr => ∃ k : Nat, k ≤ L ∧ i = .int .i64 k ∧ Owned wr w.heap.size sv (bytesL v k) ∧ Below w.heap.size w wr) (fun _ i _ => L - (intOf i).toNat)
  case atStart => exact ⟨0, by omega, rfl, World.ownsRow_nil w _ _ _, Below.refl _ _⟩
  case round =>
    obtain ⟨k, hk, rfl, hown, hb⟩ := hrel
    by_cases hlt : k < L
    · have q1 : (k : Int) < n := by have := HL.out; omega
      have q2 : (k : Int) < 8 := by omega
      have HO := Lib.hid hown
      clear hown
      go_wp2_with (at_builtin; refine wpList_addone rfl _ _ rfl w.heap.size u5 (bytesL v k) rfl HO.out (byteN v k) _ (byteN_cell v k) rfl ?c1 ?c2 ?_)
      case c1 => rw [bytesL_len]; omega
      case c2 => exact hb.size
      intro sv w1 hown1 hb1
      have HO1 := Lib.hid hown1
      clear hown1
      go_wp2
      go_roundw
      case rel => exact ⟨k + 1, by omega, by go_num, by rw [bytesL_snoc]; exact HO1.out, hb.trans hb1⟩
      case measure => simp [intOf]; omega
    · obtain rfl : k = L := by omega
      by_cases q2 : k < 8
      · have q1 : n ≤ (k : Int) := by have := HL.out; omega
        go_wp2
        go_ret
        exact ⟨_, rfl, hown, hb⟩
      · have q3 : ¬ k < 8 := q2
        by_cases q1 : (k : Int) < n
        · go_wp2
          go_ret
          exact ⟨_, rfl, hown, hb⟩
        · go_wp2
          go_ret
          exact ⟨_, rfl, hown, hb⟩
end Go.Proofs.Ytbmbolgmeehloaa.Crc
