/- Contracts of numbers as bytes and bytes as numbers, the program's and the document's, for every number, count and list; and what an append onto a slice of the call's own does. -/
import Derived.Test.YtemkdnakkdnbhaaSums
import Derived.OwnWalk
import Derived.Maps.AppendAt
namespace Go.Proofs.Ytemkdnakkdnbhaa.Crc
open Go.RowKit

/-- The number of the first k bytes, as both loops make it. -/
def numAt (bs : List UInt8) : Nat → Nat
  | 0 => 0
  | k + 1 => numAt bs k ||| (bs.getD k 0).toNat * 2 ^ (8 * k)

theorem numAt_lt (bs : List UInt8) : ∀ k, numAt bs k < 2 ^ (8 * k)
  | 0 => by simp [numAt]
  | k + 1 => by
    have h := numAt_lt bs k
    have hc := (bs.getD k 0).toNat_lt
    have e : 8 * (k + 1) = 8 * k + 8 := by omega
    refine Nat.or_lt_two_pow (Nat.lt_of_lt_of_le h (Nat.pow_le_pow_right (by omega) (by omega))) ?_
    rw [e, Nat.pow_add, Nat.mul_comm]
    exact Nat.mul_lt_mul_of_pos_left (by omega) (Nat.pow_pos (by omega))

theorem number_step (bs : List UInt8) (k : Nat) (u : UInt8) (hk : k < 8) (hu : bs.getD k 0 = u) :
    Value.int .u64 (bits .or .u64 (numAt bs k : Int) (IntKind.u64.wrap ((u.toNat : Int) * 2 ^ (8 * k)))) = .int .u64 (numAt bs (k + 1) : Int) := by
  have hc := u.toNat_lt
  have hn := numAt_lt bs k
  have h1 : u.toNat * 2 ^ (8 * k) < 18446744073709551616 := by
    have hp : 2 ^ (8 * k) ≤ 2 ^ 56 := Nat.pow_le_pow_right (by omega) (by omega)
    have := Nat.mul_le_mul (show u.toNat ≤ 255 by omega) hp
    omega
  have h2 : numAt bs k < 18446744073709551616 := Nat.lt_of_lt_of_le hn (Nat.le_trans (Nat.pow_le_pow_right (n := 2) (by omega) (show 8 * k ≤ 64 by omega)) (by omega))
  have e : ((u.toNat : Int) * 2 ^ (8 * k)) = ((u.toNat * 2 ^ (8 * k) : Nat) : Int) := by simp
  have hw : IntKind.u64.wrap ((u.toNat * 2 ^ (8 * k) : Nat) : Int) = ((u.toNat * 2 ^ (8 * k) : Nat) : Int) := by
    rw [IntKind.wrap_u64]; omega
  rw [e, hw, u64_or_nat _ _ h2 h1]
  show _ = Value.int .u64 ((numAt bs k ||| (bs.getD k 0).toNat * 2 ^ (8 * k) : Nat) : Int)
  rw [hu]

theorem number_long (A : Option Addr) (n c : Nat) (w : World) (h : 8 < n) (hm : n ≤ maxLen) :
    Calls Try.prog 15 #[.slice A n c] w fun e w' => e = .returned (.tuple #[.int .u64 0, .bool false]) ∧ w = w' := by
  unfold maxLen at hm
  have h8 : (8 : Int) < (n : Int) := by omega
  go_enter Try.func15, Try.ntmps15
  go_wp2
  go_ret2
  exact ⟨rfl, rfl⟩
theorem refnumber_long (A : Option Addr) (n c : Nat) (w : World) (h : 8 < n) (hm : n ≤ maxLen) :
    Calls Try.prog 16 #[.slice A n c] w fun e w' => e = .returned (.tuple #[.int .u64 0, .bool false]) ∧ w = w' := by
  unfold maxLen at hm
  have h8 : (8 : Int) < (n : Int) := by omega
  go_enter Try.func16, Try.ntmps16
  go_wp2
  go_ret2
  exact ⟨rfl, rfl⟩

set_option maxRecDepth 100000 in
theorem number_any (A : Option Addr) (n c B : Nat) (bs : List UInt8) (w : World) (h : Holds w B A n bs) (hm : n ≤ 8) :
    Calls Try.prog 15 #[.slice A n c] w fun e w' => e = .returned (.tuple #[.int .u64 (numAt bs n : Int), .bool true]) ∧ w = w' := by
  have h8 : ¬ ((8 : Int) < (n : Int)) := by omega
  go_enter Try.func15, Try.ntmps15
  go_wp2
  go_loop [4, 5, 6, 12] (fun v _ _ i => ∃ k : Nat, k ≤ n ∧ i = .int .i64 k ∧ v = .int .u64 (numAt bs k : Int)) (fun _ _ _ i => n - (intOf i).toNat)
  case atStart => exact ⟨0, by omega, rfl, rfl⟩
  case round =>
    obtain ⟨k, hk, rfl, rfl⟩ := hrel
    obtain ⟨hl, hc⟩ := h
    by_cases hlt : k < n
    · obtain ⟨b, off, rfl, _, hcell⟩ := hc (by omega)
      have hx := hcell k (by omega)
      obtain ⟨u, he⟩ : ∃ u, bs[k]'(by omega) = u := ⟨_, rfl⟩
      rw [he] at hx
      have hcb := u.toNat_lt
      have R : Hid (_ = _) := number_step bs k u (by omega) (by rw [← he]; simp [List.getD, List.getElem?_eq_getElem (show k < bs.length by omega)])
      clear hcell hc hl he
      go_wp2
      go_round
      case rel => exact ⟨k + 1, by omega, by go_num, R.out⟩
      case measure => simp [intOf]; omega
    · obtain rfl : k = n := by omega
      go_wp2
      go_ret2
      exact ⟨rfl, rfl⟩

set_option maxRecDepth 100000 in
theorem refnumber_any (A : Option Addr) (n c B : Nat) (bs : List UInt8) (w : World) (h : Holds w B A n bs) (hm : n ≤ 8) :
    Calls Try.prog 16 #[.slice A n c] w fun e w' => e = .returned (.tuple #[.int .u64 (numAt bs n : Int), .bool true]) ∧ w = w' := by
  have h8 : ¬ ((8 : Int) < (n : Int)) := by omega
  go_enter Try.func16, Try.ntmps16
  go_wp2
  go_loop [4, 5] (fun v i => ∃ k : Nat, k ≤ n ∧ i = .int .i64 k ∧ v = .int .u64 (numAt bs k : Int)) (fun _ i => n - (intOf i).toNat)
  case atStart => exact ⟨0, by omega, rfl, rfl⟩
  case round =>
    obtain ⟨k, hk, rfl, rfl⟩ := hrel
    obtain ⟨hl, hc⟩ := h
    by_cases hlt : k < n
    · obtain ⟨b, off, rfl, _, hcell⟩ := hc (by omega)
      have hx := hcell k (by omega)
      obtain ⟨u, he⟩ : ∃ u, bs[k]'(by omega) = u := ⟨_, rfl⟩
      rw [he] at hx
      have hcb := u.toNat_lt
      have R : Hid (_ = _) := number_step bs k u (by omega) (by rw [← he]; simp [List.getD, List.getElem?_eq_getElem (show k < bs.length by omega)])
      clear hcell hc hl he
      go_wp2
      go_round
      case rel => exact ⟨k + 1, by omega, by go_num, R.out⟩
      case measure => simp [intOf]; omega
    · obtain rfl : k = n := by omega
      go_wp2
      go_ret2
      exact ⟨rfl, rfl⟩

/-! ### Bytes -/
/-- An array of n cells, the first i of them laid. -/
def part (f : Nat → Value) (z : Value) (n i : Nat) : Array Value := (List.ofFn (n := n) fun j => if j.val < i then f j.val else z).toArray
theorem part_size (f : Nat → Value) (z : Value) (n i : Nat) : (part f z n i).size = n := by simp [part]
theorem part_get (f : Nat → Value) (z : Value) (n i j : Nat) (h : j < i) (hi : j < n) : (part f z n i)[j]? = some (f j) := by
  simp [part, hi, h]
theorem part_set (f : Nat → Value) (z : Value) (n i : Nat) (h : i < n) : (part f z n i).setIfInBounds i (f i) = part f z n (i + 1) := by
  apply Array.ext_getElem?
  intro j
  rw [Array.getElem?_setIfInBounds, part_size]
  by_cases hj : i = j
  · subst hj
    rw [if_pos rfl, if_pos h, part_get f z n (i + 1) i (by omega) h]
  · rw [if_neg hj]
    by_cases hl : j < n
    · simp only [part, List.getElem?_toArray, List.getElem?_ofFn, hl]
      by_cases hji : j < i
      · simp [hji, show j < i + 1 by omega]
      · simp [hji, show ¬ j < i + 1 by omega]
    · rw [Array.getElem?_eq_none (by rw [part_size]; omega), Array.getElem?_eq_none (by rw [part_size]; omega)]
theorem part_zero (f : Nat → Value) (z : Value) (n : Nat) : Array.replicate n z = part f z n 0 := by
  apply Array.ext_getElem?
  intro j
  simp [part, Array.getElem?_replicate]
  split <;> simp_all

def byteN (v j : Nat) : UInt8 := UInt8.ofNat (v / 2 ^ (8 * j))
def byteV (c : UInt8) : Value := .int .u8 (c.toNat : Int)
def bytesL (v L : Nat) : List UInt8 := (List.range L).map (byteN v)
def bAt (v L i : Nat) : Array Value := part (fun j => byteV (byteN v j)) (.int .u8 0) L i
theorem bAt_full (v L : Nat) : bAt v L L = ((bytesL v L).map byteV).toArray := by
  apply Array.ext_getElem?
  intro j
  by_cases hj : j < L
  · rw [bAt, part_get _ _ L L j hj hj]
    simp [bytesL, hj]
  · rw [Array.getElem?_eq_none (by rw [bAt, part_size]; omega), Array.getElem?_eq_none (by simp [bytesL]; omega)]
theorem byteN_val (v j : Nat) : ((byteN v j).toNat : Int) = (v : Int) / 2 ^ (8 * j) % 256 := by
  simp [byteN]

theorem info_u8 : (Try.prog.info? 5).map (fun i => (i.zero, i.size, i.bytes)) = some (some (.int .u8 0), 1, 1) := by kernel_rfl

theorem bytes_round (v L k : Nat) (hk : k < L) : (bAt v L k).setIfInBounds k (.int .u8 ((v : Int) / 2 ^ (8 * k) % 256)) = bAt v L (k + 1) := by
  have h := part_set (fun j => byteV (byteN v j)) (.int .u8 0) L k hk
  unfold byteV at h
  rw [byteN_val] at h
  exact h

set_option maxRecDepth 100000 in
theorem bytes_any (v : Nat) (n : Int) (w : World) (L : Nat) (hL : (L : Int) = min (max n 0) 8) (h1 : -9223372036854775808 ≤ n) (h2 : n ≤ 9223372036854775807) :
    Calls Try.prog 18 #[.int .u64 (v : Int), .int .i64 n] w fun e w' => e = .returned (.slice (some ⟨w.heap.size, 0, none⟩) L L) ∧ w.alloc (.cells (bAt v L L) 5) = w' := by
  obtain ⟨i0, hi, hz0, hz1, hz2⟩ := info_parts info_u8
  have mk : ∀ x : Int, x = min (max n 0) 8 → ∀ W, (Instr.makeSlice 22 (.int .i64 x) (.int .i64 x)).run Try.prog W = .ok (.slice (some ⟨W.heap.size, 0, none⟩) L L) (W.alloc (.cells (bAt v L 0) 5)) := by
    intro x hx W
    have h := run_make (P := Try.prog) W 22 5 i0 (.int .u8 0) Try.underlying22 hi hz0 .i64 .i64 x x (by omega) (Int.le_refl _) (by rw [hz2]; omega) (by omega)
    rw [show x.toNat = L by omega] at h
    simp only [hz1, Nat.mul_one] at h
    rw [h, bAt, ← part_zero]
    congr 3
    exact Array.toList_inj.1 ((toList_madeCells_one _ _).trans (Array.toList_replicate).symm)
  have H := Lib.hid mk
  clear mk hi hz0 hz1 hz2
  have HL := Lib.hid hL
  have hL8 : L ≤ 8 := by omega
  clear hL
  rcases Int.lt_or_le n 0 with hn | hn
  · have hmk := H.out 0 (by omega)
    clear H HL
    go_enter Try.func18, Try.ntmps18
    go_wp2
    go_loopw [6, 13] (fun _ i wr => ∃ k : Nat, k ≤ L ∧ i = .int .i64 k ∧ wr = w.alloc (.cells (bAt v L k) 5)) (fun _ i _ => L - (intOf i).toNat)
    case atStart => exact ⟨0, by omega, rfl, rfl⟩
    case round =>
      obtain ⟨k, hk, rfl, rfl⟩ := hrel
      by_cases hlt : k < L
      · have hsz : (bAt v L k).size = L := part_size _ _ L k
        have R : Hid (_ = _) := bytes_round v L k hlt
        go_wp2
        go_roundw
        case rel => exact ⟨k + 1, by omega, by go_num, by rw [← R.out]⟩
        case measure => simp [intOf]; omega
      · obtain rfl : k = L := by omega
        go_wp2
        go_ret
        exact ⟨rfl, rfl⟩
  · rcases Int.lt_or_le 8 n with hn8 | hn8
    · have hmk := H.out 8 (by omega)
      clear H HL
      go_enter Try.func18, Try.ntmps18
      go_wp2
      go_loopw [6, 13] (fun _ i wr => ∃ k : Nat, k ≤ L ∧ i = .int .i64 k ∧ wr = w.alloc (.cells (bAt v L k) 5)) (fun _ i _ => L - (intOf i).toNat)
      case atStart => exact ⟨0, by omega, rfl, rfl⟩
      case round =>
        obtain ⟨k, hk, rfl, rfl⟩ := hrel
        by_cases hlt : k < L
        · have hsz : (bAt v L k).size = L := part_size _ _ L k
          have R : Hid (_ = _) := bytes_round v L k hlt
          go_wp2
          go_roundw
          case rel => exact ⟨k + 1, by omega, by go_num, by rw [← R.out]⟩
          case measure => simp [intOf]; omega
        · obtain rfl : k = L := by omega
          go_wp2
          go_ret
          exact ⟨rfl, rfl⟩
    · have hmk := H.out n (by omega)
      clear H HL
      go_enter Try.func18, Try.ntmps18
      go_wp2
      go_loopw [6, 13] (fun _ i wr => ∃ k : Nat, k ≤ L ∧ i = .int .i64 k ∧ wr = w.alloc (.cells (bAt v L k) 5)) (fun _ i _ => L - (intOf i).toNat)
      case atStart => exact ⟨0, by omega, rfl, rfl⟩
      case round =>
        obtain ⟨k, hk, rfl, rfl⟩ := hrel
        by_cases hlt : k < L
        · have hsz : (bAt v L k).size = L := part_size _ _ L k
          have R : Hid (_ = _) := bytes_round v L k hlt
          go_wp2
          go_roundw
          case rel => exact ⟨k + 1, by omega, by go_num, by rw [← R.out]⟩
          case measure => simp [intOf]; omega
        · obtain rfl : k = L := by omega
          go_wp2
          go_ret
          exact ⟨rfl, rfl⟩
/-- A slice that the call has made itself: it owns its row, which reads as these bytes. -/
def Owned (w : World) (base : Nat) (v : Value) (bs : List UInt8) : Prop := w.ownsRow base 5 1 v bs.length (bs.map byteV)

theorem byteN_cell (v k : Nat) : Value.int .u8 ((v : Int) / 2 ^ (8 * k) % 256) = byteV (byteN v k) := by unfold byteV; rw [byteN_val]
theorem bytesL_len (v L : Nat) : (bytesL v L).length = L := by simp [bytesL]
theorem bytesL_snoc (v k : Nat) : bytesL v (k + 1) = bytesL v k ++ [byteN v k] := by simp [bytesL, List.range_succ]


theorem Owned.base_le {w : World} {base : Nat} {v : Value} {bs : List UInt8} (h : Owned w base v bs) : ∀ k, v.ownBlock = some k → base ≤ k := fun k hk => (World.ownsRow.lt h k hk).1
theorem Owned.keep {w w' : World} {base B : Nat} {v : Value} {bs : List UInt8} (h : Owned w base v bs) (hb : Below B w w') (hB : w.heap.size ≤ B) : Owned w' base v bs := by
  obtain ⟨h1, h2⟩ := h
  refine ⟨h1, ?_⟩
  rcases h2 with h2 | ⟨g, cap, cur, e, hg, hh, r⟩
  · exact .inl h2
  · have hlt : g < w.heap.size := (Array.getElem?_eq_some_iff.1 hh).1
    exact .inr ⟨g, cap, cur, e, hg, (hb.block g (by omega)).trans hh, r⟩
theorem Owned.holds {w : World} {base : Nat} {v : Value} {bs : List UInt8} (h : Owned w base v bs) : ∃ A c, v = .slice A bs.length c ∧ Holds w w.heap.size A bs.length bs := by
  have h0 := h
  obtain ⟨h1, h2⟩ := h
  rcases h2 with ⟨rfl, hn⟩ | ⟨g, cap, cur, rfl, hg, hh, hc, _, hs, ht⟩
  · exact ⟨none, 0, by rw [hn], rfl, fun h => absurd h (by omega)⟩
  · refine ⟨_, _, rfl, rfl, fun _ => ⟨g, 0, rfl, (Array.getElem?_eq_some_iff.1 hh).1, fun j hj => ?_⟩⟩
    rw [Nat.zero_add, World.ownsRow.cellAt h0 j (by omega)]
    simp [hj, byteV]
/-- A row of the call's own that isn't empty: its block, and that a place of it can be written. -/
theorem Owned.row {w : World} {base : Nat} {v : Value} {bs : List UInt8} (h : Owned w base v bs) (hn : 0 < bs.length) :
    ∃ g cap, v = .slice (some ⟨g, 0, none⟩) bs.length cap ∧ base ≤ g ∧ g < w.heap.size ∧ bs.length ≤ cap ∧ ∀ k, (hk : k < bs.length) → w.cell? ⟨g, k, none⟩ = some (byteV bs[k]) ∧ w.frozen? ⟨g, k, none⟩ = false ∧
      ∀ u : UInt8, Owned (w.setCell ⟨g, k, none⟩ (byteV u)) base v (bs.set k u) ∧ Below base w (w.setCell ⟨g, k, none⟩ (byteV u)) := by
  have h0 := h
  obtain ⟨h1, h2⟩ := h
  rcases h2 with ⟨rfl, hz⟩ | ⟨g, cap, cur, rfl, hg, hh, hc, _, hs, ht⟩
  · omega
  · refine ⟨g, cap, rfl, hg, (Array.getElem?_eq_some_iff.1 hh).1, hc, fun k hk => ⟨?_, World.ownsRow.frozenAt h0 k, fun u => ?_⟩⟩
    · rw [World.ownsRow.cellAt h0 k (by omega)]
      simp [hk]
    · obtain ⟨h3, h4⟩ := World.ownsRow.stored h0 k (byteV u)
      refine ⟨?_, (Below.refl base w).setCell hg _⟩
      unfold Owned
      rw [List.length_set, List.map_set]
      exact h3
theorem owned_made (w : World) (bs : List UInt8) (base : Nat) (hb : base ≤ w.heap.size) (hm : bs.length ≤ maxLen) :
    Owned (w.alloc (.cells (bs.map byteV).toArray 5)) base (.slice (some ⟨w.heap.size, 0, none⟩) bs.length bs.length) bs := by
  have h := World.ownsRow_lit (e := 5) (size := 1) w (bs.map byteV).toArray bs.length hb hm (by simp)
  simpa [Owned] using h

theorem run_addall (w : World) (ty : TypeId) (base : Nat) (v : Value) (bs : List UInt8) (hown : Owned w base v bs) (B : Nat) (A : Option Addr) (m c : Nat) (ys : List UInt8) (hr : Holds w B A m ys)
    (hlen : bs.length + m ≤ 140737488355328) (hbase : base ≤ w.heap.size) :
    ∃ v' w', (Builtin.append_ #[22, 22] ty #[v, .slice A m c]).run Try.prog w = .ok v' w' ∧ Owned w' base v' (bs ++ ys) ∧ Below base w w' := by
  obtain ⟨i0, hi, hz0, hz1, hz2⟩ := info_parts info_u8
  obtain ⟨hl, hc⟩ := hr
  have hlt := Owned.base_le hown
  rcases A with _ | ad
  · have hm : m = 0 := by
      rcases Nat.eq_zero_or_pos m with h0 | h0
      · exact h0
      · obtain ⟨b, off, e, _⟩ := hc h0; cases e
    subst hm
    obtain rfl : ys = [] := List.eq_nil_of_length_eq_zero hl
    refine ⟨v, w, ?_, by simpa using hown, Below.refl _ _⟩
    rcases hown.2 with ⟨rfl, _⟩ | ⟨g, cap, cur, rfl, _, _, hnc, _⟩
    · simp [Builtin.append_, run_underlying Try.underlying22, sizeOf, typeInfo, hi, Builtin.lenOf, Builtin.firstCells]
    · simp [Builtin.append_, run_underlying Try.underlying22, sizeOf, typeInfo, hi, Builtin.lenOf, Builtin.firstCells, hnc, storeCells]
  · have hcells : ∀ j u, (ys.map byteV)[j]? = some u → w.cell? (ad.add j) = some u := by
      intro j u hu
      have hj : j < ys.length := by
        rcases Nat.lt_or_ge j ys.length with h | h
        · exact h
        · rw [List.getElem?_eq_none (by simpa using h)] at hu; cases hu
      obtain ⟨b, off, e, _, hcell⟩ := hc (by omega)
      injection e with e
      subst e
      have hadd : (⟨b, off, none⟩ : Addr).add j = ⟨b, off + j, none⟩ := by unfold Addr.add; split <;> simp_all
      rw [hadd, hcell j hj]
      simpa [byteV, hj] using hu
    obtain ⟨v', w', hrun, h2, h3, _⟩ := run_append_own_at (P := Try.prog) w base 22 ty 5 i0 (.int .u8 0) 1 1 Try.underlying22 hi hz0 hz1 hz2 rfl (by decide) v bs.length (bs.map byteV) hown ad m c (ys.map byteV) (by simp; omega) hcells
      (by intro u hu; obtain ⟨c, _, rfl⟩ := List.mem_map.1 hu; rfl) (by unfold maxLen; omega) (by omega) hbase
    refine ⟨v', w', hrun, ?_, (Below.refl base w).grown h3 hbase hlt⟩
    unfold Owned
    rw [List.length_append, List.map_append, hl]
    exact h2

/-- 'append(s, x...)' where s is the call's own and x reads as bytes. -/
theorem wpList_addall {w : World} {ops : Array Oper} {rest : List Oper} {o : Oper} {a : Act} {Q : Exit → Act → World → Prop} (hgd : o.guard = none) (s x : Operand)
    (ho : o.op = .call { callee := .builtin .append, args := #[s, x], argTypes := #[22, 22] })
    (base : Nat) (v : Value) (bs : List UInt8) (hs : a.eval s = v) (hown : Owned w base v bs) (B : Nat) (A : Option Addr) (m c : Nat) (ys : List UInt8) (hx : a.eval x = .slice A m c) (hr : Holds w B A m ys)
    (hlen : bs.length + m ≤ 140737488355328) (hbase : base ≤ w.heap.size)
    (h : ∀ v' w', Owned w' base v' (bs ++ ys) → Below base w w' → wpList Try.prog ops Q rest (a.put o.dst v') w') : wpList Try.prog ops Q (o :: rest) a w := by
  refine wpList_plain hgd fun K hK => ?_
  obtain ⟨v', w', hrun, h2, h3⟩ := run_addall w o.type base v bs hown B A m c ys hr hlen hbase
  unfold Oper.wp execOp
  simp only [ho, resolve, invoke, builtin, Sem.run_bind, Sem.run_pure, Result.andThen_ok, List.map_toArray, List.map_cons, List.map_nil, hs, hx, hrun]
  exact hK _ _ (h v' w' h2 h3)

/-- The same as one step of a statement that draws its order. -/
theorem step_addall {w : World} {ops : Array Oper} {o : Oper} {a : Act} {K : Act → World → Prop} {Q : Exit → Act → World → Prop} {E : Prop} (hgd : o.guard = none) (s x : Operand)
    (ho : o.op = .call { callee := .builtin .append, args := #[s, x], argTypes := #[22, 22] })
    (base : Nat) (v : Value) (bs : List UInt8) (hs : a.eval s = v) (hown : Owned w base v bs) (B : Nat) (A : Option Addr) (m c : Nat) (ys : List UInt8) (hx : a.eval x = .slice A m c) (hr : Holds w B A m ys)
    (hlen : bs.length + m ≤ 140737488355328) (hbase : base ≤ w.heap.size)
    (h : ∀ v' w', Owned w' base v' (bs ++ ys) → Below base w w' → K (a.put o.dst v') w') : if Region.wanted o (yielded ops a.tmps) = true then Oper.wp Try.prog o a w K Q else E := by
  have hw : Region.wanted o (yielded ops a.tmps) = true := by simp [Region.wanted, hgd]
  rw [if_pos hw]
  obtain ⟨v', w', hrun, h2, h3⟩ := run_addall w o.type base v bs hown B A m c ys hr hlen hbase
  unfold Oper.wp execOp
  simp only [ho, resolve, invoke, builtin, Sem.run_bind, Sem.run_pure, Result.andThen_ok, List.map_toArray, List.map_cons, List.map_nil, hs, hx, hrun]
  exact h v' w' h2 h3

/-- 'append(s, c)': c was laid in a block of its own first. -/
theorem wpList_addone {w : World} {ops : Array Oper} {rest : List Oper} {o : Oper} {a : Act} {Q : Exit → Act → World → Prop} (hgd : o.guard = none) (s x : Operand)
    (ho : o.op = .call { callee := .builtin .append, args := #[s, x], argTypes := #[22, 22] })
    (base : Nat) (v : Value) (bs : List UInt8) (hs : a.eval s = v) (hown : Owned w base v bs) (u : UInt8) (U : Value) (hU : U = byteV u) (hx : a.eval x = .slice (some ⟨w.heap.size, 0, none⟩) 1 1)
    (hlen : bs.length + 1 ≤ 140737488355328) (hbase : base ≤ w.heap.size)
    (h : ∀ v' w', Owned w' base v' (bs ++ [u]) → Below base w w' → wpList Try.prog ops Q rest (a.put o.dst v') w') : wpList Try.prog ops Q (o :: rest) a (w.alloc (.cells #[U] 5)) := by
  subst hU
  have hc : (w.alloc (.cells #[byteV u] 5)).cell? ⟨w.heap.size, 0, none⟩ = some (byteV u) := by
    rw [cell_of_row _ _ _ _ _ _ (heap_alloc_new w _)]; rfl
  exact wpList_addall hgd s x ho base v bs hs (World.ownsRow.alloc hown _) (w.heap.size + 1) _ 1 1 [u] hx
    ⟨rfl, fun _ => ⟨w.heap.size, 0, rfl, by omega, fun j hj => by
      have : j = 0 := by simpa using hj
      subst this; exact hc⟩⟩ hlen (by simp; omega) (fun v' w' h1 h2 => h v' w' h1 (((Below.refl base w).alloc hbase _).trans h2))

/-- The same behind the draw of a statement whose order is open. -/
theorem step_addone {w : World} {ops : Array Oper} {o : Oper} {a : Act} {K : Act → World → Prop} {Q : Exit → Act → World → Prop} {E : Prop} (hgd : o.guard = none) (s x : Operand)
    (ho : o.op = .call { callee := .builtin .append, args := #[s, x], argTypes := #[22, 22] })
    (base : Nat) (v : Value) (bs : List UInt8) (hs : a.eval s = v) (hown : Owned w base v bs) (u : UInt8) (U : Value) (hU : U = byteV u) (hx : a.eval x = .slice (some ⟨w.heap.size, 0, none⟩) 1 1)
    (hlen : bs.length + 1 ≤ 140737488355328) (hbase : base ≤ w.heap.size)
    (h : ∀ v' w', Owned w' base v' (bs ++ [u]) → Below base w w' → K (a.put o.dst v') w') :
    if Region.wanted o (yielded ops a.tmps) = true then Oper.wp Try.prog o a (w.alloc (.cells #[U] 5)).drew K Q else E := by
  subst hU
  have hc : (w.alloc (.cells #[byteV u] 5)).drew.cell? ⟨w.heap.size, 0, none⟩ = some (byteV u) := by
    show (w.alloc (.cells #[byteV u] 5)).cell? _ = _
    rw [cell_of_row _ _ _ _ _ _ (heap_alloc_new w _)]; rfl
  have hown' : Owned (w.alloc (.cells #[byteV u] 5)).drew base v bs := World.ownsRow.alloc hown _
  exact step_addall hgd s x ho base v bs hs hown' (w.heap.size + 1) _ 1 1 [u] hx
    ⟨rfl, fun _ => ⟨w.heap.size, 0, rfl, by omega, fun j hj => by
      have : j = 0 := by simpa using hj
      subst this; exact hc⟩⟩ hlen (by show base ≤ (w.alloc _).heap.size; simp; omega) (fun v' w' h1 h2 => h v' w' h1 (((Below.refl base w).alloc hbase _).drew.trans h2))

set_option maxRecDepth 100000 in
theorem refbytes_any (v : Nat) (n : Int) (w : World) (L : Nat) (hL : (L : Int) = min (max n 0) 8) (h1 : -9223372036854775808 ≤ n) (h2 : n ≤ 9223372036854775807) :
    Calls Try.prog 19 #[.int .u64 (v : Int), .int .i64 n] w fun e w' => ∃ sv, e = .returned sv ∧ Owned w' w.heap.size sv (bytesL v L) ∧ Below w.heap.size w w' := by
  obtain ⟨i0, hi, hz0, hz1, hz2⟩ := info_parts info_u8
  have hL8 : L ≤ 8 := by omega
  have HL := Lib.hid hL
  clear hL
  go_enter Try.func19, Try.ntmps19
  go_wp2
  go_loopw [5, 6] (fun sv i wr => ∃ k : Nat, k ≤ L ∧ i = .int .i64 k ∧ Owned wr w.heap.size sv (bytesL v k) ∧ Below w.heap.size w wr) (fun _ i _ => L - (intOf i).toNat)
  case atStart => exact ⟨0, by omega, rfl, World.ownsRow_nil w _ _ _, Below.refl _ _⟩
  case round =>
    obtain ⟨k, hk, rfl, hown, hb⟩ := hrel
    by_cases hlt : k < L
    · have q1 : (k : Int) < n := by have := HL.out; omega
      have q2 : (k : Int) < 8 := by omega
      have HO := Lib.hid hown
      clear hown
      go_wp2_with (at_builtin; refine wpList_addone rfl _ _ rfl w.heap.size u5 (bytesL v k) rfl HO.out (byteN v k) _ (byteN_cell v k) rfl ?c1 ?c2 ?_)
      case c1 => rw [bytesL_len]; omega
      case c2 => exact hb.size
      intro sv w1 hown1 hb1
      have HO1 := Lib.hid hown1
      clear hown1
      go_wp2
      go_roundw
      case rel => exact ⟨k + 1, by omega, by go_num, by rw [bytesL_snoc]; exact HO1.out, hb.trans hb1⟩
      case measure => simp [intOf]; omega
    · obtain rfl : k = L := by omega
      by_cases q2 : k < 8
      · have q1 : n ≤ (k : Int) := by have := HL.out; omega
        go_wp2
        go_ret
        exact ⟨_, rfl, hown, hb⟩
      · have q3 : ¬ k < 8 := q2
        by_cases q1 : (k : Int) < n
        · go_wp2
          go_ret
          exact ⟨_, rfl, hown, hb⟩
        · go_wp2
          go_ret
          exact ⟨_, rfl, hown, hb⟩
end Go.Proofs.Ytemkdnakkdnbhaa.Crc
