/- Maps of bits in memory: one bit is told, by the program and by the document; a byte of ones; how many ones and the lowest one of a byte. -/
import Derived.Test.YtnkiblifnknbkaaMem
import Derived.Test.YtnkiblifnknbkaaBtMath
import Derived.Laws.BitsAllLaws
namespace Go.Proofs.Ytnkiblifnknbkaa.Bits
set_option maxRecDepth 20000
open Go.RowKit
open Go.Proofs.Ytnkiblifnknbkaa.Mem Go.Proofs.Ytnkiblifnknbkaa.Bt

/-! ### Words for what is reckoned with bytes and numbers -/
def quoN (x y : Value) : Sem Value := binOp .quo 3 x y
theorem quoN_eq (x y : Value) : binOp .quo 3 x y = quoN x y := rfl
def remN (x y : Value) : Sem Value := binOp .rem 3 x y
theorem remN_eq (x y : Value) : binOp .rem 3 x y = remN x y := rfl
def shrB (x y : Value) : Sem Value := binOp .shr 5 x y
theorem shrB_eq (x y : Value) : binOp .shr 5 x y = shrB x y := rfl
def shlB (x y : Value) : Sem Value := binOp .shl 5 x y
theorem shlB_eq (x y : Value) : binOp .shl 5 x y = shlB x y := rfl
def andB (x y : Value) : Sem Value := binOp .and 5 x y
theorem andB_eq (x y : Value) : binOp .and 5 x y = andB x y := rfl
def orB (x y : Value) : Sem Value := binOp .or 5 x y
theorem orB_eq (x y : Value) : binOp .or 5 x y = orB x y := rfl
def clrB (x y : Value) : Sem Value := binOp .andNot 5 x y
theorem clrB_eq (x y : Value) : binOp .andNot 5 x y = clrB x y := rfl
def subB (x y : Value) : Sem Value := binOp .sub 5 x y
theorem subB_eq (x y : Value) : binOp .sub 5 x y = subB x y := rfl
attribute [local go_sem ↓] quoN_eq remN_eq shrB_eq shlB_eq andB_eq orB_eq clrB_eq subB_eq

theorem run_quo8 (k : Nat) (hk : k < 9223372036854775808) (W : World) : (quoN (.int .i64 (k : Int)) (.int .i64 8)).run Try.prog W = .ok (.int .i64 ((k / 8 : Nat) : Int)) W := by
  have e : (k : Int).tdiv 8 = ((k / 8 : Nat) : Int) := by rw [Int.tdiv_eq_ediv_of_nonneg (by omega)]; omega
  have h : (quoN (.int .i64 (k : Int)) (.int .i64 8)).run Try.prog W = .ok (.int .i64 (IntKind.i64.wrap ((k : Int).tdiv 8))) W := rfl
  rw [h, e, IntWalk.i64_in _ (by omega)]
theorem run_rem8 (k : Nat) (hk : k < 9223372036854775808) (W : World) : (remN (.int .i64 (k : Int)) (.int .i64 8)).run Try.prog W = .ok (.int .i64 ((k % 8 : Nat) : Int)) W := by
  have e : (k : Int).tmod 8 = ((k % 8 : Nat) : Int) := by rw [Int.tmod_eq_emod_of_nonneg (by omega)]; omega
  have h : (remN (.int .i64 (k : Int)) (.int .i64 8)).run Try.prog W = .ok (.int .i64 ((k : Int).tmod 8)) W := rfl
  rw [h, e]
theorem run_shrB (u : UInt8) (s : Nat) (hs : s < 8) (W : World) : (shrB (.int .u8 (u.toNat : Int)) (.int .i64 (s : Int))).run Try.prog W = .ok (.int .u8 ((u.toNat / 2 ^ s : Nat) : Int)) W := by
  have h : (shrB (.int .u8 (u.toNat : Int)) (.int .i64 (s : Int))).run Try.prog W = (Op.shift .shr .u8 (u.toNat : Int) .i64 (s : Int)).run Try.prog W := rfl
  rw [h, shift_shr .u8 .i64 _ _ (by omega) (by show (s : Int) ≤ 8; omega)]
  simp
theorem run_shlB (s : Nat) (hs : s ≤ 8) (W : World) : (shlB (.int .u8 1) (.int .i64 (s : Int))).run Try.prog W = .ok (.int .u8 (((2 ^ s : Nat) : Int) % 256)) W := by
  have h : (shlB (.int .u8 1) (.int .i64 (s : Int))).run Try.prog W = (Op.shift .shl .u8 1 .i64 (s : Int)).run Try.prog W := rfl
  rw [h, shift_shl .u8 .i64 _ _ (by omega) (by show (s : Int) ≤ 8; omega)]
  simp [IntKind.wrap_u8]
theorem run_andB (x y : Nat) (hx : x < 256) (hy : y < 256) (W : World) : (andB (.int .u8 (x : Int)) (.int .u8 (y : Int))).run Try.prog W = .ok (.int .u8 ((x &&& y : Nat) : Int)) W := by
  have h : (andB (.int .u8 (x : Int)) (.int .u8 (y : Int))).run Try.prog W = .ok (.int .u8 (Go.bits .and .u8 (x : Int) (y : Int))) W := rfl
  rw [h, u8_and_nat x y hx hy]
theorem run_orB (x y : Nat) (hx : x < 256) (hy : y < 256) (W : World) : (orB (.int .u8 (x : Int)) (.int .u8 (y : Int))).run Try.prog W = .ok (.int .u8 ((x ||| y : Nat) : Int)) W := by
  have h : (orB (.int .u8 (x : Int)) (.int .u8 (y : Int))).run Try.prog W = .ok (.int .u8 (Go.bits .or .u8 (x : Int) (y : Int))) W := rfl
  rw [h, u8_or_nat x y hx hy]
theorem run_clrB (x y : Nat) (hx : x < 256) (hy : y < 256) (W : World) : (clrB (.int .u8 (x : Int)) (.int .u8 (y : Int))).run Try.prog W = .ok (.int .u8 ((x &&& (255 - y) : Nat) : Int)) W := by
  have h : (clrB (.int .u8 (x : Int)) (.int .u8 (y : Int))).run Try.prog W = .ok (.int .u8 (Go.bits .andNot .u8 (x : Int) (y : Int))) W := rfl
  rw [h, u8_andNot_nat x y hx hy]
theorem run_subB (x y : Int) (W : World) : (subB (.int .u8 x) (.int .u8 y)).run Try.prog W = .ok (.int .u8 ((x - y) % 256)) W := by
  have h : (subB (.int .u8 x) (.int .u8 y)).run Try.prog W = .ok (.int .u8 (IntKind.u8.wrap (x - y))) W := rfl
  rw [h, IntKind.wrap_u8]
theorem run_and1 (x : Nat) (hx : x < 256) (W : World) : (andB (.int .u8 (x : Int)) (.int .u8 1)).run Try.prog W = .ok (.int .u8 ((x % 2 : Nat) : Int)) W := by
  have h := run_andB x 1 hx (by omega) W
  rw [nat_mask1] at h
  exact h

/-! ### One bit -/
def getB (bs : List UInt8) (i : Int) : Bool := decide (0 ≤ i) && bt bs i.toNat
theorem getB_nat (bs : List UInt8) (i : Nat) : getB bs (i : Int) = bt bs i := by simp [getB]
theorem bit_mod (u : UInt8) (s : Nat) : u.toNat / 2 ^ s % 2 = one (u.toNat.testBit s) := by
  rw [Nat.testBit_eq_decide_div_mod_eq]
  unfold one
  by_cases h : u.toNat / 2 ^ s % 2 = 1
  · simp [h]
  · have : u.toNat / 2 ^ s % 2 = 0 := by omega
    simp [this]
theorem getB_far (bs : List UInt8) (i : Int) (h : ¬ (0 ≤ i ∧ i < 8 * (bs.length : Int))) : getB bs i = false := by
  unfold getB
  by_cases h0 : 0 ≤ i
  · rw [bt_none _ _ (by omega)]; simp
  · simp [h0]

theorem holds_cell {w : World} {B : Nat} {A : Option Addr} {n : Nat} {bs : List UInt8} (h : Holds w B A n bs) (q : Nat) (hq : q < n) : ∃ b off u, A = some ⟨b, off, none⟩ ∧ bs.getD q 0 = u ∧ w.cell? ⟨b, off + q, none⟩ = some (.int .u8 (u.toNat : Int)) := by
  obtain ⟨b, off, e, _, hc⟩ := h.2 (by omega)
  have hq' : q < bs.length := by rw [h.1]; exact hq
  exact ⟨b, off, bs[q], e, by simp [List.getD, hq'], hc q hq'⟩

set_option maxHeartbeats 1000000 in
theorem get_any (A : Option Addr) (n c B : Nat) (bs : List UInt8) (i : Int) (w : World) (h : Holds w B A n bs) (hi : i < 9223372036854775808) :
    Calls Try.prog 20 #[.slice A n c, .int .i64 i] w fun e w' => e = .returned (.bool (getB bs i)) ∧ w = w' := by
  have hl := h.1
  by_cases h0 : 0 ≤ i
  · obtain ⟨k, rfl⟩ : ∃ k : Nat, i = (k : Int) := ⟨i.toNat, by omega⟩
    have q1 := run_quo8 k (by omega)
    have q2 := run_rem8 k (by omega)
    obtain ⟨q, hq⟩ : ∃ q, q = k / 8 := ⟨_, rfl⟩
    obtain ⟨s, hs⟩ : ∃ s, s = k % 8 := ⟨_, rfl⟩
    rw [← hq] at q1
    rw [← hs] at q2
    rw [getB_nat]
    by_cases hlt : q < n
    · obtain ⟨b, off, u, rfl, hu, hcell⟩ := holds_cell h q hlt
      have q3 := run_shrB u s (by omega)
      obtain ⟨x, hx⟩ : ∃ x, x = u.toNat / 2 ^ s := ⟨_, rfl⟩
      have hx2 : x < 256 := by have := u.toNat_lt; have := Nat.div_le_self u.toNat (2 ^ s); omega
      have q4 := run_and1 x hx2
      have hbt : x % 2 = one (bt bs k) := by
        rw [hx, bit_mod, ← hu, hq, hs]; rfl
      rw [← hx] at q3
      rw [hbt] at q4
      have hq2 : (q : Int) < (n : Int) := by omega
      have hq0 : (0 : Int) ≤ (q : Int) := by omega
      clear h hl hu hbt hx hx2 hq hs
      cases hb : bt bs k
      · rw [hb] at q4
        simp only [one, if_neg (show ¬ (false = true) by simp)] at q4
        go_enter Try.func20, Try.ntmps20
        go_wp2
        go_ret
        exact ⟨rfl, rfl⟩
      · rw [hb] at q4
        simp only [one, if_pos] at q4
        go_enter Try.func20, Try.ntmps20
        go_wp2
        go_ret
        exact ⟨rfl, rfl⟩
    · rw [bt_none _ _ (by omega)]
      have hq2 : ¬ (q : Int) < (n : Int) := by omega
      clear h hl hq hs
      go_enter Try.func20, Try.ntmps20
      go_wp2
      go_ret
      exact ⟨rfl, rfl⟩
  · rw [getB_far _ _ (fun hh => h0 hh.1)]
    clear h
    go_enter Try.func20, Try.ntmps20
    go_wp2
    go_ret
    exact ⟨rfl, rfl⟩
set_option maxHeartbeats 1000000 in
theorem rget_any (A : Option Addr) (n c B : Nat) (bs : List UInt8) (i : Int) (w : World) (h : Holds w B A n bs) (hi : i < 9223372036854775808) :
    Calls Try.prog 38 #[.slice A n c, .int .i64 i] w fun e w' => e = .returned (.bool (getB bs i)) ∧ w = w' := by
  have hl := h.1
  by_cases h0 : 0 ≤ i
  · obtain ⟨k, rfl⟩ : ∃ k : Nat, i = (k : Int) := ⟨i.toNat, by omega⟩
    have q1 := run_quo8 k (by omega)
    have q2 := run_rem8 k (by omega)
    obtain ⟨q, hq⟩ : ∃ q, q = k / 8 := ⟨_, rfl⟩
    obtain ⟨s, hs⟩ : ∃ s, s = k % 8 := ⟨_, rfl⟩
    rw [← hq] at q1
    rw [← hs] at q2
    rw [getB_nat]
    by_cases hlt : q < n
    · obtain ⟨b, off, u, rfl, hu, hcell⟩ := holds_cell h q hlt
      have q3 := run_shrB u s (by omega)
      obtain ⟨x, hx⟩ : ∃ x, x = u.toNat / 2 ^ s := ⟨_, rfl⟩
      have hx2 : x < 256 := by have := u.toNat_lt; have := Nat.div_le_self u.toNat (2 ^ s); omega
      have q4 := run_and1 x hx2
      have hbt : x % 2 = one (bt bs k) := by
        rw [hx, bit_mod, ← hu, hq, hs]; rfl
      rw [← hx] at q3
      rw [hbt] at q4
      have hq2 : (q : Int) < (n : Int) := by omega
      have hq0 : (0 : Int) ≤ (q : Int) := by omega
      clear h hl hu hbt hx hx2 hq hs
      cases hb : bt bs k
      · rw [hb] at q4
        simp only [one, if_neg (show ¬ (false = true) by simp)] at q4
        go_enter Try.func38, Try.ntmps38
        go_wp2
        go_ret
        exact ⟨rfl, rfl⟩
      · rw [hb] at q4
        simp only [one, if_pos] at q4
        go_enter Try.func38, Try.ntmps38
        go_wp2
        go_ret
        exact ⟨rfl, rfl⟩
    · rw [bt_none _ _ (by omega)]
      have hq2 : ¬ (q : Int) < (n : Int) := by omega
      clear h hl hq hs
      go_enter Try.func38, Try.ntmps38
      go_wp2
      go_ret
      exact ⟨rfl, rfl⟩
  · rw [getB_far _ _ (fun hh => h0 hh.1)]
    clear h
    go_enter Try.func38, Try.ntmps38
    go_wp2
    go_ret
    exact ⟨rfl, rfl⟩

/-! ### A byte of ones; how many ones, and the lowest one -/
theorem lit_at (S : ByteArray) (F : Nat → Nat) (x : Nat) (hx : x < 256) (h : x < S.size) (hF : ∀ x : Fin 256, (S.data.toList.getD x.1 0).toNat = F x.1) : (S[x]).toNat = F x := by
  rw [← hF ⟨x, hx⟩]
  have hx' : x < S.data.size := h
  have e : S.data.toList.getD x 0 = S.data[x] := by simp [List.getD, Array.getElem?_eq_getElem hx']
  exact congrArg UInt8.toNat e.symm

set_option maxHeartbeats 1000000 in
theorem ones8_any (x : Nat) (hx : x < 256) (w : World) : Calls Try.prog 41 #[.int .u8 (x : Int)] w fun e w' => e = .returned (.int .i64 (cnt (fun j => x.testBit j) 0 8 : Int)) ∧ w = w' := by
  have hc := cnt_le (fun j => x.testBit j) 0 8
  have he : wrap64 ((cnt (fun j => x.testBit j) 0 8 : Nat) : Int) = ((cnt (fun j => x.testBit j) 0 8 : Nat) : Int) := by unfold wrap64; omega
  go_enter Try.func41, Try.ntmps41
  go_wp2_with fail
  go_ret
  refine ⟨?_, rfl⟩
  rw [lit_at _ (fun x => cnt (fun j => x.testBit j) 0 8) x hx _ (by decide +kernel)]
  dsimp only
  rw [he]
  rfl

/-- The lowest one of a byte. -/
def low : Nat → Nat → Nat → Nat
  | _, j, 0 => j
  | x, j, k + 1 => if x.testBit j then j else low x (j + 1) k
theorem low_spec (x : Nat) : ∀ k j, (∃ i, j ≤ i ∧ i < j + k ∧ x.testBit i = true) → j ≤ low x j k ∧ low x j k < j + k ∧ x.testBit (low x j k) = true ∧ ∀ i, j ≤ i → i < low x j k → x.testBit i = false
  | 0, j, ⟨i, h1, h2, _⟩ => by omega
  | k + 1, j, ⟨i, h1, h2, h3⟩ => by
    unfold low
    by_cases hj : x.testBit j = true
    · rw [if_pos hj]
      exact ⟨Nat.le_refl _, by omega, hj, fun i h1 h2 => by omega⟩
    · rw [if_neg hj]
      have hij : i ≠ j := fun e => hj (e ▸ h3)
      obtain ⟨g1, g2, g3, g4⟩ := low_spec x k (j + 1) ⟨i, by omega, by omega, h3⟩
      refine ⟨by omega, by omega, g3, fun i k1 k2 => ?_⟩
      by_cases e : i = j
      · subst e; simpa using hj
      · exact g4 i (by omega) k2
theorem low_le (x : Nat) : ∀ k j, low x j k ≤ j + k
  | 0, j => Nat.le_refl _
  | k + 1, j => by
    unfold low
    split
    · omega
    · have := low_le x k (j + 1); omega

set_option maxHeartbeats 1000000 in
theorem low8_any (x : Nat) (hx : x < 256) (w : World) : Calls Try.prog 37 #[.int .u8 (x : Int)] w fun e w' => e = .returned (.int .i64 (low x 0 8 : Int)) ∧ w = w' := by
  have hc := low_le x 8 0
  have he : wrap64 ((low x 0 8 : Nat) : Int) = ((low x 0 8 : Nat) : Int) := by unfold wrap64; omega
  go_enter Try.func37, Try.ntmps37
  go_wp2_with fail
  go_ret
  refine ⟨?_, rfl⟩
  rw [lit_at _ (fun x => low x 0 8) x hx _ (by decide +kernel)]
  dsimp only
  rw [he]
  rfl

/-- The ones of a round. -/
def mask (i b : Nat) : Nat := mk (i % 8) (min (i % 8 + (b - i)) 8)
theorem mask_lt (i b : Nat) : mask i b < 256 := mk_lt _ _ (by omega)
set_option maxHeartbeats 2000000 in
theorem ones_any (i b : Nat) (hib : i < b) (hb : b < 4611686018427387904) (w : World) : Calls Try.prog 43 #[.int .i64 (i : Int), .int .i64 (b : Int)] w fun e w' => e = .returned (.int .u8 (mask i b : Int)) ∧ w.drew = w' := by
  have q2 := run_rem8 i (by omega)
  have hm := mk_wrap (i % 8) (min (i % 8 + (b - i)) 8) (by omega) (by omega)
  unfold mask
  obtain ⟨s, hs⟩ : ∃ s, s = i % 8 := ⟨_, rfl⟩
  rw [← hs] at q2 hm ⊢
  have hs8 : s < 8 := by omega
  have q3 := run_shlB s (by omega)
  have hs256 : ((2 ^ s : Nat) : Int) % 256 = ((2 ^ s : Nat) : Int) := by
    have h : ∀ s : Fin 8, ((2 ^ s.1 : Nat) : Int) % 256 = ((2 ^ s.1 : Nat) : Int) := by decide +kernel
    exact h ⟨s, hs8⟩
  rw [hs256] at q3
  obtain ⟨Y, hY⟩ : ∃ Y : Int, Y = ((2 ^ s : Nat) : Int) := ⟨_, rfl⟩
  rw [← hY] at q3 hm
  by_cases h8 : 8 < s + (b - i)
  · rw [Nat.min_eq_right (by omega)] at hm ⊢
    have q4 : ∀ W, (shlB (.int .u8 1) (.int .i64 8)).run Try.prog W = .ok (.int .u8 0) W := run_shlB 8 (by omega)
    have q5 := run_subB 0 Y
    have hm' : ((0 : Int) - Y) % 256 = (mk s 8 : Int) := hm
    rw [hm'] at q5
    have h8i : (8 : Int) < (s : Int) + (b : Int) - (i : Int) := by omega
    clear hm hm' hs256 hs hY
    go_enter Try.func43, Try.ntmps43
    go_wp2
    go_region
    all_goals
      go_wp2
      go_ret
      exact ⟨rfl, rfl⟩
  · rw [Nat.min_eq_left (by omega)] at hm ⊢
    obtain ⟨e, he⟩ : ∃ e, e = s + (b - i) := ⟨_, rfl⟩
    rw [← he] at hm ⊢
    have q4 := run_shlB e (by omega)
    obtain ⟨X, hX⟩ : ∃ X : Int, X = ((2 ^ e : Nat) : Int) % 256 := ⟨_, rfl⟩
    rw [← hX] at q4 hm
    have q5 := run_subB X Y
    rw [hm] at q5
    have h8i : ¬ (8 : Int) < (s : Int) + (b : Int) - (i : Int) := by omega
    rw [show (e : Int) = (s : Int) + (b : Int) - (i : Int) by omega] at q4
    clear hm hs256 hs he hX hY
    go_enter Try.func43, Try.ntmps43
    go_wp2
    go_region
    all_goals
      go_wp2
      go_ret
      exact ⟨rfl, rfl⟩
end Go.Proofs.Ytnkiblifnknbkaa.Bits
