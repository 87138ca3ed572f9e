/- Any change of bits within 32 side by side makes another sum: proved for every list of bytes, every place and every pattern of 32 bits, within the form's own reach. -/
import Derived.Test.YtemkdnakkdnbhaaLift
import Derived.RegionTactic
import Derived.ChangeAlike
import Derived.Deep.Draws
namespace Go.Proofs.Ytemkdnakkdnbhaa.CrcBursts
open Go.ChangeShapes Go.WideShapes Go.ChangeAt Go.RowKit
open Go.Proofs.Ytemkdnakkdnbhaa.Crc Go.Proofs.Ytemkdnakkdnbhaa.Lift

theorem place (a : Int) (m : Int) (h0 : 0 < m) (hn : m ≤ 1125899906842624) : ∃ k : Nat, (k : Int) < m ∧ wrap64 ((IntKind.u64.wrap a).tmod m) = (k : Int) := by
  have hx : 0 ≤ IntKind.u64.wrap a := by rw [IntKind.wrap_u64]; omega
  generalize IntKind.u64.wrap a = x at hx
  rw [Int.tmod_eq_emod_of_nonneg hx]
  have h1 := Int.emod_nonneg x (show m ≠ 0 by omega)
  have h2 := Int.emod_lt_of_pos x (show (0 : Int) < m by omega)
  refine ⟨(x % m).toNat, by omega, ?_⟩
  unfold wrap64
  omega

/-- Is bit k of the burst turned? -/
def hit (burst first n k : Nat) : Bool := decide (burst / 2 ^ k % 2 = 1) && decide (first + k < 8 * n)
/-- The list with the first k bits of the burst turned. -/
def turnTo (burst first : Nat) (bs : List UInt8) : Nat → List UInt8
  | 0 => bs
  | k + 1 => if hit burst first bs.length k then (turnTo burst first bs k).set ((first + k) / 8) ((turnTo burst first bs k).getD ((first + k) / 8) 0 ^^^ UInt8.ofNat (2 ^ ((first + k) % 8))) else turnTo burst first bs k
/-- The bits of the burst that were turned. -/
def mask (burst first n : Nat) : Nat → Nat
  | 0 => 0
  | k + 1 => if hit burst first n k then mask burst first n k ^^^ 2 ^ k else mask burst first n k

theorem turn_len (burst first : Nat) (bs : List UInt8) : ∀ k, (turnTo burst first bs k).length = bs.length
  | 0 => rfl
  | k + 1 => by
    unfold turnTo
    split
    · rw [List.length_set, turn_len burst first bs k]
    · exact turn_len burst first bs k
theorem mask_lt (burst first n : Nat) : ∀ k, mask burst first n k < 2 ^ k
  | 0 => by simp [mask]
  | k + 1 => by
    have h := mask_lt burst first n k
    have h2 : 2 ^ k < 2 ^ (k + 1) := Nat.pow_lt_pow_right (by omega) (by omega)
    unfold mask
    split
    · exact Nat.xor_lt_two_pow (by omega) h2
    · omega
theorem mask_hit (burst first n k : Nat) (h : hit burst first n k = true) : mask burst first n (k + 1) ≠ 0 := by
  have hm := mask_lt burst first n k
  intro e
  unfold mask at e
  rw [if_pos h] at e
  have := xor_zero_eq _ _ e
  omega
theorem turn_num (burst first : Nat) (bs : List UInt8) : ∀ k, num (turnTo burst first bs k) ^^^ num bs = 2 ^ first * mask burst first bs.length k
  | 0 => by simp [turnTo, mask]
  | k + 1 => by
    have ih := turn_num burst first bs k
    unfold turnTo mask
    by_cases h : hit burst first bs.length k = true
    · rw [if_pos h, if_pos h]
      have hl : (first + k) / 8 < (turnTo burst first bs k).length := by
        rw [turn_len]
        simp [hit] at h
        omega
      have e : (turnTo burst first bs k).getD ((first + k) / 8) 0 = (turnTo burst first bs k)[(first + k) / 8] := by simp [List.getD, hl]
      rw [e, num_set _ _ _ hl, mul_pow_xor, ← ih]
      have hb : (UInt8.ofNat (2 ^ ((first + k) % 8))).toNat = 2 ^ ((first + k) % 8) := by
        have : 2 ^ ((first + k) % 8) ≤ 2 ^ 7 := Nat.pow_le_pow_right (by omega) (by omega)
        simp
        omega
      rw [hb, ← Nat.pow_add, ← Nat.pow_add, show 8 * ((first + k) / 8) + (first + k) % 8 = first + k by omega]
      ac_rfl
    · rw [if_neg h, if_neg h, ih]

theorem burst_sum (burst first : Nat) (bs : List UInt8) (hf : first ≤ 8 * bs.length) (h : mask burst first bs.length 32 ≠ 0) : sum (turnTo burst first bs 32) ≠ sum bs :=
  sum_burst _ _ first _ (turn_len burst first bs 32) (turn_num burst first bs 32) (by rw [turn_len]; exact hf) (mask_lt burst first bs.length 32) h

/-- Was anything turned so far? -/
def marked (burst first n k : Nat) : Bool := decide (mask burst first n k ≠ 0)
theorem marked_hit (burst first n k : Nat) (h : hit burst first n k = true) : marked burst first n (k + 1) = true := decide_eq_true (mask_hit burst first n k h)
theorem marked_miss (burst first n k : Nat) (h : hit burst first n k = false) : marked burst first n (k + 1) = marked burst first n k := by
  unfold marked
  rw [show mask burst first n (k + 1) = mask burst first n k by
    show (if hit burst first n k then _ else _) = _
    rw [if_neg (by rw [h]; simp)]]
theorem turn_miss (burst first : Nat) (bs : List UInt8) (k : Nat) (h : hit burst first bs.length k = false) : turnTo burst first bs (k + 1) = turnTo burst first bs k := by
  show (if hit burst first bs.length k then _ else _) = _
  rw [if_neg (by rw [h]; simp)]
theorem turn_hit (burst first : Nat) (bs : List UInt8) (k : Nat) (h : hit burst first bs.length k = true) (v : UInt8) (hv : (turnTo burst first bs k).getD ((first + k) / 8) 0 = v) :
    turnTo burst first bs (k + 1) = (turnTo burst first bs k).set ((first + k) / 8) (v ^^^ UInt8.ofNat (2 ^ ((first + k) % 8))) := by
  show (if hit burst first bs.length k then _ else _) = _
  rw [if_pos h, hv]

theorem bit_bits (burst k : Nat) (hu : burst < 4294967296) : bits .and .u32 ((burst : Int) / 2 ^ k) 1 = ((burst / 2 ^ k % 2 : Nat) : Int) := by
  have h := u32_and_nat (burst / 2 ^ k) 1 (Nat.lt_of_le_of_lt (Nat.div_le_self _ _) hu) (by omega)
  rw [Nat.and_one_is_mod] at h
  have e : ((burst : Int) / 2 ^ k) = ((burst / 2 ^ k : Nat) : Int) := by simp
  rw [e]
  exact h

theorem cell_bits (v : UInt8) (r : Nat) (hr : r < 8) : Value.int .u8 (bits .xor .u8 (v.toNat : Int) (2 ^ r % 256)) = byteV (v ^^^ UInt8.ofNat (2 ^ r)) := by
  have hp : 2 ^ r ≤ 2 ^ 7 := Nat.pow_le_pow_right (by omega) (by omega)
  have h := u8_xor_nat v.toNat (2 ^ r) v.toNat_lt (by omega)
  have e : (2 : Int) ^ r % 256 = ((2 ^ r : Nat) : Int) := by
    have e1 : (2 : Int) ^ r = ((2 ^ r : Nat) : Int) := by
      clear hp h
      simp
    have key : ∀ m : Nat, m ≤ 128 → ((m : Nat) : Int) % 256 = (m : Int) := fun m h => by omega
    rw [e1]
    exact key _ (by omega)
  rw [e, h]
  unfold byteV
  rw [UInt8.toNat_xor]
  have e3 : (UInt8.ofNat (2 ^ r)).toNat = 2 ^ r := Nat.mod_eq_of_lt (by omega)
  rw [e3]

set_option maxRecDepth 100000 in
theorem walk (A : Option Addr) (n c : Nat) (bs : List UInt8) (a : Int) (burst : Nat) (w : World) (h : Holds w w.heap.size A n bs) (hm : n ≤ 140737488351232) (h0 : 0 < n) (hu : burst < 4294967296) (hu0 : 0 < burst) :
    Calls Try.prog 7 #[.slice A n c, .int .i64 a, .int .u32 (burst : Int)] w fun e w' => e = .returned (.bool true) ∧ Below w.heap.size w w' := by
  obtain rfl : bs.length = n := h.1
  have hn : bs.length ≤ maxLen := by unfold maxLen; omega
  have hne : ((bs.length : Int) == 0) = false := beq_eq_false_iff_ne.2 (by omega)
  have hbe : ((burst : Int) == 0) = false := beq_eq_false_iff_ne.2 (by omega)
  obtain ⟨first, hk, hK⟩ := place a (8 * (bs.length : Int)) (by omega) (by omega)
  go_enter Try.func7, Try.ntmps7
  go_wp2_with fail
  refine (alive_any w).mono ?_
  rintro e w1 ⟨rfl, hb1⟩
  have hx1 := h.below hb1
  have ho := owned_made w1 [] w.heap.size hb1.size (by unfold maxLen; simp)
  go_wp2_with (at_builtin; refine wpList_addall rfl _ _ rfl w.heap.size _ [] rfl ho w.heap.size A bs.length c bs rfl ?c1 ?c2 ?c3 ?_)
  case c1 => exact hx1.below ((Below.refl _ _).alloc hb1.size _)
  case c2 => simp; omega
  case c3 => have := hb1.size; simp; omega
  intro g w2 ho2 hb2
  have hb2' : Below w.heap.size w w2 := (hb1.alloc hb1.size _).trans hb2
  obtain ⟨g, cap, rfl, hg1, hg2, hcap, -⟩ := Owned.row ho2 h0
  clear hb2 ho hb1 hx1
  have HO := Lib.hid ho2
  clear ho2
  go_wp2_with fail
  go_loopw [9, 10, 11] (fun t i _ wr => ∃ k : Nat, k ≤ 32 ∧ i = .int .i64 k ∧ t = .bool (marked burst first bs.length k) ∧ Owned wr w.heap.size (.slice (some ⟨g, 0, none⟩) bs.length cap) (turnTo burst first bs k) ∧ Below w.heap.size w wr) (fun _ i _ _ => 32 - (intOf i).toNat)
  case atStart => exact ⟨0, by omega, rfl, rfl, HO.out, hb2'⟩
  case round =>
    obtain ⟨k, hk32, rfl, rfl, hown, hbr⟩ := hrel
    by_cases hlt : k < 32
    · have HO2 := Lib.hid hown
      clear hown
      have hB := bit_bits burst k hu
      rcases Nat.mod_two_eq_zero_or_one (burst / 2 ^ k) with hbit | hbit
      · rw [hbit] at hB
        have hmiss : hit burst first bs.length k = false := by simp [hit, hbit]
        have E1 := Lib.hid (marked_miss _ _ _ _ hmiss)
        have E2 := Lib.hid (turn_miss _ _ _ _ hmiss)
        clear hbit hmiss
        go_wp2
        go_roundw
        case rel => exact ⟨k + 1, by omega, by go_num, by rw [E1.out], by rw [E2.out]; exact HO2.out, hbr⟩
        case measure => simp [intOf]; omega
      · rw [hbit] at hB
        by_cases hin : first + k < 8 * bs.length
        · have hhit : hit burst first bs.length k = true := by simp [hit, hbit, hin]
          have E1 := Lib.hid (marked_hit _ _ _ _ hhit)
          have hinI : (first : Int) + (k : Int) < 8 * (bs.length : Int) := by omega
          obtain ⟨P, hP⟩ : ∃ P, first + k = P := ⟨_, rfl⟩
          have hPI : (first : Int) + (k : Int) = (P : Int) := by omega
          have hJ : P / 8 < bs.length := by omega
          obtain ⟨g', cap', e', -, hgl, -, hrow⟩ := Owned.row HO2.out (by rw [turn_len]; exact h0)
          rw [turn_len] at e'
          simp only [Value.slice.injEq, Option.some.injEq, Addr.mk.injEq, and_true, true_and] at e'
          obtain ⟨rfl, rfl⟩ := e'
          obtain ⟨hc, hf, hst⟩ := hrow (P / 8) (by rw [turn_len]; exact hJ)
          clear hrow hbit
          obtain ⟨v, hv⟩ : ∃ v, (turnTo burst first bs k)[P / 8]'(by rw [turn_len]; exact hJ) = v := ⟨_, rfl⟩
          rw [hv] at hc
          have E2 := Lib.hid (turn_hit burst first bs k hhit v (by rw [hP]; simp [List.getD, turn_len, hJ, hv]))
          have hP' := Lib.hid hP
          have Hst := Lib.hid hst
          unfold byteV at hc
          clear hP hhit hv hst
          go_wp2_with fail
          go_region
          go_wp2
          go_roundw
          case rel =>
            obtain ⟨q1, q2⟩ := Hst.out (v ^^^ UInt8.ofNat (2 ^ (P % 8)))
            rw [cell_bits v (P % 8) (by omega)]
            refine ⟨k + 1, by omega, by go_num, by rw [E1.out], ?_, (hbr.trans q2).drew⟩
            rw [E2.out, hP'.out]
            exact q1
          case measure => simp [intOf]; omega
        · have hmiss : hit burst first bs.length k = false := by simp [hit, hin]
          have E1 := Lib.hid (marked_miss _ _ _ _ hmiss)
          have E2 := Lib.hid (turn_miss _ _ _ _ hmiss)
          have hinI : ¬ ((first : Int) + (k : Int) < 8 * (bs.length : Int)) := by omega
          clear hbit hmiss hin
          go_wp2
          go_roundw
          case rel => exact ⟨k + 1, by omega, by go_num, by rw [E1.out], by rw [E2.out]; exact HO2.out, hbr⟩
          case measure => simp [intOf]; omega
    · obtain rfl : k = 32 := by omega
      have hxr := h.below hbr
      obtain ⟨A3, c3, e3, hh⟩ := Owned.holds hown
      rw [turn_len] at e3 hh
      simp only [Value.slice.injEq, true_and] at e3
      obtain ⟨rfl, rfl⟩ := e3
      by_cases hmk : mask burst first bs.length 32 = 0
      · have hmf : marked burst first bs.length 32 = false := by unfold marked; simp [hmk]
        rw [hmf]
        clear hown hh hmk hmf
        go_wp2
        go_ret
        exact ⟨rfl, hbr⟩
      · have hmt : marked burst first bs.length 32 = true := by unfold marked; simp [hmk]
        have hS := burst_sum burst first bs (by omega) hmk
        have hT : (((sum (turnTo burst first bs 32) : Nat) : Int) != ((sum bs : Nat) : Int)) = true := by simp; omega
        have T := Lib.hid hT
        rw [hmt]
        clear hown hmk hmt hT hS
        generalize turnTo burst first bs 32 = ls at hh T
        go_wp2_with fail
        refine (sum_any _ bs.length cap ls _ hh hn).mono ?_
        rintro e w4 ⟨rfl, hb⟩
        have hb4 := hbr.trans (hb.mono hbr.size)
        have hx4 := h.below hb4
        clear hb hh hxr hbr
        go_wp2_with fail
        refine (sum_any A bs.length c bs _ (hx4.more hb4.size) hn).mono ?_
        rintro e w5 ⟨rfl, hb⟩
        have hb5 := hb4.trans (hb.mono hb4.size)
        clear hb hx4 hb4 h
        have hT := T.out
        clear T
        go_wp2
        go_ret
        exact ⟨rfl, hb5⟩

set_option maxRecDepth 100000 in
theorem walk_none (A : Option Addr) (c : Nat) (a : Int) (u : Int) (w : World) :
    Calls Try.prog 7 #[.slice A 0 c, .int .i64 a, .int .u32 u] w fun e w' => e = .returned (.bool true) ∧ Below w.heap.size w w' := by
  go_enter Try.func7, Try.ntmps7
  go_wp2_with fail
  refine (alive_any w).mono ?_
  rintro e w1 ⟨rfl, hb1⟩
  go_wp2
  go_ret
  exact ⟨rfl, hb1⟩

set_option maxRecDepth 100000 in
theorem walk_still (A : Option Addr) (n c : Nat) (a : Int) (w : World) (h0 : 0 < n) (hm : n ≤ 140737488351232) :
    Calls Try.prog 7 #[.slice A n c, .int .i64 a, .int .u32 0] w fun e w' => e = .returned (.bool true) ∧ Below w.heap.size w w' := by
  have hne : ((n : Int) == 0) = false := beq_eq_false_iff_ne.2 (by omega)
  go_enter Try.func7, Try.ntmps7
  go_wp2_with fail
  refine (alive_any w).mono ?_
  rintro e w1 ⟨rfl, hb1⟩
  go_wp2
  go_ret
  exact ⟨rfl, hb1⟩

theorem walks : Walks 7 Try.f7 All := by
  intro H enc W base args ds p hval hA hsz _
  rw [Try.params7] at hA hval hsz
  obtain ⟨v0, vs0, d0, ds0, p0, q0, hargs, rfl, rfl, h0, r0⟩ := trodAll_cons hA
  obtain ⟨v1, vs1, d1, ds1, p1, q1, rfl, rfl, rfl, h1, r1⟩ := trodAll_cons r0
  obtain ⟨v2, vs2, d2, ds2, p2, q2, rfl, rfl, rfl, h2, r2⟩ := trodAll_cons r1
  obtain ⟨rfl, rfl, rfl⟩ := trodAll_nil r2
  obtain rfl : args = #[v0, v1, v2] := by cases args; simp_all
  obtain ⟨A, n, c, bs, rfl, hb, _, hn⟩ := open_bytes (hval 0 _ v0 rfl rfl) h0 _ (reach_bytes hsz (j := 0) rfl rfl)
  obtain ⟨x, rfl, rfl, rfl, hx⟩ := open_int Try.underlying3 (hval 1 _ v1 rfl rfl) h1
  obtain ⟨y, rfl, rfl, rfl, hy⟩ := open_int Try.underlying23 (hval 2 _ v2 rfl rfl) h2
  have bY := bounds_u32 hy
  obtain ⟨u, rfl⟩ := Int.eq_ofNat_of_zero_le bY.1
  rcases Nat.eq_zero_or_pos n with hz | hz
  · subst hz
    exact walk_none A c x _ W
  · rcases Nat.eq_zero_or_pos u with hu | hu
    · subst hu
      exact walk_still A n c x W hz hn
    · exact walk A n c bs x u W hb hn hz (by omega) hu

set_option maxRecDepth 100000 in
theorem proved : Rows.CrcBurstsSaid :=
  OpenClaim.holds_of_wide 7 Try.f7 rfl rfl rfl rfl rfl rfl rfl ⟨rfl, rfl, rfl, rfl, rfl⟩ rfl rfl rfl rfl rfl (by kernel_rfl) Try.func7 (by kernel_rfl)
    (of_decide_eq_true (by kernel_rfl)) (by unfold Func.isWrapper; first | (rw [if_pos (by decide +kernel)]; kernel_rfl) | (rw [if_neg (by decide +kernel)]; exact ⟨rfl, rfl⟩))
    (fun os started H enc _ => lifted (s := Rows.crcBurstsSpec) walks (by kernel_rfl) rfl rfl (fun H ds hl => by match ds, hl with | [d1, d2, d3], _ => rfl) (by kernel_rfl) Try.func7 os started H enc
      (ChangeSpec.witness6 (enc := enc) (C := Try.checked) false ⟨#[], #[.slice none 0 0, .int .i64 0, .int .u32 0], []⟩ 8 (by kernel_rfl) (by kernel_rfl) (by kernel_rfl) (by kernel_rfl)))
#print axioms proved
end Go.Proofs.Ytemkdnakkdnbhaa.CrcBursts
