/- BuddyOrders: for every list of bytes and every number, the free chunks of all orders that the program tells have just the free blocks together. -/
import Derived.Test.YtnkiblifnknbkaaBdAlive
import Derived.Test.YtnkiblifnknbkaaLift
namespace Go.Proofs.Ytnkiblifnknbkaa.BuddyOrders
set_option maxRecDepth 20000
open Go Go.ChangeShapes Go.WideShapes Go.ChangeAt Go.RowKit
open Go.Proofs.Ytnkiblifnknbkaa.Mem Go.Proofs.Ytnkiblifnknbkaa.Bt Go.Proofs.Ytnkiblifnknbkaa.Rec Go.Proofs.Ytnkiblifnknbkaa.Bits Go.Proofs.Ytnkiblifnknbkaa.Bd Go.Proofs.Ytnkiblifnknbkaa.Buddy Go.Proofs.Ytnkiblifnknbkaa.Lift
attribute [local go_sem ↓] shlN_eq

/-- How many blocks the chunks of the orders below i have. -/
def psum (l : List (Nat × Nat)) : Nat → Nat
  | 0 => 0
  | i + 1 => psum l i + many l i * 2 ^ i
theorem psum_all {f : Nat → Bool} {n : Nat} : psum (chunksL f n) 7 = n - cnt f 0 n := by
  rw [← chunks_wt, many_wt _ (fun x hx => (chunks_mem hx).1)]
  simp [psum]
theorem psum_le (l : List (Nat × Nat)) (N : Nat) (h : l.length ≤ N) : ∀ i, i ≤ 7 → psum l i ≤ i * (N * 64)
  | 0, _ => by simp [psum]
  | i + 1, hi => by
    have h1 := psum_le l N h i (by omega)
    have h2 : many l i * 2 ^ i ≤ N * 2 ^ 6 := Nat.mul_le_mul (Nat.le_trans (many_le l i) h) (Nat.pow_le_pow_right (by omega) (by omega))
    simp only [psum]
    rw [Nat.add_mul, Nat.one_mul]
    omega

set_option maxRecDepth 100000 in
set_option maxHeartbeats 4000000 in
theorem walk (A : Option Addr) (n c : Nat) (bs : List UInt8) (x : Int) (w : World) (h : Holds w w.heap.size A n bs) (hc : n ≤ c) (hm : c ≤ 140737488351232) (f1 : -9223372036854775808 ≤ x) (f2 : x ≤ 9223372036854775807) :
    Calls Try.prog 6 #[.slice A n c, .int .i64 x] w fun e w' => e = .returned (.bool true) ∧ Below w.heap.size w w' := by
  have HM := fun (V : World) (hb : Below w.heap.size w V) => h.below hb
  have H := Lib.hid HM; clear HM h
  cases hp : poolB n x with
  | false =>
    have ho := fun V => orders_bad A n c V x (by omega) hp
    have hf := fun V => free_bad A n c V x (by omega) hp
    have HO := Lib.hid ho; clear ho
    have HF := Lib.hid hf; clear hf hp
    go_enter Try.func6, Try.ntmps6
    go_wp2_with fail
    with_reducible refine (alive_any w).mono ?_
    rintro e w1 ⟨rfl, hb1⟩
    have HB1 := Lib.hid hb1; clear hb1
    go_wp2_with fail
    with_reducible refine (HO.out w1).mono ?_
    rintro e w2 ⟨rfl, hb2⟩
    have HB2 := Lib.hid (HB1.out.trans (hb2.mono HB1.out.size)); clear hb2
    go_wp2_with fail
    with_reducible refine (HF.out w2).mono ?_
    rintro e w3 ⟨rfl, rfl⟩
    go_wp2
    go_ret
    exact ⟨rfl, HB2.out⟩
  | true =>
    obtain ⟨h0, h1⟩ := of_decide_eq_true hp
    clear hp
    obtain ⟨nn, rfl⟩ : ∃ nn : Nat, x = (nn : Int) := ⟨x.toNat, by omega⟩
    have ho := fun (V : World) (hb : Below w.heap.size w V) => orders_ok A n c w.heap.size bs nn V (H.out V hb) hb.size (by omega) (by omega)
    have hf := fun (V : World) (hb : Below w.heap.size w V) => free_ok A n c w.heap.size bs V nn (H.out V hb) hb.size (by omega) (by omega)
    have hpa : psum (chunksL (bt bs) nn) 7 = freeN bs nn := psum_all
    have hcl := chunks_len (bt bs) nn
    have hpl := psum_le (chunksL (bt bs) nn) nn hcl
    obtain ⟨L, hL⟩ : ∃ L, L = chunksL (bt bs) nn := ⟨_, rfl⟩
    have hml := many_le L
    rw [← hL] at ho hpa hpl hcl
    obtain ⟨F, hF⟩ : ∃ F, F = freeN bs nn := ⟨_, rfl⟩
    rw [← hF] at hf hpa
    clear hL hF
    have HO := Lib.hid ho; clear ho
    have HF := Lib.hid hf; clear hf
    have HPA := Lib.hid hpa; clear hpa
    have HPL := Lib.hid hpl; clear hpl
    have HML := Lib.hid (fun i => Nat.le_trans (hml i) hcl : ∀ i, many L i ≤ nn); clear hml hcl
    go_enter Try.func6, Try.ntmps6
    go_wp2_with fail
    with_reducible refine (alive_any w).mono ?_
    rintro e w1 ⟨rfl, hb1⟩
    have HB1 := Lib.hid hb1; clear hb1
    go_wp2_with fail
    with_reducible refine (HO.out w1 HB1.out).mono ?_
    rintro e w2 ⟨M, hM, rfl, hrow, hb2⟩
    have HB2 := Lib.hid (HB1.out.trans (hb2.mono HB1.out.size)); clear hb2
    have hMs := (Array.getElem?_eq_some_iff.1 hrow).1
    have HR := Lib.hid hrow; clear hrow HB1 hM
    go_wp2_with fail
    with_reducible refine (HF.out w2 HB2.out).mono ?_
    rintro e w3 ⟨rfl, hb3⟩
    have hrow3 := (hb3.block M hMs).trans HR.out
    have HB3 := Lib.hid (HB2.out.trans (hb3.mono HB2.out.size)); clear hb3 HB2 HR hMs
    have HR := Lib.hid hrow3; clear hrow3
    go_wp2_with fail
    go_loopw [9, 10] (fun s i wr => ∃ j y : Nat, j ≤ 7 ∧ i = .int .i64 (j : Int) ∧ s = .int .i64 (y : Int) ∧ y = psum L j ∧ wr = w3) (fun s i _ => 7 - (intOf i).toNat)
    case atStart => exact ⟨0, 0, by omega, by first | trivial | rfl, by first | trivial | rfl, rfl, by first | trivial | rfl⟩
    case round =>
      obtain ⟨j, y, hj, rfl, rfl, hy, hw3⟩ := hrel
      subst hw3
      by_cases hlt : j < 7
      · have hlt' : (j : Int) < 7 := by omega
        have hj0 : (0 : Int) ≤ (j : Int) := by omega
        have c0 : wr.cell? ⟨M, j, none⟩ = some (.int .i64 (many L j : Int)) := (cell_of_row wr M j _ _ _ HR.out).trans (cnts_get _ _ (by omega))
        have hle := HML.out j
        have hpn := HPL.out j (by omega)
        have hps : psum L (j + 1) = psum L j + many L j * 2 ^ j := rfl
        obtain ⟨m, hm⟩ : ∃ m, m = many L j := ⟨_, rfl⟩
        rw [← hm] at c0 hle hps
        rw [← hy] at hps hpn
        have q := run_shlN m j (by omega) (by omega)
        have hpn' := HPL.out (j + 1) (by omega)
        rw [hps] at hpn'
        obtain ⟨v, hv⟩ : ∃ v, v = m * 2 ^ j := ⟨_, rfl⟩
        rw [← hv] at q hps hpn'
        have e1 : IntKind.i64.wrap ((y : Int) + (v : Int)) = ((y + v : Nat) : Int) := by
          have : (j + 1) * (nn * 64) ≤ 7 * (nn * 64) := Nat.mul_le_mul_right _ (by omega)
          rw [IntWalk.i64_in _ (by omega)]; push_cast; rfl
        have HPS := Lib.hid hps; clear hps hpn hpn' hv hm hy hle
        go_wp2
        go_roundw
        case rel => exact ⟨j + 1, y + v, by omega, by go_num, by push_cast; rfl, HPS.out.symm, by trivial⟩
        case measure => simp [intOf]; omega
      · have hlt' : ¬ (j : Int) < 7 := by omega
        obtain rfl : j = 7 := by omega
        rw [HPA.out] at hy
        subst hy
        go_wp2
        go_ret
        exact ⟨rfl, HB3.out⟩

theorem walks : Walks 6 Try.f6 All := by
  intro H enc W base args ds p hval hA hsz _
  rw [Try.params6] at hA hval hsz
  obtain ⟨v0, vs0, d0, ds0, p0, q0, hargs, rfl, rfl, h0, r0⟩ := trodAll_cons hA
  obtain ⟨v1, vs1, d1, ds1, p1, q1, rfl, rfl, rfl, h1, r1⟩ := trodAll_cons r0
  obtain ⟨rfl, rfl, rfl⟩ := trodAll_nil r1
  obtain rfl : args = #[v0, v1] := by cases args; simp_all
  obtain ⟨A, n, c, bs, rfl, hb, hn, hc⟩ := open_bytesC (hval 0 _ v0 rfl rfl) h0 _ (reach_bytes hsz (j := 0) rfl rfl)
  obtain ⟨x1, rfl, rfl, rfl, hx1⟩ := open_int Try.underlying3 (hval 1 _ v1 rfl rfl) h1
  have bx1 := bounds_i64 hx1
  exact walk A n c bs x1 W hb hn hc (by omega) (by omega)

set_option maxRecDepth 100000 in
theorem proved : Rows.BuddyOrdersSaid :=
  OpenClaim.holds_of_wide 6 Try.f6 rfl rfl rfl rfl rfl rfl rfl ⟨rfl, rfl, rfl, rfl, rfl⟩ rfl rfl rfl rfl rfl (by kernel_rfl) Try.func6 (by kernel_rfl)
    (of_decide_eq_true (by kernel_rfl)) (by unfold Func.isWrapper; first | (rw [if_pos (by decide +kernel)]; kernel_rfl) | (rw [if_neg (by decide +kernel)]; exact ⟨rfl, rfl⟩))
    (fun os started H enc _ => lifted (s := Rows.buddyOrdersSpec) walks (by kernel_rfl) rfl rfl (fun H ds hl => by match ds, hl with | [d1, d2], _ => rfl) (by kernel_rfl) Try.func6 os started H enc
      (ChangeSpec.witness6 (enc := enc) (C := Try.checked) false ⟨#[], #[.slice none 0 0, .int .i64 0], []⟩ 8 (by kernel_rfl) (by kernel_rfl) (by kernel_rfl) (by kernel_rfl)))
#print axioms proved
end Go.Proofs.Ytnkiblifnknbkaa.BuddyOrders
