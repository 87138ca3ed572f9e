/- The document's answers of buddy: is a chunk free, the first free chunk from somewhere on, Free. -/
import Derived.Test.YtnkiblifnknbkaaBdTake
namespace Go.Proofs.Ytnkiblifnknbkaa.Buddy
set_option maxRecDepth 20000
open Go Go.RowKit
open Go.Proofs.Ytnkiblifnknbkaa.Mem Go.Proofs.Ytnkiblifnknbkaa.Bt Go.Proofs.Ytnkiblifnknbkaa.Rec Go.Proofs.Ytnkiblifnknbkaa.Bits Go.Proofs.Ytnkiblifnknbkaa.Bd Go.Proofs.Ytnkiblifnknbkaa.Reg

theorem run_remZ (a z : Nat) (hz : 1 ≤ z) (W : World) : (remN (.int .i64 (a : Int)) (.int .i64 (z : Int))).run Try.prog W = .ok (.int .i64 ((a % z : Nat) : Int)) W := by
  have e : (a : Int).tmod (z : Int) = ((a % z : Nat) : Int) := by rw [Int.tmod_eq_emod_of_nonneg (by omega)]; rfl
  have hz' : ¬ z = 0 := by omega
  unfold remN
  rw [binOp_rem]
  simp [Op.intDiv, hz']
  rw [e]; rfl
attribute [local go_sem ↓] ldS_eq stS_eq shlN_eq remN_eq

section
variable (A : Option Addr) (len c B : Nat) (bs : List UInt8) (w : World)
theorem rcount_at (h : Holds w B A len bs) (hB : B ≤ w.heap.size) (hl : len ≤ 140737488355328) (s z : Nat) :
    Calls Try.prog 30 #[.slice A len c, .int .i64 (s : Int), .int .i64 ((s + z : Nat) : Int)] w fun e w' => e = .returned (.int .i64 (cnt (bt bs) s z : Int)) ∧ Below w.heap.size w w' := by
  have hc := rcount_any A len c B bs (s : Int) ((s + z : Nat) : Int) w h hB hl
  have e := cnt_clamp bs s z
  rw [h.1] at e
  rwa [Int.toNat_natCast, e] at hc

set_option maxHeartbeats 1000000 in
theorem rfree_any (nn a k : Nat) (h : Holds w B A len bs) (hB : B ≤ w.heap.size) (hl : len ≤ 140737488355328) (hnn : nn ≤ 1125899906842624) (ha : a ≤ 1125899906842688) (hk : k ≤ 6) (hd : 2 ^ k ∣ a) :
    Calls Try.prog 32 #[.slice A len c, .int .i64 (nn : Int), .int .i64 (a : Int), .int .i64 (k : Int)] w fun e w' => e = .returned (.bool (decide (FreeC (bt bs) nn a k))) ∧ Below w.heap.size w w' := by
  have hc := rcount_at A len c B bs w h hB hl a (2 ^ k)
  have q := run_shl1 k (by omega)
  have hz1 := Nat.two_pow_pos k
  have hz2 : 2 ^ k ≤ 2 ^ 6 := Nat.pow_le_pow_right (by omega) hk
  have q2 := run_remZ a (2 ^ k) hz1
  have hm : a % 2 ^ k = 0 := Nat.mod_eq_zero_of_dvd hd
  rw [hm] at q2
  have hdec : decide (FreeC (bt bs) nn a k) = decide (a + 2 ^ k ≤ nn ∧ cnt (bt bs) a (2 ^ k) = 0) := rfl
  rw [hdec]
  clear hm hd hdec h
  obtain ⟨t, ht⟩ : ∃ t, t = cnt (bt bs) a (2 ^ k) := ⟨_, rfl⟩
  rw [← ht] at hc ⊢
  obtain ⟨z, hz⟩ : ∃ z, z = 2 ^ k := ⟨_, rfl⟩
  rw [← hz] at hc q hz1 hz2 q2 ⊢
  clear hz ht
  have q2' : ∀ W : World, (remN (.int .i64 (a : Int)) (.int .i64 (z : Int))).run Try.prog W = .ok (.int .i64 0) W := q2
  clear q2
  obtain ⟨E, hE⟩ : ∃ E, E = a + z := ⟨_, rfl⟩
  rw [← hE] at hc ⊢
  have e1 : IntKind.i64.wrap ((a : Int) + (z : Int)) = (E : Int) := by rw [IntWalk.i64_in _ (by omega)]; omega
  have e2 : IntKind.i64.wrap ((nn : Int) - (z : Int)) = (nn : Int) - (z : Int) := IntWalk.i64_in _ (by omega)
  have HC := Lib.hid hc; clear hc
  by_cases h1 : E ≤ nn
  · have h1' : ¬ (a : Int) > (nn : Int) - (z : Int) := by omega
    have h1'' : (a : Int) ≤ (nn : Int) - (z : Int) := by omega
    have HE := Lib.hid hE; clear hE
    by_cases h2 : t = 0
    · rw [decide_eq_true ⟨h1, h2⟩]
      subst h2
      go_enter Try.func32, Try.ntmps32
      go_wp2_with fail
      with_reducible refine HC.out.mono ?_
      rintro e w1 ⟨rfl, hb⟩
      have HB := Lib.hid hb; clear hb
      go_wp2
      go_ret
      exact ⟨rfl, HB.out⟩
    · rw [decide_eq_false (fun hh => h2 hh.2)]
      have h2' : ¬ (t : Int) = 0 := by omega
      have h2b : ((t : Int) == 0) = false := by rw [beq_eq_false_iff_ne]; exact h2'
      go_enter Try.func32, Try.ntmps32
      go_wp2_with fail
      with_reducible refine HC.out.mono ?_
      rintro e w1 ⟨rfl, hb⟩
      have HB := Lib.hid hb; clear hb
      go_wp2
      go_ret
      exact ⟨rfl, HB.out⟩
  · rw [decide_eq_false (fun hh => h1 hh.1)]
    have h1' : (a : Int) > (nn : Int) - (z : Int) := by omega
    have h1'' : (nn : Int) - (z : Int) < (a : Int) := by omega
    clear hE
    go_enter Try.func32, Try.ntmps32
    go_wp2
    go_ret
    exact ⟨rfl, Below.refl _ _⟩

/-- What the document has found among the chunks that begin below at. -/
def Fd (f : Nat → Bool) (n k goal at_ : Nat) (first : Int) : Prop :=
  (∀ b, b < at_ → Ch f n k b → b < goal) ∧ ((first = -1 ∧ ∀ b, b < at_ → ¬ Ch f n k b) ∨ (∃ a : Nat, first = (a : Int) ∧ Ch f n k a ∧ a < at_ ∧ ∀ b, b < at_ → Ch f n k b → a ≤ b))
theorem fd_end {f : Nat → Bool} {n k goal at_ : Nat} {first : Int} (h : Fd f n k goal at_ first) (hn : n ≤ at_) : IsFind f n k goal first := by
  have lt : ∀ b, Ch f n k b → b < at_ := fun b hb => by have := hb.2.1; have := Nat.two_pow_pos k; omega
  rcases h with ⟨hg, ⟨rfl, h⟩ | ⟨a, rfl, ha, hlt, h⟩⟩
  · exact .inl ⟨rfl, fun b hb => h b (lt b hb) hb⟩
  · exact .inr ⟨a, rfl, ha, .inr ⟨fun b hb => hg b (lt b hb) hb, fun b hb => h b (lt b hb) hb⟩⟩
theorem fd_here {f : Nat → Bool} {n k goal at_ : Nat} {first : Int} (h : Fd f n k goal at_ first) (hc : Ch f n k at_) (hg : goal ≤ at_) : IsFind f n k goal (at_ : Int) :=
  .inr ⟨at_, rfl, hc, .inl ⟨hg, fun b hb hgb => by
    rcases Nat.lt_or_ge b at_ with hl | hl
    · have := h.1 b hl hb; omega
    · exact hl⟩⟩
theorem fd_step {f : Nat → Bool} {n k at_ : Nat} (hd : 2 ^ k ∣ at_) : ∀ b, b < at_ + 2 ^ k → Ch f n k b → b < at_ ∨ b = at_ := fun b hb hc => by
  rcases Nat.lt_trichotomy b at_ with hl | hl | hl
  · exact .inl hl
  · exact .inr hl
  · have := dvd_step hd hc.1 hl; omega
theorem fd_not {f : Nat → Bool} {n k goal at_ : Nat} {first : Int} (h : Fd f n k goal at_ first) (hd : 2 ^ k ∣ at_) (hc : ¬ Ch f n k at_) : Fd f n k goal (at_ + 2 ^ k) first := by
  have hs := fd_step (f := f) (n := n) hd
  have hs' : ∀ b, b < at_ + 2 ^ k → Ch f n k b → b < at_ := fun b hb hbc => (hs b hb hbc).resolve_right (fun e => hc (e ▸ hbc))
  refine ⟨fun b hb hbc => h.1 b (hs' b hb hbc) hbc, ?_⟩
  rcases h.2 with ⟨e, h0⟩ | ⟨a, e, ha, hlt, hm⟩
  · exact .inl ⟨e, fun b hb hbc => h0 b (hs' b hb hbc) hbc⟩
  · exact .inr ⟨a, e, ha, by omega, fun b hb hbc => hm b (hs' b hb hbc) hbc⟩
theorem fd_new {f : Nat → Bool} {n k goal at_ : Nat} {first : Int} (h : Fd f n k goal at_ first) (hd : 2 ^ k ∣ at_) (hc : Ch f n k at_) (hg : at_ < goal) : Fd f n k goal (at_ + 2 ^ k) (if first < 0 then (at_ : Int) else first) := by
  have hs := fd_step (f := f) (n := n) hd
  have hp := Nat.two_pow_pos k
  refine ⟨fun b hb hbc => (hs b hb hbc).elim (fun hl => h.1 b hl hbc) (fun e => by omega), ?_⟩
  rcases h.2 with ⟨rfl, h0⟩ | ⟨a, rfl, ha, hlt, hm⟩
  · rw [if_pos (by omega)]
    exact .inr ⟨at_, rfl, hc, by omega, fun b hb hbc => (hs b hb hbc).elim (fun hl => absurd hbc (h0 b hl)) (fun e => by omega)⟩
  · rw [if_neg (by omega)]
    exact .inr ⟨a, rfl, ha, by omega, fun b hb hbc => (hs b hb hbc).elim (fun hl => hm b hl hbc) (fun e => by omega)⟩

set_option maxHeartbeats 2000000 in
theorem rfind_any (nn k goal : Nat) (h : Holds w B A len bs) (hB : B ≤ w.heap.size) (hl : len ≤ 140737488355328) (hnn : nn ≤ 1125899906842624) (hk : k ≤ 6) :
    Calls Try.prog 26 #[.slice A len c, .int .i64 (nn : Int), .int .i64 (k : Int), .int .i64 (goal : Int)] w fun e w' => ∃ r, IsFind (bt bs) nn k goal r ∧ e = .returned (.int .i64 r) ∧ Below w.heap.size w w' := by
  have q := run_shl1 k (by omega)
  have hz1 := Nat.two_pow_pos k
  have hz2 : 2 ^ k ≤ 2 ^ 6 := Nat.pow_le_pow_right (by omega) hk
  have hfr := fun (a : Nat) (ha : a ≤ 1125899906842688) (hd : 2 ^ k ∣ a) (V : World) (hV : Below w.heap.size w V) => rfree_any A len c B bs V nn a k (h.below (hV.mono hB)) (by have := hV.size; omega) hl hnn ha hk hd
  have HFR := Lib.hid hfr; clear hfr h
  obtain ⟨z, hz⟩ : ∃ z, z = 2 ^ k := ⟨_, rfl⟩
  rw [← hz] at q hz1 hz2
  have HZ := Lib.hid hz; clear hz
  go_enter Try.func26, Try.ntmps26
  go_wp2_with fail
  go_loopw [9, 10] (fun f i wr => ∃ (a : Nat) (first : Int), a ≤ nn + 64 ∧ 2 ^ k ∣ a ∧ i = .int .i64 (a : Int) ∧ f = .int .i64 first ∧ Fd (bt bs) nn k goal a first ∧ -1 ≤ first ∧ Below w.heap.size w wr) (fun f i _ => nn + 128 - (intOf i).toNat)
  case atStart => exact ⟨0, -1, by omega, ⟨0, rfl⟩, by first | trivial | rfl, by first | trivial | rfl, ⟨fun b hb => by omega, .inl ⟨rfl, fun b hb => by omega⟩⟩, by omega, Below.refl _ _⟩
  case round =>
    obtain ⟨a, first, ha, hd, rfl, rfl, hfd, hf1, hb⟩ := hrel
    have HFD := Lib.hid hfd; clear hfd
    have HB := Lib.hid hb; clear hb
    have HD := Lib.hid hd; clear hd
    by_cases hlt : a < nn
    · have hlt' : (a : Int) < (nn : Int) := by omega
      have e1 : IntKind.i64.wrap ((a : Int) + (z : Int)) = ((a + z : Nat) : Int) := by rw [IntWalk.i64_in _ (by omega)]; push_cast; rfl
      have hstep : 2 ^ k ∣ a + z := by rw [HZ.out]; exact Nat.dvd_add HD.out (Nat.dvd_refl _)
      have HST := Lib.hid hstep; clear hstep
      have hcall := HFR.out a (by omega) HD.out wr HB.out
      by_cases hc : FreeC (bt bs) nn a k
      · rw [decide_eq_true hc] at hcall
        have hch : Ch (bt bs) nn k a := ⟨HD.out, hc⟩
        have HCALL := Lib.hid hcall; clear hcall hc
        by_cases hg : goal ≤ a
        · have hfin := fd_here HFD.out hch hg
          have hg' : (a : Int) ≥ (goal : Int) := by omega
          have HFIN := Lib.hid hfin; clear hfin hch
          go_wp2_with fail
          with_reducible refine HCALL.out.mono ?_
          rintro e w1 ⟨rfl, hb1⟩
          have HB1 := Lib.hid (HB.out.trans (hb1.mono HB.out.size)); clear hb1 HCALL
          go_wp2
          go_ret
          exact ⟨_, HFIN.out, rfl, HB1.out⟩
        · have hg' : ¬ (a : Int) ≥ (goal : Int) := by omega
          have hnew := fd_new HFD.out HD.out hch (by omega)
          rw [← HZ.out] at hnew
          have HNEW := Lib.hid hnew; clear hnew hch
          by_cases hf : first < 0
          · have hneww := HNEW.out
            rw [if_pos hf] at hneww
            have HN := Lib.hid hneww; clear hneww HNEW
            go_wp2_with fail
            with_reducible refine HCALL.out.mono ?_
            rintro e w1 ⟨rfl, hb1⟩
            have HB1 := Lib.hid (HB.out.trans (hb1.mono HB.out.size)); clear hb1 HCALL
            go_wp2
            go_roundw
            case rel => exact ⟨a + z, (a : Int), by omega, HST.out, by go_num, rfl, HN.out, by omega, HB1.out⟩
            case measure => simp [intOf]; omega
          · have hneww := HNEW.out
            rw [if_neg hf] at hneww
            have HN := Lib.hid hneww; clear hneww HNEW
            go_wp2_with fail
            with_reducible refine HCALL.out.mono ?_
            rintro e w1 ⟨rfl, hb1⟩
            have HB1 := Lib.hid (HB.out.trans (hb1.mono HB.out.size)); clear hb1 HCALL
            go_wp2
            go_roundw
            case rel => exact ⟨a + z, first, by omega, HST.out, by go_num, rfl, HN.out, by omega, HB1.out⟩
            case measure => simp [intOf]; omega
      · rw [decide_eq_false hc] at hcall
        have hneww := fd_not HFD.out HD.out (fun hh => hc hh.2)
        rw [← HZ.out] at hneww
        have HN := Lib.hid hneww; clear hneww hc
        have HCALL := Lib.hid hcall; clear hcall
        go_wp2_with fail
        with_reducible refine HCALL.out.mono ?_
        rintro e w1 ⟨rfl, hb1⟩
        have HB1 := Lib.hid (HB.out.trans (hb1.mono HB.out.size)); clear hb1 HCALL
        go_wp2
        go_roundw
        case rel => exact ⟨a + z, first, by omega, HST.out, by go_num, rfl, HN.out, by omega, HB1.out⟩
        case measure => simp [intOf]; omega
    · have hlt' : ¬ (a : Int) < (nn : Int) := by omega
      have hfin := fd_end HFD.out (by omega)
      have HFIN := Lib.hid hfin; clear hfin
      go_wp2
      go_ret
      exact ⟨_, HFIN.out, rfl, HB.out⟩

theorem rfreeN_bad (x : Int) (hl : len ≤ 140737488355328) (hp : poolB len x = false) :
    Calls Try.prog 18 #[.slice A len c, .int .i64 x] w fun e w' => e = .returned (.tuple #[.int .i64 0, .int .i64 1]) ∧ w = w' := by
  have hpool := rpool_any A len c x w hl
  rw [hp] at hpool
  have HP := Lib.hid hpool; clear hpool hp
  go_enter Try.func18, Try.ntmps18
  go_wp2_with fail
  with_reducible refine HP.out.mono ?_
  rintro e w1 ⟨rfl, rfl⟩
  go_wp2
  go_ret2
  exact ⟨rfl, rfl⟩
theorem rfreeN_ok (nn : Nat) (h : Holds w B A len bs) (hB : B ≤ w.heap.size) (hl : len ≤ 140737488355328) (hnn : nn ≤ 8 * len) :
    Calls Try.prog 18 #[.slice A len c, .int .i64 (nn : Int)] w fun e w' => e = .returned (.tuple #[.int .i64 (freeN bs nn : Int), .int .i64 0]) ∧ Below w.heap.size w w' := by
  have hpool := rpool_any A len c (nn : Int) w hl
  have hpb : poolB len (nn : Int) = true := decide_eq_true (by omega)
  rw [hpb] at hpool
  have hc := rcount_at A len c B bs w h hB hl 0 nn
  have hle := cnt_le (bt bs) 0 nn
  unfold freeN
  obtain ⟨t, ht⟩ : ∃ t, t = cnt (bt bs) 0 nn := ⟨_, rfl⟩
  rw [← ht] at hc hle ⊢
  rw [Nat.zero_add] at hc
  have e1 : IntKind.i64.wrap ((nn : Int) - (t : Int)) = ((nn - t : Nat) : Int) := by rw [IntWalk.i64_in _ (by omega)]; omega
  have hc' : Calls Try.prog 30 #[.slice A len c, .int .i64 0, .int .i64 (nn : Int)] w _ := hc
  have HP := Lib.hid hpool; clear hpool hpb
  have HC := Lib.hid hc'; clear hc hc' ht h hle
  go_enter Try.func18, Try.ntmps18
  go_wp2_with fail
  with_reducible refine HP.out.mono ?_
  rintro e w1 ⟨rfl, rfl⟩
  go_wp2_with fail
  with_reducible refine HC.out.mono ?_
  rintro e w1 ⟨rfl, hb⟩
  have HB := Lib.hid hb; clear hb
  go_wp2
  go_ret2
  exact ⟨rfl, HB.out⟩
end
end Go.Proofs.Ytnkiblifnknbkaa.Buddy
