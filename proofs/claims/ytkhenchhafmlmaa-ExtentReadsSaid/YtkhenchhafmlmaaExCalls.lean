/- Contracts of Check, Need, Find, slices.Concat and Put. -/
import Derived.Test.YtkhenchhafmlmaaExRight
import Derived.Test.YtkhenchhafmlmaaExCuts
import Derived.Test.YtkhenchhafmlmaaExConcat
namespace Go.Proofs.Ytkhenchhafmlmaa.Ex
set_option maxRecDepth 20000
open Go.RowKit
open Go.Proofs.Ytkhenchhafmlmaa.Mem Go.Proofs.Ytkhenchhafmlmaa.Crc Go.Proofs.Ytkhenchhafmlmaa.Rec Go.Proofs.Ytkhenchhafmlmaa.Reg
attribute [local go_sem ↓] ldX_eq stX_eq

def chkX (l : List X) : Int := if right l then 0 else 1
set_option maxRecDepth 100000 in
theorem check_any (A : Option Addr) (n c B : Nat) (l : List X) (w : World) (h : HoldsX w B A n l) (hB : B ≤ w.heap.size) (hr : ∀ x ∈ l, x.rep) (hc : n ≤ c) :
    Calls Try.prog 16 #[.slice A n c] w fun e w' => e = .returned (.int .i64 (chkX l)) ∧ Below w.heap.size w w' := by
  have hcall := right_any A n c B l w h hB hr hc
  unfold chkX
  generalize right l = r at hcall ⊢
  have HC := Lib.hid hcall; clear hcall h hr hc
  cases r with
  | true =>
    go_enter Try.func16, Try.ntmps16
    go_wp2_with fail
    with_reducible refine HC.out.mono ?_
    rintro E V ⟨rfl, hb⟩
    have HB := Lib.hid hb; clear hb
    go_wp2
    go_ret
    exact ⟨rfl, HB.out⟩
  | false =>
    go_enter Try.func16, Try.ntmps16
    go_wp2_with fail
    with_reducible refine HC.out.mono ?_
    rintro E V ⟨rfl, hb⟩
    have HB := Lib.hid hb; clear hb
    go_wp2
    go_ret
    exact ⟨rfl, HB.out⟩
def needN (n : Nat) : Nat := if n ≤ 4 then 0 else (n + 19) / 20
def needL (l : List X) : Int := if right l then (needN l.length : Int) else -1
set_option maxRecDepth 100000 in
theorem need_any (A : Option Addr) (n c B : Nat) (l : List X) (w : World) (h : HoldsX w B A n l) (hB : B ≤ w.heap.size) (hr : ∀ x ∈ l, x.rep) (hc : n ≤ c) :
    Calls Try.prog 18 #[.slice A n c] w fun e w' => e = .returned (.int .i64 (needL l)) ∧ Below w.heap.size w w' := by
  have hcall := right_any A n c B l w h hB hr hc
  have hln := h.1
  unfold needL
  cases hrl : right l with
  | true =>
    rw [hrl] at hcall
    have HC := Lib.hid hcall; clear hcall h hr hc
    have h60 : n ≤ 60 := by have := (right_lin hrl).2.2.2.2; omega
    clear hrl
    rw [if_pos rfl]
    unfold needN
    rw [hln]
    clear hln
    by_cases h4 : n ≤ 4
    · rw [if_pos h4]
      have h4' : (n : Int) ≤ 4 := by omega
      go_enter Try.func18, Try.ntmps18
      go_wp2_with fail
      with_reducible refine HC.out.mono ?_
      rintro E V ⟨rfl, hb⟩
      have HB := Lib.hid hb; clear hb
      go_wp2
      go_ret
      exact ⟨rfl, HB.out⟩
    · rw [if_neg h4]
      have h4' : ¬ (n : Int) ≤ 4 := by omega
      have hd : ((n : Int) + 19).tdiv 20 = (((n + 19) / 20 : Nat) : Int) := by
        rw [show ((n : Int) + 19) = ((n + 19 : Nat) : Int) by omega]
        exact (Int.ofNat_tdiv (n + 19) 20).symm
      have hs : ((n : Int) + 20) - 1 = (n : Int) + 19 := by omega
      have hdq : (n + 19) / 20 ≤ 4 := by omega
      have hww : IntKind.i64.wrap (((n + 19) / 20 : Nat) : Int) = (((n + 19) / 20 : Nat) : Int) := by rw [IntKind.wrap_i64]; omega
      generalize (n + 19) / 20 = q at hd hdq hww ⊢
      go_enter Try.func18, Try.ntmps18
      go_wp2_with fail
      with_reducible refine HC.out.mono ?_
      rintro E V ⟨rfl, hb⟩
      have HB := Lib.hid hb; clear hb
      go_wp2
      go_ret
      exact ⟨rfl, HB.out⟩
  | false =>
    rw [hrl] at hcall
    have HC := Lib.hid hcall; clear hcall h hr hc hrl
    go_enter Try.func18, Try.ntmps18
    go_wp2_with fail
    with_reducible refine HC.out.mono ?_
    rintro E V ⟨rfl, hb⟩
    have HB := Lib.hid hb; clear hb
    go_wp2
    go_ret
    exact ⟨rfl, HB.out⟩

theorem at_first {l : List X} {b : Int} {k : Nat} (hk : k < l.length) (hno : ∀ j, (h : j < l.length) → j < k → ¬ ((l[j]).a ≤ b ∧ b < (l[j]).a + (l[j]).n)) (h : (l[k]).a ≤ b ∧ b < (l[k]).a + (l[k]).n) : at_ l b = some ((l[k]).s + b - (l[k]).a, (l[k]).u) := by
  induction l generalizing k with
  | nil => simp at hk
  | cons x l ih =>
    unfold at_
    cases k with
    | zero => simp only [List.getElem_cons_zero] at h ⊢; rw [if_pos h]
    | succ k =>
      have h0 := hno 0 (by simp) (by omega)
      simp only [List.getElem_cons_zero] at h0
      rw [if_neg h0]
      have := ih (k := k) (by simpa using hk) (fun j hj hjk => by have := hno (j + 1) (by simpa using hj) (by omega); simpa using this) (by simpa using h)
      simpa using this
def findV (r : Int × Bool × Bool) : Value := .tuple #[.int .i64 r.1, .bool r.2.1, .bool r.2.2]
set_option maxRecDepth 100000 in
set_option maxHeartbeats 2000000 in
theorem find_any (A : Option Addr) (n c B : Nat) (l : List X) (b : Int) (w : World) (h : HoldsX w B A n l) (hB : B ≤ w.heap.size) (hr : ∀ x ∈ l, x.rep) (hc : n ≤ c) :
    Calls Try.prog 24 #[.slice A n c, .int .i64 b] w fun e w' => e = .returned (findV (findL l b)) ∧ Below w.heap.size w w' := by
  have hcall := right_any A n c B l w h hB hr hc
  have hln := h.1
  cases hrl : right l with
  | false =>
    rw [hrl] at hcall
    rw [show findL l b = (0, false, false) by simp [findL, hrl]]
    have HC := Lib.hid hcall; clear hcall h hr hc hrl
    go_enter Try.func24, Try.ntmps24
    go_wp2_with fail
    with_reducible refine HC.out.mono ?_
    rintro E V ⟨rfl, hb⟩
    have HB := Lib.hid hb; clear hb
    go_wp2
    go_ret3
    exact ⟨rfl, HB.out⟩
  | true =>
    rw [hrl] at hcall
    have hmay := ((right_iff l).1 hrl).2.1
    have h60 : n ≤ 60 := by have := (right_lin hrl).2.2.2.2; omega
    obtain ⟨res, hres⟩ : ∃ res, res = findL l b := ⟨_, rfl⟩
    rw [← hres]
    have HRES := Lib.hid hres; clear hres
    have HRL := Lib.hid hrl
    have HC := Lib.hid hcall; clear hcall hr hrl
    have HMAY := Lib.hid hmay; clear hmay
    have H := Lib.hid h; clear h
    have HLN := Lib.hid hln; clear hln
    go_enter Try.func24, Try.ntmps24
    go_wp2_with fail
    with_reducible refine HC.out.mono ?_
    rintro E V ⟨rfl, hb⟩
    have HB := Lib.hid hb; clear hb
    go_wp2
    go_loopw [14] (fun i wr => ∃ k : Nat, k ≤ n ∧ i = .int .i64 (k : Int) ∧ (∀ j, (h : j < l.length) → j < k → ¬ ((l[j]).a ≤ b ∧ b < (l[j]).a + (l[j]).n)) ∧ Below w.heap.size w wr) (fun i _ => n - (intOf i).toNat)
    case atStart => exact ⟨0, Nat.zero_le _, rfl, fun j _ h => absurd h (by omega), HB.out⟩
    case round =>
      obtain ⟨k, hk, rfl, hno, hbr⟩ := hrel
      have HNO := Lib.hid hno; clear hno
      rcases Nat.lt_or_ge k n with hlt | hge
      rotate_left
      · have hkn : k = n := by omega
        have hnone : at_ l b = none := at_none fun x hx => by
          obtain ⟨j, hj, rfl⟩ := List.getElem_of_mem hx
          exact HNO.out j hj (by have := HLN.out; omega)
        have hrr : res = (0, false, false) := by rw [HRES.out]; simp [findL, HRL.out, hnone]
        have HRR := Lib.hid hrr; clear hrr hnone
        have HBR := Lib.hid hbr; clear hbr
        have HKN := Lib.hid hkn; clear hkn
        have hge' : ¬ (k : Int) < (n : Int) := by omega
        go_wp2
        go_ret3
        exact ⟨by rw [HRR.out]; rfl, HBR.out⟩
      · obtain ⟨bb, off, rfl, hbB⟩ := H.out.addr (by omega)
        have hkl : k < l.length := by have := HLN.out; omega
        obtain ⟨x, hx⟩ : ∃ x, x = l[k] := ⟨_, rfl⟩
        have hxm := may_iff.1 (HMAY.out x (hx ▸ List.getElem_mem hkl))
        have hld := run_ldX_at (H.out.below (hbr.mono hB)) k hkl (off + k * 4) rfl
        rw [← hx] at hld
        have hst := run_stX_new wr x
        obtain ⟨W1, hW1⟩ : ∃ W1, W1 = wr.alloc (.cells x.c 24) := ⟨_, rfl⟩
        have hv1 : VarX W1 wr.heap.size x := hW1 ▸ VarX.new wr x
        have hb1 : Below w.heap.size w W1 := hW1 ▸ hbr.alloc hbr.size _
        rw [← hW1] at hst
        obtain ⟨c0, c1, c2, c3⟩ := hv1.cells
        have hfirst := at_first (l := l) (b := b) hkl HNO.out
        rw [← hx] at hfirst
        have hk0 : (0 : Int) ≤ (k : Int) := by omega
        have hkn : (k : Int) < (n : Int) := by omega
        have HX := Lib.hid hx; clear hx
        have HB1 := Lib.hid hb1; clear hb1
        have HF := Lib.hid hfirst; clear hfirst
        clear hW1 hv1 hbr
        generalize x.c = C at hld hst
        obtain ⟨xa, hxa⟩ : ∃ xa, xa = x.a := ⟨_, rfl⟩
        obtain ⟨xs, hxs⟩ : ∃ xs, xs = x.s := ⟨_, rfl⟩
        obtain ⟨xn, hxn⟩ : ∃ xn, xn = x.n := ⟨_, rfl⟩
        obtain ⟨xu, hxu⟩ : ∃ xu, xu = x.u := ⟨_, rfl⟩
        rw [← hxa] at c0
        rw [← hxs] at c1
        rw [← hxn] at c2
        rw [← hxu] at c3
        have hran : 0 ≤ xa ∧ 1 ≤ xs ∧ 1 ≤ xn ∧ xa + xn ≤ 256 ∧ xs + xn ≤ 1024 := by omega
        obtain ⟨r1, r2, r3, r4, r5⟩ := hran
        have HXA : Hid (l[k].a = xa ∧ l[k].n = xn) := Lib.hid (by rw [← HX.out]; exact ⟨hxa.symm, hxn.symm⟩)
        have HFF : Hid (xa ≤ b ∧ b < xa + xn → at_ l b = some (xs + b - xa, xu)) := Lib.hid (by rw [hxa, hxs, hxn, hxu]; exact HF.out)
        clear hxa hxs hxn hxu hxm HF
        have hnext : ¬ (xa ≤ b ∧ b < xa + xn) → ∀ j, (h : j < l.length) → j < k + 1 → ¬ ((l[j]).a ≤ b ∧ b < (l[j]).a + (l[j]).n) := fun hn j hj hjk => by
          rcases Nat.lt_or_ge j k with h' | h'
          · exact HNO.out j hj h'
          · have hjk' : j = k := by omega
            subst hjk'
            rw [HXA.out.1, HXA.out.2]; exact hn
        have HNEXT := Lib.hid hnext; clear hnext
        rcases Decidable.em (xa ≤ b) with g1 | g1
        rotate_left
        · have HNX := Lib.hid (HNEXT.out (fun h => g1 h.1))
          go_wp2
          go_roundw
          case rel => exact ⟨k + 1, by omega, by go_num, HNX.out, HB1.out⟩
          case measure => simp [intOf]; omega
        rcases Decidable.em (b < xa + xn) with g2 | g2
        rotate_left
        · have HNX := Lib.hid (HNEXT.out (fun h => g2 h.2))
          go_wp2
          go_roundw
          case rel => exact ⟨k + 1, by omega, by go_num, HNX.out, HB1.out⟩
          case measure => simp [intOf]; omega
        have hrr : res = (xs + b - xa, !xu, true) := by rw [HRES.out]; simp [findL, HRL.out, HFF.out ⟨g1, g2⟩]
        have HRR := Lib.hid hrr; clear hrr
        have hws : IntKind.i64.wrap (xs + b) = xs + b := by rw [IntKind.wrap_i64]; omega
        have hwd : IntKind.i64.wrap (xs + b - xa) = xs + b - xa := by rw [IntKind.wrap_i64]; omega
        go_wp2_with fail
        go_region
        all_goals
          go_wp2
          go_ret3
          exact ⟨by rw [HRR.out]; rfl, HB1.out.drew⟩
end Go.Proofs.Ytkhenchhafmlmaa.Ex
