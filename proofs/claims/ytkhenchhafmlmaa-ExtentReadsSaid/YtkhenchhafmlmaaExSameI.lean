/- Two lists of numbers, the document's test; a copy of numbers. -/
import Derived.Test.YtkhenchhafmlmaaExInts
import Derived.Deep.QuietTactic
import Derived.BigQuiet
namespace Go.Proofs.Ytkhenchhafmlmaa.Ex
set_option maxRecDepth 20000
open Go.RowKit
open Go.Proofs.Ytkhenchhafmlmaa.Mem Go.Proofs.Ytkhenchhafmlmaa.Crc Go.Proofs.Ytkhenchhafmlmaa.Rec Go.Proofs.Ytkhenchhafmlmaa.Reg

set_option maxRecDepth 100000 in
theorem sameI_any (A A' : Option Addr) (n n' c c' B B' : Nat) (xs ys : List Int) (w : World) (h : HoldsI w B A n xs) (h' : HoldsI w B' A' n' ys) (hm : n ≤ 9223372036854775806) :
    Calls Try.prog 29 #[.slice A n c, .slice A' n' c'] w fun e w' => e = .returned (.bool (decide (xs = ys))) ∧ Below w.heap.size w w' := by
  by_cases hl : n = n'
  · subst hl
    have hx := h.1
    have hy := h'.1
    have H := Lib.hid h; clear h
    have H' := Lib.hid h'; clear h'
    have HX := Lib.hid hx; clear hx
    have HY := Lib.hid hy; clear hy
    go_enter Try.func29, Try.ntmps29
    go_wp2
    go_loopw [5] (fun i wr => ∃ k m : Nat, k ≤ n ∧ i = .int .i64 k ∧ wr = w.drewN m ∧ xs.take k = ys.take k) (fun i _ => n - (intOf i).toNat)
    case atStart => exact ⟨0, 0, by omega, rfl, rfl, by simp⟩
    case round =>
      obtain ⟨k, m, hk, rfl, rfl, htk⟩ := hrel
      have HT := Lib.hid htk; clear htk
      by_cases hlt : k < n
      · have hk1 : k < xs.length := by have := HX.out; omega
        have hk2 : k < ys.length := by have := HY.out; omega
        obtain ⟨x, hx⟩ : ∃ x, x = xs[k] := ⟨_, rfl⟩
        obtain ⟨y, hy⟩ : ∃ y, y = ys[k] := ⟨_, rfl⟩
        obtain ⟨b, off, rfl, -, hc⟩ := H.out.2 (by omega)
        obtain ⟨b', off', rfl, -, hc'⟩ := H'.out.2 (by omega)
        have e0 : w.cell? ⟨b, off + k, none⟩ = some (.int .i64 x) := hx ▸ hc k hk1
        have e1 : w.cell? ⟨b', off' + k, none⟩ = some (.int .i64 y) := hy ▸ hc' k hk2
        have hk0 : (0 : Int) ≤ (k : Int) := by omega
        have hkn : (k : Int) < (n : Int) := by omega
        have hsx : xs.take (k + 1) = xs.take k ++ [x] := by rw [hx]; exact List.take_succ_eq_append_getElem hk1
        have hsy : ys.take (k + 1) = ys.take k ++ [y] := by rw [hy]; exact List.take_succ_eq_append_getElem hk2
        have HSX := Lib.hid hsx; clear hsx
        have HSY := Lib.hid hsy; clear hsy
        clear hc hc'
        by_cases hq : x = y
        · subst hq
          clear hx hy
          go_wp2
          go_quiet (fail)
          all_goals
            go_wp2
            go_roundw
            case rel => exact ⟨k + 1, _, by omega, by go_num, rfl, by rw [HSX.out, HSY.out, HT.out]⟩
            case measure => simp [intOf]; omega
        · have hq1 : (x == y) = false := beq_eq_false_iff_ne.2 hq
          have hq2 : (x != y) = true := by rw [bne, hq1]; rfl
          have hne : decide (xs = ys) = false := decide_eq_false fun e => hq (by rw [hx, hy]; subst e; rfl)
          have HNE := Lib.hid hne; clear hne hq hx hy
          go_wp2
          go_quiet (fail)
          all_goals
            go_wp2
            go_ret
            exact ⟨by rw [HNE.out]; rfl, (show Below w.heap.size w w.drew from (Below.refl _ _).drew).trans ⟨rfl, rfl, rfl, Nat.le_refl _, fun _ _ => rfl⟩⟩
      · obtain rfl : k = n := by omega
        have hq : decide (xs = ys) = true := decide_eq_true (by
          have := HT.out; rwa [List.take_of_length_le (by have := HX.out; omega), List.take_of_length_le (by have := HY.out; omega)] at this)
        have HQ := Lib.hid hq; clear hq
        go_wp2
        go_ret
        exact ⟨by rw [HQ.out]; rfl, ⟨rfl, rfl, rfl, Nat.le_refl _, fun _ _ => rfl⟩⟩
  · have hne : decide (xs = ys) = false := decide_eq_false fun e => hl (by rw [← h.1, ← h'.1, e])
    have hl2 : ((n : Int) == (n' : Int)) = false := beq_eq_false_iff_ne.2 (by omega)
    have hl3 : ((n : Int) != (n' : Int)) = true := by rw [bne, hl2]; rfl
    have HNE := Lib.hid hne; clear hne h h'
    go_enter Try.func29, Try.ntmps29
    go_wp2
    go_ret
    exact ⟨by rw [HNE.out]; rfl, Below.refl _ _⟩
theorem ownI_empty (w : World) : OwnI (w.alloc (.cells #[] 3)) w.heap.size (.slice (some ⟨w.heap.size, 0, none⟩) 0 0) [] :=
  World.ownsRow_lit (e := 3) (size := 1) w #[] 0 (Nat.le_refl _) (by unfold maxLen; omega) (by simp)
/-- 'append([]int{}, a...)'. -/
theorem run_copyI (w : World) (A : Option Addr) (n c B : Nat) (xs : List Int) (h : HoldsI w B A n xs) (hB : B ≤ w.heap.size) (hn : n ≤ 17592186043904) :
    ∃ A' c' w', (Builtin.append_ #[45, 45] 45 #[.slice (some ⟨w.heap.size, 0, none⟩) 0 0, .slice A n c]).run Try.prog (w.alloc (.cells #[] 3)) = .ok (.slice A' n c') w' ∧ OwnI w' w.heap.size (.slice A' n c') xs ∧ Below w.heap.size w w' := by
  have ho := ownI_empty w
  have hb : Below w.heap.size w (w.alloc (.cells #[] 3)) := (Below.refl _ _).alloc (Nat.le_refl _) _
  obtain ⟨v', w', hrun, ho', hg, -⟩ := run_addI (w.alloc (.cells #[] 3)) 45 w.heap.size _ [] ho B A n c xs (h.below (hb.mono hB)) (by simp; omega) (by simp)
  obtain ⟨A', c', rfl⟩ := ho'.shape
  rw [List.nil_append] at ho' hrun
  rw [h.1] at ho' hrun
  exact ⟨A', c', w', hrun, ho', hb.trans ((Below.refl _ _).grown hg (by simp) (fun g e => (ho.lt g e).1))⟩
end Go.Proofs.Ytkhenchhafmlmaa.Ex
