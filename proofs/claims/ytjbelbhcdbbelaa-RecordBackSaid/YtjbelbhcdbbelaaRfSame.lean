/- Contracts of the document's comparing of records. -/
import Derived.Test.YtjbelbhcdbbelaaRcTxn
import Derived.RegionTactic
import Derived.ChangeAlike
import Derived.Deep.QuietTactic
import Derived.BigQuiet
namespace Go.Proofs.Ytjbelbhcdbbelaa.Rec
set_option maxRecDepth 20000
open Go.RowKit
open Go.Proofs.Ytjbelbhcdbbelaa.Mem Go.Proofs.Ytjbelbhcdbbelaa.Crc

/-- A world but for draws. -/
def Reads (w : World) (v : Value) (e : Ending) (w' : World) : Prop := e = .returned v ∧ ∃ n, w' = w.drewN n

set_option maxRecDepth 100000 in
theorem sameI_any (A A' : Option Addr) (n n' c c' B B' : Nat) (xs ys : List Int) (w : World) (h : HoldsI w B A n xs) (h' : HoldsI w B' A' n' ys) (hm : n ≤ 9223372036854775807) :
    Calls Try.prog 16 #[.slice A n c, .slice A' n' c'] w (Reads w (.bool (decide (xs = ys)))) := by
  by_cases hl : n = n'
  · subst hl
    have hx := h.1
    have hy := h'.1
    have H := Lib.hid h; clear h
    have H' := Lib.hid h'; clear h'
    have HX := Lib.hid hx; clear hx
    have HY := Lib.hid hy; clear hy
    go_enter Try.func16, Try.ntmps16
    go_wp2
    go_loopw [5] (fun i wr => ∃ k m : Nat, k ≤ n ∧ i = .int .i64 k ∧ wr = w.drewN m ∧ xs.take k = ys.take k) (fun i _ => n - (intOf i).toNat)
    case atStart => exact ⟨0, 0, by omega, rfl, rfl, by simp⟩
    case round =>
      obtain ⟨k, m, hk, rfl, rfl, htk⟩ := hrel
      have HT := Lib.hid htk; clear htk
      by_cases hlt : k < n
      · obtain ⟨x, hx⟩ : ∃ x, xs[k]? = some x := ⟨_, List.getElem?_eq_getElem (by have := HX.out; omega)⟩
        obtain ⟨y, hy⟩ : ∃ y, ys[k]? = some y := ⟨_, List.getElem?_eq_getElem (by have := HY.out; omega)⟩
        obtain ⟨b, off, rfl, -, hc⟩ := H.out.2 (by omega)
        obtain ⟨b', off', rfl, -, hc'⟩ := H'.out.2 (by omega)
        have e0 : w.cell? ⟨b, off + k, none⟩ = some (.int .i64 x) := hc k x hx
        have e1 : w.cell? ⟨b', off' + k, none⟩ = some (.int .i64 y) := hc' k y hy
        have hk0 : (0 : Int) ≤ (k : Int) := by omega
        have hkn : (k : Int) < (n : Int) := by omega
        have hsx : xs.take (k + 1) = xs.take k ++ [x] := by
          obtain ⟨hk, rfl⟩ := List.getElem?_eq_some_iff.1 hx
          exact List.take_succ_eq_append_getElem hk
        have hsy : ys.take (k + 1) = ys.take k ++ [y] := by
          obtain ⟨hk, rfl⟩ := List.getElem?_eq_some_iff.1 hy
          exact List.take_succ_eq_append_getElem hk
        have HSX := Lib.hid hsx; clear hsx
        have HSY := Lib.hid hsy; clear hsy
        have HXX := Lib.hid hx; clear hx
        have HYY := Lib.hid hy; clear hy
        clear hc hc'
        by_cases hq : x = y
        · subst hq
          go_wp2
          go_quiet (fail)
          all_goals
            go_wp2
            go_roundw
            case rel => exact ⟨k + 1, _, by omega, by go_num, rfl, by rw [HSX.out, HSY.out, HT.out]⟩
            case measure => simp [intOf]; omega
        · have hq1 : (x == y) = false := beq_eq_false_iff_ne.2 hq
          have hq2 : (x != y) = true := by rw [bne, hq1]; rfl
          have hne : decide (xs = ys) = false := decide_eq_false fun e => hq (by
            have := HXX.out; rw [e, HYY.out] at this; injection this with this; exact this.symm)
          have HNE := Lib.hid hne; clear hne hq
          go_wp2
          go_quiet (fail)
          all_goals
            go_wp2
            go_ret
            exact ⟨by rw [HNE.out]; rfl, _, World.drewN_drewN _ _ _⟩
      · obtain rfl : k = n := by omega
        have hq : decide (xs = ys) = true := decide_eq_true (by
          have := HT.out; rwa [List.take_of_length_le (by have := HX.out; omega), List.take_of_length_le (by have := HY.out; omega)] at this)
        have HQ := Lib.hid hq; clear hq
        go_wp2
        go_ret
        exact ⟨by rw [HQ.out]; rfl, m, rfl⟩
  · have hne : decide (xs = ys) = false := decide_eq_false fun e => hl (by rw [← h.1, ← h'.1, e])
    have hl2 : ((n : Int) == (n' : Int)) = false := beq_eq_false_iff_ne.2 (by omega)
    have hl3 : ((n : Int) != (n' : Int)) = true := by rw [bne, hl2]; rfl
    have HNE := Lib.hid hne; clear hne h h'
    go_enter Try.func16, Try.ntmps16
    go_wp2
    go_ret
    exact ⟨by rw [HNE.out]; rfl, 0, rfl⟩

theorem _root_.Go.RowKit.Below.drewN {B : Nat} {a w : World} (h : Below B a w) (n : Nat) : Below B a (w.drewN n) := ⟨h.os, h.tape, h.output, h.size, h.block⟩
def sameB (t u : Tx) : Bool := decide (t.seq = u.seq) && (decide (t.ws = u.ws) && decide (t.rs = u.rs))
theorem sameB_iff (t u : Tx) : sameB t u = true ↔ t = u := by
  obtain ⟨a, b, c⟩ := t
  obtain ⟨a', b', c'⟩ := u
  simp [sameB]
theorem sameB_false (t u : Tx) (h : t ≠ u) : sameB t u = false := by
  cases hb : sameB t u
  · rfl
  · exact absurd ((sameB_iff t u).1 hb) h

set_option maxRecDepth 100000 in
set_option maxHeartbeats 4000000 in
theorem same_any (t u : Tx) (Aw Ar : Option Addr) (nw cw nr cr B : Nat) (Aw' Ar' : Option Addr) (nw' cw' nr' cr' B' : Nat) (w : World) (h : TxAt w B t Aw nw cw Ar nr cr) (hB : B ≤ w.heap.size) (h' : TxAt w B' u Aw' nw' cw' Ar' nr' cr') (hB' : B' ≤ w.heap.size)
    (hm1 : nw ≤ 9223372036854775807) (hm2 : nr ≤ 9223372036854775807) :
    Calls Try.prog 7 #[.agg #[.int .u64 (t.seq : Int), .slice Aw nw cw, .slice Ar nr cr], .agg #[.int .u64 (u.seq : Int), .slice Aw' nw' cw', .slice Ar' nr' cr']] w
      fun e w' => e = .returned (.bool (sameB t u)) ∧ Below w.heap.size w w' := by
  obtain ⟨cur, hcur⟩ : ∃ c, c = #[Value.int .u64 (t.seq : Int), .slice Aw nw cw, .slice Ar nr cr] := ⟨_, rfl⟩
  obtain ⟨cur', hcur'⟩ : ∃ c, c = #[Value.int .u64 (u.seq : Int), .slice Aw' nw' cw', .slice Ar' nr' cr'] := ⟨_, rfl⟩
  obtain ⟨W, hW⟩ : ∃ W, W = (w.alloc (.cells cur 26)).alloc (.cells cur' 26) := ⟨_, rfl⟩
  have hb : Below w.heap.size w W := by rw [hW]; exact ((Below.refl w.heap.size w).alloc (Nat.le_refl _) _).alloc (by simp) _
  have hk1 : W.heap[w.heap.size]? = some (.cells cur 26 (0, 0)) := by rw [hW, Below.heap_alloc _ _ _ (by simp)]; exact heap_alloc_new w _
  have hk2 : W.heap[w.heap.size + 1]? = some (.cells cur' 26 (0, 0)) := by
    rw [hW]
    have := heap_alloc_new (w.alloc (.cells cur 26)) (.cells cur' 26)
    rwa [show (w.alloc (.cells cur 26)).heap.size = w.heap.size + 1 by simp] at this
  have hT := h.below (hb.mono hB)
  have hT' := h'.below (hb.mono hB')
  have a0 : W.cell? ⟨w.heap.size, 0, none⟩ = some (.int .u64 (t.seq : Int)) := by rw [cell_of_row _ _ _ _ _ _ hk1, hcur]; rfl
  have a1 : W.cell? ⟨w.heap.size, 1, none⟩ = some (.slice Aw nw cw) := by rw [cell_of_row _ _ _ _ _ _ hk1, hcur]; rfl
  have a2 : W.cell? ⟨w.heap.size, 2, none⟩ = some (.slice Ar nr cr) := by rw [cell_of_row _ _ _ _ _ _ hk1, hcur]; rfl
  have b0 : W.cell? ⟨w.heap.size + 1, 0, none⟩ = some (.int .u64 (u.seq : Int)) := by rw [cell_of_row _ _ _ _ _ _ hk2, hcur']; rfl
  have b1 : W.cell? ⟨w.heap.size + 1, 1, none⟩ = some (.slice Aw' nw' cw') := by rw [cell_of_row _ _ _ _ _ _ hk2, hcur']; rfl
  have b2 : W.cell? ⟨w.heap.size + 1, 2, none⟩ = some (.slice Ar' nr' cr') := by rw [cell_of_row _ _ _ _ _ _ hk2, hcur']; rfl
  have HB := Lib.hid hb; clear hb
  have HT := Lib.hid hT; clear hT h
  have HT' := Lib.hid hT'; clear hT' h'
  clear hk1 hk2
  by_cases hs : t.seq = u.seq
  · by_cases hl : nw = nw'
    · subst hl
      by_cases hr : t.rs = u.rs
      · have hrd : decide (t.rs = u.rs) = true := decide_eq_true hr
        have hs1 : ((t.seq : Int) == (u.seq : Int)) = true := by rw [hs]; exact beq_self_eq_true _
        have hs2 : ((t.seq : Int) != (u.seq : Int)) = false := by rw [bne, hs1]; rfl
        have HR := Lib.hid hrd; clear hrd
        have HRE := Lib.hid hr; clear hr
        have HSE := Lib.hid hs; clear hs
        generalize (t.seq : Int) = s1 at a0 hs1 hs2 hcur ⊢
        generalize (u.seq : Int) = s2 at b0 hs1 hs2 hcur' ⊢
        have HW := Lib.hid hW; clear hW
        have HC := Lib.hid hcur; clear hcur
        have HC' := Lib.hid hcur'; clear hcur'
        go_enter Try.func7, Try.ntmps7
        go_wp2_with fail
        rw [← HC.out, ← HC'.out, ← HW.out]
        go_wp2_with fail
        refine (sameI_any Ar Ar' nr nr' cr cr' B B' t.rs u.rs W HT.out.rs HT'.out.rs hm2).mono ?_
        rintro e W1 ⟨rfl, m0, rfl⟩
        rw [HR.out]
        go_wp2
        go_loopw [5] (fun i wr => ∃ k m : Nat, k ≤ nw ∧ i = .int .i64 k ∧ wr = W.drewN m ∧ t.ws.take k = u.ws.take k) (fun i _ => nw - (intOf i).toNat)
        case atStart => exact ⟨0, m0, by omega, rfl, rfl, by simp⟩
        case round =>
          obtain ⟨k, m, hk, rfl, rfl, htk⟩ := hrel
          have HTK := Lib.hid htk; clear htk
          by_cases hlt : k < nw
          · obtain ⟨x, hx⟩ : ∃ x, t.ws[k]? = some x := ⟨_, List.getElem?_eq_getElem (by have := HT.out.ws.1; omega)⟩
            obtain ⟨y, hy⟩ : ∃ y, u.ws[k]? = some y := ⟨_, List.getElem?_eq_getElem (by have := HT'.out.ws.1; omega)⟩
            obtain ⟨b, off, rfl, -, hc⟩ := HT.out.ws.2 (by omega)
            obtain ⟨b', off', rfl, -, hc'⟩ := HT'.out.ws.2 (by omega)
            obtain ⟨e0, Ax, cx, e1, hh, -, -⟩ := hc k x hx
            obtain ⟨g0, Ay, cy, g1, hh', -, -⟩ := hc' k y hy
            have tx : ∀ q, (convert 27 9 (.slice Ax x.2.length cx)).run Try.prog (W.drewN q) = .ok (.string ⟨x.2.toArray⟩) (W.drewN q) := fun q => run_text (W.drewN q) B Ax _ cx _ hh
            have ty : ∀ q, (convert 27 9 (.slice Ay y.2.length cy)).run Try.prog (W.drewN q) = .ok (.string ⟨y.2.toArray⟩) (W.drewN q) := fun q => run_text (W.drewN q) B' Ay _ cy _ hh'
            have hk0 : (0 : Int) ≤ (k : Int) := by omega
            have hkn : (k : Int) < (nw : Int) := by omega
            have hsx : t.ws.take (k + 1) = t.ws.take k ++ [x] := by
              obtain ⟨hk, rfl⟩ := List.getElem?_eq_some_iff.1 hx
              exact List.take_succ_eq_append_getElem hk
            have hsy : u.ws.take (k + 1) = u.ws.take k ++ [y] := by
              obtain ⟨hk, rfl⟩ := List.getElem?_eq_some_iff.1 hy
              exact List.take_succ_eq_append_getElem hk
            have HSX := Lib.hid hsx; clear hsx
            have HSY := Lib.hid hsy; clear hsy
            have HXX := Lib.hid hx; clear hx
            have HYY := Lib.hid hy; clear hy
            clear hc hc' hh hh'
            have hne0 : x ≠ y → sameB t u = false := fun h => sameB_false t u fun e => h (by
              have := HXX.out; rw [e, HYY.out] at this; injection this with this; exact this.symm)
            have HNE0 := Lib.hid hne0; clear hne0
            obtain ⟨x1, x2⟩ := x
            obtain ⟨y1, y2⟩ := y
            dsimp only at e0 e1 g0 g1 tx ty
            generalize hL1 : x2.length = L1 at e1 tx
            generalize hL2 : y2.length = L2 at g1 ty
            clear hL1 hL2
            by_cases hq : x1 = y1
            · subst hq
              by_cases hz : x2 = y2
              · subst hz
                go_wp2
                go_quiet (fail)
                all_goals
                  go_wp2
                  go_roundw
                  case rel => exact ⟨k + 1, _, by omega, by go_num, rfl, by rw [HSX.out, HSY.out, HTK.out]⟩
                  case measure => simp [intOf]; omega
              · have hz1 : (x2 == y2) = false := beq_eq_false_iff_ne.2 hz
                have hz2 : (x2 != y2) = true := by rw [bne, hz1]; rfl
                have hnf := HNE0.out (fun e => hz (by injection e))
                have HNE := Lib.hid hnf; clear hnf
                go_wp2
                go_quiet (fail)
                all_goals
                  go_wp2
                  go_ret
                  exact ⟨Eq.trans (b := Ending.returned (.bool false)) (by first | rfl | simp [hz1, hz2, hz]) (by rw [HNE.out]), by first | exact HB.out.drewN _ | exact (HB.out.drewN _).drewN _⟩
            · have hq1 : (x1 == y1) = false := beq_eq_false_iff_ne.2 hq
              have hq2 : (x1 != y1) = true := by rw [bne, hq1]; rfl
              have hnf := HNE0.out (fun e => hq (by injection e))
              have HNE := Lib.hid hnf; clear hnf
              go_wp2
              go_quiet (fail)
              all_goals
                go_wp2
                go_ret
                exact ⟨Eq.trans (b := Ending.returned (.bool false)) rfl (by rw [HNE.out]), by first | exact HB.out.drewN _ | exact (HB.out.drewN _).drewN _⟩
          · obtain rfl : nw = k := by omega
            have hq : sameB t u = true := (sameB_iff t u).2 (by
              have h1 := HTK.out
              rw [List.take_of_length_le (by have := HT.out.ws.1; omega), List.take_of_length_le (by have := HT'.out.ws.1; omega)] at h1
              have h2 := HRE.out
              have h3 := HSE.out
              cases t; cases u; simp_all)
            have HQ := Lib.hid hq; clear hq
            go_wp2
            go_ret
            exact ⟨Eq.trans (b := Ending.returned (.bool true)) rfl (by rw [HQ.out]), HB.out.drewN _⟩
      · have hrd : decide (t.rs = u.rs) = false := decide_eq_false hr
        have hs1 : ((t.seq : Int) == (u.seq : Int)) = true := by rw [hs]; exact beq_self_eq_true _
        have hs2 : ((t.seq : Int) != (u.seq : Int)) = false := by rw [bne, hs1]; rfl
        have hnf := sameB_false t u (fun e => hr (by rw [e]))
        have HNE := Lib.hid hnf; clear hnf
        have HR := Lib.hid hrd; clear hrd
        clear hs hr
        generalize (t.seq : Int) = s1 at a0 hs1 hs2 hcur ⊢
        generalize (u.seq : Int) = s2 at b0 hs1 hs2 hcur' ⊢
        have HW := Lib.hid hW; clear hW
        have HC := Lib.hid hcur; clear hcur
        have HC' := Lib.hid hcur'; clear hcur'
        go_enter Try.func7, Try.ntmps7
        go_wp2_with fail
        rw [← HC.out, ← HC'.out, ← HW.out]
        go_wp2_with fail
        refine (sameI_any Ar Ar' nr nr' cr cr' B B' t.rs u.rs W HT.out.rs HT'.out.rs hm2).mono ?_
        rintro e W1 ⟨rfl, m0, rfl⟩
        rw [HR.out]
        go_wp2
        go_ret
        exact ⟨Eq.trans (b := Ending.returned (.bool false)) rfl (by rw [HNE.out]), by first | exact HB.out.drewN _ | exact (HB.out.drewN _).drewN _⟩
    · have hnf := sameB_false t u (fun e => hl (by rw [← HT.out.ws.1, ← HT'.out.ws.1, e]))
      have hs1 : ((t.seq : Int) == (u.seq : Int)) = true := by rw [hs]; exact beq_self_eq_true _
      have hs2 : ((t.seq : Int) != (u.seq : Int)) = false := by rw [bne, hs1]; rfl
      have hl2 : ((nw : Int) == (nw' : Int)) = false := beq_eq_false_iff_ne.2 (by omega)
      have hl3 : ((nw : Int) != (nw' : Int)) = true := by rw [bne, hl2]; rfl
      have HNE := Lib.hid hnf; clear hnf
      clear hs hl
      generalize (t.seq : Int) = s1 at a0 hs1 hs2 hcur ⊢
      generalize (u.seq : Int) = s2 at b0 hs1 hs2 hcur' ⊢
      have HW := Lib.hid hW; clear hW
      have HC := Lib.hid hcur; clear hcur
      have HC' := Lib.hid hcur'; clear hcur'
      go_enter Try.func7, Try.ntmps7
      go_wp2_with fail
      rw [← HC.out, ← HC'.out, ← HW.out]
      go_wp2
      go_ret
      exact ⟨Eq.trans (b := Ending.returned (.bool false)) rfl (by rw [HNE.out]), HB.out⟩
  · have hnf := sameB_false t u (fun e => hs (by rw [e]))
    have hs1 : ((t.seq : Int) == (u.seq : Int)) = false := beq_eq_false_iff_ne.2 (by omega)
    have hs2 : ((t.seq : Int) != (u.seq : Int)) = true := by rw [bne, hs1]; rfl
    have HNE := Lib.hid hnf; clear hnf
    clear hs
    generalize (t.seq : Int) = s1 at a0 hs1 hs2 hcur ⊢
    generalize (u.seq : Int) = s2 at b0 hs1 hs2 hcur' ⊢
    have HW := Lib.hid hW; clear hW
    have HC := Lib.hid hcur; clear hcur
    have HC' := Lib.hid hcur'; clear hcur'
    go_enter Try.func7, Try.ntmps7
    go_wp2_with fail
    rw [← HC.out, ← HC'.out, ← HW.out]
    go_wp2
    go_ret
    exact ⟨Eq.trans (b := Ending.returned (.bool false)) rfl (by rw [HNE.out]), HB.out⟩
end Go.Proofs.Ytjbelbhcdbbelaa.Rec
