/- Contracts of where a block and an inode of a geometry lie: the program's and the document's. -/
import Derived.Test.YtmlkhnglmjlfbaaGmIs
import Derived.OwnWalk
namespace Go.Proofs.Ytmlkhnglmjlfbaa.Gm
set_option maxRecDepth 20000
open Go.RowKit
open Go.Proofs.Ytmlkhnglmjlfbaa.Mem
attribute [local go_sem ↓] ldG_eq stG_eq eqG_eq

/-- Where an inode lies. -/
def inodeE (g : Gm) (i : Int) : Value := if g.is = true ∧ 0 ≤ i ∧ i < g.inodes then .tuple #[.int .i64 (g.table + i / 2), .int .i64 (i % 2 * 128), .int .i64 0] else .tuple #[.int .i64 0, .int .i64 0, .int .i64 1]

theorem is_bounds {g : Gm} (h : g.is = true) : 128 ≤ g.blocks ∧ g.blocks ≤ 1024 ∧ g.inodes = g.blocks / 4 ∧ g.bmap = 1 ∧ g.imap = 2 ∧ g.table = 3 ∧ g.log = 3 + (g.blocks / 4 + 1) / 2 ∧ g.len = 32 + g.blocks / 32 ∧ g.data = 3 + (g.blocks / 4 + 1) / 2 + (32 + g.blocks / 32) := by
  unfold Gm.is at h
  have := of_decide_eq_true h
  obtain ⟨h1, h2, h3⟩ := this
  exact ⟨h1, h2, congrArg Gm.inodes h3, congrArg Gm.bmap h3, congrArg Gm.imap h3, congrArg Gm.table h3, congrArg Gm.log h3, congrArg Gm.len h3, congrArg Gm.data h3⟩

/-- The box of a geometry, and what is known of it in later worlds. -/
structure Boxed (w : World) (g : Gm) (W : World) : Prop where
  row : W.heap[w.heap.size]? = some (.cells g.c 23 (0, 0))
  below : Below w.heap.size w W
theorem boxed (w : World) (g : Gm) : Boxed w g (w.alloc (.cells g.c 23)) := ⟨heap_alloc_new w _, (Below.refl _ _).alloc (Nat.le_refl _) _⟩
theorem Boxed.lt {w W : World} {g : Gm} (h : Boxed w g W) : w.heap.size < W.heap.size := (Array.getElem?_eq_some_iff.1 h.row).1
theorem Boxed.next {w W W' : World} {g : Gm} (h : Boxed w g W) (hb : Below W.heap.size W W') : Boxed w g W' :=
  ⟨(hb.block _ h.lt).trans h.row, h.below.trans (hb.mono h.below.size)⟩
theorem Boxed.load {w W : World} {g : Gm} (h : Boxed w g W) : (ldG (.pointer (some ⟨w.heap.size, 0, none⟩))).run Try.prog W = .ok (.agg g.c) W := run_ldG W _ g h.row
theorem Boxed.cells {w W : World} {g : Gm} (h : Boxed w g W) : W.cell? ⟨w.heap.size, 0, none⟩ = some (.int .i64 g.blocks) ∧ W.cell? ⟨w.heap.size, 1, none⟩ = some (.int .i64 g.inodes) ∧ W.cell? ⟨w.heap.size, 4, none⟩ = some (.int .i64 g.table) ∧ W.cell? ⟨w.heap.size, 5, none⟩ = some (.int .i64 g.log) ∧ W.cell? ⟨w.heap.size, 7, none⟩ = some (.int .i64 g.data) :=
  ⟨cell_of_row W _ 0 _ _ _ h.row, cell_of_row W _ 1 _ _ _ h.row, cell_of_row W _ 4 _ _ _ h.row, cell_of_row W _ 5 _ _ _ h.row, cell_of_row W _ 7 _ _ _ h.row⟩

set_option maxRecDepth 100000 in
theorem inode_any (g : Gm) (i : Int) (w : World) (hi1 : -9223372036854775808 ≤ i) (hi2 : i ≤ 9223372036854775807) :
    Calls Try.prog 13 #[.agg g.c, .int .i64 i] w fun e w' => e = .returned (inodeE g i) ∧ Below w.heap.size w w' := by
  have hbx := boxed w g
  have l1 := hbx.load
  have HBX := Lib.hid hbx; clear hbx
  go_enter Try.func13, Try.ntmps13
  go_wp2_with fail
  with_reducible refine (maybe_any g _).mono ?_
  rintro e w1 ⟨rfl, hb⟩
  have HB1 := Lib.hid (HBX.out.next hb); clear hb l1
  obtain ⟨q0, q1, q4, q5, q7⟩ := HB1.out.cells
  clear q0 q5 q7
  cases hg : g.is with
  | false =>
    go_wp2
    exact bodyPost_ret (v := .tuple #[.int .i64 0, .int .i64 0, .int .i64 1]) (by simp [results, go_sem]) rfl ⟨by unfold inodeE; rw [if_neg (by simp [hg])], HB1.out.below⟩
  | true =>
    have hbd := is_bounds hg
    have h2 : g.inodes ≤ 256 := by omega
    have h3 : g.table = 3 := by omega
    clear hbd
    obtain ⟨N, hN⟩ : ∃ N, N = g.inodes := ⟨_, rfl⟩
    rw [← hN] at q1 h2
    rw [h3] at q4
    have HN := Lib.hid hN; clear hN
    have H3 := Lib.hid h3; clear h3
    rcases Int.lt_or_le i 0 with h0 | h0
    · go_wp2
      exact bodyPost_ret (v := .tuple #[.int .i64 0, .int .i64 0, .int .i64 1]) (by simp [results, go_sem]) rfl ⟨by unfold inodeE; rw [← HN.out, if_neg (by omega)], HB1.out.below⟩
    · rcases Int.lt_or_le i N with h1 | h1
      · go_wp2
        exact bodyPost_ret (v := .tuple #[.int .i64 (3 + i / 2), .int .i64 (i % 2 * 128), .int .i64 0]) (by simp [results, go_sem]) rfl ⟨by unfold inodeE; rw [← HN.out, H3.out, if_pos ⟨hg, h0, h1⟩], HB1.out.below⟩
      · go_wp2
        exact bodyPost_ret (v := .tuple #[.int .i64 0, .int .i64 0, .int .i64 1]) (by simp [results, go_sem]) rfl ⟨by unfold inodeE; rw [← HN.out, if_neg (by omega)], HB1.out.below⟩
set_option maxRecDepth 100000 in
theorem rinode_any (g : Gm) (i : Int) (w : World) (hi1 : -9223372036854775808 ≤ i) (hi2 : i ≤ 9223372036854775807) :
    Calls Try.prog 14 #[.agg g.c, .int .i64 i] w fun e w' => e = .returned (inodeE g i) ∧ Below w.heap.size w w' := by
  have hbx := boxed w g
  have l1 := hbx.load
  have HBX := Lib.hid hbx; clear hbx
  go_enter Try.func14, Try.ntmps14
  go_wp2_with fail
  with_reducible refine (ris_any g _).mono ?_
  rintro e w1 ⟨rfl, hb⟩
  have HB1 := Lib.hid (HBX.out.next hb); clear hb l1
  obtain ⟨q0, q1, q4, q5, q7⟩ := HB1.out.cells
  clear q0 q5 q7
  cases hg : g.is with
  | false =>
    go_wp2
    exact bodyPost_ret (v := .tuple #[.int .i64 0, .int .i64 0, .int .i64 1]) (by simp [results, go_sem]) rfl ⟨by unfold inodeE; rw [if_neg (by simp [hg])], HB1.out.below⟩
  | true =>
    have hbd := is_bounds hg
    have h2 : g.inodes ≤ 256 := by omega
    have h3 : g.table = 3 := by omega
    clear hbd
    obtain ⟨N, hN⟩ : ∃ N, N = g.inodes := ⟨_, rfl⟩
    rw [← hN] at q1 h2
    rw [h3] at q4
    have HN := Lib.hid hN; clear hN
    have H3 := Lib.hid h3; clear h3
    rcases Int.lt_or_le i 0 with h0 | h0
    · go_wp2
      exact bodyPost_ret (v := .tuple #[.int .i64 0, .int .i64 0, .int .i64 1]) (by simp [results, go_sem]) rfl ⟨by unfold inodeE; rw [← HN.out, if_neg (by omega)], HB1.out.below⟩
    · rcases Int.lt_or_le i N with h1 | h1
      · go_wp2
        exact bodyPost_ret (v := .tuple #[.int .i64 (3 + i / 2), .int .i64 (i % 2 * 128), .int .i64 0]) (by simp [results, go_sem]) rfl ⟨by unfold inodeE; rw [← HN.out, H3.out, if_pos ⟨hg, h0, h1⟩], HB1.out.below⟩
      · go_wp2
        exact bodyPost_ret (v := .tuple #[.int .i64 0, .int .i64 0, .int .i64 1]) (by simp [results, go_sem]) rfl ⟨by unfold inodeE; rw [← HN.out, if_neg (by omega)], HB1.out.below⟩

/-- What part a block is of. -/
def whereE (g : Gm) (i : Int) : Int := if g.is = true ∧ 0 ≤ i ∧ i < g.blocks then (if i < 1 then 1 else if i < 2 then 2 else if i < 3 then 3 else if i < g.log then 4 else if i < g.data then 5 else 6) else 0

set_option maxRecDepth 100000 in
theorem rwhere_any (g : Gm) (i : Int) (w : World) :
    Calls Try.prog 16 #[.agg g.c, .int .i64 i] w fun e w' => e = .returned (.int .i64 (whereE g i)) ∧ Below w.heap.size w w' := by
  have hbx := boxed w g
  have l1 := hbx.load
  have HBX := Lib.hid hbx; clear hbx
  go_enter Try.func16, Try.ntmps16
  go_wp2_with fail
  with_reducible refine (ris_any g _).mono ?_
  rintro e w1 ⟨rfl, hb⟩
  have HB1 := Lib.hid (HBX.out.next hb); clear hb l1
  obtain ⟨q0, q1, q4, q5, q7⟩ := HB1.out.cells
  clear q1
  cases hg : g.is with
  | false =>
    go_wp2
    go_ret
    exact ⟨by unfold whereE; rw [if_neg (by simp [hg])]; rfl, HB1.out.below⟩
  | true =>
    have hbd := is_bounds hg
    have h3 : g.table = 3 := by omega
    have h4 : 3 ≤ g.log ∧ g.log < g.data := by omega
    obtain ⟨N, hN⟩ : ∃ N, N = g.blocks := ⟨_, rfl⟩
    obtain ⟨L, hL⟩ : ∃ L, L = g.log := ⟨_, rfl⟩
    obtain ⟨D, hD⟩ : ∃ D, D = g.data := ⟨_, rfl⟩
    rw [← hN] at q0 hbd
    rw [← hL] at q5 h4
    rw [← hD] at q7 h4
    rw [h3] at q4
    have HD := Lib.hid hD; clear hD
    have HL := Lib.hid hL; clear hL
    have HN := Lib.hid hN; clear hN
    have H4 := Lib.hid h4; clear h4
    have H3 := Lib.hid h3; clear h3
    have h2 : N ≤ 1024 := hbd.2.1
    clear hbd
    rcases Int.lt_or_le i 0 with h0 | h0
    · go_wp2
      go_ret
      exact ⟨by unfold whereE; rw [if_neg (by omega)]; rfl, HB1.out.below⟩
    · rcases Int.lt_or_le i N with h1 | h1
      · have hw : whereE g i = (if i < 1 then 1 else if i < 2 then 2 else if i < 3 then 3 else if i < L then 4 else if i < D then 5 else 6) := by
          unfold whereE
          rw [if_pos ⟨hg, h0, by rw [← HN.out]; exact h1⟩, HL.out, HD.out]
        have HW := Lib.hid hw; clear hw
        rcases Int.lt_or_le i 3 with h5 | h5
        · go_wp2
          go_ret
          refine ⟨?_, HB1.out.below⟩
          rw [HW.out]
          have e : (if i < 1 then (1 : Int) else if i < 2 then 2 else if i < 3 then 3 else if i < L then 4 else if i < D then 5 else 6) = i + 1 := by
            repeat' split
            all_goals omega
          rw [e]
          rfl
        · rcases Int.lt_or_le i L with h6 | h6
          · go_wp2
            go_ret
            refine ⟨?_, HB1.out.below⟩
            rw [HW.out, if_neg (by omega), if_neg (by omega), if_neg (by omega), if_pos h6]
            rfl
          · rcases Int.lt_or_le i D with h7 | h7
            · go_wp2
              go_ret
              refine ⟨?_, HB1.out.below⟩
              rw [HW.out, if_neg (by omega), if_neg (by omega), if_neg (by omega), if_neg (by omega), if_pos h7]
              rfl
            · go_wp2
              go_ret
              refine ⟨?_, HB1.out.below⟩
              rw [HW.out, if_neg (by omega), if_neg (by omega), if_neg (by omega), if_neg (by omega), if_neg (by omega)]
              rfl
      · go_wp2
        go_ret
        exact ⟨by unfold whereE; rw [← HN.out, if_neg (by omega)]; rfl, HB1.out.below⟩

def beg (L D : Int) : Nat → Int
  | 0 => 0
  | 1 => 0
  | 2 => 1
  | 3 => 2
  | 4 => 3
  | 5 => L
  | _ => D
def begs (g : Gm) : Array Value := #[.int .i64 0, .int .i64 0, .int .i64 g.bmap, .int .i64 g.imap, .int .i64 g.table, .int .i64 g.log, .int .i64 g.data]
set_option maxRecDepth 100000 in
theorem beginnings_any (g : Gm) (w : World) :
    Calls Try.prog 24 #[.agg g.c] w fun e w' => e = .returned (.agg (begs g)) ∧ Below w.heap.size w w' := by
  unfold Gm.c
  go_enter Try.func24, Try.ntmps24
  go_wp2
  exact bodyPost_ret (results_cell_row rfl _ _ (w.heap.size + 1) _ _ (0, 0) _ rfl (heap_alloc2_new w _ _) Try.underlying37 rfl (by kernel_rfl)) rfl ⟨rfl, ((Below.refl _ _).alloc (Nat.le_refl _) _).alloc (by simp) _⟩

def stB (x v : Value) : Sem Unit := Instr.storeAt 37 x v
theorem stB_eq (x v : Value) : Instr.storeAt 37 x v = stB x v := rfl
theorem run_stB_new (w : World) (g : Gm) :
    (stB (.pointer (some ⟨w.heap.size, 0, none⟩)) (.agg (begs g))).run Try.prog (w.alloc (.cells #[.int .i64 0, .int .i64 0, .int .i64 0, .int .i64 0, .int .i64 0, .int .i64 0, .int .i64 0] 37)) = .ok () (w.alloc (.cells (begs g) 37)) :=
  run_storeAt_new w 37 _ (begs g) (by kernel_rfl) rfl (by simp [begs, Value.oneCell'])

attribute [local go_sem ↓] stB_eq
set_option maxRecDepth 100000 in
theorem where_any (g : Gm) (i : Int) (w : World) :
    Calls Try.prog 15 #[.agg g.c, .int .i64 i] w fun e w' => e = .returned (.int .i64 (whereE g i)) ∧ Below w.heap.size w w' := by
  have hbx := boxed w g
  have l1 := hbx.load
  have HBX := Lib.hid hbx; clear hbx
  go_enter Try.func15, Try.ntmps15
  go_wp2_with fail
  with_reducible refine (maybe_any g _).mono ?_
  rintro e w1 ⟨rfl, hb⟩
  have HB1 := Lib.hid (HBX.out.next hb); clear hb l1
  obtain ⟨q0, q1, q4, q5, q7⟩ := HB1.out.cells
  clear q1 q4 q5 q7
  cases hg : g.is with
  | false =>
    go_wp2
    go_ret
    exact ⟨by unfold whereE; rw [if_neg (by simp [hg])]; rfl, HB1.out.below⟩
  | true =>
    have hbd := is_bounds hg
    obtain ⟨N, hN⟩ : ∃ N, N = g.blocks := ⟨_, rfl⟩
    obtain ⟨L, hL⟩ : ∃ L, L = g.log := ⟨_, rfl⟩
    obtain ⟨D, hD⟩ : ∃ D, D = g.data := ⟨_, rfl⟩
    have h4 : 3 ≤ g.log ∧ g.log < g.data := by omega
    rw [← hL, ← hD] at h4
    have hbg : ∀ p : Nat, p < 7 → (begs g)[p]? = some (.int .i64 (beg L D p)) := by
      intro p hp
      have : p = 0 ∨ p = 1 ∨ p = 2 ∨ p = 3 ∨ p = 4 ∨ p = 5 ∨ p = 6 := by omega
      rcases this with rfl | rfl | rfl | rfl | rfl | rfl | rfl
      · rfl
      · rfl
      · simp [begs, beg]; omega
      · simp [begs, beg]; omega
      · simp [begs, beg]; omega
      · simp [begs, beg]; omega
      · simp [begs, beg]; omega
    rw [← hN] at q0
    have l1 := HB1.out.load
    have HD := Lib.hid hD; clear hD
    have HL := Lib.hid hL; clear hL
    have HN := Lib.hid hN; clear hN
    have H4 := Lib.hid h4; clear h4
    have HBD := Lib.hid hbd; clear hbd
    have HBG := Lib.hid hbg; clear hbg
    rcases Int.lt_or_le i 0 with h0 | h0
    · go_wp2
      go_ret
      exact ⟨by unfold whereE; rw [← HN.out, if_neg (by omega)]; rfl, HB1.out.below⟩
    · rcases Int.lt_or_le i N with h1 | h1
      · have hw : whereE g i = (if i < 1 then 1 else if i < 2 then 2 else if i < 3 then 3 else if i < L then 4 else if i < D then 5 else 6) := by
          unfold whereE
          rw [if_pos ⟨hg, h0, by rw [← HN.out]; exact h1⟩, HL.out, HD.out]
        have HW := Lib.hid hw; clear hw
        go_wp2_with fail
        with_reducible refine (beginnings_any g _).mono ?_
        rintro e w2 ⟨rfl, hb⟩
        have HB2 := Lib.hid (HB1.out.next hb); clear hb l1
        have l2 := run_stB_new w2 g
        have hcell : ∀ p : Nat, p < 7 → (w2.alloc (.cells (begs g) 37)).cell? ⟨w2.heap.size, p, none⟩ = some (.int .i64 (beg L D p)) := fun p hp => by
          rw [cell_of_row _ _ _ _ _ _ (heap_alloc_new w2 _)]; exact HBG.out p hp
        have hbl : Below w.heap.size w (w2.alloc (.cells (begs g) 37)) := HB2.out.below.alloc HB2.out.below.size _
        have HCELL := Lib.hid hcell; clear hcell
        have HBL := Lib.hid hbl; clear hbl
        clear q0
        go_wp2_with fail
        generalize w2.alloc (.cells (begs g) 37) = w3 at HCELL HBL ⊢
        go_loop [6] (fun v => ∃ p : Nat, 1 ≤ p ∧ p ≤ 6 ∧ v = .int .i64 (p : Int) ∧ (p < 6 → i < beg L D (p + 1))) (fun v => (intOf v).toNat)
        case atStart => exact ⟨6, by omega, by omega, rfl, fun h => absurd h (by omega)⟩
        case round =>
          obtain ⟨p, hp1, hp6, rfl, hup⟩ := hrel
          have hc := HCELL.out p (by omega)
          have HUP := Lib.hid hup; clear hup
          obtain ⟨bg, hbg⟩ : ∃ x, x = beg L D p := ⟨_, rfl⟩
          rw [← hbg] at hc
          have HB := Lib.hid hbg; clear hbg
          rcases Int.lt_or_le i bg with h5 | h5
          · have hp2 : 1 < p := by
              rcases Nat.lt_or_ge 1 p with h | h
              · exact h
              · have : p = 1 := by omega
                subst this
                have := HB.out
                simp only [beg] at this
                omega
            go_wp2
            go_round
            case rel => exact ⟨p - 1, by omega, by omega, by go_num, fun _ => by rw [show p - 1 + 1 = p by omega, ← HB.out]; exact h5⟩
            case measure => simp [intOf]; omega
          · go_wp2
            go_ret
            refine ⟨?_, HBL.out⟩
            rw [HW.out]
            have e : (if i < 1 then (1 : Int) else if i < 2 then 2 else if i < 3 then 3 else if i < L then 4 else if i < D then 5 else 6) = (p : Int) := by
              have h4 := H4.out
              have hb := HB.out
              have hu := HUP.out
              have : p = 1 ∨ p = 2 ∨ p = 3 ∨ p = 4 ∨ p = 5 ∨ p = 6 := by omega
              rcases this with rfl | rfl | rfl | rfl | rfl | rfl <;> simp [beg] at hb hu <;> (repeat' split) <;> omega
            rw [e]
            rfl
      · go_wp2
        go_ret
        exact ⟨by unfold whereE; rw [← HN.out, if_neg (by omega)]; rfl, HB1.out.below⟩
end Go.Proofs.Ytmlkhnglmjlfbaa.Gm
