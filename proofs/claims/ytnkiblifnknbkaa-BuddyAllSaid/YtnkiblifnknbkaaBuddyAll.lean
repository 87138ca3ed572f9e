/- BuddyAll: for every number and every list of bytes, as long as a block is free one is given, and when all is given back all is free. -/
import Derived.Test.YtnkiblifnknbkaaBdAll
namespace Go.Proofs.Ytnkiblifnknbkaa.BuddyAll
set_option maxRecDepth 20000
open Go Go.ChangeShapes Go.WideShapes Go.ChangeAt Go.RowKit
open Go.Proofs.Ytnkiblifnknbkaa.Mem Go.Proofs.Ytnkiblifnknbkaa.Bt Go.Proofs.Ytnkiblifnknbkaa.Rec Go.Proofs.Ytnkiblifnknbkaa.Bits Go.Proofs.Ytnkiblifnknbkaa.Bd Go.Proofs.Ytnkiblifnknbkaa.Buddy Go.Proofs.Ytnkiblifnknbkaa.Lift Go.Proofs.Ytnkiblifnknbkaa.Reg
attribute [local go_sem ↓] ldS_eq stS_eq quoN_eq andB_eq

set_option maxRecDepth 100000 in
set_option maxHeartbeats 8000000 in
theorem walk (sz : Nat) (hsz : sz < 256) (A0 : Option Addr) (nw cw : Nat) (ws : List UInt8) (w : World) (h : Holds w w.heap.size A0 nw ws) (hc : nw ≤ cw) :
    Calls Try.prog 7 #[.int .u8 (sz : Int), .slice A0 nw cw] w fun e w' => e = .returned (.bool true) ∧ Below w.heap.size w w' := by
  obtain rfl : ws.length = nw := h.1
  have HM := fun (V : World) (hb : Below w.heap.size w V) => h.below hb
  have H := Lib.hid HM; clear HM h
  have hqu := run_quo8 sz (by omega)
  obtain ⟨q8, hq8⟩ : ∃ q8, q8 = sz / 8 := ⟨_, rfl⟩
  rw [← hq8] at hqu
  obtain ⟨N, hN⟩ : ∃ N, N = q8 + 1 := ⟨_, rfl⟩
  have HNN := Lib.hid (show N ≤ 33 ∧ sz ≤ 8 * N from ⟨by omega, by omega⟩)
  have hwr : IntKind.i64.wrap ((q8 : Int) + 1) = (N : Int) := by rw [IntWalk.i64_in _ (by omega)]; omega
  have hmk : ∀ W, (Instr.makeSlice 22 (.int .i64 (N : Int)) (.int .i64 (N : Int))).run Try.prog W = .ok (.slice (some ⟨W.heap.size, 0, none⟩) N N) (W.alloc (.cells ((List.replicate N (0 : UInt8)).map byteV).toArray 5)) := run_makeZ N (by omega)
  obtain ⟨z, hz⟩ : ∃ z : Array Value, z = ((List.replicate N (0 : UInt8)).map byteV).toArray := ⟨_, rfl⟩
  rw [← hz] at hmk
  have HZ := Lib.hid hz; clear hz
  clear hq8 hN
  go_enter Try.func7, Try.ntmps7
  go_wp2_with fail
  with_reducible refine (alive_any w).mono ?_
  rintro e w1 ⟨rfl, hb1⟩
  go_wp2_with fail
  obtain ⟨V0, hV0⟩ : ∃ V0, V0 = w1.alloc (.cells z 5) := ⟨_, rfl⟩
  have hat0 : At w sz N V0 (some ⟨w1.heap.size, 0, none⟩) (List.replicate N 0) (.slice none 0 0) [] := by
    have ho : Owned V0 w1.heap.size (.slice (some ⟨w1.heap.size, 0, none⟩) N N) (List.replicate N 0) := by
      have := owned_made w1 (List.replicate N 0) w1.heap.size (Nat.le_refl _) (by have := HNN.out; simp [maxLen]; omega)
      rw [List.length_replicate, ← HZ.out, ← hV0] at this
      exact this
    exact ⟨inv_nil _ _, ⟨Owned.reads ho, fun _ _ _ e => by cases e⟩, World.ownsRow_nil _ _ _ _, by rw [hV0]; exact hb1.alloc hb1.size _⟩
  have HAT0 := Lib.hid hat0; clear hat0
  rw [← hV0]
  clear hV0 hb1 hmk hqu hwr HZ
  go_loopw [6, 7, 8, 9] (fun m gv lf i V => ∃ (j lv : Nat) (sp : List (Nat × Nat)) (cur : List UInt8) (A : Option Addr) (c : Nat), j ≤ 60 ∧ j ≤ ws.length ∧ sp.length = j ∧ i = .int .i64 (j : Int) ∧ lf = .int .i64 (lv : Int) ∧ lv + tot sp = sz ∧ m = .slice A N c ∧ At w sz N V A cur gv sp) (fun m gv lf i _ => 60 - (intOf i).toNat)
  case atStart => exact ⟨0, sz, [], _, _, _, by omega, Nat.zero_le _, rfl, rfl, rfl, rfl, rfl, HAT0.out⟩
  case round =>
    clear HAT0
    obtain ⟨j, lv, sp, cur, A, c, hj60, hjw, hjs, rfl, rfl, hlv, rfl, hat⟩ := hrel
    obtain ⟨X, cc, hX⟩ := Row.is_slice hat.row
    subst hX
    obtain ⟨V, hVe, hat⟩ : ∃ V', V' = _ ∧ At w sz N V' A cur (.slice X sp.length cc) sp := ⟨_, rfl, hat⟩
    subst hVe
    have HAT := Lib.hid hat; clear hat
    have HJS := Lib.hid hjs; clear hjs
    by_cases hlt : j < ws.length
    · have hlt' : (j : Int) < (ws.length : Int) := by omega
      by_cases h60 : j < 60
      · have h60' : (j : Int) < 60 := by omega
        have hj0 : (0 : Int) ≤ (j : Int) := by omega
        obtain ⟨b, off, hA0, hbw, -⟩ := (H.out w (Below.refl _ w)).2 (by omega)
        subst hA0
        obtain ⟨x, hx⟩ : ∃ x, x = (ws[j]).toNat := ⟨_, rfl⟩
        have hx256 : x < 256 := by rw [hx]; exact UInt8.toNat_lt _
        have hrd : ∀ V' : World, Below w.heap.size w V' → V'.cell? ⟨b, off + j, none⟩ = some (.int .u8 (x : Int)) := fun V' hV => by
          obtain ⟨b', off', e, _, hcc⟩ := (H.out V' hV).2 (by omega)
          injection e with e
          injection e with e1 e2
          subst e1 e2
          rw [hx]
          exact hcc j hlt
        have HRD := Lib.hid hrd; clear hrd hx
        have qa := run_and63 x hx256
        obtain ⟨want, hwant⟩ : ∃ want, want = x % 64 + 1 := ⟨_, rfl⟩
        have qx : IntKind.i64.wrap (x : Int) = (x : Int) := IntWalk.i64_in _ (by omega)
        have q64 : IntKind.i64.wrap ((x : Int) % 64) = (x : Int) % 64 := IntWalk.i64_in _ (by omega)
        have q63 : IntKind.i64.wrap (1 + (x : Int) % 64) = (want : Int) := by rw [IntWalk.i64_in _ (by omega)]; omega
        have hw1 : 1 ≤ want ∧ want ≤ 64 := by omega
        clear hwant
        have hta := fun (W : World) (hW : Below V.heap.size V W) => take_run A N c W.heap.size cur W sz want x (HAT.out.keep hW).map.1 (Nat.le_refl _) (by have := HNN.out; omega) HNN.out.2 hw1.1 hw1.2 (by omega)
        have HTA := Lib.hid hta; clear hta
        go_wp2_with fail
        have hS : V.drew.cell? ⟨b, off + j, none⟩ = some (.int .u8 (x : Int)) := HRD.out V HAT.out.bel
        refine wp_region_E (fun V' : World => V'.cell? ⟨b, off + j, none⟩ = some (.int .u8 (x : Int))) 22 (by kernel_rfl) ?_
        refine wpE_take 0 ⟨some 38, _, _, _, _, _⟩ (v := ?_) [14, 15, 16, 17, 18, 20, 21, 22] rfl (by kernel_rfl) (by kernel_rfl) (by kernel_rfl) (by kernel_rfl) (fun _ _ _ h => h) hS (Or.inl ⟨by rfl, ?_⟩) ?_
        rotate_left
        · (intro V hSw; have hSw' := hSw; go_simp; try with_reducible rfl)
        try simp only [Act.put]
        refine wpE_take 1 ⟨some 39, _, _, _, _, _⟩ (v := ?_) [14, 15, 16, 17, 18, 20, 21, 22] rfl (by kernel_rfl) (by kernel_rfl) (by kernel_rfl) (by kernel_rfl) (fun _ _ _ h => h) hS (Or.inl ⟨by rfl, ?_⟩) ?_
        rotate_left
        · (intro V hSw; have hSw' := hSw; go_simp; try with_reducible rfl)
        try simp only [Act.put]
        refine wpE_take 2 ⟨some 40, _, _, _, _, _⟩ (v := ?_) [4, 5, 6, 7, 8, 14, 15, 16, 17, 18, 20, 21, 22] rfl (by kernel_rfl) (by kernel_rfl) (by kernel_rfl) (by kernel_rfl) (fun _ _ _ h => h) hS (Or.inl ⟨by rfl, ?_⟩) ?_
        rotate_left
        · (intro V hSw; have hSw' := hSw; go_simp; try with_reducible rfl)
        try simp only [Act.put]
        refine wpE_take 3 ⟨some 41, _, _, _, _, _⟩ (v := ?_) [4, 5, 6, 7, 8, 14, 15, 16, 17, 18, 20, 21, 22] rfl (by kernel_rfl) (by kernel_rfl) (by kernel_rfl) (by kernel_rfl) (fun _ _ _ h => h) hS (Or.inl ⟨by rfl, ?_⟩) ?_
        rotate_left
        · (intro V hSw; have hSw' := hSw; go_simp; try with_reducible rfl)
        try simp only [Act.put]
        refine wpE_take 4 ⟨some 42, _, _, _, _, _⟩ (v := ?_) [5, 6, 7, 8, 14, 15, 16, 17, 18, 20, 21, 22] rfl (by kernel_rfl) (by kernel_rfl) (by kernel_rfl) (by kernel_rfl) (fun _ _ _ h => h) hS (Or.inl ⟨by rfl, ?_⟩) ?_
        rotate_left
        · (intro V hSw; have hSw' := hSw; go_simp; try with_reducible rfl)
        try simp only [Act.put]
        refine wpE_take 5 ⟨some 43, _, _, _, _, _⟩ (v := ?_) [6, 7, 8, 14, 15, 16, 17, 18, 20, 21, 22] rfl (by kernel_rfl) (by kernel_rfl) (by kernel_rfl) (by kernel_rfl) (fun _ _ _ h => h) hS (Or.inl ⟨by rfl, ?_⟩) ?_
        rotate_left
        · (intro V hSw; have hSw' := hSw; go_simp; try with_reducible rfl)
        try simp only [Act.put]
        refine wpE_take 6 ⟨some 44, _, _, _, _, _⟩ (v := ?_) [7, 8, 14, 15, 16, 17, 18, 20, 21, 22] rfl (by kernel_rfl) (by kernel_rfl) (by kernel_rfl) (by kernel_rfl) (fun _ _ _ h => h) hS (Or.inl ⟨by rfl, ?_⟩) ?_
        rotate_left
        · (intro V hSw; have hSw' := hSw; go_simp; try with_reducible rfl)
        try simp only [Act.put]
        refine wpE_take 7 ⟨some 45, _, _, _, _, _⟩ (v := ?_) [8, 14, 15, 16, 17, 18, 20, 21, 22] rfl (by kernel_rfl) (by kernel_rfl) (by kernel_rfl) (by kernel_rfl) (fun _ _ _ h => h) hS (Or.inl ⟨by rfl, ?_⟩) ?_
        rotate_left
        · (intro V hSw; have hSw' := hSw; go_simp; try with_reducible rfl)
        try simp only [Act.put]
        refine wpE_take 8 ⟨some 46, _, _, _, _, _⟩ (v := ?_) [14, 15, 16, 17, 18, 20, 21, 22] rfl (by kernel_rfl) (by kernel_rfl) (by kernel_rfl) (by kernel_rfl) (fun _ _ _ h => h) hS (Or.inl ⟨by rfl, ?_⟩) ?_
        rotate_left
        · (intro V hSw; have hSw' := hSw; go_simp; try with_reducible rfl)
        try simp only [Act.put]
        refine wpE_take 9 ⟨some 47, _, _, _, _, _⟩ (v := ?_) [11, 12, 13, 14, 15, 16, 17, 18, 20, 21, 22] rfl (by kernel_rfl) (by kernel_rfl) (by kernel_rfl) (by kernel_rfl) (fun _ _ _ h => h) hS (Or.inl ⟨by rfl, ?_⟩) ?_
        rotate_left
        · (intro V hSw; have hSw' := hSw; go_simp; try with_reducible rfl)
        try simp only [Act.put]
        refine wpE_take 10 ⟨some 48, _, _, _, _, _⟩ (v := ?_) [11, 12, 13, 14, 15, 16, 17, 18, 20, 21, 22] rfl (by kernel_rfl) (by kernel_rfl) (by kernel_rfl) (by kernel_rfl) (fun _ _ _ h => h) hS (Or.inl ⟨by rfl, ?_⟩) ?_
        rotate_left
        · (intro V hSw; have hSw' := hSw; go_simp; try with_reducible rfl)
        try simp only [Act.put]
        refine wpE_take 11 ⟨some 49, _, _, _, _, _⟩ (v := ?_) [12, 13, 14, 15, 16, 17, 18, 20, 21, 22] rfl (by kernel_rfl) (by kernel_rfl) (by kernel_rfl) (by kernel_rfl) (fun _ _ _ h => h) hS (Or.inl ⟨by rfl, ?_⟩) ?_
        rotate_left
        · (intro V hSw; have hSw' := hSw; go_simp; try with_reducible rfl)
        try simp only [Act.put]
        refine wpE_take 12 ⟨some 50, _, _, _, _, _⟩ (v := ?_) [13, 14, 15, 16, 17, 18, 20, 21, 22] rfl (by kernel_rfl) (by kernel_rfl) (by kernel_rfl) (by kernel_rfl) (fun _ _ _ h => h) hS (Or.inl ⟨by rfl, ?_⟩) ?_
        rotate_left
        · (intro V hSw; have hSw' := hSw; go_simp; try with_reducible rfl)
        try simp only [Act.put]
        refine wpE_take 13 ⟨some 51, _, _, _, _, _⟩ (v := ?_) [14, 15, 16, 17, 18, 20, 21, 22] rfl (by kernel_rfl) (by kernel_rfl) (by kernel_rfl) (by kernel_rfl) (fun _ _ _ h => h) hS (Or.inl ⟨by rfl, ?_⟩) ?_
        rotate_left
        · (intro V hSw; have hSw' := hSw; go_simp; try with_reducible rfl)
        try simp only [Act.put]
        refine wpE_two 14 19 (o := ⟨some 52, _, _, _, _, _⟩) (o' := ⟨some 11, _, _, _, _, _⟩) (by kernel_rfl) rfl rfl (fun K' hK' => ?_) (fun K' hK' => ?_)
        · rw [if_pos (by kernel_rfl)]
          refine call_wp 11 _ _ _ _ rfl Try.func11 (by kernel_rfl) rfl _ ?hv _ (HTA.out V.drew ((Below.refl _ V).drew)) ?_
          case hv => simp only [List.map_toArray, List.map_cons, List.map_nil]; go_simp
          rintro e w3 ⟨r, hr, hout⟩
          have hb3 : Below V.heap.size V w3 := ((Below.refl _ V).drew).trans hout.below
          have hS3 : w3.cell? ⟨b, off + j, none⟩ = some (.int .u8 (x : Int)) := HRD.out w3 (HAT.out.bel.trans (hb3.mono HAT.out.bel.size))
          rcases r with _ | ⟨a, o⟩
          · obtain ⟨rfl, -⟩ := hout
            have hf0 : freeN cur sz = 0 := take_none hr
            have HF0 := Lib.hid hf0; clear hf0 hr
            refine ⟨_, rfl, hK'.out _ _ hS3 (fun hS => ?_)⟩
            clear hK' K'
            try simp only [Act.put]
            refine wpE_take 15 ⟨some 37, _, _, _, _, _⟩ (v := ?_) [16, 17, 18, 20, 21, 22] rfl (by kernel_rfl) (by kernel_rfl) (by kernel_rfl) (by kernel_rfl) (fun _ _ _ h => h) hS (Or.inl ⟨by rfl, ?_⟩) ?_
            rotate_left
            · (intro V hSw; have hSw' := hSw; go_simp; try with_reducible rfl)
            try simp only [Act.put]
            refine wpE_take 16 ⟨some 53, _, _, _, _, _⟩ (v := ?_) [20, 21, 22] rfl (by kernel_rfl) (by kernel_rfl) (by kernel_rfl) (by kernel_rfl) (fun _ _ _ h => h) hS (Or.inl ⟨by rfl, ?_⟩) ?_
            rotate_left
            · (intro V hSw; have hSw' := hSw; go_simp; try with_reducible rfl)
            try simp only [Act.put]
            refine wpE_take 17 ⟨some 54, _, _, _, _, _⟩ (v := ?_) [21, 22] rfl (by kernel_rfl) (by kernel_rfl) (by kernel_rfl) (by kernel_rfl) (fun _ _ _ h => h) hS (Or.inl ⟨by rfl, ?_⟩) ?_
            rotate_left
            · (intro V hSw; have hSw' := hSw; go_simp; try with_reducible rfl)
            try simp only [Act.put]
            refine wpE_take 18 ⟨some 55, _, _, _, _, _⟩ (v := ?_) [22] rfl (by kernel_rfl) (by kernel_rfl) (by kernel_rfl) (by kernel_rfl) (fun _ _ _ h => h) hS (Or.inl ⟨by rfl, ?_⟩) ?_
            rotate_left
            · (intro V hSw; have hSw' := hSw; go_simp; try with_reducible rfl)
            try simp only [Act.put]
            have hbz : Below V.heap.size V (w3.alloc (.cells #[.int .i64 0, .int .i64 0] 27)) := hb3.alloc hb3.size _
            have hb4 : Below V.heap.size V (w3.alloc (.cells (spanV 0 0) 27)) := hb3.alloc hb3.size _
            have hS4 := HRD.out _ (HAT.out.bel.trans (hbz.mono HAT.out.bel.size))
            have hS5 := HRD.out _ (HAT.out.bel.trans (hb4.mono HAT.out.bel.size))
            have q3 := run_stS_new w3 0 0
            have hrow := heap_alloc_new w3 (.cells (spanV 0 0) 27)
            refine wpE_one 19 (by kernel_rfl) rfl (fun K' hK' => ?_)
            go_simp
            refine hK'.out _ _ hS4 (fun hS => ?_)
            clear hK' K'
            try simp only [Act.put]
            refine wpE_take 20 ⟨some 10, _, _, _, _, _⟩ (v := ?_) [21, 22] rfl (by kernel_rfl) (by kernel_rfl) (by kernel_rfl) (by kernel_rfl) (fun _ _ _ h => h) hS (Or.inl ⟨by rfl, ?_⟩) ?_
            rotate_left
            · (intro V hSw; have hSw' := hSw; go_simp; try with_reducible rfl)
            try simp only [Act.put]
            refine wpE_one 21 (by kernel_rfl) rfl (fun K' hK' => ?_)
            go_simp
            refine hK'.out _ _ hS5 (fun hS => ?_)
            clear hK' K'
            try simp only [Act.put]
            refine wpE_last (by kernel_rfl) rfl (fun K' hK' => ?_)
            go_simp
            refine hK'.out _ _ ?_
            clear hK' K'
            refine wpE_done (by kernel_rfl) ?_ _
            obtain ⟨w4, hw4⟩ : ∃ w4, w4 = w3.alloc (.cells (spanV 0 0) 27) := ⟨_, rfl⟩
            have hw4' : w3.alloc (.cells #[.int .i64 0, .int .i64 0] 27) = w4 := hw4.symm
            try rw [hw4']
            try rw [← hw4]
            rw [← hw4] at hb4 hrow
            have HAT4 := Lib.hid (HAT.out.keep hb4)
            clear hw4 hw4' hrow hb4 hbz hS4 hS5 q3 hS3 hb3
            have hl0 : ((lv : Int) == 0) = true := by have h1 := HAT.out.left; have h2 := HF0.out; rw [beq_iff_eq]; omega
            have HAT := Lib.hid HAT4.out
            clear HAT4 HF0
            go_wp2_with fail
            have hk60 : sp.length ≤ 60 := by have := HJS.out; omega
            have hfr := free_ok A N c _ cur _ sz HAT.out.map.1 (Nat.le_refl _) (by have := HNN.out; omega) HNN.out.2
            have hfl : freeN cur sz = lv := by have := HAT.out.left; omega
            rw [hfl] at hfr
            have HFR := Lib.hid hfr; clear hfr hfl
            have hlv0 : ¬ (lv : Int) < 0 := by omega
            have dlv : decide ((lv : Int) < 0) = false := decide_eq_false hlv0
            go_wp2_with fail
            with_reducible refine HFR.out.mono ?_
            rintro e w5 ⟨rfl, hb5⟩
            have HBK := Lib.hid (HAT.out.back hb5); clear hb5 HFR
            go_wp2_with fail
            clear hlv0 dlv
            go_loopw [6, 15] (fun m i V' => ∃ (k : Nat) (cur' : List UInt8) (A' : Option Addr) (c' : Nat), k ≤ sp.length ∧ i = .int .i64 (k : Int) ∧ m = .slice A' N c' ∧ Back w sz N V' A' cur' (.slice X sp.length cc) sp k) (fun m i _ => sp.length - (intOf i).toNat)
            case atStart => exact ⟨0, cur, A, c, Nat.zero_le _, rfl, rfl, HBK.out⟩
            case round =>
              clear HBK
              obtain ⟨k, cur', A', c', hk, rfl, rfl, hbk⟩ := hrel
              have HB6 := Lib.hid hbk; clear hbk
              by_cases hlt : k < sp.length
              · have hlt' : (k : Int) < (sp.length : Int) := by omega
                obtain ⟨⟨a, L⟩, hx⟩ : ∃ x, sp[k]? = some x := ⟨_, List.getElem?_eq_getElem hlt⟩
                obtain ⟨hc1, hc2, hc3, hinv⟩ := HB6.out.next hx HNN.out.2
                have HINV := Lib.hid hinv; clear hinv
                obtain ⟨g, cap, e⟩ := Row.form HB6.out.row (by omega)
                injection e with e1 e2 e3
                subst e1 e3
                have hld := run_ldS_mid _ w.heap.size g _ k sp (a, L) HB6.out.row hx
                dsimp only at hld
                have hgi := (give_run A' N c' _ cur' _ sz a L HB6.out.map (Nat.le_refl _) (by have := HNN.out; omega) HNN.out.2 hc3 hc2).mono (fun e w' h => h.2 hc1)
                have HGI := Lib.hid hgi; clear hgi
                go_wp2_with fail
                with_reducible refine HGI.out.mono ?_
                rintro e w6 ⟨A6, c6, rfl, hb6, ho6, -⟩
                have hbk6 := HB6.out.step hb6 ho6 HINV.out
                have HB7 := Lib.hid hbk6; clear hbk6 hb6 ho6 HINV HGI hld hx hc1 hc2 hc3
                go_wp2
                go_roundw
                case rel => exact ⟨k + 1, _, A6, c6, by omega, by go_num, rfl, HB7.out⟩
                case measure => simp [intOf]; omega
              · have hlt' : ¬ (k : Int) < (sp.length : Int) := by omega
                obtain rfl : k = sp.length := by omega
                have hfr := free_ok A' N c' _ cur' _ sz HB6.out.map (Nat.le_refl _) (by have := HNN.out; omega) HNN.out.2
                rw [HB6.out.all] at hfr
                have HFR := Lib.hid hfr; clear hfr
                go_wp2_with fail
                with_reducible refine HFR.out.mono ?_
                rintro e w6 ⟨rfl, hb6⟩
                have HF := Lib.hid (HB6.out.bel.trans (hb6.mono HB6.out.bel.size)); clear hb6 HFR
                go_wp2
                go_ret
                exact ⟨rfl, HF.out⟩
          · obtain ⟨hsn, A', c', rfl, -, ho3, -⟩ := hout
            obtain ⟨L, hL⟩ : ∃ L, L = min want (2 ^ o) := ⟨_, rfl⟩
            rw [← hL] at hsn ho3 ⊢
            obtain ⟨hL1, hinv, hLf⟩ := HAT.out.free hr hw1.1 hL hsn HNN.out.2
            have hLlv : L ≤ lv := by have := HAT.out.left; omega
            obtain ⟨ys, hys⟩ : ∃ ys, ys = fillL cur (a : Int) ((a + L : Nat) : Int) true := ⟨_, rfl⟩
            rw [← hys] at ho3 hinv
            have HINV := Lib.hid hinv; clear hinv hys hL hr hLf
            refine ⟨_, rfl, hK'.out _ _ hS3 (fun hS => ?_)⟩
            clear hK' K'
            try simp only [Act.put]
            refine wpE_take 15 ⟨some 37, _, _, _, _, _⟩ (v := ?_) [16, 17, 18, 20, 21, 22] rfl (by kernel_rfl) (by kernel_rfl) (by kernel_rfl) (by kernel_rfl) (fun _ _ _ h => h) hS (Or.inl ⟨by rfl, ?_⟩) ?_
            rotate_left
            · (intro V hSw; have hSw' := hSw; go_simp; try with_reducible rfl)
            try simp only [Act.put]
            refine wpE_take 16 ⟨some 53, _, _, _, _, _⟩ (v := ?_) [20, 21, 22] rfl (by kernel_rfl) (by kernel_rfl) (by kernel_rfl) (by kernel_rfl) (fun _ _ _ h => h) hS (Or.inl ⟨by rfl, ?_⟩) ?_
            rotate_left
            · (intro V hSw; have hSw' := hSw; go_simp; try with_reducible rfl)
            try simp only [Act.put]
            refine wpE_take 17 ⟨some 54, _, _, _, _, _⟩ (v := ?_) [21, 22] rfl (by kernel_rfl) (by kernel_rfl) (by kernel_rfl) (by kernel_rfl) (fun _ _ _ h => h) hS (Or.inl ⟨by rfl, ?_⟩) ?_
            rotate_left
            · (intro V hSw; have hSw' := hSw; go_simp; try with_reducible rfl)
            try simp only [Act.put]
            refine wpE_take 18 ⟨some 55, _, _, _, _, _⟩ (v := ?_) [22] rfl (by kernel_rfl) (by kernel_rfl) (by kernel_rfl) (by kernel_rfl) (fun _ _ _ h => h) hS (Or.inl ⟨by rfl, ?_⟩) ?_
            rotate_left
            · (intro V hSw; have hSw' := hSw; go_simp; try with_reducible rfl)
            try simp only [Act.put]
            have hbz : Below V.heap.size V (w3.alloc (.cells #[.int .i64 0, .int .i64 0] 27)) := hb3.alloc hb3.size _
            have hb4 : Below V.heap.size V (w3.alloc (.cells (spanV (a : Int) (L : Int)) 27)) := hb3.alloc hb3.size _
            have hS4 := HRD.out _ (HAT.out.bel.trans (hbz.mono HAT.out.bel.size))
            have hS5 := HRD.out _ (HAT.out.bel.trans (hb4.mono HAT.out.bel.size))
            have q3 := run_stS_new w3 (a : Int) (L : Int)
            have hrow := heap_alloc_new w3 (.cells (spanV (a : Int) (L : Int)) 27)
            refine wpE_one 19 (by kernel_rfl) rfl (fun K' hK' => ?_)
            go_simp
            refine hK'.out _ _ hS4 (fun hS => ?_)
            clear hK' K'
            try simp only [Act.put]
            refine wpE_take 20 ⟨some 10, _, _, _, _, _⟩ (v := ?_) [21, 22] rfl (by kernel_rfl) (by kernel_rfl) (by kernel_rfl) (by kernel_rfl) (fun _ _ _ h => h) hS (Or.inl ⟨by rfl, ?_⟩) ?_
            rotate_left
            · (intro V hSw; have hSw' := hSw; go_simp; try with_reducible rfl)
            try simp only [Act.put]
            refine wpE_one 21 (by kernel_rfl) rfl (fun K' hK' => ?_)
            go_simp
            refine hK'.out _ _ hS5 (fun hS => ?_)
            clear hK' K'
            try simp only [Act.put]
            refine wpE_last (by kernel_rfl) rfl (fun K' hK' => ?_)
            go_simp
            refine hK'.out _ _ ?_
            clear hK' K'
            refine wpE_done (by kernel_rfl) ?_ _
            obtain ⟨w4, hw4⟩ : ∃ w4, w4 = w3.alloc (.cells (spanV (a : Int) (L : Int)) 27) := ⟨_, rfl⟩
            have hw4' : w3.alloc (.cells #[.int .i64 (a : Int), .int .i64 (L : Int)] 27) = w4 := hw4.symm
            try rw [hw4']
            try rw [← hw4]
            rw [← hw4] at hb4 hrow
            have ho4 : Owned w4 V.heap.size (.slice A' N c') ys := by rw [hw4]; exact World.ownsRow.alloc ho3 _
            obtain ⟨G, hG⟩ : ∃ G, G = w3.heap.size := ⟨_, rfl⟩
            rw [← hG] at hrow ⊢
            have HVG := Lib.hid (show V.heap.size ≤ G by have := hb3.size; omega)
            have HO4 := Lib.hid ho4
            have HB4 := Lib.hid hb4
            have HROW := Lib.hid hrow
            clear hw4 hw4' hrow hb4 hbz hS4 hS5 q3 hS3 hb3 ho3 ho4 hG
            have hld : (ldS (.pointer (some ⟨G, 0, none⟩))).run Try.prog w4 = .ok (.agg #[.int .i64 (a : Int), .int .i64 (L : Int)]) w4 := run_ldS w4 G _ _ HROW.out
            obtain ⟨gv', V5, hrun, hat5, hrow5⟩ := At.append HAT.out HB4.out HO4.out HINV.out HROW.out HVG.out (by have := HJS.out; omega)
            have hlen5 : V5.cell? ⟨G, 1, none⟩ = some (.int .i64 (L : Int)) := cell_of_row V5 _ 1 _ _ _ hrow5
            have HAT5 := Lib.hid hat5
            have elv : IntKind.i64.wrap ((lv : Int) - (L : Int)) = ((lv - L : Nat) : Int) := by rw [IntWalk.i64_in _ (by omega)]; omega
            clear hat5 hrow5 HAT HB4 HO4 HINV HROW
            go_wp2_with (at_builtin; refine wpList_appendS rfl _ _ rfl rfl _ _ _ _ rfl rfl hrun ?_)
            go_roundw
            case rel => exact ⟨j + 1, lv - L, sp ++ [(a, L)], _, A', c', by omega, by omega, by have := HJS.out; simp; omega, by go_num, rfl, by rw [tot_append]; simp only [tot]; omega, rfl, HAT5.out⟩
            case measure => simp [intOf]; omega
        · go_simp
          have hbW : Below V.heap.size V (V.alloc (.cells #[.int .i64 0, .int .i64 0] 27)).drew := ((Below.refl _ V).alloc (Nat.le_refl _) _).drew
          have hrowW : (V.alloc (.cells #[.int .i64 0, .int .i64 0] 27)).drew.heap[V.heap.size]? = some (.cells (spanV 0 0) 27 (0, 0)) := heap_alloc_new V _
          refine hK'.out _ _ (HRD.out _ (HAT.out.bel.trans (hbW.mono HAT.out.bel.size))) (fun _ => ?_)
          clear hK' K'
          try simp only [Act.put]
          have hS := HRD.out _ (HAT.out.bel.trans (hbW.mono HAT.out.bel.size))
          obtain ⟨W, hW⟩ : ∃ W, W = (V.alloc (.cells #[.int .i64 0, .int .i64 0] 27)).drew := ⟨_, rfl⟩
          have hzW : V.heap.size < W.heap.size := by rw [hW]; show V.heap.size < (V.alloc _).heap.size; simp
          rw [← hW] at hbW hrowW hS
          rw [← hW]
          clear hW
          refine wpE_one 14 (o := ⟨some 52, _, _, _, _, _⟩) (by kernel_rfl) rfl (fun K' hK' => ?_)
          rw [if_pos (by kernel_rfl)]
          refine call_wp 11 _ _ _ _ rfl Try.func11 (by kernel_rfl) rfl _ ?hv _ (HTA.out W hbW) ?_
          case hv => simp only [List.map_toArray, List.map_cons, List.map_nil]; go_simp
          rintro e w3 ⟨r, hr, hout⟩
          have hb3 : Below V.heap.size V w3 := hbW.trans (hout.below.mono hbW.size)
          have hS3 : w3.cell? ⟨b, off + j, none⟩ = some (.int .u8 (x : Int)) := HRD.out w3 (HAT.out.bel.trans (hb3.mono HAT.out.bel.size))
          have hrow3 := (hout.below.block V.heap.size hzW).trans hrowW
          have hz3 : V.heap.size < w3.heap.size := Nat.lt_of_lt_of_le hzW hout.below.size
          rcases r with _ | ⟨a, o⟩
          · obtain ⟨rfl, -⟩ := hout
            have hf0 : freeN cur sz = 0 := take_none hr
            have HF0 := Lib.hid hf0; clear hf0 hr
            refine ⟨_, rfl, hK'.out _ _ hS3 (fun hS => ?_)⟩
            clear hK' K'
            try simp only [Act.put]
            refine wpE_take 15 ⟨some 37, _, _, _, _, _⟩ (v := ?_) [16, 17, 18, 20, 21, 22] rfl (by kernel_rfl) (by kernel_rfl) (by kernel_rfl) (by kernel_rfl) (fun _ _ _ h => h) hS (Or.inl ⟨by rfl, ?_⟩) ?_
            rotate_left
            · (intro V hSw; have hSw' := hSw; go_simp; try with_reducible rfl)
            try simp only [Act.put]
            refine wpE_take 16 ⟨some 53, _, _, _, _, _⟩ (v := ?_) [20, 21, 22] rfl (by kernel_rfl) (by kernel_rfl) (by kernel_rfl) (by kernel_rfl) (fun _ _ _ h => h) hS (Or.inl ⟨by rfl, ?_⟩) ?_
            rotate_left
            · (intro V hSw; have hSw' := hSw; go_simp; try with_reducible rfl)
            try simp only [Act.put]
            refine wpE_take 17 ⟨some 54, _, _, _, _, _⟩ (v := ?_) [21, 22] rfl (by kernel_rfl) (by kernel_rfl) (by kernel_rfl) (by kernel_rfl) (fun _ _ _ h => h) hS (Or.inl ⟨by rfl, ?_⟩) ?_
            rotate_left
            · (intro V hSw; have hSw' := hSw; go_simp; try with_reducible rfl)
            try simp only [Act.put]
            refine wpE_take 18 ⟨some 55, _, _, _, _, _⟩ (v := ?_) [22] rfl (by kernel_rfl) (by kernel_rfl) (by kernel_rfl) (by kernel_rfl) (fun _ _ _ h => h) hS (Or.inl ⟨by rfl, ?_⟩) ?_
            rotate_left
            · (intro V hSw; have hSw' := hSw; go_simp; try with_reducible rfl)
            try simp only [Act.put]
            refine wpE_take 20 ⟨some 10, _, _, _, _, _⟩ (v := ?_) [21, 22] rfl (by kernel_rfl) (by kernel_rfl) (by kernel_rfl) (by kernel_rfl) (fun _ _ _ h => h) hS (Or.inl ⟨by rfl, ?_⟩) ?_
            rotate_left
            · (intro V hSw; have hSw' := hSw; go_simp; try with_reducible rfl)
            try simp only [Act.put]
            obtain ⟨w4, hst, hrow, hg4⟩ := run_stS_at w3 V.heap.size 0 0 0 0 hrow3
            have hst' : (stS (.pointer (some ⟨V.heap.size, 0, none⟩)) (.agg #[.int .i64 0, .int .i64 0])).run Try.prog w3 = .ok () w4 := hst
            have hb4 : Below V.heap.size V w4 := hb3.grown hg4 hb3.size (fun k e => by injection e with e; omega)
            have hS4 := HRD.out _ (HAT.out.bel.trans (hb4.mono HAT.out.bel.size))
            refine wpE_one 21 (by kernel_rfl) rfl (fun K' hK' => ?_)
            go_simp
            refine hK'.out _ _ hS4 (fun hS => ?_)
            clear hK' K'
            try simp only [Act.put]
            clear hst hst'
            refine wpE_last (by kernel_rfl) rfl (fun K' hK' => ?_)
            go_simp
            refine hK'.out _ _ ?_
            clear hK' K'
            refine wpE_done (by kernel_rfl) ?_ _
            have HAT4 := Lib.hid (HAT.out.keep hb4)
            clear hrow hb4 hS4 hS3 hb3 hg4 hrow3 hrowW hbW hzW hz3
            have hl0 : ((lv : Int) == 0) = true := by have h1 := HAT.out.left; have h2 := HF0.out; rw [beq_iff_eq]; omega
            have HAT := Lib.hid HAT4.out
            clear HAT4 HF0
            go_wp2_with fail
            have hk60 : sp.length ≤ 60 := by have := HJS.out; omega
            have hfr := free_ok A N c _ cur _ sz HAT.out.map.1 (Nat.le_refl _) (by have := HNN.out; omega) HNN.out.2
            have hfl : freeN cur sz = lv := by have := HAT.out.left; omega
            rw [hfl] at hfr
            have HFR := Lib.hid hfr; clear hfr hfl
            have hlv0 : ¬ (lv : Int) < 0 := by omega
            have dlv : decide ((lv : Int) < 0) = false := decide_eq_false hlv0
            go_wp2_with fail
            with_reducible refine HFR.out.mono ?_
            rintro e w5 ⟨rfl, hb5⟩
            have HBK := Lib.hid (HAT.out.back hb5); clear hb5 HFR
            go_wp2_with fail
            clear hlv0 dlv
            go_loopw [6, 15] (fun m i V' => ∃ (k : Nat) (cur' : List UInt8) (A' : Option Addr) (c' : Nat), k ≤ sp.length ∧ i = .int .i64 (k : Int) ∧ m = .slice A' N c' ∧ Back w sz N V' A' cur' (.slice X sp.length cc) sp k) (fun m i _ => sp.length - (intOf i).toNat)
            case atStart => exact ⟨0, cur, A, c, Nat.zero_le _, rfl, rfl, HBK.out⟩
            case round =>
              clear HBK
              obtain ⟨k, cur', A', c', hk, rfl, rfl, hbk⟩ := hrel
              have HB6 := Lib.hid hbk; clear hbk
              by_cases hlt : k < sp.length
              · have hlt' : (k : Int) < (sp.length : Int) := by omega
                obtain ⟨⟨a, L⟩, hx⟩ : ∃ x, sp[k]? = some x := ⟨_, List.getElem?_eq_getElem hlt⟩
                obtain ⟨hc1, hc2, hc3, hinv⟩ := HB6.out.next hx HNN.out.2
                have HINV := Lib.hid hinv; clear hinv
                obtain ⟨g, cap, e⟩ := Row.form HB6.out.row (by omega)
                injection e with e1 e2 e3
                subst e1 e3
                have hld := run_ldS_mid _ w.heap.size g _ k sp (a, L) HB6.out.row hx
                dsimp only at hld
                have hgi := (give_run A' N c' _ cur' _ sz a L HB6.out.map (Nat.le_refl _) (by have := HNN.out; omega) HNN.out.2 hc3 hc2).mono (fun e w' h => h.2 hc1)
                have HGI := Lib.hid hgi; clear hgi
                go_wp2_with fail
                with_reducible refine HGI.out.mono ?_
                rintro e w6 ⟨A6, c6, rfl, hb6, ho6, -⟩
                have hbk6 := HB6.out.step hb6 ho6 HINV.out
                have HB7 := Lib.hid hbk6; clear hbk6 hb6 ho6 HINV HGI hld hx hc1 hc2 hc3
                go_wp2
                go_roundw
                case rel => exact ⟨k + 1, _, A6, c6, by omega, by go_num, rfl, HB7.out⟩
                case measure => simp [intOf]; omega
              · have hlt' : ¬ (k : Int) < (sp.length : Int) := by omega
                obtain rfl : k = sp.length := by omega
                have hfr := free_ok A' N c' _ cur' _ sz HB6.out.map (Nat.le_refl _) (by have := HNN.out; omega) HNN.out.2
                rw [HB6.out.all] at hfr
                have HFR := Lib.hid hfr; clear hfr
                go_wp2_with fail
                with_reducible refine HFR.out.mono ?_
                rintro e w6 ⟨rfl, hb6⟩
                have HF := Lib.hid (HB6.out.bel.trans (hb6.mono HB6.out.bel.size)); clear hb6 HFR
                go_wp2
                go_ret
                exact ⟨rfl, HF.out⟩
          · obtain ⟨hsn, A', c', rfl, -, ho3, -⟩ := hout
            obtain ⟨L, hL⟩ : ∃ L, L = min want (2 ^ o) := ⟨_, rfl⟩
            rw [← hL] at hsn ho3 ⊢
            obtain ⟨hL1, hinv, hLf⟩ := HAT.out.free hr hw1.1 hL hsn HNN.out.2
            have hLlv : L ≤ lv := by have := HAT.out.left; omega
            obtain ⟨ys, hys⟩ : ∃ ys, ys = fillL cur (a : Int) ((a + L : Nat) : Int) true := ⟨_, rfl⟩
            rw [← hys] at ho3 hinv
            have HINV := Lib.hid hinv; clear hinv hys hL hr hLf
            refine ⟨_, rfl, hK'.out _ _ hS3 (fun hS => ?_)⟩
            clear hK' K'
            try simp only [Act.put]
            refine wpE_take 15 ⟨some 37, _, _, _, _, _⟩ (v := ?_) [16, 17, 18, 20, 21, 22] rfl (by kernel_rfl) (by kernel_rfl) (by kernel_rfl) (by kernel_rfl) (fun _ _ _ h => h) hS (Or.inl ⟨by rfl, ?_⟩) ?_
            rotate_left
            · (intro V hSw; have hSw' := hSw; go_simp; try with_reducible rfl)
            try simp only [Act.put]
            refine wpE_take 16 ⟨some 53, _, _, _, _, _⟩ (v := ?_) [20, 21, 22] rfl (by kernel_rfl) (by kernel_rfl) (by kernel_rfl) (by kernel_rfl) (fun _ _ _ h => h) hS (Or.inl ⟨by rfl, ?_⟩) ?_
            rotate_left
            · (intro V hSw; have hSw' := hSw; go_simp; try with_reducible rfl)
            try simp only [Act.put]
            refine wpE_take 17 ⟨some 54, _, _, _, _, _⟩ (v := ?_) [21, 22] rfl (by kernel_rfl) (by kernel_rfl) (by kernel_rfl) (by kernel_rfl) (fun _ _ _ h => h) hS (Or.inl ⟨by rfl, ?_⟩) ?_
            rotate_left
            · (intro V hSw; have hSw' := hSw; go_simp; try with_reducible rfl)
            try simp only [Act.put]
            refine wpE_take 18 ⟨some 55, _, _, _, _, _⟩ (v := ?_) [22] rfl (by kernel_rfl) (by kernel_rfl) (by kernel_rfl) (by kernel_rfl) (fun _ _ _ h => h) hS (Or.inl ⟨by rfl, ?_⟩) ?_
            rotate_left
            · (intro V hSw; have hSw' := hSw; go_simp; try with_reducible rfl)
            try simp only [Act.put]
            refine wpE_take 20 ⟨some 10, _, _, _, _, _⟩ (v := ?_) [21, 22] rfl (by kernel_rfl) (by kernel_rfl) (by kernel_rfl) (by kernel_rfl) (fun _ _ _ h => h) hS (Or.inl ⟨by rfl, ?_⟩) ?_
            rotate_left
            · (intro V hSw; have hSw' := hSw; go_simp; try with_reducible rfl)
            try simp only [Act.put]
            obtain ⟨w4, hst, hrow, hg4⟩ := run_stS_at w3 V.heap.size (a : Int) (L : Int) 0 0 hrow3
            have hst' : (stS (.pointer (some ⟨V.heap.size, 0, none⟩)) (.agg #[.int .i64 (a : Int), .int .i64 (L : Int)])).run Try.prog w3 = .ok () w4 := hst
            have hb4 : Below V.heap.size V w4 := hb3.grown hg4 hb3.size (fun k e => by injection e with e; omega)
            have hS4 := HRD.out _ (HAT.out.bel.trans (hb4.mono HAT.out.bel.size))
            refine wpE_one 21 (by kernel_rfl) rfl (fun K' hK' => ?_)
            go_simp
            refine hK'.out _ _ hS4 (fun hS => ?_)
            clear hK' K'
            try simp only [Act.put]
            clear hst hst'
            refine wpE_last (by kernel_rfl) rfl (fun K' hK' => ?_)
            go_simp
            refine hK'.out _ _ ?_
            clear hK' K'
            refine wpE_done (by kernel_rfl) ?_ _
            have ho4 : Owned w4 V.heap.size (.slice A' N c') ys := Owned.mono (Owned.grownFar ho3 hg4 (fun k hk e => by have := Owned.base_le ho3 k hk; injection e with e; omega)) (by omega)
            have HVG := Lib.hid (Nat.le_refl V.heap.size)
            have HO4 := Lib.hid ho4
            have HB4 := Lib.hid hb4
            have HROW := Lib.hid hrow
            clear hrow hb4 hS4 hS3 hb3 hg4 hrow3 hrowW hbW hzW hz3 ho3 ho4
            have hld : (ldS (.pointer (some ⟨V.heap.size, 0, none⟩))).run Try.prog w4 = .ok (.agg #[.int .i64 (a : Int), .int .i64 (L : Int)]) w4 := run_ldS w4 V.heap.size _ _ HROW.out
            obtain ⟨gv', V5, hrun, hat5, hrow5⟩ := At.append HAT.out HB4.out HO4.out HINV.out HROW.out HVG.out (by have := HJS.out; omega)
            have hlen5 : V5.cell? ⟨V.heap.size, 1, none⟩ = some (.int .i64 (L : Int)) := cell_of_row V5 _ 1 _ _ _ hrow5
            have HAT5 := Lib.hid hat5
            have elv : IntKind.i64.wrap ((lv : Int) - (L : Int)) = ((lv - L : Nat) : Int) := by rw [IntWalk.i64_in _ (by omega)]; omega
            clear hat5 hrow5 HAT HB4 HO4 HINV HROW
            go_wp2_with (at_builtin; refine wpList_appendS rfl _ _ rfl rfl _ _ _ _ rfl rfl hrun ?_)
            go_roundw
            case rel => exact ⟨j + 1, lv - L, sp ++ [(a, L)], _, A', c', by omega, by omega, by have := HJS.out; simp; omega, by go_num, rfl, by rw [tot_append]; simp only [tot]; omega, rfl, HAT5.out⟩
            case measure => simp [intOf]; omega
      · have h60' : ¬ (j : Int) < 60 := by omega
        have d60 : decide ((j : Int) < 60) = false := decide_eq_false h60'
        have d60' : decide (j < 60) = false := decide_eq_false h60
        go_wp2_with fail
        have hk60 : sp.length ≤ 60 := by have := HJS.out; omega
        have hfr := free_ok A N c _ cur _ sz HAT.out.map.1 (Nat.le_refl _) (by have := HNN.out; omega) HNN.out.2
        have hfl : freeN cur sz = lv := by have := HAT.out.left; omega
        rw [hfl] at hfr
        have HFR := Lib.hid hfr; clear hfr hfl
        have hlv0 : ¬ (lv : Int) < 0 := by omega
        have dlv : decide ((lv : Int) < 0) = false := decide_eq_false hlv0
        go_wp2_with fail
        with_reducible refine HFR.out.mono ?_
        rintro e w5 ⟨rfl, hb5⟩
        have HBK := Lib.hid (HAT.out.back hb5); clear hb5 HFR
        go_wp2_with fail
        clear hlv0 dlv
        go_loopw [6, 15] (fun m i V' => ∃ (k : Nat) (cur' : List UInt8) (A' : Option Addr) (c' : Nat), k ≤ sp.length ∧ i = .int .i64 (k : Int) ∧ m = .slice A' N c' ∧ Back w sz N V' A' cur' (.slice X sp.length cc) sp k) (fun m i _ => sp.length - (intOf i).toNat)
        case atStart => exact ⟨0, cur, A, c, Nat.zero_le _, rfl, rfl, HBK.out⟩
        case round =>
          clear HBK
          obtain ⟨k, cur', A', c', hk, rfl, rfl, hbk⟩ := hrel
          have HB6 := Lib.hid hbk; clear hbk
          by_cases hlt : k < sp.length
          · have hlt' : (k : Int) < (sp.length : Int) := by omega
            obtain ⟨⟨a, L⟩, hx⟩ : ∃ x, sp[k]? = some x := ⟨_, List.getElem?_eq_getElem hlt⟩
            obtain ⟨hc1, hc2, hc3, hinv⟩ := HB6.out.next hx HNN.out.2
            have HINV := Lib.hid hinv; clear hinv
            obtain ⟨g, cap, e⟩ := Row.form HB6.out.row (by omega)
            injection e with e1 e2 e3
            subst e1 e3
            have hld := run_ldS_mid _ w.heap.size g _ k sp (a, L) HB6.out.row hx
            dsimp only at hld
            have hgi := (give_run A' N c' _ cur' _ sz a L HB6.out.map (Nat.le_refl _) (by have := HNN.out; omega) HNN.out.2 hc3 hc2).mono (fun e w' h => h.2 hc1)
            have HGI := Lib.hid hgi; clear hgi
            go_wp2_with fail
            with_reducible refine HGI.out.mono ?_
            rintro e w6 ⟨A6, c6, rfl, hb6, ho6, -⟩
            have hbk6 := HB6.out.step hb6 ho6 HINV.out
            have HB7 := Lib.hid hbk6; clear hbk6 hb6 ho6 HINV HGI hld hx hc1 hc2 hc3
            go_wp2
            go_roundw
            case rel => exact ⟨k + 1, _, A6, c6, by omega, by go_num, rfl, HB7.out⟩
            case measure => simp [intOf]; omega
          · have hlt' : ¬ (k : Int) < (sp.length : Int) := by omega
            obtain rfl : k = sp.length := by omega
            have hfr := free_ok A' N c' _ cur' _ sz HB6.out.map (Nat.le_refl _) (by have := HNN.out; omega) HNN.out.2
            rw [HB6.out.all] at hfr
            have HFR := Lib.hid hfr; clear hfr
            go_wp2_with fail
            with_reducible refine HFR.out.mono ?_
            rintro e w6 ⟨rfl, hb6⟩
            have HF := Lib.hid (HB6.out.bel.trans (hb6.mono HB6.out.bel.size)); clear hb6 HFR
            go_wp2
            go_ret
            exact ⟨rfl, HF.out⟩
    · have hlt' : ¬ (j : Int) < (ws.length : Int) := by omega
      have dlt : decide ((j : Int) < (ws.length : Int)) = false := decide_eq_false hlt'
      have dlt2 : decide (j < ws.length) = false := decide_eq_false hlt
      go_wp2_with fail
      have hk60 : sp.length ≤ 60 := by have := HJS.out; omega
      have hfr := free_ok A N c _ cur _ sz HAT.out.map.1 (Nat.le_refl _) (by have := HNN.out; omega) HNN.out.2
      have hfl : freeN cur sz = lv := by have := HAT.out.left; omega
      rw [hfl] at hfr
      have HFR := Lib.hid hfr; clear hfr hfl
      have hlv0 : ¬ (lv : Int) < 0 := by omega
      have dlv : decide ((lv : Int) < 0) = false := decide_eq_false hlv0
      go_wp2_with fail
      with_reducible refine HFR.out.mono ?_
      rintro e w5 ⟨rfl, hb5⟩
      have HBK := Lib.hid (HAT.out.back hb5); clear hb5 HFR
      go_wp2_with fail
      clear hlv0 dlv
      go_loopw [6, 15] (fun m i V' => ∃ (k : Nat) (cur' : List UInt8) (A' : Option Addr) (c' : Nat), k ≤ sp.length ∧ i = .int .i64 (k : Int) ∧ m = .slice A' N c' ∧ Back w sz N V' A' cur' (.slice X sp.length cc) sp k) (fun m i _ => sp.length - (intOf i).toNat)
      case atStart => exact ⟨0, cur, A, c, Nat.zero_le _, rfl, rfl, HBK.out⟩
      case round =>
        clear HBK
        obtain ⟨k, cur', A', c', hk, rfl, rfl, hbk⟩ := hrel
        have HB6 := Lib.hid hbk; clear hbk
        by_cases hlt : k < sp.length
        · have hlt' : (k : Int) < (sp.length : Int) := by omega
          obtain ⟨⟨a, L⟩, hx⟩ : ∃ x, sp[k]? = some x := ⟨_, List.getElem?_eq_getElem hlt⟩
          obtain ⟨hc1, hc2, hc3, hinv⟩ := HB6.out.next hx HNN.out.2
          have HINV := Lib.hid hinv; clear hinv
          obtain ⟨g, cap, e⟩ := Row.form HB6.out.row (by omega)
          injection e with e1 e2 e3
          subst e1 e3
          have hld := run_ldS_mid _ w.heap.size g _ k sp (a, L) HB6.out.row hx
          dsimp only at hld
          have hgi := (give_run A' N c' _ cur' _ sz a L HB6.out.map (Nat.le_refl _) (by have := HNN.out; omega) HNN.out.2 hc3 hc2).mono (fun e w' h => h.2 hc1)
          have HGI := Lib.hid hgi; clear hgi
          go_wp2_with fail
          with_reducible refine HGI.out.mono ?_
          rintro e w6 ⟨A6, c6, rfl, hb6, ho6, -⟩
          have hbk6 := HB6.out.step hb6 ho6 HINV.out
          have HB7 := Lib.hid hbk6; clear hbk6 hb6 ho6 HINV HGI hld hx hc1 hc2 hc3
          go_wp2
          go_roundw
          case rel => exact ⟨k + 1, _, A6, c6, by omega, by go_num, rfl, HB7.out⟩
          case measure => simp [intOf]; omega
        · have hlt' : ¬ (k : Int) < (sp.length : Int) := by omega
          obtain rfl : k = sp.length := by omega
          have hfr := free_ok A' N c' _ cur' _ sz HB6.out.map (Nat.le_refl _) (by have := HNN.out; omega) HNN.out.2
          rw [HB6.out.all] at hfr
          have HFR := Lib.hid hfr; clear hfr
          go_wp2_with fail
          with_reducible refine HFR.out.mono ?_
          rintro e w6 ⟨rfl, hb6⟩
          have HF := Lib.hid (HB6.out.bel.trans (hb6.mono HB6.out.bel.size)); clear hb6 HFR
          go_wp2
          go_ret
          exact ⟨rfl, HF.out⟩

theorem walks : Walks 7 Try.f7 All := by
  intro H enc W base args ds p hval hA hsz _
  rw [Try.params7] at hA hval hsz
  obtain ⟨v0, vs0, d0, ds0, p0, q0, hargs, rfl, rfl, h0, r0⟩ := trodAll_cons hA
  obtain ⟨v1, vs1, d1, ds1, p1, q1, rfl, rfl, rfl, h1, r1⟩ := trodAll_cons r0
  obtain ⟨rfl, rfl, rfl⟩ := trodAll_nil r1
  obtain rfl : args = #[v0, v1] := by cases args; simp_all
  obtain ⟨y, rfl, rfl, rfl, hy⟩ := open_int Try.underlying5 (hval 0 _ v0 rfl rfl) h0
  have bY := bounds_u8 hy
  obtain ⟨A, n, c, bs, rfl, hb, hn, hc⟩ := open_bytesC (hval 1 _ v1 rfl rfl) h1 _ (reach_bytes hsz (j := 1) rfl rfl)
  obtain ⟨sz, rfl⟩ : ∃ sz : Nat, y = (sz : Int) := ⟨y.toNat, by omega⟩
  exact walk sz (by omega) A n c bs W hb hn

set_option maxRecDepth 100000 in
theorem proved : Rows.BuddyAllSaid :=
  OpenClaim.holds_of_wide 7 Try.f7 rfl rfl rfl rfl rfl rfl rfl ⟨rfl, rfl, rfl, rfl, rfl⟩ rfl rfl rfl rfl rfl (by kernel_rfl) Try.func7 (by kernel_rfl)
    (of_decide_eq_true (by kernel_rfl)) (by unfold Func.isWrapper; first | (rw [if_pos (by decide +kernel)]; kernel_rfl) | (rw [if_neg (by decide +kernel)]; exact ⟨rfl, rfl⟩))
    (fun os started H enc _ => lifted (s := Rows.buddyAllSpec) walks (by kernel_rfl) rfl rfl (fun H ds hl => by match ds, hl with | [d1, d2], _ => rfl) (by kernel_rfl) Try.func7 os started H enc
      (ChangeSpec.witness6 (enc := enc) (C := Try.checked) false ⟨#[], #[.int .u8 0, .slice none 0 0], []⟩ 8 (by kernel_rfl) (by kernel_rfl) (by kernel_rfl) (by kernel_rfl)))
#print axioms proved
end Go.Proofs.Ytnkiblifnknbkaa.BuddyAll
