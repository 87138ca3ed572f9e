/- Bytes as runs: the document's Gather. -/
import Derived.Test.YtmbmjdogfjmlpaaDoorSpRSpread
namespace Go.Proofs.YtmbmjdogfjmlpaaDoor.Sp
set_option maxRecDepth 20000
open Go.RowKit
open Go.Proofs.YtmbmjdogfjmlpaaDoor.Mem Go.Proofs.YtmbmjdogfjmlpaaDoor.Rec Go.Proofs.YtmbmjdogfjmlpaaDoor.Reg
attribute [local go_sem ↓] ldX_eq stX_eq

theorem gat_zero {k : Int} {b : List UInt8} : gat k (0 :: b) = gat (k + 1) b := by
  show (if _ then _ else _) = _
  rw [if_pos rfl]
theorem drop_cons {bs : List UInt8} {i : Nat} (h : i < bs.length) : bs.drop i = bs.getD i 0 :: bs.drop (i + 1) := by
  rw [List.drop_eq_getElem_cons h, List.getD_eq_getElem?_getD, List.getElem?_eq_getElem h, Option.getD_some]
theorem gat_part {bs : List UInt8} {i k : Nat} (hik : i < k) (hk : k ≤ bs.length) (hall : ∀ j, i ≤ j → j < k → bs.getD j 0 ≠ 0) (hend : k < bs.length → bs.getD k 0 = 0) :
    gat (i : Int) (bs.drop i) = ⟨(i : Int), (bs.drop i).take (k - i)⟩ :: gat (k : Int) (bs.drop k) := by
  have hs : bs.drop i = (bs.drop i).take (k - i) ++ bs.drop k := by
    conv => lhs; rw [← List.take_append_drop (k - i) (bs.drop i), List.drop_drop]
    rw [show i + (k - i) = k by omega]
  have hl : ((bs.drop i).take (k - i)).length = k - i := by rw [List.length_take, List.length_drop]; omega
  conv => lhs; rw [hs]
  rw [gat_run _ _ _ (by intro e; rw [e] at hl; simp at hl; omega) (clean_iff _ fun j hj => by
    rw [hl] at hj
    rw [getD_take hj, getD_drop]
    exact hall (i + j) (by omega) (by omega)) (fun c r e => by
      rcases Nat.lt_or_ge k bs.length with h | h
      · rw [drop_cons h] at e
        injection e with e _
        rw [← e, hend h]
      · rw [List.drop_of_length_le h] at e; cases e), hl, show (i : Int) + ((k - i : Nat) : Int) = (k : Int) by omega]
set_option maxRecDepth 100000 in
set_option maxHeartbeats 16000000 in
theorem rgather_any (A : Option Addr) (n c B : Nat) (bs : List UInt8) (w : World) (h : Holds w B A n bs) (hB : B ≤ w.heap.size) (hn : n ≤ 65536) (hc : n ≤ c) :
    Calls Tryd.prog 29 #[.slice A n c] w (Runs1 w (gat 0 bs)) := by
  have hln := h.1
  obtain ⟨post, hpost⟩ : ∃ post, post = Runs1 w (gat 0 bs) := ⟨_, rfl⟩
  rw [← hpost]
  have HP := Lib.hid hpost; clear hpost
  have hlen : (gat 0 bs).length ≤ 65538 := gat_len (Int.le_refl 0) (by omega)
  have HLEN := Lib.hid hlen; clear hlen
  have hh : ∀ V, Below w.heap.size w V → Holds V B A n bs := fun V hV => h.below (hV.mono hB)
  have HH := Lib.hid hh; clear hh
  have H := Lib.hid h; clear h
  have HLN := Lib.hid hln; clear hln
  go_enter Tryd.func29, Tryd.ntmps29
  go_wp2
  go_loopw [3, 4] (fun lv iv wr => ∃ (i : Nat) (Al : Option Addr) (cl ml : Nat) (L : List Rn), i ≤ n ∧ iv = .int .i64 (i : Int) ∧ lv = .slice Al ml cl ∧ ml = L.length ∧ gat 0 bs = L ++ gat (i : Int) (bs.drop i) ∧ OwnX wr w.heap.size (.slice Al ml cl) L ∧ Below w.heap.size w wr) (fun _ iv _ => n - (intOf iv).toNat)
  case atStart => exact ⟨0, none, 0, 0, [], Nat.zero_le _, rfl, rfl, rfl, rfl, OwnX.nil _ _, Below.refl _ _⟩
  case round =>
    obtain ⟨i, Al, cl, ml, L, hi, rfl, rfl, hml, hg, hown, hbr⟩ := hrel
    have HO := Lib.hid hown; clear hown
    have HML := Lib.hid hml; clear hml
    have HG := Lib.hid hg; clear hg
    rcases Nat.lt_or_ge i n with hlt | hge
    rotate_left
    · have HBR := Lib.hid hbr; clear hbr
      have hkn : ¬ (i : Int) < (n : Int) := by omega
      have hall : gat 0 bs = L := by rw [HG.out, List.drop_of_length_le (by have := HLN.out; omega)]; simp [gat]
      rw [hall] at HP
      clear hall
      go_wp2
      rw [HP.out]
      exact ⟨Al, cl, by rw [← HML.out], by rw [← HML.out]; exact HO.out, HBR.out⟩
    · obtain ⟨b, off, rfl⟩ := Holds.addr H.out (by omega)
      have hil : i < bs.length := by have := HLN.out; omega
      have hcell : ∀ V, Below w.heap.size w V → ∀ j, j < n → V.cell? ⟨b, off + j, none⟩ = some (.int .u8 ((bs.getD j 0).toNat : Int)) := fun V hV j hj => by
        obtain ⟨b', off', e, _, hcc⟩ := (HH.out V hV).2 (by omega)
        injection e with e
        injection e with e1 e2
        subst e1 e2
        have hjl : j < bs.length := by have := HLN.out; omega
        rw [hcc j hjl, List.getD_eq_getElem?_getD, List.getElem?_eq_getElem hjl, Option.getD_some]
      have HCELL := Lib.hid hcell; clear hcell
      have hi0 : (0 : Int) ≤ (i : Int) := by omega
      have hin : (i : Int) < (n : Int) := by omega
      have q0 := HCELL.out wr hbr i hlt
      obtain ⟨u, hu⟩ : ∃ u, u = bs.getD i 0 := ⟨_, rfl⟩
      rw [← hu] at q0
      have HBR := Lib.hid hbr; clear hbr
      rcases Decidable.em (u = 0) with hz | hz
      · have hq : ((u.toNat : Int) == 0) = true := by rw [hz]; rfl
        have hg2 : gat 0 bs = L ++ gat ((i + 1 : Nat) : Int) (bs.drop (i + 1)) := by
          rw [HG.out, drop_cons hil, ← hu, hz, gat_zero]
          rfl
        have HG2 := Lib.hid hg2; clear hg2 hz hu
        go_wp2
        go_roundw
        case rel => exact ⟨i + 1, Al, cl, ml, L, by omega, by go_num, rfl, HML.out, HG2.out, HO.out, HBR.out⟩
        case measure => simp [intOf]; omega
      · have hq : ((u.toNat : Int) == 0) = false := beq_false_of_ne (fun e => hz (UInt8.toNat_inj.1 (by show u.toNat = 0; omega)))
        have HZ : Hid (bs.getD i 0 ≠ 0) := Lib.hid (by rw [← hu]; exact hz)
        clear hz hu
        go_wp2
        clear q0 hq
        obtain ⟨W0, hW0⟩ : ∃ W0, W0 = wr := ⟨_, rfl⟩
        subst hW0
        go_loopw [5] (fun kv wi => ∃ k : Nat, i ≤ k ∧ k ≤ n ∧ kv = .int .i64 (k : Int) ∧ (∀ j, i ≤ j → j < k → bs.getD j 0 ≠ 0) ∧ wi = W0) (fun kv _ => n - (intOf kv).toNat)
        case atStart => exact ⟨i, Nat.le_refl _, by omega, rfl, fun j h1 h2 => absurd h2 (by omega), rfl⟩
        case round =>
          obtain ⟨k, hik, hkn, rfl, hall, hwi⟩ := hrel
          subst hwi
          have HALL := Lib.hid hall; clear hall
          have fin : ∀ (hend : k < bs.length → bs.getD k 0 = 0), i < k := fun hend => by
            rcases Nat.lt_or_ge i k with h1 | h1
            · exact h1
            · have : k = i := by omega
              subst this
              exact absurd (hend hil) HZ.out
          have stp : (hend : k < bs.length → bs.getD k 0 = 0) → i < k ∧ gat 0 bs = (L ++ [⟨(i : Int), (bs.drop i).take (k - i)⟩]) ++ gat (k : Int) (bs.drop k) := fun hend => ⟨fin hend, by
            rw [HG.out, gat_part (fin hend) (by have := HLN.out; omega) HALL.out hend, List.append_assoc]
            rfl⟩
          have hkz : (i : Int) ≤ (k : Int) := by omega
          have hk0 : (0 : Int) ≤ (k : Int) := by omega
          have hkc : (k : Int) ≤ (c : Int) := by omega
          have HSTP := Lib.hid stp; clear stp fin
          rcases Nat.lt_or_ge k n with hk | hk
          · have hk' : (k : Int) < (n : Int) := by omega
            have q1 := HCELL.out wr HBR.out k hk
            obtain ⟨x, hx⟩ : ∃ x, x = bs.getD k 0 := ⟨_, rfl⟩
            rw [← hx] at q1
            rcases Decidable.em (x = 0) with hx0 | hx0
            · have hq : ((x.toNat : Int) == 0) = true := by rw [hx0]; rfl
              have hq2 : ((x.toNat : Int) != 0) = false := by unfold bne; rw [hq]; rfl
              have hend : k < bs.length → bs.getD k 0 = 0 := fun _ => by rw [← hx]; exact hx0
              clear hx hx0
              obtain ⟨hik2, hgn⟩ := HSTP.out hend
              clear hend
              have hx1 := HH.out wr HBR.out
              obtain ⟨t, ht⟩ : ∃ t, t = (bs.drop i).take (k - i) := ⟨_, rfl⟩
              rw [← ht] at hgn
              have hcv : (convert 41 9 (.slice (some ⟨b, off + i, none⟩) (k - i) (c - i))).run Tryd.prog wr = .ok (.string ⟨t.toArray⟩) wr := run_text wr B _ _ _ _ (by rw [ht]; exact Holds.drop hx1 (by omega))
              have hL1 : L.length + 1 ≤ 65538 := by
                have := HLEN.out
                rw [hgn, List.length_append, List.length_append, List.length_singleton] at this
                omega
              obtain ⟨v', W5, hrun, hown5, hgr⟩ := run_appX wr w.heap.size _ _ HO.out ⟨(i : Int), t⟩ 22 (by omega) HBR.out.size
              obtain ⟨A5, c5, rfl⟩ := hown5.shape
              rw [List.length_append, List.length_singleton, ← HML.out] at hown5 hrun
              dsimp only at hrun
              obtain ⟨T, hT⟩ : ∃ T : ByteArray, T = ⟨t.toArray⟩ := ⟨_, rfl⟩
              rw [← hT] at hrun hcv
              have HB5 := Lib.hid (HBR.out.trans (hgr.below HBR.out.size (fun q hq => (HO.out.lt q hq).1)))
              have HO5 := Lib.hid hown5; clear hown5 hgr
              have HGN := Lib.hid hgn; clear hgn
              have hci : ¬ c = i := by omega
              have hki : i < k := hik2
              clear hx1 hT ht hik2 hL1
              go_wp2_with (at_builtin; refine wpList_apprun rfl _ _ _ _ (by rfl) _ _ (by rfl) (by rfl) _ _ hrun ?_)
              go_wp2
              go_roundw
              case rel => exact ⟨k, A5, c5, ml + 1, _, by omega, rfl, rfl, by rw [List.length_append, List.length_singleton, ← HML.out], HGN.out, HO5.out, HB5.out⟩
              case measure => simp [intOf]; omega
            · have hq : ((x.toNat : Int) == 0) = false := beq_false_of_ne (fun e => hx0 (UInt8.toNat_inj.1 (by show x.toNat = 0; omega)))
              have hq2 : ((x.toNat : Int) != 0) = true := by unfold bne; rw [hq]; rfl
              have hnx : ∀ j, i ≤ j → j < k + 1 → bs.getD j 0 ≠ 0 := fun j h1 h2 => by
                rcases Nat.lt_or_ge j k with h3 | h3
                · exact HALL.out j h1 h3
                · rw [show j = k by omega, ← hx]; exact hx0
              have HNX := Lib.hid hnx; clear hnx hx hx0
              go_wp2
              go_roundw
              case rel => exact ⟨k + 1, by omega, by omega, by go_num, HNX.out, by trivial⟩
              case measure => simp [intOf]; omega
          · have hk' : ¬ (k : Int) < (n : Int) := by omega
            obtain ⟨hik2, hgn⟩ := HSTP.out (fun h => by have := HLN.out; omega)
            have hx1 := HH.out wr HBR.out
            obtain ⟨t, ht⟩ : ∃ t, t = (bs.drop i).take (k - i) := ⟨_, rfl⟩
            rw [← ht] at hgn
            have hcv : (convert 41 9 (.slice (some ⟨b, off + i, none⟩) (k - i) (c - i))).run Tryd.prog wr = .ok (.string ⟨t.toArray⟩) wr := run_text wr B _ _ _ _ (by rw [ht]; exact Holds.drop hx1 (by omega))
            have hL1 : L.length + 1 ≤ 65538 := by
              have := HLEN.out
              rw [hgn, List.length_append, List.length_append, List.length_singleton] at this
              omega
            obtain ⟨v', W5, hrun, hown5, hgr⟩ := run_appX wr w.heap.size _ _ HO.out ⟨(i : Int), t⟩ 22 (by omega) HBR.out.size
            obtain ⟨A5, c5, rfl⟩ := hown5.shape
            rw [List.length_append, List.length_singleton, ← HML.out] at hown5 hrun
            dsimp only at hrun
            obtain ⟨T, hT⟩ : ∃ T : ByteArray, T = ⟨t.toArray⟩ := ⟨_, rfl⟩
            rw [← hT] at hrun hcv
            have HB5 := Lib.hid (HBR.out.trans (hgr.below HBR.out.size (fun q hq => (HO.out.lt q hq).1)))
            have HO5 := Lib.hid hown5; clear hown5 hgr
            have HGN := Lib.hid hgn; clear hgn
            have hci : ¬ c = i := by omega
            have hki : i < k := hik2
            clear hx1 hT ht hik2 hL1
            go_wp2_with (at_builtin; refine wpList_apprun rfl _ _ _ _ (by rfl) _ _ (by rfl) (by rfl) _ _ hrun ?_)
            go_wp2
            go_roundw
            case rel => exact ⟨k, A5, c5, ml + 1, _, by omega, rfl, rfl, by rw [List.length_append, List.length_singleton, ← HML.out], HGN.out, HO5.out, HB5.out⟩
            case measure => simp [intOf]; omega
end Go.Proofs.YtmbmjdogfjmlpaaDoor.Sp
