/- Join: the program's call. -/
import Derived.Test.YtkhenchhafmlmaaExRead
namespace Go.Proofs.Ytkhenchhafmlmaa.Ex
set_option maxRecDepth 20000
open Go Go.RowKit
open Go.Proofs.Ytkhenchhafmlmaa.Mem Go.Proofs.Ytkhenchhafmlmaa.Crc Go.Proofs.Ytkhenchhafmlmaa.Rec Go.Proofs.Ytkhenchhafmlmaa.Reg
attribute [local go_sem ↓] ldX_eq stX_eq

theorem join_bad {N : List (List UInt8)} (h : ¬ (N.length ≤ 3 ∧ ∀ b ∈ N, b.length = 256)) : joinL N = ([], 13) := by unfold joinL; rw [if_neg h]
def flatH (N : List (List UInt8)) : List X := N.flatMap fun b => heldL b 20
theorem flatH_len : ∀ N : List (List UInt8), (flatH N).length ≤ N.length * 20
  | [] => by simp [flatH]
  | b :: N => by
    have := flatH_len N
    have h := heldL_len b 20
    unfold flatH at this ⊢
    rw [List.flatMap_cons, List.length_append, List.length_cons]; omega
theorem flatH_rep (N : List (List UInt8)) : ∀ x ∈ flatH N, x.rep := fun x hx => by
  unfold flatH at hx
  obtain ⟨b, _, h⟩ := List.mem_flatMap.1 hx
  exact held_rep b 20 x h

set_option maxRecDepth 100000 in
set_option maxHeartbeats 8000000 in
theorem join_any (A : Option Addr) (n c B : Nat) (N : List (List UInt8)) (w : World) (h : HoldsN w B A n N) (hB : B ≤ w.heap.size) :
    Calls Try.prog 31 #[.slice A n c] w (MarkOut w.heap.size (joinL N).1 (joinL N).2 w) := by
  have hln := h.1
  unfold MarkOut
  rcases Nat.lt_or_ge 3 n with h3 | h3
  · have h3' : (3 : Int) < (n : Int) := by omega
    rw [join_bad (by omega)]
    clear h hln
    go_enter Try.func31, Try.ntmps31
    go_wp2
    go_ret2
    exact ⟨none, 0, rfl, OwnX.nil _ _, Below.refl _ _⟩
  · have h3' : ¬ (3 : Int) < (n : Int) := by omega
    have hdc : decide ((3 : Int) < (n : Int)) = false := decide_eq_false h3'
    obtain ⟨R, hR⟩ : ∃ R, R = joinL N := ⟨_, rfl⟩
    have hbad : (∃ b ∈ N, b.length ≠ 256) → R = ([], 13) := fun ⟨b, hb, hl⟩ => by rw [hR]; exact join_bad (fun e => hl (e.2 b hb))
    have hgood : (∀ b ∈ N, b.length = 256) → R = (if 1 ≤ needL (flatH N) ∧ N = nodesB (flatH N) then (flatH N, 0) else ([], 13)) := fun hall => by
      rw [hR]
      unfold joinL
      rw [if_pos ⟨by omega, hall⟩]
      rfl
    rw [← hR]
    have H := Lib.hid h; clear h hR
    have HLN := Lib.hid hln; clear hln
    have HBAD := Lib.hid hbad; clear hbad
    have HGOOD := Lib.hid hgood; clear hgood
    go_enter Try.func31, Try.ntmps31
    go_wp2
    go_loopw [4, 12] (fun v i wr => ∃ (k K : Nat) (A1 : Option Addr) (c1 : Nat), k ≤ n ∧ i = .int .i64 (k : Int) ∧ K = (flatH (N.take k)).length ∧ v = .slice A1 K c1 ∧ (∀ b ∈ N.take k, b.length = 256) ∧ OwnX wr w.heap.size (.slice A1 K c1) (flatH (N.take k)) ∧ Below w.heap.size w wr) (fun _ i _ => n - (intOf i).toNat)
    case atStart => exact ⟨0, 0, none, 0, Nat.zero_le _, rfl, rfl, rfl, fun b hb => by simp at hb, by rw [List.take_zero]; exact OwnX.nil _ _, Below.refl _ _⟩
    case round =>
      obtain ⟨k, K, A1, c1, hk, rfl, hK, rfl, hall, hown, hbr⟩ := hrel
      have HO := Lib.hid hown; clear hown
      have HBR := Lib.hid hbr; clear hbr
      have HALL := Lib.hid hall; clear hall
      have HK := Lib.hid hK; clear hK
      rcases Nat.lt_or_ge k n with hlt | hge
      · have hk1 : k < N.length := by have := HLN.out; omega
        obtain ⟨b, off, rfl, hbB, hcl⟩ := H.out.2 (by omega)
        obtain ⟨Ak, ck, y1, y2, y3, y4⟩ := hcl k hk1
        have y1' := ((HBR.out.mono hB).cell (p := ⟨b, off + k, none⟩) hbB).trans y1
        obtain ⟨x, hx⟩ : ∃ x, x = N[k] := ⟨_, rfl⟩
        rw [← hx] at y1' y2 y3
        have hk0 : (0 : Int) ≤ (k : Int) := by omega
        have hkn : (k : Int) < (n : Int) := by omega
        obtain ⟨m, hm⟩ : ∃ m, m = x.length := ⟨_, rfl⟩
        rw [← hm] at y1' y2 y3
        by_cases h256 : m = 256
        · subst h256
          have hxa : x ∈ N := hx ▸ List.getElem_mem hk1
          have hts : N.take (k + 1) = N.take k ++ [x] := by rw [List.take_succ_eq_append_getElem hk1, ← hx]
          have hfl : flatH (N.take (k + 1)) = flatH (N.take k) ++ heldL x 20 := by rw [hts]; unfold flatH; simp
          have hal2 : ∀ b ∈ N.take (k + 1), b.length = 256 := fun b hb => by
            rw [hts] at hb
            rcases List.mem_append.1 hb with h | h
            · exact HALL.out b h
            · rw [List.mem_singleton.1 h]; exact hm.symm
          obtain ⟨b1, off1, rfl⟩ := Holds.addr y2 (by omega)
          have hheld : Calls Try.prog 54 #[.slice (some ⟨b1, off1, none⟩) 256 ck, .int .i64 20] wr fun E w' => ∃ A' c', E = .returned (.slice A' (heldL x 20).length c') ∧ OwnX w' wr.heap.size (.slice A' (heldL x 20).length c') (heldL x 20) ∧ Below wr.heap.size wr w' := held_any b1 off1 256 ck B 20 x wr (y2.below (HBR.out.mono hB)) (by have := HBR.out.size; omega) y3 (by omega) (by omega)
          have hl20 := heldL_len x 20
          have hflen := flatH_len (N.take k)
          rw [List.length_take] at hflen
          have hKb : K ≤ 60 := by have := HK.out; omega
          obtain ⟨Y, hY⟩ : ∃ Y, Y = heldL x 20 := ⟨_, rfl⟩
          rw [← hY] at hheld hfl hl20
          have HHELD := Lib.hid hheld; clear hheld
          have HFL := Lib.hid hfl; clear hfl
          have HAL2 := Lib.hid hal2; clear hal2
          have HL20 := Lib.hid hl20; clear hl20
          clear hts hxa hcl y1 y2 y3 y4 hY hm hx hflen
          go_wp2_with fail
          with_reducible refine HHELD.out.mono ?_
          rintro E V ⟨A2, c2, rfl, ho2, hb2⟩
          have ho3 := HO.out.below hb2
          have HB2 : Hid (Below w.heap.size w V) := Lib.hid (HBR.out.trans (hb2.mono HBR.out.size))
          obtain ⟨v', V', hrun, ho', hg⟩ := run_addX V 22 w.heap.size _ _ ho3 V.heap.size A2 Y.length c2 Y ho2.reads (by have := HK.out; have := HL20.out; omega) HB2.out.size
          rw [← HFL.out] at ho'
          have HB3 : Hid (Below w.heap.size w V') := Lib.hid (HB2.out.trans (hg.below HB2.out.size (fun g e => (ho3.lt g e).1)))
          obtain ⟨A3, c3, rfl⟩ := ho'.shape
          obtain ⟨K3, hK3⟩ : ∃ K3, K3 = (flatH (N.take (k + 1))).length := ⟨_, rfl⟩
          rw [← hK3] at ho' hrun
          have HO' := Lib.hid ho'; clear ho'
          have HK3 := Lib.hid hK3; clear hK3
          clear ho2 hb2 ho3 hg
          generalize Y.length = m2 at hrun ⊢
          go_wp2_with (at_builtin; refine wpList_apprun rfl (.tmp 19) (.tmp 21) 22 22 rfl _ _ rfl rfl _ V' hrun ?_)
          clear hrun
          go_wp2
          go_roundw
          case rel => exact ⟨k + 1, K3, A3, c3, by omega, by go_num, HK3.out, rfl, HAL2.out, HO'.out, HB3.out⟩
          case measure => simp [intOf]; omega
        · have hne : ¬ (m : Int) = 256 := by omega
          have hr := HBAD.out ⟨x, hx ▸ List.getElem_mem hk1, by omega⟩
          have HR := Lib.hid hr; clear hr hcl y1 y2 y3 y4 hm hx
          go_wp2
          go_ret2
          rw [HR.out]
          exact ⟨none, 0, rfl, OwnX.nil _ _, HBR.out⟩
      · have hkn : k = n := by omega
        subst hkn
        have htk : N.take k = N := List.take_of_length_le (by have := HLN.out; omega)
        have hown := HO.out
        have hall := HALL.out
        have hKK := HK.out
        rw [htk] at hown hall hKK
        have hr := HGOOD.out hall
        have hrep := flatH_rep N
        have hL60 := flatH_len N
        obtain ⟨L, hL⟩ : ∃ L, L = flatH N := ⟨_, rfl⟩
        rw [← hL] at hown hKK hr hrep hL60
        have hneed := fun V (hV : Below wr.heap.size wr V) => need_any A1 K c1 wr.heap.size L V (hown.reads.below hV) (by have := hV.size; omega) hrep hown.fits.2.1
        have hge3 : ¬ (k : Int) < (k : Int) := by omega
        by_cases hnd : 1 ≤ needL L
        · have hrl : right L = true ∧ 4 < L.length := by
            unfold needL needN at hnd
            cases hr2 : right L with
            | true =>
              rw [hr2, if_pos rfl] at hnd
              refine ⟨rfl, ?_⟩
              rcases Nat.lt_or_ge 4 L.length with h4 | h4
              · exact h4
              · rw [if_pos h4] at hnd; omega
            | false => rw [hr2] at hnd; simp at hnd
          have hmay := ((right_iff L).1 hrl.1).2.1
          have hnds := fun V (hV : Below wr.heap.size wr V) => nodesOf_any A1 K c1 wr.heap.size L V (hown.reads.below hV) (by have := hV.size; omega) hmay (by have := (right_lin hrl.1).2.2.2.2; omega) (by omega) hown.fits.2.1
          obtain ⟨ND, hND⟩ : ∃ ND, ND = nodesB L := ⟨_, rfl⟩
          have hndl : ND.length ≤ 3 := by rw [hND, nodesB_len]; unfold manyX; have := (right_lin hrl.1).2.2.2.2; omega
          rw [← hND] at hnds hr
          have HNEED := Lib.hid hneed; clear hneed
          have HNDS := Lib.hid hnds; clear hnds
          have HNDL := Lib.hid hndl; clear hndl
          have HO2 := Lib.hid hown; clear hown
          have HKK := Lib.hid hKK; clear hKK
          have HR := Lib.hid hr; clear hr
          clear hrl hmay hrep hL60 hL hall htk hND
          obtain ⟨nd, hnd2⟩ : ∃ nd, nd = needL L := ⟨_, rfl⟩
          rw [← hnd2] at HNEED HR hnd
          have hnd' : ¬ nd < 1 := by omega
          clear hnd2
          go_wp2_with fail
          with_reducible refine (HNEED.out wr (Below.refl _ _)).mono ?_
          rintro E V1 ⟨rfl, hb1⟩
          have HB1 := Lib.hid hb1; clear hb1
          go_wp2_with fail
          with_reducible refine (HNDS.out V1 HB1.out).mono ?_
          rintro E V2 ⟨A2, c2, rfl, ho2, hb2⟩
          have HB2 : Hid (Below wr.heap.size wr V2) := Lib.hid (HB1.out.trans (hb2.mono HB1.out.size))
          have HBW : Hid (Below w.heap.size w V2) := Lib.hid (HBR.out.trans (HB2.out.mono HBR.out.size))
          have hef := equalFunc_any A A2 k ND.length c c2 B V2.heap.size N ND V2 (H.out.below (HBW.out.mono hB)) ho2.reads (by omega)
          have HEF := Lib.hid hef; clear hef ho2 hb2
          generalize ND.length = nl at HEF ⊢
          by_cases heq : N = ND
          · rw [show decide (N = ND) = true from decide_eq_true heq] at HEF
            have hr2 := HR.out
            rw [if_pos ⟨hnd, heq⟩] at hr2
            have HR2 := Lib.hid hr2; clear hr2 heq
            go_wp2_with fail
            with_reducible refine HEF.out.mono ?_
            rintro E V3 ⟨rfl, rfl⟩
            go_wp2
            go_ret2
            rw [HR2.out]
            exact ⟨A1, c1, by dsimp only; rw [← HKK.out]; rfl, by dsimp only; rw [← HKK.out]; exact HO2.out.below HB2.out, HBW.out⟩
          · rw [show decide (N = ND) = false from decide_eq_false heq] at HEF
            have hr2 := HR.out
            rw [if_neg (fun e => heq e.2)] at hr2
            have HR2 := Lib.hid hr2; clear hr2 heq
            go_wp2_with fail
            with_reducible refine HEF.out.mono ?_
            rintro E V3 ⟨rfl, rfl⟩
            go_wp2
            go_ret2
            rw [HR2.out]
            exact ⟨none, 0, rfl, OwnX.nil _ _, HBW.out⟩
        · rw [if_neg (fun e => hnd e.1)] at hr
          have HNEED := Lib.hid hneed; clear hneed
          have HR := Lib.hid hr; clear hr hown
          clear hrep hL60 hL hall htk hKK
          generalize needL L = nd at HNEED hnd
          have hnd' : nd < 1 := by omega
          go_wp2_with fail
          with_reducible refine (HNEED.out wr (Below.refl _ _)).mono ?_
          rintro E V1 ⟨rfl, hb1⟩
          have HBW : Hid (Below w.heap.size w V1) := Lib.hid (HBR.out.trans (hb1.mono HBR.out.size))
          clear hb1
          go_wp2
          go_ret2
          rw [HR.out]
          exact ⟨none, 0, rfl, OwnX.nil _ _, HBW.out⟩
end Go.Proofs.Ytkhenchhafmlmaa.Ex
