/- Root and Join: the program's calls. -/
import Derived.Test.YtkhenchhafmlmaaExTold
namespace Go.Proofs.Ytkhenchhafmlmaa.Ex
set_option maxRecDepth 20000
open Go Go.RowKit
open Go.Proofs.Ytkhenchhafmlmaa.Mem Go.Proofs.Ytkhenchhafmlmaa.Crc Go.Proofs.Ytkhenchhafmlmaa.Rec Go.Proofs.Ytkhenchhafmlmaa.Reg
attribute [local go_sem ↓] ldX_eq stX_eq

def RootOut (base : Nat) (l : List X) (bs : List Int) (er : Int) (w : World) : Ending → World → Prop := fun E w' => ∃ A1 c1 A2 c2, E = .returned (.tuple #[.slice A1 l.length c1, .slice A2 bs.length c2, .int .i64 er]) ∧
  OwnX w' base (.slice A1 l.length c1) l ∧ OwnI w' base (.slice A2 bs.length c2) bs ∧ Below base w w'
theorem blksL_len (b : List UInt8) : (blksL b).length ≤ 3 := by
  unfold blksL
  split
  · simp
  · rw [blks_len]; omega
theorem blksL_range (b : List UInt8) : ∀ x ∈ blksL b, 0 ≤ x ∧ x ≤ 4294967295 := fun x hx => by
  unfold blksL at hx
  split at hx
  · cases hx
  · exact blks_range _ _ x hx
theorem heldL_len (b : List UInt8) (m : Nat) : (heldL b m).length ≤ m := by
  unfold heldL
  split
  · simp
  · simp; omega

set_option maxRecDepth 100000 in
set_option maxHeartbeats 8000000 in
theorem root_any (A : Option Addr) (n c B : Nat) (b : List UInt8) (w : World) (h : Holds w B A n b) (hB : B ≤ w.heap.size) (hc : n ≤ c) :
    Calls Try.prog 30 #[.slice A n c] w (RootOut w.heap.size (rootL b).1 (rootL b).2.1 (rootL b).2.2 w) := by
  have hln := h.1
  unfold RootOut
  by_cases h60 : n = 60
  · subst h60
    obtain ⟨b0, off, rfl⟩ := Holds.addr h (by omega)
    have hheld : Calls Try.prog 54 #[.slice (some ⟨b0, off, none⟩) 60 c, .int .i64 4] w fun E w' => ∃ A' c', E = .returned (.slice A' (heldL b 4).length c') ∧ OwnX w' w.heap.size (.slice A' (heldL b 4).length c') (heldL b 4) ∧ Below w.heap.size w w' := held_any b0 off 60 c B 4 b w h hB hc (by omega) (by omega)
    have hblk := fun V (hV : Below w.heap.size w V) => blocksOf_any b0 off 60 c B b V (h.below (hV.mono hB)) (by have := hV.size; omega) hc (by omega)
    have hrep := held_rep b 4
    have hl4 := heldL_len b 4
    have hbl := blksL_len b
    have hbr := blksL_range b
    have hroot : rootL b = (if right (heldL b 4) && decide (b = holdB (heldL b 4) 60) then (heldL b 4, [], 0)
      else if decide (0 < (blksL b).length) && numB (blksL b) && decide (b = nameB (blksL b)) then ([], blksL b, 0) else ([], [], 13)) := by unfold rootL; rw [if_pos hln]
    obtain ⟨R, hR⟩ : ∃ R, R = rootL b := ⟨_, rfl⟩
    rw [← hR] at hroot ⊢
    clear hR
    obtain ⟨L, hL⟩ : ∃ L, L = heldL b 4 := ⟨_, rfl⟩
    obtain ⟨bs, hbs⟩ : ∃ bs, bs = blksL b := ⟨_, rfl⟩
    rw [← hL] at hheld hrep hl4 hroot
    rw [← hbs] at hblk hbl hbr hroot
    obtain ⟨NB, hNB⟩ : ∃ NB, NB = nameB bs := ⟨_, rfl⟩
    rw [← hNB] at hroot
    have hfst : right L = true → b = holdB L 60 → R = (L, [], 0) := fun h1 h2 => by rw [hroot, h1, decide_eq_true h2]; rfl
    have hres : ¬ (right L = true ∧ b = holdB L 60) → (numB bs = false ∨ bs.length = 0 ∨ b ≠ NB) → R = ([], [], 13) := fun h1 h2 => by
      rw [hroot, if_neg (by simpa using h1), if_neg]
      rcases h2 with h2 | h2 | h2
      · simp [h2]
      · simp [h2]
      · simp [h2]
    have hres2 : ¬ (right L = true ∧ b = holdB L 60) → 0 < bs.length → numB bs = true → b = NB → R = ([], bs, 0) := fun h1 h2 h3 h4 => by
      rw [hroot, if_neg (by simpa using h1), if_pos]
      simp [h2, h3, ← h4]
    have H := Lib.hid h; clear h
    have HHELD := Lib.hid hheld; clear hheld
    have HBLK := Lib.hid hblk; clear hblk
    have HREP := Lib.hid hrep; clear hrep
    have HL4 := Lib.hid hl4; clear hl4
    have HBL := Lib.hid hbl; clear hbl
    have HBR := Lib.hid hbr; clear hbr
    clear hln hL hbs hroot
    cases hrl : right L with
    | false =>
      have HRES : Hid ((numB bs = false ∨ bs.length = 0 ∨ b ≠ NB) → R = ([], [], 13)) := Lib.hid (hres (by rw [hrl]; simp))
      have HRES2 : Hid (0 < bs.length → numB bs = true → b = NB → R = ([], bs, 0)) := Lib.hid (hres2 (by rw [hrl]; simp))
      clear hres hres2 hfst
      go_enter Try.func30, Try.ntmps30
      go_wp2_with fail
      with_reducible refine HHELD.out.mono ?_
      rintro E V1 ⟨A1, c1, rfl, ho1, hb1⟩
      have hrt := right_any A1 L.length c1 V1.heap.size L V1 ho1.reads (Nat.le_refl _) HREP.out ho1.fits.2.1
      rw [hrl] at hrt
      have HRT := Lib.hid hrt; clear hrt hrl
      have HB1 := Lib.hid hb1; clear hb1 ho1
      generalize L.length = K1 at HRT ⊢
      go_wp2_with fail
      with_reducible refine HRT.out.mono ?_
      rintro E V2 ⟨rfl, hb2⟩
      have HB2 : Hid (Below w.heap.size w V2) := Lib.hid (HB1.out.trans (hb2.mono HB1.out.size))
      clear hb2
      go_wp2_with fail
      with_reducible refine (HBLK.out V2 HB2.out).mono ?_
      rintro E VB ⟨AB, cB, rfl, hob, hbb⟩
      have HOB := Lib.hid hob; clear hob
      have HBB2 : Hid (Below w.heap.size w VB) := Lib.hid (HB2.out.trans (hbb.mono HB2.out.size))
      clear hbb
      have hbl := HBL.out
      have hap := apart_any AB bs.length cB VB.heap.size bs VB HOB.out.reads (Nat.le_refl _) HOB.out.fits.2 (by omega)
      have hnm := fun V (hV : Below VB.heap.size VB V) => naming_any AB bs.length cB VB.heap.size bs V (HOB.out.reads.below hV) (by have := hV.size; omega) HBR.out (by omega)
      rw [← hNB] at hnm
      obtain ⟨K, hK⟩ : ∃ K, K = bs.length := ⟨_, rfl⟩
      rw [← hK] at HOB hap hnm hbl ⊢
      have HK := Lib.hid hK; clear hK
      have HAP := Lib.hid hap; clear hap
      have HNM := Lib.hid hnm; clear hnm
      have HO0 : Hid (OwnI VB w.heap.size (.slice AB K cB) bs) := Lib.hid (HOB.out.mono HB2.out.size)
      by_cases h0 : 0 < K
      · have h0' : (0 : Int) < (K : Int) := by omega
        cases hnb : numB bs with
        | false =>
          rw [hnb] at HAP
          have hres := HRES.out (.inl hnb)
          have HR := Lib.hid hres; clear hres hnb
          go_wp2_with fail
          with_reducible refine HAP.out.mono ?_
          rintro E VC ⟨rfl, hbc⟩
          have HBC : Hid (Below w.heap.size w VC) := Lib.hid (HBB2.out.trans (hbc.mono HBB2.out.size))
          clear hbc
          go_wp2
          go_ret3
          rw [HR.out]
          exact ⟨none, 0, none, 0, rfl, OwnX.nil _ _, OwnI.nil _ _, HBC.out⟩
        | true =>
          rw [hnb] at HAP
          have HNUM := Lib.hid hnb; clear hnb
          go_wp2_with fail
          with_reducible refine HAP.out.mono ?_
          rintro E VC ⟨rfl, hbc⟩
          have HBBC := Lib.hid hbc
          have HBC : Hid (Below w.heap.size w VC) := Lib.hid (HBB2.out.trans (hbc.mono HBB2.out.size))
          clear hbc
          go_wp2_with fail
          with_reducible refine (HNM.out VC HBBC.out).mono ?_
          rintro E VD ⟨rfl, hod, hbd⟩
          have HBD : Hid (Below w.heap.size w VD) := Lib.hid (HBC.out.trans (hbd.mono HBC.out.size))
          have HBBD : Hid (Below VB.heap.size VB VD) := Lib.hid (HBBC.out.trans (hbd.mono HBBC.out.size))
          have hrd := Owned.reads hod
          have HRD := Lib.hid hrd; clear hrd hod hbd
          have heq := equal_any (some ⟨b0, off, none⟩) (some ⟨VC.heap.size, 0, none⟩) 60 60 c 60 B VD.heap.size b NB VD (H.out.below (HBD.out.mono hB)) (by have h := HRD.out; exact h)
          have HEQ := Lib.hid heq; clear heq
          by_cases hbn : b = NB
          · have hee : eqB b NB = true := decide_eq_true hbn
            rw [hee] at HEQ
            have hres := HRES2.out (by have := HK.out; omega) HNUM.out hbn
            have HR := Lib.hid hres; clear hres hbn hee
            go_wp2_with fail
            with_reducible refine HEQ.out.mono ?_
            rintro E VE ⟨rfl, rfl⟩
            go_wp2
            go_ret3
            rw [HR.out]
            exact ⟨none, 0, AB, cB, by dsimp only; rw [← HK.out]; rfl, OwnX.nil _ _, by dsimp only; rw [← HK.out]; exact HO0.out.below HBBD.out, HBD.out⟩
          · have hee : eqB b NB = false := decide_eq_false hbn
            rw [hee] at HEQ
            have hres := HRES.out (.inr (.inr hbn))
            have HR := Lib.hid hres; clear hres hbn hee
            go_wp2_with fail
            with_reducible refine HEQ.out.mono ?_
            rintro E VE ⟨rfl, rfl⟩
            go_wp2
            go_ret3
            rw [HR.out]
            exact ⟨none, 0, none, 0, rfl, OwnX.nil _ _, OwnI.nil _ _, HBD.out⟩
      · have h0' : ¬ (0 : Int) < (K : Int) := by omega
        have hres := HRES.out (.inr (.inl (by have := HK.out; omega)))
        have HR := Lib.hid hres; clear hres
        go_wp2
        go_ret3
        rw [HR.out]
        exact ⟨none, 0, none, 0, rfl, OwnX.nil _ _, OwnI.nil _ _, HBB2.out⟩
    | true =>
      have hmay := ((right_iff L).1 hrl).2.1
      have HMAY := Lib.hid hmay; clear hmay
      go_enter Try.func30, Try.ntmps30
      go_wp2_with fail
      with_reducible refine HHELD.out.mono ?_
      rintro E V1 ⟨A1, c1, rfl, ho1, hb1⟩
      have hrt := right_any A1 L.length c1 V1.heap.size L V1 ho1.reads (Nat.le_refl _) HREP.out ho1.fits.2.1
      rw [hrl] at hrt
      have hhold : ∀ V, Below V1.heap.size V1 V → Calls Try.prog 46 #[.slice A1 L.length c1, .int .i64 60] V fun E w' => E = .returned (.slice (some ⟨V.heap.size, 0, none⟩) 60 60) ∧ Owned w' V.heap.size (.slice (some ⟨V.heap.size, 0, none⟩) 60 60) (holdB L 60) ∧ Below V.heap.size V w' := fun V hV => holding_any A1 L.length c1 V1.heap.size 60 L V (ho1.reads.below hV) (by have := hV.size; omega) HMAY.out (by have := HL4.out; omega) (by omega)
      have HRT := Lib.hid hrt; clear hrt
      have HB1 := Lib.hid hb1; clear hb1
      have HO1 := Lib.hid ho1; clear ho1
      have HHOLD := Lib.hid hhold; clear hhold
      have HRL := Lib.hid hrl; clear hrl
      obtain ⟨K1, hK1⟩ : ∃ K1, K1 = L.length := ⟨_, rfl⟩
      rw [← hK1] at HRT HO1 HHOLD ⊢
      have HK1 := Lib.hid hK1; clear hK1
      go_wp2_with fail
      with_reducible refine HRT.out.mono ?_
      rintro E V2 ⟨rfl, hb2⟩
      have HB12 := Lib.hid hb2
      have HB2 : Hid (Below w.heap.size w V2) := Lib.hid (HB1.out.trans (hb2.mono HB1.out.size))
      clear hb2
      go_wp2_with fail
      with_reducible refine (HHOLD.out V2 HB12.out).mono ?_
      rintro E V3 ⟨rfl, ho3, hb3⟩
      have HB3 : Hid (Below w.heap.size w V3) := Lib.hid (HB2.out.trans (hb3.mono HB2.out.size))
      have HB13 : Hid (Below V1.heap.size V1 V3) := Lib.hid (HB12.out.trans (hb3.mono HB12.out.size))
      have heq := equal_any (some ⟨b0, off, none⟩) (some ⟨V2.heap.size, 0, none⟩) 60 60 c 60 B V3.heap.size b (holdB L 60) V3 (H.out.below (HB3.out.mono hB)) (Owned.reads ho3)
      have HEQ := Lib.hid heq; clear heq ho3 hb3
      by_cases hbe : b = holdB L 60
      · have hee : eqB b (holdB L 60) = true := decide_eq_true hbe
        rw [hee] at HEQ
        have hR := hfst HRL.out hbe
        have HR := Lib.hid hR
        clear hR hee hbe hfst hres hres2
        go_wp2_with fail
        with_reducible refine HEQ.out.mono ?_
        rintro E V4 ⟨rfl, rfl⟩
        go_wp2
        go_ret3
        rw [HR.out]
        exact ⟨A1, c1, none, 0, by dsimp only; rw [← HK1.out]; rfl, by dsimp only; rw [← HK1.out]; exact HO1.out.below HB13.out, OwnI.nil _ _, HB3.out⟩
      · have hee : eqB b (holdB L 60) = false := decide_eq_false hbe
        rw [hee] at HEQ
        have HRES : Hid ((numB bs = false ∨ bs.length = 0 ∨ b ≠ NB) → R = ([], [], 13)) := Lib.hid (hres (fun h => hbe h.2))
        have HRES2 : Hid (0 < bs.length → numB bs = true → b = NB → R = ([], bs, 0)) := Lib.hid (hres2 (fun h => hbe h.2))
        clear hee hbe hfst hres hres2
        go_wp2_with fail
        with_reducible refine HEQ.out.mono ?_
        rintro E V4 ⟨rfl, rfl⟩
        go_wp2_with fail
        with_reducible refine (HBLK.out V3 HB3.out).mono ?_
        rintro E VB ⟨AB, cB, rfl, hob, hbb⟩
        have HOB := Lib.hid hob; clear hob
        have HBB2 : Hid (Below w.heap.size w VB) := Lib.hid (HB3.out.trans (hbb.mono HB3.out.size))
        clear hbb
        have hbl := HBL.out
        have hap := apart_any AB bs.length cB VB.heap.size bs VB HOB.out.reads (Nat.le_refl _) HOB.out.fits.2 (by omega)
        have hnm := fun V (hV : Below VB.heap.size VB V) => naming_any AB bs.length cB VB.heap.size bs V (HOB.out.reads.below hV) (by have := hV.size; omega) HBR.out (by omega)
        rw [← hNB] at hnm
        obtain ⟨K, hK⟩ : ∃ K, K = bs.length := ⟨_, rfl⟩
        rw [← hK] at HOB hap hnm hbl ⊢
        have HK := Lib.hid hK; clear hK
        have HAP := Lib.hid hap; clear hap
        have HNM := Lib.hid hnm; clear hnm
        have HO0 : Hid (OwnI VB w.heap.size (.slice AB K cB) bs) := Lib.hid (HOB.out.mono HB3.out.size)
        by_cases h0 : 0 < K
        · have h0' : (0 : Int) < (K : Int) := by omega
          cases hnb : numB bs with
          | false =>
            rw [hnb] at HAP
            have hres := HRES.out (.inl hnb)
            have HR := Lib.hid hres; clear hres hnb
            go_wp2_with fail
            with_reducible refine HAP.out.mono ?_
            rintro E VC ⟨rfl, hbc⟩
            have HBC : Hid (Below w.heap.size w VC) := Lib.hid (HBB2.out.trans (hbc.mono HBB2.out.size))
            clear hbc
            go_wp2
            go_ret3
            rw [HR.out]
            exact ⟨none, 0, none, 0, rfl, OwnX.nil _ _, OwnI.nil _ _, HBC.out⟩
          | true =>
            rw [hnb] at HAP
            have HNUM := Lib.hid hnb; clear hnb
            go_wp2_with fail
            with_reducible refine HAP.out.mono ?_
            rintro E VC ⟨rfl, hbc⟩
            have HBBC := Lib.hid hbc
            have HBC : Hid (Below w.heap.size w VC) := Lib.hid (HBB2.out.trans (hbc.mono HBB2.out.size))
            clear hbc
            go_wp2_with fail
            with_reducible refine (HNM.out VC HBBC.out).mono ?_
            rintro E VD ⟨rfl, hod, hbd⟩
            have HBD : Hid (Below w.heap.size w VD) := Lib.hid (HBC.out.trans (hbd.mono HBC.out.size))
            have HBBD : Hid (Below VB.heap.size VB VD) := Lib.hid (HBBC.out.trans (hbd.mono HBBC.out.size))
            have hrd := Owned.reads hod
            have HRD := Lib.hid hrd; clear hrd hod hbd
            have heq := equal_any (some ⟨b0, off, none⟩) (some ⟨VC.heap.size, 0, none⟩) 60 60 c 60 B VD.heap.size b NB VD (H.out.below (HBD.out.mono hB)) (by have h := HRD.out; exact h)
            have HEQ := Lib.hid heq; clear heq
            by_cases hbn : b = NB
            · have hee : eqB b NB = true := decide_eq_true hbn
              rw [hee] at HEQ
              have hres := HRES2.out (by have := HK.out; omega) HNUM.out hbn
              have HR := Lib.hid hres; clear hres hbn hee
              go_wp2_with fail
              with_reducible refine HEQ.out.mono ?_
              rintro E VE ⟨rfl, rfl⟩
              go_wp2
              go_ret3
              rw [HR.out]
              exact ⟨none, 0, AB, cB, by dsimp only; rw [← HK.out]; rfl, OwnX.nil _ _, by dsimp only; rw [← HK.out]; exact HO0.out.below HBBD.out, HBD.out⟩
            · have hee : eqB b NB = false := decide_eq_false hbn
              rw [hee] at HEQ
              have hres := HRES.out (.inr (.inr hbn))
              have HR := Lib.hid hres; clear hres hbn hee
              go_wp2_with fail
              with_reducible refine HEQ.out.mono ?_
              rintro E VE ⟨rfl, rfl⟩
              go_wp2
              go_ret3
              rw [HR.out]
              exact ⟨none, 0, none, 0, rfl, OwnX.nil _ _, OwnI.nil _ _, HBD.out⟩
        · have h0' : ¬ (0 : Int) < (K : Int) := by omega
          have hres := HRES.out (.inr (.inl (by have := HK.out; omega)))
          have HR := Lib.hid hres; clear hres
          go_wp2
          go_ret3
          rw [HR.out]
          exact ⟨none, 0, none, 0, rfl, OwnX.nil _ _, OwnI.nil _ _, HBB2.out⟩
  · have h60' : ¬ (n : Int) = 60 := by omega
    have hR : rootL b = ([], [], 13) := by unfold rootL; rw [if_neg (by omega)]
    rw [hR]
    clear h hln
    go_enter Try.func30, Try.ntmps30
    go_wp2
    go_ret3
    exact ⟨none, 0, none, 0, rfl, OwnX.nil _ _, OwnI.nil _ _, Below.refl _ _⟩

set_option maxRecDepth 100000 in
set_option maxHeartbeats 4000000 in
theorem equalFunc_any (A A' : Option Addr) (n n' c c' B B' : Nat) (N N' : List (List UInt8)) (w : World) (h : HoldsN w B A n N) (h' : HoldsN w B' A' n' N') (hn : n ≤ 1048576) :
    Calls Try.prog 57 #[.slice A n c, .slice A' n' c', .func (.func 55) #[] #[]] w fun e w' => e = .returned (.bool (decide (N = N'))) ∧ w = w' := by
  have hln := h.1
  have hln' := h'.1
  by_cases hnn : n = n'
  · subst hnn
    have H := Lib.hid h; clear h
    have H' := Lib.hid h'; clear h'
    have HLN := Lib.hid hln; clear hln
    have HLN' := Lib.hid hln'; clear hln'
    go_enter Try.func57, Try.ntmps57
    go_wp2
    go_loopw [17] (fun i wr => ∃ k : Nat, k ≤ n ∧ i = .int .i64 (k : Int) ∧ (∀ j, (h1 : j < N.length) → (h2 : j < N'.length) → j < k → N[j] = N'[j]) ∧ wr = w) (fun i _ => n - (intOf i).toNat)
    case atStart => exact ⟨0, Nat.zero_le _, rfl, fun j _ _ h => absurd h (by omega), rfl⟩
    case round =>
      obtain ⟨k, hk, rfl, heq, hwr⟩ := hrel
      subst hwr
      have HEQ := Lib.hid heq; clear heq
      rcases Nat.lt_or_ge k n with hlt | hge
      · have hk1 : k < N.length := by have := HLN.out; omega
        have hk2 : k < N'.length := by have := HLN'.out; omega
        obtain ⟨b, off, rfl, hbB, hcl⟩ := H.out.2 (by omega)
        obtain ⟨b', off', rfl, hbB', hcl'⟩ := H'.out.2 (by omega)
        obtain ⟨Ak, ck, y1, y2, y3, y4⟩ := hcl k hk1
        obtain ⟨Ak', ck', z1, z2, z3, z4⟩ := hcl' k hk2
        have heq := equal_any Ak Ak' (N[k]).length (N'[k]).length ck ck' B B' N[k] N'[k] wr y2 z2
        obtain ⟨m, hm⟩ : ∃ m, m = (N[k]).length := ⟨_, rfl⟩
        obtain ⟨m', hm'⟩ : ∃ m', m' = (N'[k]).length := ⟨_, rfl⟩
        rw [← hm] at heq y1
        rw [← hm'] at heq z1
        clear hcl hcl' y2 y3 y4 z2 z3 z4 hm hm'
        have hk0 : (0 : Int) ≤ (k : Int) := by omega
        have hkn : (k : Int) < (n : Int) := by omega
        by_cases he : N[k] = N'[k]
        · rw [show eqB N[k] N'[k] = true from decide_eq_true he] at heq
          have HCALL := Lib.hid heq; clear heq
          have hstep : ∀ j, (h1 : j < N.length) → (h2 : j < N'.length) → j < k + 1 → N[j] = N'[j] := fun j h1 h2 hj => by
            rcases Nat.lt_or_ge j k with h | h
            · exact HEQ.out j h1 h2 h
            · have : j = k := by omega
              subst this
              exact he
          have HSTEP := Lib.hid hstep; clear he hstep
          go_wp2_with fail
          with_reducible refine HCALL.out.mono ?_
          rintro E V ⟨rfl, rfl⟩
          go_wp2
          go_roundw
          case rel => exact ⟨k + 1, by omega, by go_num, HSTEP.out, by trivial⟩
          case measure => simp [intOf]; omega
        · rw [show eqB N[k] N'[k] = false from decide_eq_false he] at heq
          have HCALL := Lib.hid heq; clear heq
          have hd : decide (N = N') = false := decide_eq_false (fun e => he (by subst e; rfl))
          have HD := Lib.hid hd; clear hd he
          go_wp2_with fail
          with_reducible refine HCALL.out.mono ?_
          rintro E V ⟨rfl, rfl⟩
          go_wp2
          go_ret
          exact ⟨by rw [HD.out]; rfl, rfl⟩
      · have hkn : k = n := by omega
        subst hkn
        have hd : decide (N = N') = true := decide_eq_true (List.ext_getElem (by rw [HLN.out, HLN'.out]) (fun j h1 h2 => HEQ.out j h1 h2 (by have := HLN.out; omega)))
        have HD := Lib.hid hd; clear hd
        have hge3 : ¬ (k : Int) < (k : Int) := by omega
        go_wp2
        go_ret
        exact ⟨by rw [HD.out]; rfl, rfl⟩
  · have hne : ¬ (n : Int) = (n' : Int) := by omega
    have hd : decide (N = N') = false := decide_eq_false (fun e => hnn (by rw [← hln, ← hln', e]))
    rw [hd]
    clear h h' hln hln' hd
    go_enter Try.func57, Try.ntmps57
    go_wp2
    go_ret
    exact ⟨rfl, rfl⟩
end Go.Proofs.Ytkhenchhafmlmaa.Ex
