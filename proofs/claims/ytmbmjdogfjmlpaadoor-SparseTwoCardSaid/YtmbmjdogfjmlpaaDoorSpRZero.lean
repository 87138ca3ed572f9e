/- The document's calls: Zero. -/
import Derived.Test.YtmbmjdogfjmlpaaDoorSpRCalls
namespace Go.Proofs.YtmbmjdogfjmlpaaDoor.Sp
set_option maxRecDepth 20000
open Go.RowKit
open Go.Proofs.YtmbmjdogfjmlpaaDoor.Mem Go.Proofs.YtmbmjdogfjmlpaaDoor.Rec Go.Proofs.YtmbmjdogfjmlpaaDoor.Reg
attribute [local go_sem ↓] ldX_eq stX_eq

theorem rzero_start (b : List UInt8) (f : Nat) : rzero b f f = b := by
  refine list_getD (rzero_len _ _ _ (Nat.le_refl _)) fun i _ => ?_
  rw [rzero_get _ _ _ _ (Nat.le_refl _), if_neg (by omega)]
theorem rzero_next (b : List UInt8) (f i : Nat) (h : f ≤ i) (hi : i < b.length) : (rzero b f i).set i 0 = rzero b f (i + 1) := by
  refine list_getD (by rw [List.length_set, rzero_len _ _ _ h, rzero_len _ _ _ (by omega)]) fun j hj => ?_
  rw [List.length_set, rzero_len _ _ _ h] at hj
  rw [rzero_get _ _ _ _ (by omega), List.getD_eq_getElem?_getD, List.getElem?_set]
  by_cases hij : i = j
  · rw [if_pos hij, if_pos (by rw [rzero_len _ _ _ h]; omega), if_pos (by omega)]; rfl
  · rw [if_neg hij, ← List.getD_eq_getElem?_getD, rzero_get _ _ _ _ h]
    by_cases h2 : f ≤ j ∧ j < i
    · rw [if_pos h2, if_pos (by omega)]
    · rw [if_neg h2, if_neg (by omega)]
theorem rzero_done (b : List UInt8) (f i t : Nat) (h : f ≤ i) (hit : i ≤ t) (hi : b.length ≤ i) : rzero b f i = rzero b f t := by
  refine list_getD (by rw [rzero_len _ _ _ h, rzero_len _ _ _ (by omega)]) fun j hj => ?_
  rw [rzero_len _ _ _ h] at hj
  rw [rzero_get _ _ _ _ h, rzero_get _ _ _ _ (by omega)]
  by_cases h2 : f ≤ j
  · rw [if_pos (by omega), if_pos (by omega)]
  · rw [if_neg (by omega), if_neg (by omega)]
set_option maxRecDepth 100000 in
set_option maxHeartbeats 16000000 in
theorem rZero_any (A : Option Addr) (n c B : Nat) (l : List Rn) (f t : Int) (w : World) (h : HoldsX w B A n l) (hB : B ≤ w.heap.size) (hn : n ≤ 8796093022208) (hrep : ∀ x ∈ l, x.rep)
    (htb : t ≤ 9223372036854775807) :
    Calls Tryd.prog 23 #[.slice A n c, .int .i64 f, .int .i64 t] w (Runs2 w (zeroA l f t)) := by
  obtain ⟨post, hpost⟩ : ∃ post, post = Runs2 w (zeroA l f t) := ⟨_, rfl⟩
  rw [← hpost]
  have HP := Lib.hid hpost; clear hpost
  have hck := rcheck_any A n c B l w h hn hrep
  cases hr : right l with
  | false =>
    have he : zeroA l f t = ([], 1) := by unfold zeroA; rw [if_pos (.inr (.inr hr))]
    rw [he] at HP
    rw [hr, if_neg (by decide)] at hck
    clear he h hr
    have HCK := Lib.hid hck; clear hck
    go_enter Tryd.func23, Tryd.ntmps23
    go_wp2_with fail
    with_reducible refine HCK.out.mono ?_
    rintro E w1 ⟨rfl, rfl⟩
    go_wp2
    rw [HP.out]
    exact ⟨none, 0, rfl, OwnX.nil _ _, Below.refl _ _⟩
  | true =>
  rw [hr, if_pos rfl] at hck
  rcases Int.lt_or_le f 0 with h1 | h1
  · have he : zeroA l f t = ([], 1) := by unfold zeroA; rw [if_pos (.inl h1)]
    rw [he] at HP
    clear he h hr
    have HCK := Lib.hid hck; clear hck
    go_enter Tryd.func23, Tryd.ntmps23
    go_wp2_with fail
    with_reducible refine HCK.out.mono ?_
    rintro E w1 ⟨rfl, rfl⟩
    go_wp2
    rw [HP.out]
    exact ⟨none, 0, rfl, OwnX.nil _ _, Below.refl _ _⟩
  have h1' : ¬ f < 0 := by omega
  rcases Int.lt_or_le t f with h2 | h2
  · have he : zeroA l f t = ([], 1) := by unfold zeroA; rw [if_pos (.inr (.inl h2))]
    rw [he] at HP
    clear he h hr
    have HCK := Lib.hid hck; clear hck
    go_enter Tryd.func23, Tryd.ntmps23
    go_wp2_with fail
    with_reducible refine HCK.out.mono ?_
    rintro E w1 ⟨rfl, rfl⟩
    go_wp2
    rw [HP.out]
    exact ⟨none, 0, rfl, OwnX.nil _ _, Below.refl _ _⟩
  have h2' : ¬ t < f := by omega
  obtain ⟨F, rfl⟩ : ∃ F : Nat, f = (F : Int) := ⟨f.toNat, by omega⟩
  obtain ⟨T, rfl⟩ : ∃ T : Nat, t = (T : Int) := ⟨t.toNat, by omega⟩
  have hFT : F ≤ T := by omega
  have he : zeroA l (F : Int) (T : Int) = (gat 0 (rzero (spr [] l) F T), 0) := by unfold zeroA; rw [if_neg (by rw [hr]; simp; omega), zero_is hr hFT]
  rw [he] at HP
  have hnn : n ≤ 65538 := by rw [← h.1]; exact right_len hr
  have hsp := rspread_any A n c B l w h hB (by omega) hr
  have hsl := (spr0 hr).1
  clear he h hr
  generalize spr [] l = b0 at *
  have HSP := Lib.hid hsp; clear hsp
  have HCK := Lib.hid hck; clear hck
  go_enter Tryd.func23, Tryd.ntmps23
  go_wp2_with fail
  with_reducible refine HCK.out.mono ?_
  rintro E w1 ⟨rfl, rfl⟩
  go_wp2_with fail
  with_reducible refine HSP.out.mono ?_
  rintro E w2 ⟨A2, c2, rfl, ho2, hb2⟩
  have HO2 := Lib.hid ho2; clear ho2
  have HB2 := Lib.hid hb2; clear hb2
  obtain ⟨bl, hbl⟩ : ∃ bl, bl = b0.length := ⟨_, rfl⟩
  rw [← hbl] at HO2 hsl ⊢
  have HBL := Lib.hid hbl; clear hbl
  go_wp2
  go_loopw [9] (fun iv wi => ∃ i : Nat, F ≤ i ∧ i ≤ T ∧ iv = .int .i64 (i : Int) ∧ Owned wi w1.heap.size (.slice A2 bl c2) (rzero b0 F i) ∧ Below w1.heap.size w1 wi) (fun iv _ => T - (intOf iv).toNat)
  case atStart => exact ⟨F, Nat.le_refl _, hFT, rfl, by rw [rzero_start]; exact HO2.out, HB2.out⟩
  case round =>
    obtain ⟨i, hFi, hiT, rfl, hown, hbr⟩ := hrel
    have HO := Lib.hid hown; clear hown
    have HBR := Lib.hid hbr; clear hbr
    have hi0 : (0 : Int) ≤ (i : Int) := by omega
    have fin : rzero b0 F i = rzero b0 F T → ∃ G : List Rn, gat 0 (rzero b0 F T) = G ∧ ∀ W : World, W = wr → Calls Tryd.prog 29 #[.slice A2 bl c2] W (Runs1 W G) := fun e => by
      refine ⟨_, rfl, fun W hW => ?_⟩
      rw [hW]
      have ho := HO.out
      rw [e] at ho
      exact rgather_any A2 bl c2 wr.heap.size _ wr (Owned.reads ho) (Nat.le_refl _) hsl (Owned.fits ho).1
    have HFIN := Lib.hid fin; clear fin
    rcases Nat.lt_or_ge i T with hi | hi
    · have hit : (i : Int) < (T : Int) := by omega
      rcases Nat.lt_or_ge i bl with hib | hib
      · have hibl : (i : Int) < (bl : Int) := by omega
        have hlen : (rzero b0 F i).length = bl := by rw [rzero_len _ _ _ hFi, HBL.out]
        obtain ⟨g, cap, e1, hg1, hg2, hcap, hrow⟩ := Owned.row HO.out (by rw [hlen]; omega)
        rw [hlen] at e1
        injection e1 with e1 e2 e3
        subst e1 e3
        obtain ⟨q1, q2, q3⟩ := hrow i (by rw [hlen]; exact hib)
        obtain ⟨q4, q5⟩ := q3 0
        rw [rzero_next _ _ _ hFi (by rw [← HBL.out]; exact hib)] at q4
        have hz : byteV 0 = .int .u8 0 := rfl
        rw [hz] at q4 q5
        have q1' : ∃ u, wr.cell? ⟨g, i, none⟩ = some u := ⟨_, q1⟩
        clear q1
        obtain ⟨u, q1⟩ := q1'
        have HO5 := Lib.hid q4; clear q4
        have HB5 := Lib.hid (HBR.out.trans (q5.mono (Nat.le_refl _))); clear q5 q3 hrow hlen hcap
        go_wp2
        go_roundw
        case rel => exact ⟨i + 1, by omega, by omega, by go_num, HO5.out, HB5.out⟩
        case measure => simp [intOf]; omega
      · have hibl : ¬ (i : Int) < (bl : Int) := by omega
        obtain ⟨G, hG, hcall⟩ := HFIN.out (rzero_done _ _ _ _ hFi (by omega) (by rw [← HBL.out]; exact hib))
        rw [hG] at HP
        have hcall2 := hcall wr rfl
        have HC := Lib.hid hcall2; clear hcall hcall2 hG
        go_wp2_with fail
        with_reducible refine HC.out.mono ?_
        rintro E w6 ⟨A6, c6, rfl, ho6, hb6⟩
        have HO6 := Lib.hid (OwnX.mono ho6 HBR.out.size); clear ho6
        have HB6 := Lib.hid (HBR.out.trans (hb6.mono HBR.out.size)); clear hb6
        go_wp2
        rw [HP.out]
        exact ⟨A6, c6, rfl, HO6.out, HB6.out⟩
    · have hit : ¬ (i : Int) < (T : Int) := by omega
      have hiT2 : i = T := by omega
      obtain ⟨G, hG, hcall⟩ := HFIN.out (by rw [hiT2])
      rw [hG] at HP
      have hcall2 := hcall wr rfl
      have HC := Lib.hid hcall2; clear hcall hcall2 hG hiT2
      go_wp2_with fail
      with_reducible refine HC.out.mono ?_
      rintro E w6 ⟨A6, c6, rfl, ho6, hb6⟩
      have HO6 := Lib.hid (OwnX.mono ho6 HBR.out.size); clear ho6
      have HB6 := Lib.hid (HBR.out.trans (hb6.mono HBR.out.size)); clear hb6
      go_wp2
      rw [HP.out]
      exact ⟨A6, c6, rfl, HO6.out, HB6.out⟩

end Go.Proofs.YtmbmjdogfjmlpaaDoor.Sp
