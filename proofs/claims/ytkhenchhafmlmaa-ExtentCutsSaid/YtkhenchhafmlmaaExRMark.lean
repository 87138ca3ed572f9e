/- A list with some blocks written: the document's call. -/
import Derived.Test.YtkhenchhafmlmaaExRFind
import Derived.Test.YtkhenchhafmlmaaExMark
namespace Go.Proofs.Ytkhenchhafmlmaa.Ex
set_option maxRecDepth 20000
open Go.RowKit
open Go.Proofs.Ytkhenchhafmlmaa.Mem Go.Proofs.Ytkhenchhafmlmaa.Crc Go.Proofs.Ytkhenchhafmlmaa.Rec Go.Proofs.Ytkhenchhafmlmaa.Reg
attribute [local go_sem ↓] ldX_eq stX_eq

set_option maxRecDepth 100000 in
set_option maxHeartbeats 4000000 in
theorem rmark_any (A : Option Addr) (n c B : Nat) (l : List X) (f t : Int) (w : World) (h : HoldsX w B A n l) (hB : B ≤ w.heap.size) (hr : ∀ x ∈ l, x.rep) (hn : n ≤ 4398046511104) :
    Calls Try.prog 23 #[.slice A n c, .int .i64 f, .int .i64 t] w (MarkOut w.heap.size (markL l f t).1 (markL l f t).2 w) := by
  have hchk := rcheck_any A n c B l w h hB hr hn
  unfold MarkOut
  cases hrl : right l with
  | false =>
    have hch : chkX l = 1 := by unfold chkX; rw [hrl]; rfl
    have hf : markL l f t = ([], 1) := by unfold markL; rw [hrl]; rfl
    rw [hch] at hchk
    rw [hf]
    dsimp only [List.length_nil]
    have HC := Lib.hid hchk; clear hchk h hr hrl hch hf
    go_enter Try.func23, Try.ntmps23
    go_wp2_with fail
    with_reducible refine HC.out.mono ?_
    rintro E V1 ⟨rfl, hb⟩
    have HB1 := Lib.hid hb; clear hb
    go_wp2
    go_ret2
    exact ⟨none, 0, rfl, OwnX.nil _ _, HB1.out⟩
  | true =>
    have hch : chkX l = 0 := by unfold chkX; rw [hrl]; rfl
    rw [hch] at hchk
    by_cases hin : 0 ≤ f ∧ f ≤ t
    rotate_left
    · have hf : markL l f t = ([], 1) := by
        unfold markL bnds
        rw [hrl, decide_eq_false hin]; rfl
      rw [hf]
      dsimp only [List.length_nil]
      have HC := Lib.hid hchk; clear hchk h hr hrl hch hf
      rcases Int.lt_or_le f 0 with h0 | h0
      · clear hin
        go_enter Try.func23, Try.ntmps23
        go_wp2_with fail
        with_reducible refine HC.out.mono ?_
        rintro E V1 ⟨rfl, hb⟩
        have HB1 := Lib.hid hb; clear hb
        go_wp2
        go_ret2
        exact ⟨none, 0, rfl, OwnX.nil _ _, HB1.out⟩
      · have h1 : ¬ f < 0 := by omega
        have h2 : t < f := by omega
        clear hin h0
        go_enter Try.func23, Try.ntmps23
        go_wp2_with fail
        with_reducible refine HC.out.mono ?_
        rintro E V1 ⟨rfl, hb⟩
        have HB1 := Lib.hid hb; clear hb
        go_wp2
        go_ret2
        exact ⟨none, 0, rfl, OwnX.nil _ _, HB1.out⟩
    · obtain ⟨p, rfl⟩ : ∃ p : Nat, f = (p : Int) := ⟨f.toNat, by omega⟩
      have h1 : ¬ (p : Int) < 0 := by omega
      have h2 : ¬ t < (p : Int) := by omega
      have hpt : (p : Int) ≤ t := hin.2
      have hout : markL l (p : Int) t = fits (markR (cuts l p t)) := by
        unfold markL bnds
        rw [hrl, decide_eq_true hin]; rfl
      have hlin := right_lin hrl
      obtain ⟨hml, hmd, -⟩ := mark_ok hrl (p : Int) t hpt
      have hsp : ∀ V, Below w.heap.size w V → Calls Try.prog 40 #[.slice A n c] V fun E w' => ∃ T Bk, E = .returned (.pointer (some ⟨V.heap.size, 0, none⟩)) ∧ MapAt w' V.heap.size T Bk ∧ Same T Bk l ∧ Below V.heap.size V w' := fun V hV => spread_any A n c B l V (h.below (hV.mono hB)) (by have := hV.size; omega) hrl
      have hfin : ∀ (T : Nat → Int) (Bk B2 : Nat → Bool) (i : Nat), Same T Bk l → (p : Int) ≤ i → (i : Int) ≤ t → (∀ x, x < 256 → B2 x = if p ≤ x ∧ x < i then false else Bk x) → (¬ (i : Int) < t ∨ ¬ (i : Int) < 256) → (∀ i, i < 256 → 0 ≤ T i ∧ T i ≤ 1024) ∧ fits (singles T B2 256) = markL l (p : Int) t := fun T Bk B2 i hs hpi hit hb2 hend => by
        have hs2 : Same T B2 (markR (cuts l p t)) := fun x hx => by
          have h0 := hs x hx
          rw [mark_at hlin.1 (p : Int) t hpt]
          cases hv : at_ l (x : Int) with
          | none =>
            rw [hv] at h0
            exact h0
          | some v =>
            rw [hv] at h0
            refine ⟨h0.1, h0.2.1, ?_⟩
            rw [hb2 x hx, h0.2.2]
            by_cases hc : (p : Int) ≤ (x : Int) ∧ (x : Int) < t
            · rw [decide_eq_true hc, if_pos ⟨by omega, by omega⟩]; simp
            · rw [decide_eq_false hc, if_neg (by omega)]; simp
        exact ⟨same_range hmd hs2, by rw [hout]; exact fits_same hml hs2⟩
      obtain ⟨F, hF⟩ : ∃ F, F = markL l (p : Int) t := ⟨_, rfl⟩
      rw [← hF] at hfin ⊢
      have HFIN := Lib.hid hfin; clear hfin
      have HSP := Lib.hid hsp; clear hsp
      have HC := Lib.hid hchk; clear hchk h hr hrl hch hin hout hlin hml hmd hF
      go_enter Try.func23, Try.ntmps23
      go_wp2_with fail
      with_reducible refine HC.out.mono ?_
      rintro E V1 ⟨rfl, hb⟩
      have HB1 := Lib.hid hb; clear hb
      go_wp2_with fail
      with_reducible refine (HSP.out V1 HB1.out).mono ?_
      rintro E V2 ⟨T, Bk, rfl, hmap, hsame, hb⟩
      have HB2 : Hid (Below w.heap.size w V2) := Lib.hid (HB1.out.trans (hb.mono HB1.out.size))
      clear hb
      obtain ⟨g, hg⟩ : ∃ g, g = V1.heap.size := ⟨_, rfl⟩
      have hgw : w.heap.size ≤ g := by rw [hg]; exact HB1.out.size
      rw [← hg] at hmap ⊢
      clear hg
      have HMAP := Lib.hid hmap; clear hmap
      have HSAME := Lib.hid hsame; clear hsame
      have HGW := Lib.hid hgw; clear hgw
      go_wp2
      go_loopw [9] (fun v wr => ∃ (i : Nat) (B2 : Nat → Bool), p ≤ i ∧ (i : Int) ≤ t ∧ v = .int .i64 (i : Int) ∧ MapAt wr g T B2 ∧ (∀ x, x < 256 → B2 x = if p ≤ x ∧ x < i then false else Bk x) ∧ Below w.heap.size w wr) (fun v _ => (t - intOf v).toNat)
      case atStart => exact ⟨p, Bk, Nat.le_refl _, hpt, rfl, HMAP.out, fun x hx => by rw [if_neg (by omega)], HB2.out⟩
      case round =>
        obtain ⟨i, B2, hpi, hit, rfl, hmap, hb2, hbr⟩ := hrel
        have HM := Lib.hid hmap; clear hmap
        have HBX := Lib.hid hb2; clear hb2
        have HBR := Lib.hid hbr; clear hbr
        by_cases hgo : (i : Int) < t ∧ (i : Int) < 256
        · obtain ⟨g1, g2⟩ := hgo
          have hi0 : (0 : Int) ≤ (i : Int) := by omega
          have HI := Lib.hid (show i < 256 by omega)
          obtain ⟨z1, z2⟩ := HM.out.blank i HI.out
          obtain ⟨V3, hV3⟩ : ∃ V3, V3 = wr.setCell ⟨g, 256 + i, none⟩ (.bool false) := ⟨_, rfl⟩
          have hm3 : MapAt V3 g T (upd B2 i false) := by rw [hV3]; exact HM.out.setBlank i HI.out _
          have hb3 : Below w.heap.size w V3 := by rw [hV3]; exact HBR.out.setCell HGW.out _
          have hx3 : ∀ x, x < 256 → upd B2 i false x = if p ≤ x ∧ x < i + 1 then false else Bk x := fun x hx => by
            unfold upd
            by_cases e : x = i
            · rw [if_pos e, if_pos (by omega)]
            · rw [if_neg e, HBX.out x hx]
              by_cases hc : p ≤ x ∧ x < i
              · rw [if_pos hc, if_pos (by omega)]
              · rw [if_neg hc, if_neg (by omega)]
          have HM3 := Lib.hid hm3; clear hm3
          have HB3 := Lib.hid hb3; clear hb3
          have HX3 := Lib.hid hx3; clear hx3
          have HV3 := Lib.hid hV3; clear hV3
          go_wp2
          rw [← HV3.out]
          go_roundw
          case rel => exact ⟨i + 1, _, by omega, by omega, by go_num, HM3.out, HX3.out, HB3.out⟩
          case measure => simp [intOf]; omega
        · have hend : ¬ (i : Int) < t ∨ ¬ (i : Int) < 256 := by omega
          obtain ⟨hrg, hfit⟩ := HFIN.out T Bk B2 i HSAME.out (by omega) hit HBX.out (by omega)
          have hft := fit_any g T B2 wr HM.out hrg
          rw [hfit] at hft
          have HFT := Lib.hid hft; clear hft hrg hfit
          by_cases g1 : (i : Int) < t
          · have g2 : ¬ (i : Int) < 256 := by omega
            clear hend hgo
            go_wp2_with fail
            with_reducible refine HFT.out.mono ?_
            rintro E V4 ⟨A4, c4, rfl, ho, hb⟩
            have HO : Hid (OwnX V4 w.heap.size (.slice A4 F.1.length c4) F.1) := Lib.hid (ho.mono HBR.out.size)
            have HB4 : Hid (Below w.heap.size w V4) := Lib.hid (HBR.out.trans (hb.mono HBR.out.size))
            clear ho hb
            go_wp2
            go_ret2
            exact ⟨A4, c4, rfl, HO.out, HB4.out⟩
          · clear hend hgo
            go_wp2_with fail
            with_reducible refine HFT.out.mono ?_
            rintro E V4 ⟨A4, c4, rfl, ho, hb⟩
            have HO : Hid (OwnX V4 w.heap.size (.slice A4 F.1.length c4) F.1) := Lib.hid (ho.mono HBR.out.size)
            have HB4 : Hid (Below w.heap.size w V4) := Lib.hid (HBR.out.trans (hb.mono HBR.out.size))
            clear ho hb
            go_wp2
            go_ret2
            exact ⟨A4, c4, rfl, HO.out, HB4.out⟩
end Go.Proofs.Ytkhenchhafmlmaa.Ex
