/- ExtentMarks: for every list of extents and all bounds, marking twice is marking once, and when all is marked nothing is unwritten; and where marking is refused no list is told. -/
import Derived.Test.YtkhenchhafmlmaaExAlive
import Derived.Test.YtkhenchhafmlmaaExMark
import Derived.Test.YtkhenchhafmlmaaExLaws
namespace Go.Proofs.Ytkhenchhafmlmaa.ExtentMarks
set_option maxRecDepth 20000
open Go.ChangeShapes Go.WideShapes Go.ChangeAt Go.RowKit
open Go.Proofs.Ytkhenchhafmlmaa.Mem Go.Proofs.Ytkhenchhafmlmaa.Crc Go.Proofs.Ytkhenchhafmlmaa.Rec Go.Proofs.Ytkhenchhafmlmaa.Ex Go.Proofs.Ytkhenchhafmlmaa.Lift
attribute [local go_sem ↓] ldX_eq stX_eq eqX_eq neqX_eq ldS_eq eqS_eq neqS_eq

theorem rep_of_right {l : List X} (h : right l = true) : ∀ x ∈ l, x.rep := fun x hx => by
  have := may_iff.1 (((right_iff l).1 h).2.1 x hx)
  exact ⟨⟨by omega, by omega⟩, ⟨by omega, by omega⟩, ⟨by omega, by omega⟩⟩

set_option maxRecDepth 100000 in
set_option maxHeartbeats 2000000 in
theorem walk (A : Option Addr) (n c : Nat) (l : List X) (f t : Int) (w : World) (h : HoldsX w w.heap.size A n l) (hr : ∀ x ∈ l, x.rep) (hc : n ≤ c) :
    Calls Try.prog 10 #[.slice A n c, .int .i64 f, .int .i64 t] w fun e w' => e = .returned (.bool true) ∧ Below w.heap.size w w' := by
  obtain ⟨a, ha⟩ : ∃ a, a = (markL l f t).1 := ⟨_, rfl⟩
  obtain ⟨er, her⟩ : ∃ er, er = (markL l f t).2 := ⟨_, rfl⟩
  have hmark := fun V (hV : Below w.heap.size w V) => mark_any A n c w.heap.size l f t V (h.below hV) hV.size hr hc
  have hmarkD := fun V (hV : Below w.heap.size w V) => mark_any A n c w.heap.size l 0 256 V (h.below hV) hV.size hr hc
  rw [← ha, ← her] at hmark
  have hE : er ≠ 0 → a = [] := fun h => by rw [ha]; exact mark_err (her ▸ h)
  have hO : er = 0 → markL a f t = (a, 0) ∧ markL a 0 256 = markL l 0 256 ∧ (markL l 0 256).2 = 0 ∧ (∀ x ∈ (markL l 0 256).1, x.u = false) ∧ (∀ x ∈ a, x.rep) ∧ a.length ≤ 60 ∧ (markL l 0 256).1.length ≤ 60 := fun h => by
    have h0 : (markL l f t).2 = 0 := her ▸ h
    obtain ⟨h1, _, _, h4, _⟩ := mark_is h0
    rw [ha]
    exact ⟨mark_again h0, mark_both h0, (mark_all h1).1, (mark_all h1).2, rep_of_right h4, (right_lin h4).2.2.2.2, (right_lin (mark_is (mark_all h1).1).2.2.2.1).2.2.2.2⟩
  have HE := Lib.hid hE; clear hE
  have HO := Lib.hid hO; clear hO ha her h hr
  have HMARK := Lib.hid hmark; clear hmark
  obtain ⟨d, hd⟩ : ∃ d, d = (markL l 0 256).1 := ⟨_, rfl⟩
  rw [← hd] at hmarkD
  have HMD := Lib.hid hmarkD; clear hmarkD
  have HD := Lib.hid hd; clear hd
  go_enter Try.func10, Try.ntmps10
  go_wp2_with fail
  with_reducible refine (alive_any w).mono ?_
  rintro E w1 ⟨rfl, hb1⟩
  have HB1 := Lib.hid hb1; clear hb1
  go_wp2_with fail
  with_reducible refine (HMARK.out w1 HB1.out).mono ?_
  rintro E w2 ⟨Aa, ca, rfl, hoa, hb2⟩
  have HB2 : Hid (Below w.heap.size w w2) := Lib.hid (HB1.out.trans (hb2.mono HB1.out.size))
  have HOA := Lib.hid hoa; clear hoa hb2
  obtain ⟨na, hna⟩ : ∃ na, na = a.length := ⟨_, rfl⟩
  rw [← hna] at HOA ⊢
  have HNA := Lib.hid hna; clear hna
  by_cases he : er = 0
  · subst he
    obtain ⟨hO1, hO2, hO3, hO4, hO5, hO6, hO7⟩ := HO.out rfl
    have hfa := HOA.out.fits
    have hmb := fun V (hV : Below w2.heap.size w2 V) => mark_any Aa na ca w2.heap.size a f t V (HOA.out.reads.below hV) hV.size hO5 hfa.2.1
    have hmc := fun V (hV : Below w2.heap.size w2 V) => mark_any Aa na ca w2.heap.size a 0 256 V (HOA.out.reads.below hV) hV.size hO5 hfa.2.1
    rw [hO1] at hmb
    rw [hO2, hO3, ← HD.out] at hmc
    have HMB := Lib.hid hmb; clear hmb
    have HMC := Lib.hid hmc; clear hmc
    have HMD2 : Hid (∀ V, Below w.heap.size w V → Calls Try.prog 22 #[.slice A n c, .int .i64 0, .int .i64 256] V (MarkOut V.heap.size d 0 V)) := Lib.hid fun V hV => by have := HMD.out V hV; rwa [hO3] at this
    have HU : Hid (∀ x ∈ d, x.u = false) := Lib.hid (by rw [HD.out]; exact hO4)
    have hna60 : na ≤ 60 := by rw [HNA.out]; exact hO6
    obtain ⟨nd, hnd⟩ : ∃ nd, nd = d.length := ⟨_, rfl⟩
    have hnd60 : nd ≤ 60 := by rw [hnd, HD.out]; exact hO7
    clear hO1 hO2 hO3 hO4 hO5 hO6 hO7 hfa HMARK HMD HO HE
    go_wp2_with fail
    with_reducible refine (HMB.out w2 (Below.refl _ _)).mono ?_
    rintro E w3 ⟨Ab, cb, rfl, hob, hb3⟩
    have HB23 := Lib.hid hb3
    have HB3 : Hid (Below w.heap.size w w3) := Lib.hid (HB2.out.trans (hb3.mono HB2.out.size))
    have HOB := Lib.hid hob; clear hob hb3 HMB
    rw [← HNA.out] at HOB ⊢
    go_wp2_with fail
    with_reducible refine (HMC.out w3 HB23.out).mono ?_
    rintro E w4 ⟨Ac, cc, rfl, hoc, hb4⟩
    have HB34 := Lib.hid hb4
    have HB4 : Hid (Below w.heap.size w w4) := Lib.hid (HB3.out.trans (hb4.mono HB3.out.size))
    rw [← hnd] at hoc ⊢
    have HOC := Lib.hid hoc; clear hoc hb4 HMC
    go_wp2_with fail
    with_reducible refine (HMD2.out w4 HB4.out).mono ?_
    rintro E w5 ⟨Ad, cd, rfl, hod, hb5⟩
    have HB45 := Lib.hid hb5
    have HB5 : Hid (Below w.heap.size w w5) := Lib.hid (HB4.out.trans (hb5.mono HB4.out.size))
    rw [← hnd] at hod ⊢
    have HOD := Lib.hid hod; clear hod hb5 HMD2
    have HB25 : Hid (Below w2.heap.size w2 w5) := Lib.hid ((HB23.out.trans (HB34.out.mono HB23.out.size)).trans (HB45.out.mono (Nat.le_trans HB23.out.size HB34.out.size)))
    have HB35 : Hid (Below w3.heap.size w3 w5) := Lib.hid (HB34.out.trans (HB45.out.mono HB34.out.size))
    have HND := Lib.hid hnd; clear hnd
    have hs1 := same_any Aa Ab na na ca cb w2.heap.size w3.heap.size a a w5 (HOA.out.reads.below HB25.out) (HOB.out.reads.below HB35.out) HB25.out.size HB35.out.size (by omega)
    rw [decide_eq_true rfl] at hs1
    have HS1 := Lib.hid hs1; clear hs1
    have HC5 : Hid (∀ V, Below w5.heap.size w5 V → HoldsX V w4.heap.size Ac nd d ∧ HoldsX V w5.heap.size Ad nd d) := Lib.hid fun V hV => ⟨HOC.out.reads.below (HB45.out.trans (hV.mono HB45.out.size)), HOD.out.reads.below hV⟩
    go_wp2_with fail
    with_reducible refine HS1.out.mono ?_
    rintro E w6 ⟨rfl, hb6⟩
    have HB56 := Lib.hid hb6; clear hb6
    have hs2 := same_any Ac Ad nd nd cc cd w4.heap.size w5.heap.size d d w6 (HC5.out w6 HB56.out).1 (HC5.out w6 HB56.out).2 (Nat.le_trans HB45.out.size HB56.out.size) HB56.out.size (by omega)
    rw [decide_eq_true rfl] at hs2
    have HS2 := Lib.hid hs2; clear hs2
    go_wp2_with fail
    with_reducible refine HS2.out.mono ?_
    rintro E w7 ⟨rfl, hb7⟩
    have HB57 : Hid (Below w5.heap.size w5 w7) := Lib.hid (HB56.out.trans (hb7.mono HB56.out.size))
    have HB7 : Hid (Below w.heap.size w w7) := Lib.hid (HB5.out.trans (HB57.out.mono HB5.out.size))
    have HH := Lib.hid (HC5.out w7 HB57.out).2
    clear hb7 HS1 HS2
    go_wp2
    go_loopw [15] (fun i wr => ∃ k : Nat, k ≤ nd ∧ i = .int .i64 (k : Int) ∧ wr = w7) (fun i _ => nd - (intOf i).toNat)
    case atStart => exact ⟨0, Nat.zero_le _, rfl, rfl⟩
    case round =>
      obtain ⟨k, hk, rfl, rfl⟩ := hrel
      rcases Nat.lt_or_ge k nd with hlt | hge
      · have hkl : k < d.length := by have := HND.out; omega
        obtain ⟨b, off, rfl, -⟩ := HH.out.addr (by omega)
        have q := (HH.out.cell k hkl).2.2.2
        rw [HU.out _ (List.getElem_mem hkl)] at q
        have hk0 : (0 : Int) ≤ (k : Int) := by omega
        have hkn : (k : Int) < (nd : Int) := by omega
        go_wp2
        go_roundw
        case rel => exact ⟨k + 1, by omega, by go_num, trivial⟩
        case measure => simp [intOf]; omega
      · have hge' : ¬ (k : Int) < (nd : Int) := by omega
        go_wp2
        go_ret
        exact ⟨rfl, HB7.out⟩
  · have ha := HE.out he
    have hne : (er != 0) = true := bne_iff_ne.2 he
    have hn0 : na = 0 := by rw [HNA.out, ha]; rfl
    subst hn0
    go_wp2
    go_ret
    exact ⟨rfl, HB2.out⟩
theorem walks : Walks 10 Try.f10 All := by
  intro H enc W base args ds p hval hA hsz _
  rw [Try.params10] at hA hval hsz
  obtain ⟨v0, vs0, d0, ds0, p0, q0, hargs, rfl, rfl, h0, r0⟩ := trodAll_cons hA
  obtain ⟨v1, vs1, d1, ds1, p1, q1, rfl, rfl, rfl, h1, r1⟩ := trodAll_cons r0
  obtain ⟨v2, vs2, d2, ds2, p2, q2, rfl, rfl, rfl, h2, r2⟩ := trodAll_cons r1
  obtain ⟨rfl, rfl, rfl⟩ := trodAll_nil r2
  obtain rfl : args = #[v0, v1, v2] := by cases args; simp_all
  obtain ⟨A, n, c, l, rfl, hl, hr, hn, hc⟩ := exts_open (hval 0 _ v0 rfl rfl) h0 _ (reach_exts hsz (j := 0) rfl rfl)
  obtain ⟨x1, rfl, rfl, rfl, hx1⟩ := open_int Try.underlying3 (hval 1 _ v1 rfl rfl) h1
  have bx1 := bounds_i64 hx1
  obtain ⟨x2, rfl, rfl, rfl, hx2⟩ := open_int Try.underlying3 (hval 2 _ v2 rfl rfl) h2
  have bx2 := bounds_i64 hx2
  exact walk A n c l x1 x2 W hl hr hn

set_option maxRecDepth 100000 in
theorem proved : Rows.ExtentMarksSaid :=
  OpenClaim.holds_of_wide 10 Try.f10 rfl rfl rfl rfl rfl rfl rfl ⟨rfl, rfl, rfl, rfl, rfl⟩ rfl rfl rfl rfl rfl (by kernel_rfl) Try.func10 (by kernel_rfl)
    (of_decide_eq_true (by kernel_rfl)) (by unfold Func.isWrapper; first | (rw [if_pos (by decide +kernel)]; kernel_rfl) | (rw [if_neg (by decide +kernel)]; exact ⟨rfl, rfl⟩))
    (fun os started H enc _ => lifted (s := Rows.extentMarksSpec) walks (by kernel_rfl) rfl rfl (fun H ds hl => by match ds, hl with | [d1, d2, d3], _ => rfl) (by kernel_rfl) Try.func10 os started H enc
      (ChangeSpec.witness6 (enc := enc) (C := Try.checked) false ⟨#[], #[.slice none 0 0, .int .i64 0, .int .i64 0], []⟩ 8 (by kernel_rfl) (by kernel_rfl) (by kernel_rfl) (by kernel_rfl)))
#print axioms proved
end Go.Proofs.Ytkhenchhafmlmaa.ExtentMarks
