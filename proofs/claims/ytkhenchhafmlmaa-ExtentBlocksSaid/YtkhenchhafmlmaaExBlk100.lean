/- ExtentBlocks where the list is right, the put is answered and the cut is refused. -/
import Derived.Test.YtkhenchhafmlmaaExAlive
import Derived.Test.YtkhenchhafmlmaaExCalls
import Derived.Test.YtkhenchhafmlmaaExMark
import Derived.Test.YtkhenchhafmlmaaExLaws
namespace Go.Proofs.Ytkhenchhafmlmaa.ExBlk100
set_option maxRecDepth 20000
open Go.ChangeShapes Go.WideShapes Go.ChangeAt Go.RowKit
open Go.Proofs.Ytkhenchhafmlmaa.Mem Go.Proofs.Ytkhenchhafmlmaa.Crc Go.Proofs.Ytkhenchhafmlmaa.Rec Go.Proofs.Ytkhenchhafmlmaa.Ex Go.Proofs.Ytkhenchhafmlmaa.Lift Go.Proofs.Ytkhenchhafmlmaa.Reg
attribute [local go_sem ↓] ldX_eq stX_eq eqX_eq neqX_eq ldS_eq eqS_eq neqS_eq

theorem rep_of_right {l : List X} (h : right l = true) : ∀ x ∈ l, x.rep := fun x hx => by
  have := may_iff.1 (((right_iff l).1 h).2.1 x hx)
  exact ⟨⟨by omega, by omega⟩, ⟨by omega, by omega⟩, ⟨by omega, by omega⟩⟩
theorem find_same {l m : List X} (hl : right l = true) (hm : right m = true) {b : Int} (h : at_ m b = at_ l b) : findL m b = findL l b := by
  unfold findL
  rw [if_pos hl, if_pos hm, h]
theorem find_none {l : List X} {b : Int} (h : at_ l b = none) : findL l b = (0, false, false) := by
  unfold findL
  split
  · rw [h]
  · rfl
theorem find_some {l : List X} (hl : right l = true) {b d : Int} {u : Bool} (h : at_ l b = some (d, u)) : findL l b = (d, !u, true) := by
  unfold findL
  rw [if_pos hl, h]
theorem find_mark {l m : List X} (hl : right l = true) (hm : right m = true) {b : Int} {p : Bool} (h : at_ m b = (at_ l b).map fun v => (v.1, v.2 && !p)) : findL m b = ((findL l b).1, (findL l b).2.1 || (p && (findL l b).2.2), (findL l b).2.2) := by
  cases hv : at_ l b with
  | none =>
    rw [hv] at h
    rw [find_none hv, find_none h]
    simp
  | some v =>
    rw [hv] at h
    rw [find_some hl (d := v.1) (u := v.2) hv, find_some hm (d := v.1) (u := v.2 && !p) h]
    cases v.2 <;> cases p <;> rfl

set_option maxRecDepth 100000 in
set_option maxHeartbeats 16000000 in
theorem walk (A : Option Addr) (n c : Nat) (l : List X) (e : X) (to : Int) (w : World) (h : HoldsX w w.heap.size A n l) (hr : ∀ x ∈ l, x.rep) (he : e.rep) (hc : n ≤ c) (hrl : right l = true) (hC : (markL l e.a to).2 ≠ 0) (hA : (putL l e).2 = 0) (hB : (cutL l e.a to).2.2 ≠ 0) :
    Calls Try.prog 5 #[.slice A n c, .agg e.c, .int .i64 to] w fun E w' => E = .returned (.bool true) ∧ Below w.heap.size w w' := by
  obtain ⟨W, hW⟩ : ∃ W, W = w.alloc (.cells e.c 24) := ⟨_, rfl⟩
  have hbw : Below w.heap.size w W := by rw [hW]; exact (Below.refl _ _).alloc (Nat.le_refl _) _
  have hve : VarX W w.heap.size e := hW ▸ VarX.new w e
  have hz : W.heap.size = w.heap.size + 1 := by rw [hW]; simp
  have hh : ∀ V, Below W.heap.size W V → HoldsX V w.heap.size A n l ∧ w.heap.size ≤ V.heap.size := fun V hV => ⟨h.below (hbw.trans (hV.mono hbw.size)), by have := hV.size; omega⟩
  have hld : ∀ V, Below W.heap.size W V → (ldX (.pointer (some ⟨w.heap.size, 0, none⟩))).run Try.prog V = .ok (.agg e.c) V ∧ V.cell? ⟨w.heap.size, 0, none⟩ = some (.int .i64 e.a) ∧ V.cell? ⟨w.heap.size, 1, none⟩ = some (.int .i64 e.s) ∧ V.cell? ⟨w.heap.size, 2, none⟩ = some (.int .i64 e.n) ∧ V.cell? ⟨w.heap.size, 3, none⟩ = some (.bool e.u) := fun V hV => by
    have hv : VarX V w.heap.size e := hve.keep hV (by omega)
    exact ⟨hv.load, hv.cells.1, hv.cells.2.1, hv.cells.2.2.1, hv.cells.2.2.2⟩
  have HH := Lib.hid hh; clear hh
  have HLD := Lib.hid hld; clear hld
  have HBW := Lib.hid hbw; clear hbw
  have HWE := Lib.hid hW; clear hW hve h hz
  have hchk := fun V (hV : Below W.heap.size W V) => check_any A n c w.heap.size l V (HH.out V hV).1 (HH.out V hV).2 hr hc
  · have hch : chkX l = 0 := by unfold chkX; rw [hrl]; rfl
    rw [hch] at hchk
    have hput := fun V (hV : Below W.heap.size W V) => put_any A n c w.heap.size l e V (HH.out V hV).1 (HH.out V hV).2 hr he hc
    have hcut := fun V (hV : Below W.heap.size W V) => cut_any A n c w.heap.size l e.a to V (HH.out V hV).1 (HH.out V hV).2 hr hc
    have hmark := fun V (hV : Below W.heap.size W V) => mark_any A n c w.heap.size l e.a to V (HH.out V hV).1 (HH.out V hV).2 hr hc
    have hfind := fun b V (hV : Below W.heap.size W V) => find_any A n c w.heap.size l b V (HH.out V hV).1 (HH.out V hV).2 hr hc
    obtain ⟨la, hla⟩ : ∃ la, la = (putL l e).1 := ⟨_, rfl⟩
    obtain ⟨ra, hra⟩ : ∃ ra, ra = (putL l e).2 := ⟨_, rfl⟩
    obtain ⟨lb, hlb⟩ : ∃ lb, lb = (cutL l e.a to).1 := ⟨_, rfl⟩
    obtain ⟨rb, hrb⟩ : ∃ rb, rb = (cutL l e.a to).2.2 := ⟨_, rfl⟩
    obtain ⟨sb, hsb⟩ : ∃ sb, sb = (cutL l e.a to).2.1 := ⟨_, rfl⟩
    obtain ⟨lc, hlc⟩ : ∃ lc, lc = (markL l e.a to).1 := ⟨_, rfl⟩
    obtain ⟨rc, hrc⟩ : ∃ rc, rc = (markL l e.a to).2 := ⟨_, rfl⟩
    rw [← hla, ← hra] at hput
    rw [← hlb, ← hrb, ← hsb] at hcut
    rw [← hlc, ← hrc] at hmark
    unfold CutOut at hcut
    unfold MarkOut at hmark
    have fA : ra = 0 → right la = true ∧ e.may = true ∧ (∀ b, e.a ≤ b ∧ b < e.a + e.n → findL l b = (0, false, false) ∧ findL la b = (e.s + b - e.a, !e.u, true)) ∧ ∀ b, ¬ (e.a ≤ b ∧ b < e.a + e.n) → findL la b = findL l b := fun h => by
      obtain ⟨h1, h2, h3, h4, h5, h6⟩ := put_is (hra ▸ h)
      rw [hla]
      refine ⟨h4, h2, fun b hb => ⟨find_none (h6 b hb.1 hb.2), find_some h4 (by rw [h5, if_pos hb])⟩, fun b hb => find_same hrl h4 (by rw [h5, if_neg hb])⟩
    have fB : rb = 0 → right lb = true ∧ (∀ b, e.a ≤ b ∧ b < to → findL lb b = (0, false, false)) ∧ ∀ b, ¬ (e.a ≤ b ∧ b < to) → findL lb b = findL l b := fun h => by
      obtain ⟨h1, h2, h3, h4, h5⟩ := cut_is (hrb ▸ h)
      rw [hlb]
      exact ⟨h4, fun b hb => find_none (by rw [h5, if_pos hb]), fun b hb => find_same hrl h4 (by rw [h5, if_neg hb])⟩
    have fC : rc = 0 → right lc = true ∧ ∀ b, findL lc b = ((findL l b).1, (findL l b).2.1 || (decide (e.a ≤ b ∧ b < to) && (findL l b).2.2), (findL l b).2.2) := fun h => by
      obtain ⟨h1, h2, h3, h4, h5⟩ := mark_is (hrc ▸ h)
      rw [hlc]
      exact ⟨h4, fun b => find_mark hrl h4 (h5 b)⟩
    have HFA := Lib.hid fA; clear fA
    have HFB := Lib.hid fB; clear fB
    have HFC := Lib.hid fC; clear fC
    have HCHK := Lib.hid hchk; clear hchk
    have HPUT := Lib.hid hput; clear hput
    have HCUT := Lib.hid hcut; clear hcut
    have HMARK := Lib.hid hmark; clear hmark
    have HFIND := Lib.hid hfind; clear hfind
    have hrA : ra = 0 := by rw [hra]; exact hA
    have hrB : rb ≠ 0 := by rw [hrb]; exact hB
    have hrC : rc ≠ 0 := by rw [hrc]; exact hC
    clear hla hra hlb hrb hsb hlc hrc hr hrl hch he hA hB hC
    have HRC := Lib.hid hrC; clear hrC
    have HRA := Lib.hid hrA; clear hrA
    have HRB := Lib.hid hrB; clear hrB
    obtain ⟨ea, hea⟩ : ∃ ea, ea = e.a := ⟨_, rfl⟩
    obtain ⟨es, hes⟩ : ∃ es, es = e.s := ⟨_, rfl⟩
    obtain ⟨en, hen⟩ : ∃ en, en = e.n := ⟨_, rfl⟩
    obtain ⟨eu, heu⟩ : ∃ eu, eu = e.u := ⟨_, rfl⟩
    obtain ⟨EC, hEC⟩ : ∃ EC, EC = e.c := ⟨_, rfl⟩
    rw [← hEC] at HWE HPUT HLD ⊢
    rw [← hea] at HLD HCUT HMARK HFA HFB HFC
    rw [← hes] at HLD HFA
    rw [← hen] at HLD HFA
    rw [← heu] at HLD HFA
    have hmayE : e.may = true → 0 ≤ ea ∧ 1 ≤ es ∧ 1 ≤ en ∧ ea + en ≤ 256 ∧ es + en ≤ 1024 := fun h => by
      have := may_iff.1 h
      rw [hea, hes, hen]; omega
    have HMAYE := Lib.hid hmayE; clear hmayE
    clear hea hes hen heu hEC
    go_enter Try.func5, Try.ntmps5
    go_wp2_with fail
    rw [← HWE.out]
    with_reducible refine (alive_any W).mono ?_
    rintro E w1 ⟨rfl, hb1⟩
    have HB1 := Lib.hid hb1; clear hb1
    go_wp2_with fail
    with_reducible refine (HCHK.out w1 HB1.out).mono ?_
    rintro E w2 ⟨rfl, hb2⟩
    have HB2 : Hid (Below W.heap.size W w2) := Lib.hid (HB1.out.trans (hb2.mono HB1.out.size))
    have hl2 := (HLD.out w2 HB2.out).1
    clear hb2
    go_wp2_with fail
    with_reducible refine (HPUT.out w2 HB2.out).mono ?_
    rintro E w3 ⟨Aa, ca, rfl, hoa, hb3⟩
    have HB3 : Hid (Below W.heap.size W w3) := Lib.hid (HB2.out.trans (hb3.mono HB2.out.size))
    have HOA := Lib.hid hoa; clear hoa hb3 hl2
    have hl3 := (HLD.out w3 HB3.out).2.1
    go_wp2_with fail
    with_reducible refine (HCUT.out w3 HB3.out).mono ?_
    rintro E w4 ⟨Ab, cb, As, cs, rfl, hob, hos, hb4⟩
    have HB34 := Lib.hid hb4
    have HB4 : Hid (Below W.heap.size W w4) := Lib.hid (HB3.out.trans (hb4.mono HB3.out.size))
    have HOB := Lib.hid hob; clear hob hos hb4 hl3
    have hl4 := (HLD.out w4 HB4.out).2.1
    go_wp2_with fail
    with_reducible refine (HMARK.out w4 HB4.out).mono ?_
    rintro E w5 ⟨Ac, cc, rfl, hoc, hb5⟩
    have HB45 := Lib.hid hb5
    have HB5 : Hid (Below W.heap.size W w5) := Lib.hid (HB4.out.trans (hb5.mono HB4.out.size))
    have HOC := Lib.hid hoc; clear hoc hb5 hl4
    have HB35 : Hid (Below w3.heap.size w3 w5) := Lib.hid (HB34.out.trans (HB45.out.mono HB34.out.size))
    obtain ⟨na, hna⟩ : ∃ na, na = la.length := ⟨_, rfl⟩
    obtain ⟨nb, hnb⟩ : ∃ nb, nb = lb.length := ⟨_, rfl⟩
    obtain ⟨nc, hnc⟩ : ∃ nc, nc = lc.length := ⟨_, rfl⟩
    obtain ⟨ns, hns⟩ : ∃ ns, ns = sb.length := ⟨_, rfl⟩
    rw [← hna] at HOA ⊢
    rw [← hnb] at HOB ⊢
    rw [← hnc] at HOC ⊢
    rw [← hns]
    clear hna hnb hnc hns HCHK HPUT HCUT HMARK
    -- what is asked of the three, where they were answered
    have tA : ra = 0 → (∀ V, Below w5.heap.size w5 V → Calls Try.prog 16 #[.slice Aa na ca] V fun E w' => E = .returned (.int .i64 0) ∧ Below V.heap.size V w') ∧ (∀ b V, Below w5.heap.size w5 V → Calls Try.prog 24 #[.slice Aa na ca, .int .i64 b] V fun E w' => E = .returned (findV (findL la b)) ∧ Below V.heap.size V w') := fun h => by
      have hR := (HFA.out h).1
      have hch : chkX la = 0 := by unfold chkX; rw [hR]; rfl
      have hx : ∀ V, Below w5.heap.size w5 V → HoldsX V w3.heap.size Aa na la ∧ w3.heap.size ≤ V.heap.size := fun V hV => ⟨HOA.out.reads.below (HB35.out.trans (hV.mono HB35.out.size)), Nat.le_trans HB35.out.size hV.size⟩
      refine ⟨fun V hV => ?_, fun b V hV => find_any Aa na ca w3.heap.size la b V (hx V hV).1 (hx V hV).2 (rep_of_right hR) HOA.out.fits.2.1⟩
      have := check_any Aa na ca w3.heap.size la V (hx V hV).1 (hx V hV).2 (rep_of_right hR) HOA.out.fits.2.1
      rwa [hch] at this
    have tB : rb = 0 → (∀ V, Below w5.heap.size w5 V → Calls Try.prog 16 #[.slice Ab nb cb] V fun E w' => E = .returned (.int .i64 0) ∧ Below V.heap.size V w') ∧ (∀ b V, Below w5.heap.size w5 V → Calls Try.prog 24 #[.slice Ab nb cb, .int .i64 b] V fun E w' => E = .returned (findV (findL lb b)) ∧ Below V.heap.size V w') := fun h => by
      have hR := (HFB.out h).1
      have hch : chkX lb = 0 := by unfold chkX; rw [hR]; rfl
      have hx : ∀ V, Below w5.heap.size w5 V → HoldsX V w4.heap.size Ab nb lb ∧ w4.heap.size ≤ V.heap.size := fun V hV => ⟨HOB.out.reads.below (HB45.out.trans (hV.mono HB45.out.size)), Nat.le_trans HB45.out.size hV.size⟩
      refine ⟨fun V hV => ?_, fun b V hV => find_any Ab nb cb w4.heap.size lb b V (hx V hV).1 (hx V hV).2 (rep_of_right hR) HOB.out.fits.2.1⟩
      have := check_any Ab nb cb w4.heap.size lb V (hx V hV).1 (hx V hV).2 (rep_of_right hR) HOB.out.fits.2.1
      rwa [hch] at this
    have tC : rc = 0 → (∀ V, Below w5.heap.size w5 V → Calls Try.prog 16 #[.slice Ac nc cc] V fun E w' => E = .returned (.int .i64 0) ∧ Below V.heap.size V w') ∧ (∀ b V, Below w5.heap.size w5 V → Calls Try.prog 24 #[.slice Ac nc cc, .int .i64 b] V fun E w' => E = .returned (findV (findL lc b)) ∧ Below V.heap.size V w') := fun h => by
      have hR := (HFC.out h).1
      have hch : chkX lc = 0 := by unfold chkX; rw [hR]; rfl
      have hx : ∀ V, Below w5.heap.size w5 V → HoldsX V w5.heap.size Ac nc lc ∧ w5.heap.size ≤ V.heap.size := fun V hV => ⟨HOC.out.reads.below hV, hV.size⟩
      refine ⟨fun V hV => ?_, fun b V hV => find_any Ac nc cc w5.heap.size lc b V (hx V hV).1 (hx V hV).2 (rep_of_right hR) HOC.out.fits.2.1⟩
      have := check_any Ac nc cc w5.heap.size lc V (hx V hV).1 (hx V hV).2 (rep_of_right hR) HOC.out.fits.2.1
      rwa [hch] at this
    have TA := Lib.hid tA; clear tA
    have TB := Lib.hid tB; clear tB
    have TC := Lib.hid tC; clear tC
    clear HOA HOB HOC HB34 HB45 HB35 HB1 HB2 HB3 HB4
    have HW5 : Hid (∀ V, Below w5.heap.size w5 V → Below W.heap.size W V) := Lib.hid fun V hV => HB5.out.trans (hV.mono HB5.out.size)
    have hra := HRA.out
    have hrb := HRB.out
    have hrc := HRC.out
    subst hra
    have krb : (rb == 0) = false := beq_false_of_ne hrb
    have krc : (rc == 0) = false := beq_false_of_ne hrc
    obtain ⟨cA, gA⟩ := TA.out rfl
    obtain ⟨-, mA, fa1, fa2⟩ := HFA.out rfl
    obtain ⟨m1, m2, m3, m4, m5⟩ := HMAYE.out mA
    have CA := Lib.hid cA; clear cA
    have GA := Lib.hid gA; clear gA
    have FA1 := Lib.hid fa1; clear fa1
    have FA2 := Lib.hid fa2; clear fa2 mA
    have hws : IntKind.i64.wrap (ea + en) = ea + en := by rw [IntKind.wrap_i64]; omega
    clear TA TB TC HFA HFB HFC HMAYE
    have HV0 : Hid (Below w5.heap.size w5 w5) := Lib.hid (Below.refl _ _)
    go_wp2_with fail
    with_reducible refine (CA.out w5 HV0.out).mono ?_
    rintro E va ⟨rfl, hb⟩
    have HVa : Hid (Below w5.heap.size w5 va) := Lib.hid (HV0.out.trans (hb.mono HV0.out.size))
    clear hb
    go_wp2
    go_loopw [14] (fun i wr => ∃ q : Nat, q ≤ 258 ∧ i = .int .i64 ((q : Int) - 1) ∧ Below w5.heap.size w5 wr) (fun i _ => (300 - intOf i).toNat)
    case atStart => exact ⟨0, by omega, by simp, HVa.out⟩
    case round =>
      obtain ⟨q, hq, rfl, hbr⟩ := hrel
      obtain ⟨b, hb⟩ : ∃ b : Int, b = (q : Int) - 1 := ⟨_, rfl⟩
      rw [← hb]
      have HBR := Lib.hid hbr; clear hbr
      rcases Int.lt_or_le 256 b with hend | hle
      · have hend' : ¬ b ≤ 256 := by omega
        have HBF : Hid (Below w.heap.size w wr) := Lib.hid (HBW.out.trans ((HW5.out wr HBR.out).mono HBW.out.size))
        have HQ := Lib.hid hb; clear hb
        go_wp2
        go_ret
        exact ⟨rfl, HBF.out⟩
      · have hbr : -1 ≤ b ∧ b ≤ 256 := by omega
        have HNEXT : Hid (b + 1 = ((q + 1 : Nat) : Int) - 1 ∧ q + 1 ≤ 258 ∧ (300 - (b + 1)).toNat < (300 - b).toNat) := Lib.hid ⟨by omega, by omega, by omega⟩
        have hwb : IntKind.i64.wrap (b + 1) = b + 1 := by rw [IntKind.wrap_i64]; omega
        have HQ := Lib.hid hb; clear hb
        have hf0 := HFIND.out b wr (HW5.out wr HBR.out)
        obtain ⟨r0, hr0⟩ : ∃ r0, r0 = findL l b := ⟨_, rfl⟩
        rw [← hr0] at hf0
        have HR0 := Lib.hid hr0; clear hr0
        obtain ⟨x, wt, is⟩ := r0
        unfold findV at hf0
        dsimp only at hf0
        have HF0 := Lib.hid hf0; clear hf0
        obtain ⟨hb1, hb2⟩ := hbr
        go_wp2_with fail
        with_reducible refine HF0.out.mono ?_
        rintro E y1 ⟨rfl, hb⟩
        have HY1 : Hid (Below w5.heap.size w5 y1) := Lib.hid (HBR.out.trans (hb.mono HBR.out.size))
        clear hb HF0
        obtain ⟨-, d0, d1, d2, d3⟩ := HLD.out y1 (HW5.out y1 HY1.out)
        rcases Decidable.em (ea ≤ b) with p1 | p1
        · rcases Decidable.em (b < to) with p2 | p2
          · have HIN : Hid (ea ≤ b ∧ b < to) := Lib.hid ⟨p1, p2⟩
            rcases Decidable.em (b < ea + en) with o2 | o2
            · have how : ea ≤ b ∧ b < ea + en := ⟨p1, o2⟩
              obtain ⟨hr1, hr2⟩ := FA1.out b how
              rw [← HR0.out] at hr1
              simp only [Prod.mk.injEq] at hr1
              obtain ⟨hx, hwt, his⟩ := hr1
              subst hx hwt his
              have hg1 := GA.out b y1 HY1.out
              rw [hr2] at hg1
              unfold findV at hg1
              dsimp only at hg1
              have HG1 := Lib.hid hg1; clear hg1 hr2 how
              have hw1 : IntKind.i64.wrap (es + b) = es + b := by rw [IntKind.wrap_i64]; omega
              have hw2 : IntKind.i64.wrap (es + b - ea) = es + b - ea := by rw [IntKind.wrap_i64]; omega
              go_wp2_with fail
              with_reducible refine HG1.out.mono ?_
              rintro E y2 ⟨rfl, hb⟩
              have HY2 : Hid (Below w5.heap.size w5 y2) := Lib.hid (HY1.out.trans (hb.mono HY1.out.size))
              clear hb HG1
              obtain ⟨-, j0, j1, j2, j3⟩ := HLD.out y2 (HW5.out y2 HY2.out)
              cases eu
              all_goals
                go_wp2
                go_roundw
                case rel => exact ⟨q + 1, HNEXT.out.2.1, by rw [← HNEXT.out.1], HY2.out⟩
                case measure => simp only [intOf]; exact HNEXT.out.2.2
            · have hr2 := (FA2.out b (fun h => o2 h.2)).trans HR0.out.symm
              have hg1 := GA.out b y1 HY1.out
              rw [hr2] at hg1
              unfold findV at hg1
              dsimp only at hg1
              have HG1 := Lib.hid hg1; clear hg1 hr2
              go_wp2_with fail
              with_reducible refine HG1.out.mono ?_
              rintro E y2 ⟨rfl, hb⟩
              have HY2 : Hid (Below w5.heap.size w5 y2) := Lib.hid (HY1.out.trans (hb.mono HY1.out.size))
              clear hb HG1
              obtain ⟨-, j0, j1, j2, j3⟩ := HLD.out y2 (HW5.out y2 HY2.out)
              go_wp2
              go_roundw
              case rel => exact ⟨q + 1, HNEXT.out.2.1, by rw [← HNEXT.out.1], HY2.out⟩
              case measure => simp only [intOf]; exact HNEXT.out.2.2
          · have HIN : Hid (¬ (ea ≤ b ∧ b < to)) := Lib.hid (fun h => p2 h.2)
            rcases Decidable.em (b < ea + en) with o2 | o2
            · have how : ea ≤ b ∧ b < ea + en := ⟨p1, o2⟩
              obtain ⟨hr1, hr2⟩ := FA1.out b how
              rw [← HR0.out] at hr1
              simp only [Prod.mk.injEq] at hr1
              obtain ⟨hx, hwt, his⟩ := hr1
              subst hx hwt his
              have hg1 := GA.out b y1 HY1.out
              rw [hr2] at hg1
              unfold findV at hg1
              dsimp only at hg1
              have HG1 := Lib.hid hg1; clear hg1 hr2 how
              have hw1 : IntKind.i64.wrap (es + b) = es + b := by rw [IntKind.wrap_i64]; omega
              have hw2 : IntKind.i64.wrap (es + b - ea) = es + b - ea := by rw [IntKind.wrap_i64]; omega
              go_wp2_with fail
              with_reducible refine HG1.out.mono ?_
              rintro E y2 ⟨rfl, hb⟩
              have HY2 : Hid (Below w5.heap.size w5 y2) := Lib.hid (HY1.out.trans (hb.mono HY1.out.size))
              clear hb HG1
              obtain ⟨-, j0, j1, j2, j3⟩ := HLD.out y2 (HW5.out y2 HY2.out)
              cases eu
              all_goals
                go_wp2
                go_roundw
                case rel => exact ⟨q + 1, HNEXT.out.2.1, by rw [← HNEXT.out.1], HY2.out⟩
                case measure => simp only [intOf]; exact HNEXT.out.2.2
            · have hr2 := (FA2.out b (fun h => o2 h.2)).trans HR0.out.symm
              have hg1 := GA.out b y1 HY1.out
              rw [hr2] at hg1
              unfold findV at hg1
              dsimp only at hg1
              have HG1 := Lib.hid hg1; clear hg1 hr2
              go_wp2_with fail
              with_reducible refine HG1.out.mono ?_
              rintro E y2 ⟨rfl, hb⟩
              have HY2 : Hid (Below w5.heap.size w5 y2) := Lib.hid (HY1.out.trans (hb.mono HY1.out.size))
              clear hb HG1
              obtain ⟨-, j0, j1, j2, j3⟩ := HLD.out y2 (HW5.out y2 HY2.out)
              go_wp2
              go_roundw
              case rel => exact ⟨q + 1, HNEXT.out.2.1, by rw [← HNEXT.out.1], HY2.out⟩
              case measure => simp only [intOf]; exact HNEXT.out.2.2
        · have HIN : Hid (¬ (ea ≤ b ∧ b < to)) := Lib.hid (fun h => p1 h.1)
          have hr2 := (FA2.out b (fun h => p1 h.1)).trans HR0.out.symm
          have hg1 := GA.out b y1 HY1.out
          rw [hr2] at hg1
          unfold findV at hg1
          dsimp only at hg1
          have HG1 := Lib.hid hg1; clear hg1 hr2
          go_wp2_with fail
          with_reducible refine HG1.out.mono ?_
          rintro E y2 ⟨rfl, hb⟩
          have HY2 : Hid (Below w5.heap.size w5 y2) := Lib.hid (HY1.out.trans (hb.mono HY1.out.size))
          clear hb HG1
          obtain ⟨-, j0, j1, j2, j3⟩ := HLD.out y2 (HW5.out y2 HY2.out)
          go_wp2
          go_roundw
          case rel => exact ⟨q + 1, HNEXT.out.2.1, by rw [← HNEXT.out.1], HY2.out⟩
          case measure => simp only [intOf]; exact HNEXT.out.2.2
end Go.Proofs.Ytkhenchhafmlmaa.ExBlk100
