/- ExtentPuts: for every list of extents and every extent, whether the list is right, how many nodes it needs, and what it is with the extent more, is told as the document says; and what is given is left as it was. -/
import Derived.Test.YtkhenchhafmlmaaExAlive
import Derived.Test.YtkhenchhafmlmaaExCalls
import Derived.Test.YtkhenchhafmlmaaExRPut
import Derived.Test.YtkhenchhafmlmaaExZero
namespace Go.Proofs.Ytkhenchhafmlmaa.ExtentPuts
set_option maxRecDepth 20000
open Go.ChangeShapes Go.WideShapes Go.ChangeAt Go.RowKit
open Go.Proofs.Ytkhenchhafmlmaa.Mem Go.Proofs.Ytkhenchhafmlmaa.Crc Go.Proofs.Ytkhenchhafmlmaa.Rec Go.Proofs.Ytkhenchhafmlmaa.Ex Go.Proofs.Ytkhenchhafmlmaa.Lift Go.Proofs.Ytkhenchhafmlmaa.Reg
attribute [local go_sem ↓] ldX_eq stX_eq eqX_eq neqX_eq ldS_eq eqS_eq neqS_eq

set_option maxRecDepth 100000 in
set_option maxHeartbeats 4000000 in
theorem walk (A : Option Addr) (n c : Nat) (l : List X) (e : X) (w : World) (h : HoldsX w w.heap.size A n l) (hr : ∀ x ∈ l, x.rep) (he : e.rep) (hn : n ≤ 4398046511104) :
    Calls Try.prog 3 #[.slice A n c, .agg e.c] w fun E w' => E = .returned (.bool true) ∧ Below w.heap.size w w' := by
  obtain ⟨W, hW⟩ : ∃ W, W = w.alloc (.cells e.c 24) := ⟨_, rfl⟩
  have hbw : Below w.heap.size w W := by rw [hW]; exact (Below.refl _ _).alloc (Nat.le_refl _) _
  have hve : VarX W w.heap.size e := hW ▸ VarX.new w e
  have hvl := hve.lt
  have hh : ∀ V, Below W.heap.size W V → HoldsX V w.heap.size A n l ∧ w.heap.size ≤ V.heap.size := fun V hV => ⟨h.below (hbw.trans (hV.mono hbw.size)), by have := hV.size; omega⟩
  have hld : ∀ V, Below W.heap.size W V → (ldX (.pointer (some ⟨w.heap.size, 0, none⟩))).run Try.prog V = .ok (.agg e.c) V := fun V hV => (hve.keep hV hvl).load
  have hln := h.1
  obtain ⟨la, hla⟩ : ∃ la, la = (putL l e).1 := ⟨_, rfl⟩
  obtain ⟨ra, hra⟩ : ∃ ra, ra = (putL l e).2 := ⟨_, rfl⟩
  obtain ⟨EC, hEC⟩ : ∃ EC, EC = e.c := ⟨_, rfl⟩
  have hcopy := fun V (hV : Below W.heap.size W V) => copied_any A n c w.heap.size l V (hh V hV).1 (hh V hV).2 hn
  have hput := fun (A' : Option Addr) (c' B' : Nat) V (hV : HoldsX V B' A' n l) (hB : B' ≤ V.heap.size) (hc : n ≤ c') => put_any A' n c' B' l e V hV hB hr he hc
  have hrput := fun V (hV : Below W.heap.size W V) => rput_any A n c w.heap.size l e V (hh V hV).1 (hh V hV).2 hr he hn
  have hchk := fun (A' : Option Addr) (c' B' : Nat) V (hV : HoldsX V B' A' n l) (hB : B' ≤ V.heap.size) (hc : n ≤ c') => check_any A' n c' B' l V hV hB hr hc
  have hrchk := fun V (hV : Below W.heap.size W V) => rcheck_any A n c w.heap.size l V (hh V hV).1 (hh V hV).2 hr hn
  have hneed := fun (A' : Option Addr) (c' B' : Nat) V (hV : HoldsX V B' A' n l) (hB : B' ≤ V.heap.size) (hc : n ≤ c') => need_any A' n c' B' l V hV hB hr hc
  have hrneed := fun V (hV : Below W.heap.size W V) => rneed_any A n c w.heap.size l V (hh V hV).1 (hh V hV).2 hr hn
  have hlen : la.length ≤ 60 := by
    rw [hla]
    by_cases h0 : (putL l e).2 = 0
    · exact (right_lin (put_is h0).2.2.2.1).2.2.2.2
    · rw [put_err h0]; simp
  rw [← hla, ← hra] at hput hrput
  rw [← hEC] at hput hrput hW hld ⊢
  generalize chkX l = ck at hchk hrchk
  generalize needL l = nd at hneed hrneed
  have HH := Lib.hid hh; clear hh
  have HLD := Lib.hid hld; clear hld
  have HCOPY := Lib.hid hcopy; clear hcopy
  have HPUT := Lib.hid hput; clear hput
  have HRPUT := Lib.hid hrput; clear hrput
  have HCHK := Lib.hid hchk; clear hchk
  have HRCHK := Lib.hid hrchk; clear hrchk
  have HNEED := Lib.hid hneed; clear hneed
  have HRNEED := Lib.hid hrneed; clear hrneed
  have HBW := Lib.hid hbw; clear hbw
  have HWE := Lib.hid hW; clear hW hve hla hra hEC h hr he hln
  go_enter Try.func3, Try.ntmps3
  go_wp2_with fail
  rw [← HWE.out]
  with_reducible refine (alive_any W).mono ?_
  rintro E w1 ⟨rfl, hb1⟩
  have HB1 := Lib.hid hb1; clear hb1
  go_wp2_with fail
  with_reducible refine (HCOPY.out w1 HB1.out).mono ?_
  rintro E w2 ⟨Ag, cg, rfl, hog, hb2⟩
  have HB2 : Hid (Below W.heap.size W w2) := Lib.hid (HB1.out.trans (hb2.mono HB1.out.size))
  have hgx := hog.reads
  have hgc := hog.fits.2.1
  have HG : Hid (∀ V, Below w2.heap.size w2 V → HoldsX V w2.heap.size Ag n l ∧ w2.heap.size ≤ V.heap.size) := Lib.hid fun V hV => ⟨hgx.below hV, hV.size⟩
  have HGC := Lib.hid hgc
  have hl2 := HLD.out w2 HB2.out
  clear hog hb2 hgx hgc
  go_wp2_with fail
  with_reducible refine (HPUT.out Ag cg w2.heap.size w2 (HG.out w2 (Below.refl _ _)).1 (Nat.le_refl _) HGC.out).mono ?_
  rintro E w3 ⟨Aa, ca, rfl, hoa, hb3⟩
  have HB23 := Lib.hid hb3
  have HB3 : Hid (Below W.heap.size W w3) := Lib.hid (HB2.out.trans (hb3.mono HB2.out.size))
  have HOA := Lib.hid hoa
  have hl3 := HLD.out w3 HB3.out
  clear hoa hb3 hl2
  go_wp2_with fail
  with_reducible refine (HRPUT.out w3 HB3.out).mono ?_
  rintro E w4 ⟨Ab, cb, rfl, hob, hb4⟩
  have HB24 : Hid (Below w2.heap.size w2 w4) := Lib.hid (HB23.out.trans (hb4.mono HB23.out.size))
  have HB4 : Hid (Below W.heap.size W w4) := Lib.hid (HB3.out.trans (hb4.mono HB3.out.size))
  have hoa4 : OwnX w4 w2.heap.size (.slice Aa la.length ca) la := HOA.out.below hb4
  have hsm := same_any Aa Ab la.length la.length ca cb w4.heap.size w4.heap.size la la w4 hoa4.reads hob.reads (Nat.le_refl _) (Nat.le_refl _) (by omega)
  rw [decide_eq_true rfl] at hsm
  obtain ⟨na, hna⟩ : ∃ na, na = la.length := ⟨_, rfl⟩
  rw [← hna] at hsm hoa4 hlen ⊢
  have HROWS : Hid (0 < na → ∃ g, Aa = some ⟨g, 0, none⟩ ∧ w2.heap.size ≤ g) := Lib.hid fun h0 => by
    obtain ⟨g, e1, e2, _⟩ := RowX.of hoa4 h0
    exact ⟨g, e1, e2⟩
  have HROW4 : Hid (∀ g, Aa = some ⟨g, 0, none⟩ → 0 < na → RowX w4 g na) := Lib.hid fun g e h0 => by
    obtain ⟨g', e1, e2, h3⟩ := RowX.of hoa4 h0
    rw [e1] at e
    injection e with e
    injection e with e
    rw [← e]; exact h3
  have HSM := Lib.hid hsm; clear hsm hoa4 hob hb4 hl3 hna HOA
  go_wp2_with fail
  with_reducible refine HSM.out.mono ?_
  rintro E w5 ⟨rfl, hb⟩
  have HB45 := Lib.hid hb
  have HB5 : Hid (Below W.heap.size W w5) := Lib.hid (HB4.out.trans (hb.mono HB4.out.size))
  have HB25 : Hid (Below w2.heap.size w2 w5) := Lib.hid (HB24.out.trans (hb.mono HB24.out.size))
  clear hb
  go_wp2_with fail
  with_reducible refine (HCHK.out Ag cg w2.heap.size w5 (HG.out w5 HB25.out).1 HB25.out.size HGC.out).mono ?_
  rintro E w6 ⟨rfl, hb⟩
  have HB46 : Hid (Below w4.heap.size w4 w6) := Lib.hid (HB45.out.trans (hb.mono HB45.out.size))
  have HB6 : Hid (Below W.heap.size W w6) := Lib.hid (HB5.out.trans (hb.mono HB5.out.size))
  have HB26 : Hid (Below w2.heap.size w2 w6) := Lib.hid (HB25.out.trans (hb.mono HB25.out.size))
  clear hb
  go_wp2_with fail
  with_reducible refine (HRCHK.out w6 HB6.out).mono ?_
  rintro E w7 ⟨rfl, hb⟩
  have HB47 : Hid (Below w4.heap.size w4 w7) := Lib.hid (HB46.out.trans (hb.mono HB46.out.size))
  have HB7 : Hid (Below W.heap.size W w7) := Lib.hid (HB6.out.trans (hb.mono HB6.out.size))
  have HB27 : Hid (Below w2.heap.size w2 w7) := Lib.hid (HB26.out.trans (hb.mono HB26.out.size))
  clear hb
  go_wp2_with fail
  with_reducible refine (HNEED.out Ag cg w2.heap.size w7 (HG.out w7 HB27.out).1 HB27.out.size HGC.out).mono ?_
  rintro E w8 ⟨rfl, hb⟩
  have HB48 : Hid (Below w4.heap.size w4 w8) := Lib.hid (HB47.out.trans (hb.mono HB47.out.size))
  have HB8 : Hid (Below W.heap.size W w8) := Lib.hid (HB7.out.trans (hb.mono HB7.out.size))
  have HB28 : Hid (Below w2.heap.size w2 w8) := Lib.hid (HB27.out.trans (hb.mono HB27.out.size))
  clear hb
  go_wp2_with fail
  with_reducible refine (HRNEED.out w8 HB8.out).mono ?_
  rintro E w9 ⟨rfl, hb⟩
  have HB49 : Hid (Below w4.heap.size w4 w9) := Lib.hid (HB48.out.trans (hb.mono HB48.out.size))
  have HB29 : Hid (Below w2.heap.size w2 w9) := Lib.hid (HB28.out.trans (hb.mono HB28.out.size))
  have HROW9 : Hid (∀ g, Aa = some ⟨g, 0, none⟩ → 0 < na → RowX w9 g na) := Lib.hid fun g e h0 => by
    have h4 := HROW4.out g e h0
    exact h4.kept (HB49.out.block g h4.lt)
  clear hb HROW4 HB49 HB48 HB47 HB46 HB45 HB28 HB27 HB26 HB25 HB24 HB8 HB7 HB6 HB5 HB4 HB3
  go_wp2
  go_loopw [11] (fun v wr => ∃ i : Nat, i ≤ na ∧ v = .int .i64 (i : Int) ∧ Below w2.heap.size w2 wr ∧ (∀ g, Aa = some ⟨g, 0, none⟩ → 0 < na → RowX wr g na)) (fun v _ => na - (intOf v).toNat)
  case atStart => exact ⟨0, Nat.zero_le _, rfl, HB29.out, HROW9.out⟩
  case round =>
    obtain ⟨i, hi, rfl, hbr, hrow⟩ := hrel
    have HBR := Lib.hid hbr; clear hbr
    have HROW := Lib.hid hrow; clear hrow
    rcases Nat.lt_or_ge i na with hlt | hge
    · obtain ⟨g, rfl, hbg⟩ := HROWS.out (by omega)
      have hr0 := HROW.out g rfl (by omega)
      obtain ⟨V6, hst, hr6, hb6, -⟩ := run_stX_row wr g na i hr0 hlt
      have HB6 : Hid (Below w2.heap.size w2 V6) := Lib.hid (HBR.out.trans (hb6 _ (by omega)))
      have HR6 : Hid (∀ g', some (⟨g, 0, none⟩ : Addr) = some ⟨g', 0, none⟩ → 0 < na → RowX V6 g' na) := Lib.hid fun g' e _ => by
        injection e with e
        injection e with e
        rw [← e]; exact hr6
      clear hr0 hr6 hb6
      have hi0 : (0 : Int) ≤ (i : Int) := by omega
      have hi1 : (i : Int) < (na : Int) := by omega
      clear HROW
      go_wp2
      go_roundw
      case rel => exact ⟨i + 1, by omega, by go_num, HB6.out, HR6.out⟩
      case measure => simp [intOf]; omega
    · have hin : i = na := by omega
      have hnl : ¬ (i : Int) < (na : Int) := by omega
      have HIN := Lib.hid hin; clear hin
      have hup : Below W.heap.size W wr := HB2.out.trans (HBR.out.mono HB2.out.size)
      have hss := same_any Ag A n n cg c w2.heap.size w.heap.size l l wr (HG.out wr HBR.out).1 (HH.out wr hup).1 HBR.out.size (HH.out wr hup).2 hn
      rw [decide_eq_true rfl] at hss
      have HSS := Lib.hid hss; clear hss
      have HUP : Hid (Below w.heap.size w wr) := Lib.hid (HBW.out.trans (hup.mono HBW.out.size))
      clear hup
      go_wp2_with fail
      with_reducible refine HSS.out.mono ?_
      rintro E wz ⟨rfl, hb⟩
      have HBZ : Hid (Below w.heap.size w wz) := Lib.hid (HUP.out.trans (hb.mono HUP.out.size))
      clear hb
      go_wp2
      go_ret
      exact ⟨rfl, HBZ.out⟩

theorem walks : Walks 3 Try.f3 All := by
  intro H enc W base args ds p hval hA hsz _
  rw [Try.params3] at hA hval hsz
  obtain ⟨v0, vs0, d0, ds0, p0, q0, hargs, rfl, rfl, h0, r0⟩ := trodAll_cons hA
  obtain ⟨v1, vs1, d1, ds1, p1, q1, rfl, rfl, rfl, h1, r1⟩ := trodAll_cons r0
  obtain ⟨rfl, rfl, rfl⟩ := trodAll_nil r1
  obtain rfl : args = #[v0, v1] := by cases args; simp_all
  obtain ⟨A, n, c, l, rfl, hl, hr, hn, hc⟩ := exts_open (hval 0 _ v0 rfl rfl) h0 _ (reach_exts hsz (j := 0) rfl rfl)
  obtain ⟨e, rfl, he⟩ := ext_by_value (hval 1 _ v1 rfl rfl) h1
  exact walk A n c l e W hl hr he (by omega)

set_option maxRecDepth 100000 in
theorem proved : Rows.ExtentPutsSaid :=
  OpenClaim.holds_of_wide 3 Try.f3 rfl rfl rfl rfl rfl rfl rfl ⟨rfl, rfl, rfl, rfl, rfl⟩ rfl rfl rfl rfl rfl (by kernel_rfl) Try.func3 (by kernel_rfl)
    (of_decide_eq_true (by kernel_rfl)) (by unfold Func.isWrapper; first | (rw [if_pos (by decide +kernel)]; kernel_rfl) | (rw [if_neg (by decide +kernel)]; exact ⟨rfl, rfl⟩))
    (fun os started H enc _ => lifted (s := Rows.extentPutsSpec) walks (by kernel_rfl) rfl rfl (fun H ds hl => by match ds, hl with | [d1, d2], _ => rfl) (by kernel_rfl) Try.func3 os started H enc
      (ChangeSpec.witness6 (enc := enc) (C := Try.checked) false ⟨#[], #[.slice none 0 0, .agg #[.int .i64 0, .int .i64 0, .int .i64 0, .bool false]], []⟩ 8 (by kernel_rfl) (by kernel_rfl) (by kernel_rfl) (by kernel_rfl)))
#print axioms proved
end Go.Proofs.Ytkhenchhafmlmaa.ExtentPuts
