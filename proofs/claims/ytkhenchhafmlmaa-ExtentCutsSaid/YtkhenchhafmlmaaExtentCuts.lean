/- ExtentCuts: for every list of extents and all bounds, what it is without some blocks, and with some written, and where a block lies, is told as the document says; and what is given is left as it was. -/
import Derived.Test.YtkhenchhafmlmaaExAlive
import Derived.Test.YtkhenchhafmlmaaExCalls
import Derived.Test.YtkhenchhafmlmaaExCut
import Derived.Test.YtkhenchhafmlmaaExMark
import Derived.Test.YtkhenchhafmlmaaExRCut
import Derived.Test.YtkhenchhafmlmaaExRMark
import Derived.Test.YtkhenchhafmlmaaExRFind
import Derived.Test.YtkhenchhafmlmaaExZero
namespace Go.Proofs.Ytkhenchhafmlmaa.ExtentCuts
set_option maxRecDepth 20000
open Go.ChangeShapes Go.WideShapes Go.ChangeAt Go.RowKit
open Go.Proofs.Ytkhenchhafmlmaa.Mem Go.Proofs.Ytkhenchhafmlmaa.Crc Go.Proofs.Ytkhenchhafmlmaa.Rec Go.Proofs.Ytkhenchhafmlmaa.Ex Go.Proofs.Ytkhenchhafmlmaa.Lift Go.Proofs.Ytkhenchhafmlmaa.Reg
attribute [local go_sem ↓] ldX_eq stX_eq eqX_eq neqX_eq ldS_eq eqS_eq neqS_eq

set_option maxRecDepth 100000 in
set_option maxHeartbeats 8000000 in
theorem walk (A : Option Addr) (n c : Nat) (l : List X) (f t : Int) (w : World) (h : HoldsX w w.heap.size A n l) (hr : ∀ x ∈ l, x.rep) (hn : n ≤ 4398046511104) (ht : t ≤ 9223372036854775807) :
    Calls Try.prog 4 #[.slice A n c, .int .i64 f, .int .i64 t] w fun E w' => E = .returned (.bool true) ∧ Below w.heap.size w w' := by
  have hh : ∀ V, Below w.heap.size w V → HoldsX V w.heap.size A n l ∧ w.heap.size ≤ V.heap.size := fun V hV => ⟨h.below hV, hV.size⟩
  obtain ⟨la, hla⟩ : ∃ la, la = (cutL l f t).1 := ⟨_, rfl⟩
  obtain ⟨sa, hsa⟩ : ∃ sa, sa = (cutL l f t).2.1 := ⟨_, rfl⟩
  obtain ⟨ra, hra⟩ : ∃ ra, ra = (cutL l f t).2.2 := ⟨_, rfl⟩
  obtain ⟨lc, hlc⟩ : ∃ lc, lc = (markL l f t).1 := ⟨_, rfl⟩
  obtain ⟨rc, hrc⟩ : ∃ rc, rc = (markL l f t).2 := ⟨_, rfl⟩
  have hcopy := fun V (hV : Below w.heap.size w V) => copied_any A n c w.heap.size l V (hh V hV).1 (hh V hV).2 hn
  have hcut := fun (A' : Option Addr) (c' B' : Nat) V (hV : HoldsX V B' A' n l) (hB : B' ≤ V.heap.size) (hc : n ≤ c') => cut_any A' n c' B' l f t V hV hB hr hc
  have hrcut := fun V (hV : Below w.heap.size w V) => rcut_any A n c w.heap.size l f t V (hh V hV).1 (hh V hV).2 hr hn ht
  have hmark := fun (A' : Option Addr) (c' B' : Nat) V (hV : HoldsX V B' A' n l) (hB : B' ≤ V.heap.size) (hc : n ≤ c') => mark_any A' n c' B' l f t V hV hB hr hc
  have hrmark := fun V (hV : Below w.heap.size w V) => rmark_any A n c w.heap.size l f t V (hh V hV).1 (hh V hV).2 hr hn
  have hfind := fun (A' : Option Addr) (c' B' : Nat) V (hV : HoldsX V B' A' n l) (hB : B' ≤ V.heap.size) (hc : n ≤ c') => find_any A' n c' B' l f V hV hB hr hc
  have hrfind := fun V (hV : Below w.heap.size w V) => rfind_any A n c w.heap.size l f V (hh V hV).1 (hh V hV).2 hr hn
  have hlena : la.length ≤ 60 ∧ sa.length ≤ 180 := by
    rw [hla, hsa]
    by_cases h0 : (cutL l f t).2.2 = 0
    · obtain ⟨h1, h2, h3, h4, _⟩ := cut_is h0
      refine ⟨(right_lin h4).2.2.2.2, ?_⟩
      rw [h3]
      have h5 : (gone (cuts l f t)).length ≤ (cuts l f t).length := by unfold gone; rw [List.length_map]; exact List.length_filter_le _ _
      have h6 := cuts_len l f t
      have h7 := (right_lin h1).2.2.2.2
      dsimp only
      omega
    · rw [(cut_err h0).1, (cut_err h0).2]; simp
  have hlenc : lc.length ≤ 60 := by
    rw [hlc]
    by_cases h0 : (markL l f t).2 = 0
    · exact (right_lin (mark_is h0).2.2.2.1).2.2.2.2
    · rw [mark_err h0]; simp
  unfold CutOut at hcut hrcut
  unfold MarkOut at hmark hrmark
  rw [← hla, ← hsa, ← hra] at hcut hrcut
  rw [← hlc, ← hrc] at hmark hrmark
  unfold findV at hfind hrfind
  generalize findL l f = fd at hfind hrfind
  obtain ⟨fx, fu, fv⟩ := fd
  dsimp only at hfind hrfind
  obtain ⟨hla60, hsa60⟩ := hlena
  have HH := Lib.hid hh; clear hh
  have HCOPY := Lib.hid hcopy; clear hcopy
  have HCUT := Lib.hid hcut; clear hcut
  have HRCUT := Lib.hid hrcut; clear hrcut
  have HMARK := Lib.hid hmark; clear hmark
  have HRMARK := Lib.hid hrmark; clear hrmark
  have HFIND := Lib.hid hfind; clear hfind
  have HRFIND := Lib.hid hrfind; clear hrfind
  clear hla hsa hra hlc hrc h hr
  go_enter Try.func4, Try.ntmps4
  go_wp2_with fail
  with_reducible refine (alive_any w).mono ?_
  rintro E w1 ⟨rfl, hb1⟩
  have HB1 := Lib.hid hb1; clear hb1
  go_wp2_with fail
  with_reducible refine (HCOPY.out w1 HB1.out).mono ?_
  rintro E w2 ⟨Ag, cg, rfl, hog, hb2⟩
  have HB2 : Hid (Below w.heap.size w w2) := Lib.hid (HB1.out.trans (hb2.mono HB1.out.size))
  have hgx := hog.reads
  have hgc := hog.fits.2.1
  have HG : Hid (∀ V, Below w2.heap.size w2 V → HoldsX V w2.heap.size Ag n l ∧ w2.heap.size ≤ V.heap.size) := Lib.hid fun V hV => ⟨hgx.below hV, hV.size⟩
  have HGC := Lib.hid hgc
  clear hog hb2 hgx hgc
  have HUP : Hid (∀ V, Below w2.heap.size w2 V → Below w.heap.size w V) := Lib.hid fun V hV => HB2.out.trans (hV.mono HB2.out.size)
  -- the program's cut
  go_wp2_with fail
  with_reducible refine (HCUT.out Ag cg w2.heap.size w2 (HG.out w2 (Below.refl _ _)).1 (Nat.le_refl _) HGC.out).mono ?_
  rintro E w3 ⟨Aa, ca, As, cs, rfl, hoa, hos, hb3⟩
  have HB3 := Lib.hid hb3
  have HOA := Lib.hid hoa
  have HOS := Lib.hid hos
  clear hoa hos hb3
  -- the document's
  go_wp2_with fail
  with_reducible refine (HRCUT.out w3 (HUP.out w3 HB3.out)).mono ?_
  rintro E w4 ⟨Ab, cb, At, ct, rfl, hob, hot, hb4⟩
  have HB34 : Hid (Below w3.heap.size w3 w4) := Lib.hid (hb4.mono (Nat.le_refl _))
  have HB4 : Hid (Below w2.heap.size w2 w4) := Lib.hid (HB3.out.trans (HB34.out.mono HB3.out.size))
  have HOA4 : Hid (OwnX w4 w2.heap.size (.slice Aa la.length ca) la) := Lib.hid (HOA.out.below HB34.out)
  have HOS4 : Hid (OwnS w4 w2.heap.size (.slice As sa.length cs) sa) := Lib.hid (HOS.out.below HB34.out)
  have HOB := Lib.hid hob
  have HOT := Lib.hid hot
  clear hob hot hb4 HOA HOS
  -- the program's mark
  go_wp2_with fail
  with_reducible refine (HMARK.out Ag cg w2.heap.size w4 (HG.out w4 HB4.out).1 HB4.out.size HGC.out).mono ?_
  rintro E w5 ⟨Ac, cc, rfl, hoc, hb5⟩
  have HB45 : Hid (Below w4.heap.size w4 w5) := Lib.hid (hb5.mono (Nat.le_refl _))
  have HB5 : Hid (Below w2.heap.size w2 w5) := Lib.hid (HB4.out.trans (HB45.out.mono HB4.out.size))
  have HOC := Lib.hid hoc
  clear hoc hb5
  -- the document's
  go_wp2_with fail
  with_reducible refine (HRMARK.out w5 (HUP.out w5 HB5.out)).mono ?_
  rintro E w6 ⟨Ad, cd, rfl, hod, hb6⟩
  have HB56 : Hid (Below w5.heap.size w5 w6) := Lib.hid (hb6.mono (Nat.le_refl _))
  have HB46 : Hid (Below w4.heap.size w4 w6) := Lib.hid (HB45.out.trans (HB56.out.mono HB45.out.size))
  have HB6 : Hid (Below w2.heap.size w2 w6) := Lib.hid (HB5.out.trans (HB56.out.mono HB5.out.size))
  have HOD := Lib.hid hod
  clear hod hb6
  -- where a block lies
  go_wp2_with fail
  with_reducible refine (HFIND.out Ag cg w2.heap.size w6 (HG.out w6 HB6.out).1 HB6.out.size HGC.out).mono ?_
  rintro E w7 ⟨rfl, hb⟩
  have HB47 : Hid (Below w4.heap.size w4 w7) := Lib.hid (HB46.out.trans (hb.mono HB46.out.size))
  have HB57 : Hid (Below w5.heap.size w5 w7) := Lib.hid (HB56.out.trans (hb.mono HB56.out.size))
  have HB67 := Lib.hid hb
  have HB7 : Hid (Below w2.heap.size w2 w7) := Lib.hid (HB6.out.trans (hb.mono HB6.out.size))
  clear hb
  go_wp2_with fail
  with_reducible refine (HRFIND.out w7 (HUP.out w7 HB7.out)).mono ?_
  rintro E w8 ⟨rfl, hb⟩
  have HB48 : Hid (Below w4.heap.size w4 w8) := Lib.hid (HB47.out.trans (hb.mono HB47.out.size))
  have HB58 : Hid (Below w5.heap.size w5 w8) := Lib.hid (HB57.out.trans (hb.mono HB57.out.size))
  have HB68 : Hid (Below w6.heap.size w6 w8) := Lib.hid (HB67.out.trans (hb.mono HB67.out.size))
  have HB8 : Hid (Below w2.heap.size w2 w8) := Lib.hid (HB7.out.trans (hb.mono HB7.out.size))
  clear hb
  -- they are the same
  have hoa8 : OwnX w8 w2.heap.size (.slice Aa la.length ca) la := HOA4.out.below HB48.out
  have hob8 := HOB.out.below HB48.out
  have hos8 : OwnS w8 w2.heap.size (.slice As sa.length cs) sa := HOS4.out.below HB48.out
  have hot8 := HOT.out.below HB48.out
  have hoc8 : OwnX w8 w4.heap.size (.slice Ac lc.length cc) lc := HOC.out.below HB58.out
  have hod8 := HOD.out.below HB68.out
  have s1 : ∀ V, Below w8.heap.size w8 V → Calls Try.prog 15 #[.slice Aa la.length ca, .slice Ab la.length cb] V fun E w' => E = .returned (.bool true) ∧ Below V.heap.size V w' := fun V hV => by
    have := same_any Aa Ab la.length la.length ca cb w8.heap.size w8.heap.size la la V (hoa8.reads.below hV) (hob8.reads.below hV) hV.size hV.size (by omega)
    rwa [decide_eq_true rfl] at this
  have s2 : ∀ V, Below w8.heap.size w8 V → Calls Try.prog 26 #[.slice As sa.length cs, .slice At sa.length ct] V fun E w' => E = .returned (.bool true) ∧ Below V.heap.size V w' := fun V hV => by
    have := sameS_any As At sa.length sa.length cs ct w8.heap.size w8.heap.size sa sa V (hos8.reads.below hV) (hot8.reads.below hV) hV.size hV.size (by omega)
    rwa [decide_eq_true rfl] at this
  have s3 : ∀ V, Below w8.heap.size w8 V → Calls Try.prog 15 #[.slice Ac lc.length cc, .slice Ad lc.length cd] V fun E w' => E = .returned (.bool true) ∧ Below V.heap.size V w' := fun V hV => by
    have := same_any Ac Ad lc.length lc.length cc cd w8.heap.size w8.heap.size lc lc V (hoc8.reads.below hV) (hod8.reads.below hV) hV.size hV.size (by omega)
    rwa [decide_eq_true rfl] at this
  obtain ⟨na, hna⟩ : ∃ na, na = la.length := ⟨_, rfl⟩
  obtain ⟨ns, hns⟩ : ∃ ns, ns = sa.length := ⟨_, rfl⟩
  obtain ⟨nc, hnc⟩ : ∃ nc, nc = lc.length := ⟨_, rfl⟩
  have hna60 : na ≤ 60 := by omega
  have hnc60 : nc ≤ 60 := by omega
  rw [← hna] at s1 hoa8 ⊢
  rw [← hns] at s2 ⊢
  rw [← hnc] at s3 hoc8 ⊢
  have HRA : Hid (0 < na → ∃ g, Aa = some ⟨g, 0, none⟩ ∧ w2.heap.size ≤ g) := Lib.hid fun h0 => by
    obtain ⟨g, e1, e2, _⟩ := RowX.of hoa8 h0
    exact ⟨g, e1, e2⟩
  have HRC : Hid (0 < nc → ∃ g, Ac = some ⟨g, 0, none⟩ ∧ w2.heap.size ≤ g) := Lib.hid fun h0 => by
    obtain ⟨g, e1, e2, _⟩ := RowX.of hoc8 h0
    exact ⟨g, e1, Nat.le_trans HB4.out.size e2⟩
  have HXA : Hid (∀ g, Aa = some ⟨g, 0, none⟩ → 0 < na → RowX w8 g na) := Lib.hid fun g e h0 => by
    obtain ⟨g', e1, e2, h3⟩ := RowX.of hoa8 h0
    rw [e1] at e
    injection e with e
    injection e with e
    rw [← e]; exact h3
  have HXC : Hid (∀ g, Ac = some ⟨g, 0, none⟩ → 0 < nc → RowX w8 g nc) := Lib.hid fun g e h0 => by
    obtain ⟨g', e1, e2, h3⟩ := RowX.of hoc8 h0
    rw [e1] at e
    injection e with e
    injection e with e
    rw [← e]; exact h3
  have HNE : Hid (0 < na → 0 < nc → ∀ g g', Aa = some ⟨g, 0, none⟩ → Ac = some ⟨g', 0, none⟩ → g ≠ g') := Lib.hid fun h0 h1 g g' e e' => by
    obtain ⟨q, e1, e2, _⟩ := RowX.of hoc8 h1
    have h4 : OwnX w4 w2.heap.size (.slice Aa na ca) la := by rw [hna]; exact HOA4.out
    obtain ⟨q', e1', _, h3'⟩ := RowX.of h4 h0
    rw [e1] at e'
    rw [e1'] at e
    injection e with e
    injection e with e
    injection e' with e'
    injection e' with e'
    have := h3'.lt
    omega
  have S1 := Lib.hid s1; clear s1
  have S2 := Lib.hid s2; clear s2
  have S3 := Lib.hid s3; clear s3
  clear hoa8 hob8 hos8 hot8 hoc8 hod8 hna hns hnc HOA4 HOS4 HOB HOT HOC HOD HB34 HB45 HB56 HB46 HB47 HB57 HB67 HB48 HB58 HB68 HB3 HB4 HB5 HB6 HB7 hla60 hsa60 hlenc HCUT HRCUT HMARK HRMARK HFIND HRFIND HCOPY HB1
  go_wp2_with fail
  with_reducible refine (S1.out w8 (Below.refl _ _)).mono ?_
  rintro E u1 ⟨rfl, hb⟩
  have HU1 := Lib.hid hb; clear hb
  go_wp2_with fail
  with_reducible refine (S2.out u1 HU1.out).mono ?_
  rintro E u2 ⟨rfl, hb⟩
  have HU2 : Hid (Below w8.heap.size w8 u2) := Lib.hid (HU1.out.trans (hb.mono HU1.out.size)); clear hb
  go_wp2_with fail
  with_reducible refine (S3.out u2 HU2.out).mono ?_
  rintro E u3 ⟨rfl, hb⟩
  have HU3 : Hid (Below w8.heap.size w8 u3) := Lib.hid (HU2.out.trans (hb.mono HU2.out.size)); clear hb
  have HB9 : Hid (Below w2.heap.size w2 u3) := Lib.hid (HB8.out.trans (HU3.out.mono HB8.out.size))
  have HXA9 : Hid (∀ g, Aa = some ⟨g, 0, none⟩ → 0 < na → RowX u3 g na) := Lib.hid fun g e h0 => (HXA.out g e h0).kept (HU3.out.block g (HXA.out g e h0).lt)
  have HXC9 : Hid (∀ g, Ac = some ⟨g, 0, none⟩ → 0 < nc → RowX u3 g nc) := Lib.hid fun g e h0 => (HXC.out g e h0).kept (HU3.out.block g (HXC.out g e h0).lt)
  clear HXA HXC S1 S2 S3 HU1 HU2 HU3 HB8
  go_wp2
  go_loopw [25] (fun v wr => ∃ i : Nat, i ≤ na ∧ v = .int .i64 (i : Int) ∧ Below w2.heap.size w2 wr ∧ (∀ g, Aa = some ⟨g, 0, none⟩ → 0 < na → RowX wr g na) ∧ (∀ g, Ac = some ⟨g, 0, none⟩ → 0 < nc → RowX wr g nc)) (fun v _ => na - (intOf v).toNat)
  case atStart => exact ⟨0, Nat.zero_le _, rfl, HB9.out, HXA9.out, HXC9.out⟩
  case round =>
    obtain ⟨i, hi, rfl, hbr, hrow, hrc⟩ := hrel
    have HBR := Lib.hid hbr; clear hbr
    have HROW := Lib.hid hrow; clear hrow
    have HRW := Lib.hid hrc; clear hrc
    rcases Nat.lt_or_ge i na with hlt | hge
    · obtain ⟨g, rfl, hbg⟩ := HRA.out (by omega)
      have hr0 := HROW.out g rfl (by omega)
      obtain ⟨V6, hst, hr6, hb6, hoth⟩ := run_stX_row wr g na i hr0 hlt
      have HB6 : Hid (Below w2.heap.size w2 V6) := Lib.hid (HBR.out.trans (hb6 _ (by omega)))
      have HR6 : Hid (∀ g', some (⟨g, 0, none⟩ : Addr) = some ⟨g', 0, none⟩ → 0 < na → RowX V6 g' na) := Lib.hid fun g' e _ => by
        injection e with e
        injection e with e
        rw [← e]; exact hr6
      have HRW6 : Hid (∀ g, Ac = some ⟨g, 0, none⟩ → 0 < nc → RowX V6 g nc) := Lib.hid fun g' e h0 => by
        have h7 := HRW.out g' e h0
        have hne := HNE.out (by omega) h0 g g' rfl e
        exact h7.kept (hoth g' (fun e => hne e.symm))
      clear hr0 hr6 hb6 hoth
      have hi0 : (0 : Int) ≤ (i : Int) := by omega
      have hi1 : (i : Int) < (na : Int) := by omega
      clear HROW
      go_wp2
      go_roundw
      case rel => exact ⟨i + 1, by omega, by go_num, HB6.out, HR6.out, HRW6.out⟩
      case measure => simp [intOf]; omega
    · have hin : i = na := by omega
      have hnl : ¬ (i : Int) < (na : Int) := by omega
      have HIN := Lib.hid hin; clear hin hi hge
      have HBA := HBR
      clear HBR HROW
      go_wp2
      go_loopw [26] (fun v wr => ∃ i : Nat, i ≤ nc ∧ v = .int .i64 (i : Int) ∧ Below w2.heap.size w2 wr ∧ (∀ g, Ac = some ⟨g, 0, none⟩ → 0 < nc → RowX wr g nc)) (fun v _ => nc - (intOf v).toNat)
      case atStart => exact ⟨0, Nat.zero_le _, rfl, HBA.out, HRW.out⟩
      case round =>
        obtain ⟨i, hi, rfl, hbr, hrow⟩ := hrel
        have HBR := Lib.hid hbr; clear hbr
        have HROW := Lib.hid hrow; clear hrow
        rcases Nat.lt_or_ge i nc with hlt | hge
        · obtain ⟨g, rfl, hbg⟩ := HRC.out (by omega)
          have hr0 := HROW.out g rfl (by omega)
          obtain ⟨V6, hst, hr6, hb6, -⟩ := run_stX_row wr g nc i hr0 hlt
          have HB6 : Hid (Below w2.heap.size w2 V6) := Lib.hid (HBR.out.trans (hb6 _ (by omega)))
          have HR6 : Hid (∀ g', some (⟨g, 0, none⟩ : Addr) = some ⟨g', 0, none⟩ → 0 < nc → RowX V6 g' nc) := Lib.hid fun g' e _ => by
            injection e with e
            injection e with e
            rw [← e]; exact hr6
          clear hr0 hr6 hb6
          have hi0 : (0 : Int) ≤ (i : Int) := by omega
          have hi1 : (i : Int) < (nc : Int) := by omega
          clear HROW
          go_wp2
          go_roundw
          case rel => exact ⟨i + 1, by omega, by go_num, HB6.out, HR6.out⟩
          case measure => simp [intOf]; omega
        · have hin : i = nc := by omega
          have hnl : ¬ (i : Int) < (nc : Int) := by omega
          have HIN := Lib.hid hin; clear hin
          have hup : Below w.heap.size w wr := HUP.out wr HBR.out
          have hss := same_any Ag A n n cg c w2.heap.size w.heap.size l l wr (HG.out wr HBR.out).1 (HH.out wr hup).1 HBR.out.size (HH.out wr hup).2 hn
          rw [decide_eq_true rfl] at hss
          have HSS := Lib.hid hss; clear hss
          have HUW := Lib.hid hup; clear hup
          go_wp2_with fail
          with_reducible refine HSS.out.mono ?_
          rintro E wz ⟨rfl, hb⟩
          have HBZ : Hid (Below w.heap.size w wz) := Lib.hid (HUW.out.trans (hb.mono HUW.out.size))
          clear hb
          go_wp2
          go_ret
          exact ⟨rfl, HBZ.out⟩

theorem walks : Walks 4 Try.f4 All := by
  intro H enc W base args ds p hval hA hsz _
  rw [Try.params4] at hA hval hsz
  obtain ⟨v0, vs0, d0, ds0, p0, q0, hargs, rfl, rfl, h0, r0⟩ := trodAll_cons hA
  obtain ⟨v1, vs1, d1, ds1, p1, q1, rfl, rfl, rfl, h1, r1⟩ := trodAll_cons r0
  obtain ⟨v2, vs2, d2, ds2, p2, q2, rfl, rfl, rfl, h2, r2⟩ := trodAll_cons r1
  obtain ⟨rfl, rfl, rfl⟩ := trodAll_nil r2
  obtain rfl : args = #[v0, v1, v2] := by cases args; simp_all
  obtain ⟨A, n, c, l, rfl, hl, hr, hn, hc⟩ := exts_open (hval 0 _ v0 rfl rfl) h0 _ (reach_exts hsz (j := 0) rfl rfl)
  obtain ⟨x1, rfl, rfl, rfl, hx1⟩ := open_int Try.underlying3 (hval 1 _ v1 rfl rfl) h1
  have bx1 := bounds_i64 hx1
  obtain ⟨x2, rfl, rfl, rfl, hx2⟩ := open_int Try.underlying3 (hval 2 _ v2 rfl rfl) h2
  have bx2 := bounds_i64 hx2
  exact walk A n c l x1 x2 W hl hr (by omega) (by omega)

set_option maxRecDepth 100000 in
theorem proved : Rows.ExtentCutsSaid :=
  OpenClaim.holds_of_wide 4 Try.f4 rfl rfl rfl rfl rfl rfl rfl ⟨rfl, rfl, rfl, rfl, rfl⟩ rfl rfl rfl rfl rfl (by kernel_rfl) Try.func4 (by kernel_rfl)
    (of_decide_eq_true (by kernel_rfl)) (by unfold Func.isWrapper; first | (rw [if_pos (by decide +kernel)]; kernel_rfl) | (rw [if_neg (by decide +kernel)]; exact ⟨rfl, rfl⟩))
    (fun os started H enc _ => lifted (s := Rows.extentCutsSpec) walks (by kernel_rfl) rfl rfl (fun H ds hl => by match ds, hl with | [d1, d2, d3], _ => rfl) (by kernel_rfl) Try.func4 os started H enc
      (ChangeSpec.witness6 (enc := enc) (C := Try.checked) false ⟨#[], #[.slice none 0 0, .int .i64 0, .int .i64 0], []⟩ 8 (by kernel_rfl) (by kernel_rfl) (by kernel_rfl) (by kernel_rfl)))
#print axioms proved
end Go.Proofs.Ytkhenchhafmlmaa.ExtentCuts
