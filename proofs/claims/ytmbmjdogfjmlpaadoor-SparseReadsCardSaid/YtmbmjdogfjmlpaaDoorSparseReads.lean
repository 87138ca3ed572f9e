/- SparseReads: for every list of runs and every two numbers: the bytes read there and the list with a hole there are as the document says, and what was given stays, whatever becomes of the answer. For every list within the reach of memory; the tables that the row lists are laid, and no call reads one. -/
import Derived.Test.YtmbmjdogfjmlpaaDoorSpArg
import Derived.Test.YtmbmjdogfjmlpaaDoorSpLaws
import Derived.ChangeMaps5
namespace Go.Proofs.YtmbmjdogfjmlpaaDoor.SparseReads
set_option maxRecDepth 20000
open Go.ChangeShapes Go.WideShapes Go.ChangeAt Go.RowKit Go.Deep
open Go.Proofs.YtmbmjdogfjmlpaaDoor.Mem Go.Proofs.YtmbmjdogfjmlpaaDoor.Rec Go.Proofs.YtmbmjdogfjmlpaaDoor.Sp Go.Proofs.YtmbmjdogfjmlpaaDoor.Lift Go.Proofs.YtmbmjdogfjmlpaaDoor.Reg
attribute [local go_sem ↓] ldX_eq stX_eq

set_option maxRecDepth 100000 in
set_option maxHeartbeats 16000000 in
theorem walk (A : Option Addr) (n c : Nat) (l : List Rn) (p m : Int) (w : World) (h : HoldsX w w.heap.size A n l) (hrep : ∀ x ∈ l, x.rep) (hn : n ≤ 5864062014634) (hp : -9223372036854775808 ≤ p ∧ p ≤ 9223372036854775807) (hm : -9223372036854775808 ≤ m ∧ m ≤ 9223372036854775807) :
    Calls Tryd.prog 4 #[.slice A n c, .int .i64 p, .int .i64 m] w fun E w' => E = .returned (.bool true) ∧ Below w.heap.size w w' := by
  obtain ⟨post, hpost⟩ : ∃ post : Ending → World → Prop, post = fun E w' => E = .returned (.bool true) ∧ Below w.heap.size w w' := ⟨_, rfl⟩
  rw [← hpost]
  have HP := Lib.hid hpost; clear hpost
  have hln := h.1
  have hh : ∀ V, Below w.heap.size w V → HoldsX V w.heap.size A n l := fun V hV => h.below hV
  have HH := Lib.hid hh; clear hh
  have HREP := Lib.hid hrep; clear hrep
  have hby := fun (A : Option Addr) (c B : Nat) (V : World) (hV : HoldsX V B A n l) (hB : B ≤ V.heap.size) => Bytes_any A n c B l p m V hV hB (by omega) HREP.out hp
  have hrby := fun (V : World) (hV : Below w.heap.size w V) => rBytes_any A n c w.heap.size l p m V (HH.out V hV) hV.size (by omega) HREP.out hp.2 hm.2
  have hze := fun (A : Option Addr) (c B : Nat) (V : World) (hV : HoldsX V B A n l) (hB : B ≤ V.heap.size) => Zero_any A n c B l p m V hV hB (by omega) HREP.out
  have hrze := fun (V : World) (hV : Below w.heap.size w V) => rZero_any A n c w.heap.size l p m V (HH.out V hV) hV.size (by omega) HREP.out hm.2
  have hRl := right_len (zeroA_right l p m)
  unfold Runs2 at hze hrze
  unfold Text2 at hby hrby
  obtain ⟨y, hy⟩ : ∃ y, y = zeroA l p m := ⟨_, rfl⟩
  simp only [← hy] at hze hrze hRl
  obtain ⟨M1, e1⟩ := y
  dsimp only at hze hrze hRl
  obtain ⟨m1, hm1⟩ : ∃ m1, m1 = M1.length := ⟨_, rfl⟩
  simp only [← hm1] at hze hrze hRl
  obtain ⟨S, hS⟩ : ∃ S : ByteArray, S = ⟨(bytesA l p m).1.toArray⟩ := ⟨_, rfl⟩
  obtain ⟨e2, he2⟩ : ∃ e2, e2 = (bytesA l p m).2 := ⟨_, rfl⟩
  simp only [← hS, ← he2] at hby hrby
  have hss : (S.toList == S.toList) = true := beq_self_eq_true _
  clear hm1 hy hS he2 hln h hp hm
  have HBY := Lib.hid hby; clear hby
  have HRBY := Lib.hid hrby; clear hrby
  have HZE := Lib.hid hze; clear hze
  have HRZE := Lib.hid hrze; clear hrze
  go_enter Tryd.func4, Tryd.ntmps4
  go_wp2_with fail
  with_reducible refine (alive_any w).mono ?_
  rintro E1 w1 ⟨rfl, hb1⟩
  have HB1 := Lib.hid hb1; clear hb1
  go_wp2_with fail
  with_reducible refine (copied_any A n c w.heap.size l w1 (HH.out w1 HB1.out) HB1.out.size (by omega)).mono ?_
  rintro E2 w2 ⟨A2, c2, rfl, ho2, hb2⟩
  have HB2 : Hid (Below w.heap.size w w2) := Lib.hid (HB1.out.trans (hb2.mono HB1.out.size))
  clear hb2
  have HGB : Hid (∀ q, (Value.slice A2 n c2).ownBlock = some q → q < w2.heap.size) := Lib.hid (fun q hq => (ho2.lt q hq).2)
  have HC := Lib.hid ho2; clear ho2
  go_wp2_with fail
  with_reducible refine (HBY.out A2 c2 w2.heap.size w2 HC.out.reads (Nat.le_refl _)).mono ?_
  rintro E3 w3 ⟨rfl, hb3⟩
  have HB3 : Hid (Below w.heap.size w w3) := Lib.hid (HB2.out.trans (hb3.mono HB2.out.size))
  have HZ3 := Lib.hid hb3.size
  have hHC3 := HC.out.below hb3
  clear HC
  have HC := Lib.hid hHC3; clear hHC3
  clear hb3
  go_wp2_with fail
  with_reducible refine (HRBY.out w3 HB3.out).mono ?_
  rintro E4 w4 ⟨rfl, hb4⟩
  have HB4 : Hid (Below w.heap.size w w4) := Lib.hid (HB3.out.trans (hb4.mono HB3.out.size))
  have HZ4 := Lib.hid hb4.size
  have hHC4 := HC.out.below hb4
  clear HC
  have HC := Lib.hid hHC4; clear hHC4
  clear hb4
  go_wp2_with fail
  with_reducible refine (HZE.out A2 c2 w4.heap.size w4 HC.out.reads (Nat.le_refl _)).mono ?_
  rintro E5 w5 ⟨A5, c5, rfl, ho5, hb5⟩
  have HB5 : Hid (Below w.heap.size w w5) := Lib.hid (HB4.out.trans (hb5.mono HB4.out.size))
  have HZ5 := Lib.hid hb5.size
  have hHC5 := HC.out.below hb5
  clear HC
  have HC := Lib.hid hHC5; clear hHC5
  clear hb5
  have HR := Lib.hid ho5; clear ho5
  go_wp2_with fail
  with_reducible refine (HRZE.out w5 HB5.out).mono ?_
  rintro E6 w6 ⟨A6, c6, rfl, ho6, hb6⟩
  have HB6 : Hid (Below w.heap.size w w6) := Lib.hid (HB5.out.trans (hb6.mono HB5.out.size))
  have HZ6 := Lib.hid hb6.size
  have hHC6 := HC.out.below hb6
  clear HC
  have HC := Lib.hid hHC6; clear hHC6
  have hHR6 := HR.out.below hb6
  clear HR
  have HR := Lib.hid hHR6; clear hHR6
  clear hb6
  have HQ := Lib.hid ho6; clear ho6
  have hs := same_any A5 A6 m1 m1 c5 c6 w6.heap.size w6.heap.size M1 M1 w6 HR.out.reads HQ.out.reads (Nat.le_refl _) (Nat.le_refl _) (by omega)
  rw [decide_eq_true rfl] at hs
  have HS7 := Lib.hid hs; clear hs
  go_wp2_with fail
  with_reducible refine (HS7.out).mono ?_
  rintro E7 w7 ⟨rfl, hb7⟩
  have HB7 : Hid (Below w.heap.size w w7) := Lib.hid (HB6.out.trans (hb7.mono HB6.out.size))
  have HZ7 := Lib.hid hb7.size
  have hHC7 := HC.out.below hb7
  clear HC
  have HC := Lib.hid hHC7; clear hHC7
  have hHR7 := HR.out.below hb7
  clear HR
  have HR := Lib.hid hHR7; clear hHR7
  have hHQ7 := HQ.out.below hb7
  clear HQ
  have HQ := Lib.hid hHQ7; clear hHQ7
  clear hb7
  have HGB4 : Hid (∀ q, (Value.slice A2 n c2).ownBlock = some q → q < w4.heap.size) := Lib.hid (fun q hq => by have := HGB.out q hq; have := HZ3.out; have := HZ4.out; omega)
  have HB24 : Hid (w.heap.size ≤ w4.heap.size) := Lib.hid (by have := HB2.out.size; have := HZ3.out; have := HZ4.out; omega)
  clear HQ
  go_wp2
  go_loopw [17] (fun i wr => ∃ (k : Nat) (M : List Rn), k ≤ m1 ∧ i = .int .i64 (k : Int) ∧ OwnX wr w4.heap.size (.slice A5 m1 c5) M ∧ OwnX wr w1.heap.size (.slice A2 n c2) l ∧ Below w.heap.size w wr) (fun i _ => m1 - (intOf i).toNat)
  case atStart => exact ⟨0, _, Nat.zero_le _, rfl, HR.out, HC.out, HB7.out⟩
  case round =>
    obtain ⟨U0, hU0⟩ : ∃ U0, U0 = wr := ⟨_, rfl⟩
    subst hU0
    obtain ⟨k, M, hk, rfl, hoa, hog, hbr⟩ := hrel
    have HOA := Lib.hid hoa; clear hoa
    have HOG := Lib.hid hog; clear hog
    have HBR := Lib.hid hbr; clear hbr
    rcases Nat.lt_or_ge k m1 with hlt | hge
    · obtain ⟨g, w11, rfl, hst, ho, hgr, hg1, hg2⟩ := zero_step HOA.out k hlt
      have HO11 := Lib.hid ho
      have HG11 : Hid (OwnX w11 w1.heap.size (.slice A2 n c2) l) := Lib.hid (HOG.out.kept (fun q hq => hgr.block q (HOG.out.lt q hq).2 (fun e => by injection e with e; have := HGB4.out q hq; omega)))
      have HB11 : Hid (Below w.heap.size w w11) := Lib.hid (HBR.out.grown hgr HBR.out.size (fun q hq => by injection hq with hq; have := HB24.out; omega))
      have hk0 : (0 : Int) ≤ (k : Int) := by omega
      have hkn : (k : Int) < (m1 : Int) := by omega
      clear ho hgr hg1 hg2
      go_wp2
      go_roundw
      case rel => exact ⟨k + 1, _, by omega, by go_num, HO11.out, HG11.out, HB11.out⟩
      case measure => simp [intOf]; omega
    · have hkn : ¬ (k : Int) < (m1 : Int) := by omega
      have hs := same_any A2 A n n c2 c U0.heap.size w.heap.size l l U0 HOG.out.reads (HH.out U0 HBR.out) (Nat.le_refl _) HBR.out.size (by omega)
      rw [decide_eq_true rfl] at hs
      have HSL := Lib.hid hs; clear hs
      go_wp2_with fail
      with_reducible refine (HSL.out).mono ?_
      rintro E99 w99 ⟨rfl, hb99⟩
      have HB99 : Hid (Below w.heap.size w w99) := Lib.hid (HBR.out.trans (hb99.mono HBR.out.size))
      clear hb99
      go_wp2
      rw [HP.out]
      exact ⟨rfl, HB99.out⟩

theorem walks : Walks 4 Tryd.f4 All := by
  intro H enc W base args ds p hval hA hsz _
  rw [Tryd.params4] at hA hval hsz
  obtain ⟨v0, vs0, d0, ds0, p0, q0, hargs, rfl, rfl, h0, r0⟩ := trodAll_cons hA
  obtain ⟨v1, vs1, d1, ds1, p1, q1, rfl, rfl, rfl, h1, r1⟩ := trodAll_cons r0
  obtain ⟨v2, vs2, d2, ds2, p2, q2, rfl, rfl, rfl, h2, r2⟩ := trodAll_cons r1
  obtain ⟨rfl, rfl, rfl⟩ := trodAll_nil r2
  obtain rfl : args = #[v0, v1, v2] := by cases args; simp_all
  obtain ⟨A0, n0, c0, l0, rfl, hl0, hr0, hn0, hc0⟩ := exts_open (hval 0 _ v0 rfl rfl) h0 _ (reach_exts hsz (j := 0) rfl rfl)
  obtain ⟨x1, rfl, rfl, rfl, hx1⟩ := open_int Tryd.underlying3 (hval 1 _ v1 rfl rfl) h1
  have bx1 := bounds_i64 hx1
  obtain ⟨x2, rfl, rfl, rfl, hx2⟩ := open_int Tryd.underlying3 (hval 2 _ v2 rfl rfl) h2
  have bx2 := bounds_i64 hx2
  exact walk A0 n0 c0 l0 x1 x2 W hl0 hr0 (by omega) bx1 bx2

theorem laid_ok (os : Os) : laidMetH Tryd.prog Rows.sparseReadsRow.laid ((World.laidAll Tryd.prog os Rows.sparseReadsRow.laid).forCall (fun _ _ => 0) ⟨#[], #[.slice none 0 0, .int .i64 0, .int .i64 0], []⟩).memory := by
  rw [MakeChecks.laidMetH_plain _ _ _ (by kernel_rfl)]
  exact laidMet_laidAll _ (by kernel_rfl) (by kernel_rfl)
theorem shaped_ok (os : Os) : ((World.laidAll Tryd.prog os Rows.sparseReadsRow.laid).forCall (fun _ _ => 0) ⟨#[], #[.slice none 0 0, .int .i64 0, .int .i64 0], []⟩).Shaped Tryd.prog := World.shaped_of_ZipB (by kernel_rfl) (by kernel_rfl)
theorem reads (os : Os) {H : Type} (enc : TypeId × Value → H) : ∃ x, DataW.whole enc Tryd.prog ((World.laidAll Tryd.prog os Rows.sparseReadsRow.laid).forCall (fun _ _ => 0) ⟨#[], #[.slice none 0 0, .int .i64 0, .int .i64 0], []⟩).memory Tryd.f4.params.toList Rows.sparseReadsSpec.vars false #[.slice none 0 0, .int .i64 0, .int .i64 0].toList 8 = some x :=
  ⟨([.nil, .lit (.int .i64 0), .lit (.int .i64 0)], [], []), by kernel_rfl⟩

set_option maxRecDepth 100000 in
theorem said : Rows.SparseReadsSaid :=
  OpenClaim.holds_of_cond 4 Tryd.f4 rfl rfl rfl rfl rfl rfl rfl ⟨rfl, rfl, rfl, rfl, rfl⟩ rfl rfl rfl rfl rfl (by kernel_rfl) Tryd.func4 (by kernel_rfl)
    (of_decide_eq_true (by kernel_rfl)) (by unfold Func.isWrapper; first | (rw [if_pos (by decide +kernel)]; kernel_rfl) | (rw [if_neg (by decide +kernel)]; exact ⟨rfl, rfl⟩))
    (fun os started H enc _ F => by
      rw [OpenClaim.pre_eq_preRow]
      obtain ⟨x, hx⟩ := reads os enc
      exact lifted_row (s := Rows.sparseReadsSpec) walks (by kernel_rfl) rfl rfl (fun H ds hl => by match ds, hl with | [d1, d2, d3], _ => rfl) (by kernel_rfl) Tryd.func4 os started H enc F
        (witness_laid (enc := enc) (C := Tryd.checked) #[.slice none 0 0, .int .i64 0, .int .i64 0] (shaped_ok os) (by kernel_rfl) (OpenSpec.preRow_of_cond 8 hx rfl (fun k hk => by cases hk) (by kernel_rfl) (laid_ok os))))
theorem plain (f : FuncId) (fn : Func) (hf : Tryd.pinned.checked.prog.funcNamed "undercroft/undercroftlaw15.SparseReads" = some f) (hfn : Tryd.pinned.checked.prog.funcs[f]? = some fn) :
    false = Tryd.pinned.checked.prog.looks [] ∧ ∀ (j : Nat) t, fn.params[j]? = some t → Tryd.pinned.checked.prog.wantsStandIn t = false := by
  obtain rfl : f = 4 := Option.some.inj ((show Tryd.prog.funcNamed "undercroft/undercroftlaw15.SparseReads" = some 4 by kernel_rfl).symm.trans hf) |>.symm
  obtain rfl : fn = Tryd.f4 := (Option.some.inj (Tryd.func4.symm.trans hfn)).symm
  refine ⟨by kernel_rfl, fun j t ht => ?_⟩
  rw [Tryd.params4] at ht
  have hall : (#[22, 3, 3].all fun u => !Tryd.prog.wantsStandIn u) = true := by kernel_rfl
  have hm := Array.all_eq_true'.1 hall t (Array.mem_of_getElem? ht)
  exact (show Tryd.prog.wantsStandIn t = false by simpa using hm)
theorem proved : Rows.SparseReadsCardSaid :=
  Claim7.holds_tied_plain_at .later [] _ _ _ _ said (fun _ h => by cases h) (by kernel_rfl) (fun _ h => by cases h) sparseReads_row_tie rfl ⟨rfl, rfl⟩ (by kernel_rfl) rfl plain (by kernel_rfl)
#print axioms proved
end Go.Proofs.YtmbmjdogfjmlpaaDoor.SparseReads
