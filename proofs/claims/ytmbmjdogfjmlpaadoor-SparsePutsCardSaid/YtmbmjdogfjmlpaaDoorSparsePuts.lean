/- SparsePuts: for every list of runs, every place and all bytes: the runs of the bytes, the list with the bytes put in, whether the list is right and where it ends are as the document says, and what was given stays, whatever becomes of the answer. For every list within the reach of memory; the tables that the row lists are laid, and no call reads one. -/
import Derived.Test.YtmbmjdogfjmlpaaDoorSpArg
import Derived.Test.YtmbmjdogfjmlpaaDoorSpLaws
import Derived.ChangeMaps5
namespace Go.Proofs.YtmbmjdogfjmlpaaDoor.SparsePuts
set_option maxRecDepth 20000
open Go.ChangeShapes Go.WideShapes Go.ChangeAt Go.RowKit Go.Deep
open Go.Proofs.YtmbmjdogfjmlpaaDoor.Mem Go.Proofs.YtmbmjdogfjmlpaaDoor.Rec Go.Proofs.YtmbmjdogfjmlpaaDoor.Sp Go.Proofs.YtmbmjdogfjmlpaaDoor.Lift Go.Proofs.YtmbmjdogfjmlpaaDoor.Reg
attribute [local go_sem ↓] ldX_eq stX_eq

set_option maxRecDepth 100000 in
set_option maxHeartbeats 16000000 in
theorem walk (A : Option Addr) (n c : Nat) (l : List Rn) (p : Int) (d : List UInt8) (w : World) (h : HoldsX w w.heap.size A n l) (hrep : ∀ x ∈ l, x.rep) (hn : n ≤ 5864062014634) (hp : -9223372036854775808 ≤ p ∧ p ≤ 9223372036854775807) (hd : d.length ≤ maxLen) :
    Calls Tryd.prog 3 #[.slice A n c, .int .i64 p, .string ⟨d.toArray⟩] w fun E w' => E = .returned (.bool true) ∧ Below w.heap.size w w' := by
  obtain ⟨post, hpost⟩ : ∃ post : Ending → World → Prop, post = fun E w' => E = .returned (.bool true) ∧ Below w.heap.size w w' := ⟨_, rfl⟩
  rw [← hpost]
  have HP := Lib.hid hpost; clear hpost
  have hln := h.1
  have hh : ∀ V, Below w.heap.size w V → HoldsX V w.heap.size A n l := fun V hV => h.below hV
  have HH := Lib.hid hh; clear hh
  have HREP := Lib.hid hrep; clear hrep
  have hput := fun (A : Option Addr) (c B : Nat) (V : World) (hV : HoldsX V B A n l) (hB : B ≤ V.heap.size) => Put_any A n c B l p d V hV hB (by omega) HREP.out hp
  have hrput := fun (V : World) (hV : Below w.heap.size w V) => rPut_any A n c w.heap.size l p d V (HH.out V hV) hV.size (by omega) HREP.out hp hd
  have hof := fun V => Of_any d hd V
  have hrof := fun V => rOf_any d hd V
  have hck := fun (A : Option Addr) (c B : Nat) (V : World) (hV : HoldsX V B A n l) (hB : B ≤ V.heap.size) => check_any A n c B l V hV hB (by omega) HREP.out
  have hrck := fun (V : World) (hV : Below w.heap.size w V) => rcheck_any A n c w.heap.size l V (HH.out V hV) (by omega) HREP.out
  have hend := fun (A : Option Addr) (c B : Nat) (V : World) (hV : HoldsX V B A n l) (hB : B ≤ V.heap.size) => End_any A n c B l V hV hB (by omega) HREP.out
  have hrend := fun (V : World) (hV : Below w.heap.size w V) => rEnd_any A n c w.heap.size l V (HH.out V hV) (by omega) HREP.out
  have hRl := right_len (putA_right l p d)
  have hGl := right_len (ofA_right d)
  unfold Runs2 at hput hrput hof hrof
  obtain ⟨y, hy⟩ : ∃ y, y = putA l p d := ⟨_, rfl⟩
  simp only [← hy] at hput hrput hRl
  obtain ⟨z, hz⟩ : ∃ z, z = ofA d := ⟨_, rfl⟩
  simp only [← hz] at hof hrof hGl
  obtain ⟨M1, e1⟩ := y
  obtain ⟨M2, e2⟩ := z
  obtain ⟨ck, hck0⟩ : ∃ ck : Int, ck = if right l = true then 0 else 1 := ⟨_, rfl⟩
  simp only [← hck0] at hck hrck
  obtain ⟨en, hen0⟩ : ∃ en, en = endA l := ⟨_, rfl⟩
  simp only [← hen0] at hend hrend
  dsimp only at hput hrput hof hrof hRl hGl
  obtain ⟨m1, hm1⟩ : ∃ m1, m1 = M1.length := ⟨_, rfl⟩
  obtain ⟨m2, hm2⟩ : ∃ m2, m2 = M2.length := ⟨_, rfl⟩
  simp only [← hm1] at hput hrput hRl
  simp only [← hm2] at hof hrof hGl
  clear hm1 hm2 hy hz hck0 hen0 hln h hp hd
  obtain ⟨D, hD⟩ : ∃ D : ByteArray, D = ⟨d.toArray⟩ := ⟨_, rfl⟩
  simp only [← hD] at hput hrput hof hrof ⊢
  clear hD
  have HPUT := Lib.hid hput; clear hput
  have HRPUT := Lib.hid hrput; clear hrput
  have HOF := Lib.hid hof; clear hof
  have HROF := Lib.hid hrof; clear hrof
  have HCK := Lib.hid hck; clear hck
  have HRCK := Lib.hid hrck; clear hrck
  have HEND := Lib.hid hend; clear hend
  have HREND := Lib.hid hrend; clear hrend
  go_enter Tryd.func3, Tryd.ntmps3
  go_wp2_with fail
  with_reducible refine (alive_any w).mono ?_
  rintro E1 w1 ⟨rfl, hb1⟩
  have HB1 := Lib.hid hb1; clear hb1
  go_wp2_with fail
  with_reducible refine (copied_any A n c w.heap.size l w1 (HH.out w1 HB1.out) HB1.out.size (by omega)).mono ?_
  rintro E2 w2 ⟨A2, c2, rfl, ho2, hb2⟩
  have HB2 : Hid (Below w.heap.size w w2) := Lib.hid (HB1.out.trans (hb2.mono HB1.out.size))
  clear hb2
  have HGB : Hid (∀ q, (Value.slice A2 n c2).ownBlock = some q → q < w2.heap.size) := Lib.hid (fun q hq => (ho2.lt q hq).2)
  have HC := Lib.hid ho2; clear ho2
  go_wp2_with fail
  with_reducible refine (HPUT.out A2 c2 w2.heap.size w2 HC.out.reads (Nat.le_refl _)).mono ?_
  rintro E3 w3 ⟨A3, c3, rfl, ho3, hb3⟩
  have HB3 : Hid (Below w.heap.size w w3) := Lib.hid (HB2.out.trans (hb3.mono HB2.out.size))
  have HZ3 := Lib.hid hb3.size
  have hHC3 := HC.out.below hb3
  clear HC
  have HC := Lib.hid hHC3; clear hHC3
  clear hb3
  have HR := Lib.hid ho3; clear ho3
  go_wp2_with fail
  with_reducible refine (HRPUT.out w3 HB3.out).mono ?_
  rintro E4 w4 ⟨A4, c4, rfl, ho4, hb4⟩
  have HB4 : Hid (Below w.heap.size w w4) := Lib.hid (HB3.out.trans (hb4.mono HB3.out.size))
  have HZ4 := Lib.hid hb4.size
  have hHC4 := HC.out.below hb4
  clear HC
  have HC := Lib.hid hHC4; clear hHC4
  have hHR4 := HR.out.below hb4
  clear HR
  have HR := Lib.hid hHR4; clear hHR4
  clear hb4
  have HQ := Lib.hid ho4; clear ho4
  go_wp2_with fail
  with_reducible refine (HOF.out w4).mono ?_
  rintro E5 w5 ⟨A5, c5, rfl, ho5, hb5⟩
  have HB5 : Hid (Below w.heap.size w w5) := Lib.hid (HB4.out.trans (hb5.mono HB4.out.size))
  have HZ5 := Lib.hid hb5.size
  have hHC5 := HC.out.below hb5
  clear HC
  have HC := Lib.hid hHC5; clear hHC5
  have hHR5 := HR.out.below hb5
  clear HR
  have HR := Lib.hid hHR5; clear hHR5
  have hHQ5 := HQ.out.below hb5
  clear HQ
  have HQ := Lib.hid hHQ5; clear hHQ5
  clear hb5
  have HG := Lib.hid ho5; clear ho5
  go_wp2_with fail
  with_reducible refine (HROF.out w5).mono ?_
  rintro E6 w6 ⟨A6, c6, rfl, ho6, hb6⟩
  have HB6 : Hid (Below w.heap.size w w6) := Lib.hid (HB5.out.trans (hb6.mono HB5.out.size))
  have HZ6 := Lib.hid hb6.size
  have hHC6 := HC.out.below hb6
  clear HC
  have HC := Lib.hid hHC6; clear hHC6
  have hHR6 := HR.out.below hb6
  clear HR
  have HR := Lib.hid hHR6; clear hHR6
  have hHQ6 := HQ.out.below hb6
  clear HQ
  have HQ := Lib.hid hHQ6; clear hHQ6
  have hHG6 := HG.out.below hb6
  clear HG
  have HG := Lib.hid hHG6; clear hHG6
  clear hb6
  have HD := Lib.hid ho6; clear ho6
  have hs := same_any A3 A4 m1 m1 c3 c4 w6.heap.size w6.heap.size M1 M1 w6 HR.out.reads HQ.out.reads (Nat.le_refl _) (Nat.le_refl _) (by omega)
  rw [decide_eq_true rfl] at hs
  have HS7 := Lib.hid hs; clear hs
  go_wp2_with fail
  with_reducible refine (HS7.out).mono ?_
  rintro E7 w7 ⟨rfl, hb7⟩
  have HB7 : Hid (Below w.heap.size w w7) := Lib.hid (HB6.out.trans (hb7.mono HB6.out.size))
  have HZ7 := Lib.hid hb7.size
  have hHC7 := HC.out.below hb7
  clear HC
  have HC := Lib.hid hHC7; clear hHC7
  have hHR7 := HR.out.below hb7
  clear HR
  have HR := Lib.hid hHR7; clear hHR7
  have hHQ7 := HQ.out.below hb7
  clear HQ
  have HQ := Lib.hid hHQ7; clear hHQ7
  have hHG7 := HG.out.below hb7
  clear HG
  have HG := Lib.hid hHG7; clear hHG7
  have hHD7 := HD.out.below hb7
  clear HD
  have HD := Lib.hid hHD7; clear hHD7
  clear hb7
  have hs := same_any A5 A6 m2 m2 c5 c6 w7.heap.size w7.heap.size M2 M2 w7 HG.out.reads HD.out.reads (Nat.le_refl _) (Nat.le_refl _) (by omega)
  rw [decide_eq_true rfl] at hs
  have HS8 := Lib.hid hs; clear hs
  go_wp2_with fail
  with_reducible refine (HS8.out).mono ?_
  rintro E8 w8 ⟨rfl, hb8⟩
  have HB8 : Hid (Below w.heap.size w w8) := Lib.hid (HB7.out.trans (hb8.mono HB7.out.size))
  have HZ8 := Lib.hid hb8.size
  have hHC8 := HC.out.below hb8
  clear HC
  have HC := Lib.hid hHC8; clear hHC8
  have hHR8 := HR.out.below hb8
  clear HR
  have HR := Lib.hid hHR8; clear hHR8
  have hHQ8 := HQ.out.below hb8
  clear HQ
  have HQ := Lib.hid hHQ8; clear hHQ8
  have hHG8 := HG.out.below hb8
  clear HG
  have HG := Lib.hid hHG8; clear hHG8
  have hHD8 := HD.out.below hb8
  clear HD
  have HD := Lib.hid hHD8; clear hHD8
  clear hb8
  go_wp2_with fail
  with_reducible refine (HCK.out A2 c2 w8.heap.size w8 HC.out.reads (Nat.le_refl _)).mono ?_
  rintro E9 w9 ⟨rfl, hb9⟩
  have HB9 : Hid (Below w.heap.size w w9) := Lib.hid (HB8.out.trans (hb9.mono HB8.out.size))
  have HZ9 := Lib.hid hb9.size
  have hHC9 := HC.out.below hb9
  clear HC
  have HC := Lib.hid hHC9; clear hHC9
  have hHR9 := HR.out.below hb9
  clear HR
  have HR := Lib.hid hHR9; clear hHR9
  have hHQ9 := HQ.out.below hb9
  clear HQ
  have HQ := Lib.hid hHQ9; clear hHQ9
  have hHG9 := HG.out.below hb9
  clear HG
  have HG := Lib.hid hHG9; clear hHG9
  have hHD9 := HD.out.below hb9
  clear HD
  have HD := Lib.hid hHD9; clear hHD9
  clear hb9
  go_wp2_with fail
  with_reducible refine (HRCK.out w9 HB9.out).mono ?_
  rintro E10 w10 ⟨rfl, rfl⟩
  go_wp2_with fail
  with_reducible refine (HEND.out A2 c2 _ _ HC.out.reads (Nat.le_refl _)).mono ?_
  rintro E11 w11 ⟨rfl, hb11⟩
  have HB11 : Hid (Below w.heap.size w w11) := Lib.hid (HB9.out.trans (hb11.mono HB9.out.size))
  have hHC11 := HC.out.below hb11
  clear HC
  have HC := Lib.hid hHC11; clear hHC11
  have hHR11 := HR.out.below hb11
  clear HR
  have HR := Lib.hid hHR11; clear hHR11
  clear hb11
  go_wp2_with fail
  with_reducible refine (HREND.out w11 HB11.out).mono ?_
  rintro E12 w12 ⟨rfl, hb12⟩
  have HB12 : Hid (Below w.heap.size w w12) := Lib.hid (HB11.out.trans (hb12.mono HB11.out.size))
  have hHC12 := HC.out.below hb12
  clear HC
  have HC := Lib.hid hHC12; clear hHC12
  have hHR12 := HR.out.below hb12
  clear HR
  have HR := Lib.hid hHR12; clear hHR12
  clear hb12 HQ HG HD
  go_wp2
  go_loopw [17] (fun i wr => ∃ (k : Nat) (M : List Rn), k ≤ m1 ∧ i = .int .i64 (k : Int) ∧ OwnX wr w2.heap.size (.slice A3 m1 c3) M ∧ OwnX wr w1.heap.size (.slice A2 n c2) l ∧ Below w.heap.size w wr) (fun i _ => m1 - (intOf i).toNat)
  case atStart => exact ⟨0, _, Nat.zero_le _, rfl, HR.out, HC.out, HB12.out⟩
  case round =>
    obtain ⟨U0, hU0⟩ : ∃ U0, U0 = wr := ⟨_, rfl⟩
    subst hU0
    obtain ⟨k, M, hk, rfl, hoa, hog, hbr⟩ := hrel
    have HOA := Lib.hid hoa; clear hoa
    have HOG := Lib.hid hog; clear hog
    have HBR := Lib.hid hbr; clear hbr
    rcases Nat.lt_or_ge k m1 with hlt | hge
    · obtain ⟨g, w11, rfl, hst, ho, hgr, hg1, hg2⟩ := zero_step HOA.out k hlt
      have HO11 := Lib.hid ho
      have HG11 : Hid (OwnX w11 w1.heap.size (.slice A2 n c2) l) := Lib.hid (HOG.out.kept (fun q hq => hgr.block q (HOG.out.lt q hq).2 (fun e => by injection e with e; have := HGB.out q hq; omega)))
      have HB11 : Hid (Below w.heap.size w w11) := Lib.hid (HBR.out.grown hgr HBR.out.size (fun q hq => by injection hq with hq; have := HB2.out.size; omega))
      have hk0 : (0 : Int) ≤ (k : Int) := by omega
      have hkn : (k : Int) < (m1 : Int) := by omega
      clear ho hgr hg1 hg2
      go_wp2
      go_roundw
      case rel => exact ⟨k + 1, _, by omega, by go_num, HO11.out, HG11.out, HB11.out⟩
      case measure => simp [intOf]; omega
    · have hkn : ¬ (k : Int) < (m1 : Int) := by omega
      have hs := same_any A2 A n n c2 c U0.heap.size w.heap.size l l U0 HOG.out.reads (HH.out U0 HBR.out) (Nat.le_refl _) HBR.out.size (by omega)
      rw [decide_eq_true rfl] at hs
      have HSL := Lib.hid hs; clear hs
      go_wp2_with fail
      with_reducible refine (HSL.out).mono ?_
      rintro E99 w99 ⟨rfl, hb99⟩
      have HB99 : Hid (Below w.heap.size w w99) := Lib.hid (HBR.out.trans (hb99.mono HBR.out.size))
      clear hb99
      go_wp2
      rw [HP.out]
      exact ⟨rfl, HB99.out⟩

theorem walks : Walks 3 Tryd.f3 All := by
  intro H enc W base args ds p hval hA hsz _
  rw [Tryd.params3] at hA hval hsz
  obtain ⟨v0, vs0, d0, ds0, p0, q0, hargs, rfl, rfl, h0, r0⟩ := trodAll_cons hA
  obtain ⟨v1, vs1, d1, ds1, p1, q1, rfl, rfl, rfl, h1, r1⟩ := trodAll_cons r0
  obtain ⟨v2, vs2, d2, ds2, p2, q2, rfl, rfl, rfl, h2, r2⟩ := trodAll_cons r1
  obtain ⟨rfl, rfl, rfl⟩ := trodAll_nil r2
  obtain rfl : args = #[v0, v1, v2] := by cases args; simp_all
  obtain ⟨A0, n0, c0, l0, rfl, hl0, hr0, hn0, hc0⟩ := exts_open (hval 0 _ v0 rfl rfl) h0 _ (reach_exts hsz (j := 0) rfl rfl)
  obtain ⟨x1, rfl, rfl, rfl, hx1⟩ := open_int Tryd.underlying3 (hval 1 _ v1 rfl rfl) h1
  have bx1 := bounds_i64 hx1
  obtain ⟨s2, rfl, rfl, rfl, hs2⟩ := Go.ChangeMaps.open_string Tryd.underlying9 (hval 2 _ v2 rfl rfl) h2
  have hz2 := sized_string hsz (j := 2) rfl rfl
  have hw := walk A0 n0 c0 l0 x1 s2.data.toList W hl0 hr0 (by omega) bx1 (by rw [show s2.data.toList.length = s2.size from Array.length_toList]; exact hs2)
  rw [text_back] at hw
  exact hw

theorem laid_ok (os : Os) : laidMetH Tryd.prog Rows.sparsePutsRow.laid ((World.laidAll Tryd.prog os Rows.sparsePutsRow.laid).forCall (fun _ _ => 0) ⟨#[], #[.slice none 0 0, .int .i64 0, .string ⟨#[]⟩], []⟩).memory := by
  rw [MakeChecks.laidMetH_plain _ _ _ (by kernel_rfl)]
  exact laidMet_laidAll _ (by kernel_rfl) (by kernel_rfl)
theorem shaped_ok (os : Os) : ((World.laidAll Tryd.prog os Rows.sparsePutsRow.laid).forCall (fun _ _ => 0) ⟨#[], #[.slice none 0 0, .int .i64 0, .string ⟨#[]⟩], []⟩).Shaped Tryd.prog := World.shaped_of_ZipB (by kernel_rfl) (by kernel_rfl)
theorem reads (os : Os) {H : Type} (enc : TypeId × Value → H) : ∃ x, DataW.whole enc Tryd.prog ((World.laidAll Tryd.prog os Rows.sparsePutsRow.laid).forCall (fun _ _ => 0) ⟨#[], #[.slice none 0 0, .int .i64 0, .string ⟨#[]⟩], []⟩).memory Tryd.f3.params.toList Rows.sparsePutsSpec.vars false #[.slice none 0 0, .int .i64 0, .string ⟨#[]⟩].toList 8 = some x :=
  ⟨([.nil, .lit (.int .i64 0), .lit (.string [])], [], []), by kernel_rfl⟩

set_option maxRecDepth 100000 in
theorem said : Rows.SparsePutsSaid :=
  OpenClaim.holds_of_cond 3 Tryd.f3 rfl rfl rfl rfl rfl rfl rfl ⟨rfl, rfl, rfl, rfl, rfl⟩ rfl rfl rfl rfl rfl (by kernel_rfl) Tryd.func3 (by kernel_rfl)
    (of_decide_eq_true (by kernel_rfl)) (by unfold Func.isWrapper; first | (rw [if_pos (by decide +kernel)]; kernel_rfl) | (rw [if_neg (by decide +kernel)]; exact ⟨rfl, rfl⟩))
    (fun os started H enc _ F => by
      rw [OpenClaim.pre_eq_preRow]
      obtain ⟨x, hx⟩ := reads os enc
      exact lifted_row (s := Rows.sparsePutsSpec) walks (by kernel_rfl) rfl rfl (fun H ds hl => by match ds, hl with | [d1, d2, d3], _ => rfl) (by kernel_rfl) Tryd.func3 os started H enc F
        (witness_laid (enc := enc) (C := Tryd.checked) #[.slice none 0 0, .int .i64 0, .string ⟨#[]⟩] (shaped_ok os) (by kernel_rfl) (OpenSpec.preRow_of_cond 8 hx rfl (fun k hk => by cases hk) (by kernel_rfl) (laid_ok os))))
theorem plain (f : FuncId) (fn : Func) (hf : Tryd.pinned.checked.prog.funcNamed "undercroft/undercroftlaw15.SparsePuts" = some f) (hfn : Tryd.pinned.checked.prog.funcs[f]? = some fn) :
    false = Tryd.pinned.checked.prog.looks [] ∧ ∀ (j : Nat) t, fn.params[j]? = some t → Tryd.pinned.checked.prog.wantsStandIn t = false := by
  obtain rfl : f = 3 := Option.some.inj ((show Tryd.prog.funcNamed "undercroft/undercroftlaw15.SparsePuts" = some 3 by kernel_rfl).symm.trans hf) |>.symm
  obtain rfl : fn = Tryd.f3 := (Option.some.inj (Tryd.func3.symm.trans hfn)).symm
  refine ⟨by kernel_rfl, fun j t ht => ?_⟩
  rw [Tryd.params3] at ht
  have hall : (#[22, 3, 9].all fun u => !Tryd.prog.wantsStandIn u) = true := by kernel_rfl
  have hm := Array.all_eq_true'.1 hall t (Array.mem_of_getElem? ht)
  exact (show Tryd.prog.wantsStandIn t = false by simpa using hm)
theorem proved : Rows.SparsePutsCardSaid :=
  Claim7.holds_tied_plain_at .later [] _ _ _ _ said (fun _ h => by cases h) (by kernel_rfl) (fun _ h => by cases h) sparsePuts_row_tie rfl ⟨rfl, rfl⟩ (by kernel_rfl) rfl plain (by kernel_rfl)
#print axioms proved
end Go.Proofs.YtmbmjdogfjmlpaaDoor.SparsePuts
