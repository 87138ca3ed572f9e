/- LeafEncodes: the block of any list of names, its size, and whether a name may be, are what the document says, or it is refused; the list stays as it was. For every list and every text within the reach of memory. -/
import Derived.Test.YtmnajefioehheaaLfAlive
import Derived.ChangeMaps5
namespace Go.Proofs.Ytmnajefioehheaa.LeafEncodes
set_option maxRecDepth 20000
open Go.ChangeShapes Go.WideShapes Go.ChangeAt Go.RowKit
open Go.Proofs.Ytmnajefioehheaa.Mem Go.Proofs.Ytmnajefioehheaa.Crc Go.Proofs.Ytmnajefioehheaa.Rec Go.Proofs.Ytmnajefioehheaa.Lf Go.Proofs.Ytmnajefioehheaa.Lift Go.Proofs.Ytmnajefioehheaa.Reg
attribute [local go_sem ↓] ldX_eq stX_eq eqX_eq neqX_eq

set_option maxRecDepth 100000 in
set_option maxHeartbeats 8000000 in
theorem walk (A : Option Addr) (n c : Nat) (l : List Nm) (S : ByteArray) (w : World) (h : HoldsX w w.heap.size A n l) (hr : ∀ x ∈ l, x.rep) (hn : n ≤ 5864062014634) (hS : S.size ≤ maxLen) :
    Calls Try.prog 3 #[.slice A n c, .string S] w fun E w' => E = .returned (.bool true) ∧ Below w.heap.size w w' := by
  have hh : ∀ V, Below w.heap.size w V → HoldsX V w.heap.size A n l ∧ w.heap.size ≤ V.heap.size := fun V hV => ⟨h.below hV, hV.size⟩
  have hln := h.1
  have hm1 := fun V => may_any S hS V
  have hm2 := fun V => rmay_any S hS V
  obtain ⟨mb, hmb⟩ : ∃ mb, mb = may S.data.toList := ⟨_, rfl⟩
  simp only [← hmb] at hm1 hm2
  have henc := fun (A1 : Option Addr) (c1 B1 : Nat) V (hX : HoldsX V B1 A1 n l) (hB1 : B1 ≤ V.heap.size) => encode_any A1 n c1 B1 l V hX hB1 hr (by omega)
  have hrenc := fun V (hV : Below w.heap.size w V) => rencode_any A n c w.heap.size l V (hh V hV).1 (hh V hV).2 hr (by omega)
  have hsz := fun (A1 : Option Addr) (c1 B1 : Nat) V (hX : HoldsX V B1 A1 n l) (hB1 : B1 ≤ V.heap.size) => size_any A1 n c1 B1 l V hX hB1 hr (by omega)
  have hrsz := fun V (hV : Below w.heap.size w V) => rsize_any A n c w.heap.size l V (hh V hV).1 (hh V hV).2 hr (by omega)
  obtain ⟨y, hy⟩ : ∃ y, y = enc l := ⟨_, rfl⟩
  obtain ⟨z, hz⟩ : ∃ z, z = size l := ⟨_, rfl⟩
  obtain ⟨y1, y2⟩ := y
  obtain ⟨z1, z2⟩ := z
  simp only [← hy] at henc hrenc
  simp only [← hz] at hsz hrsz
  have HH := Lib.hid hh; clear hh
  have HENC := Lib.hid henc; clear henc
  have HRENC := Lib.hid hrenc; clear hrenc
  have HSZ := Lib.hid hsz; clear hsz
  have HRSZ := Lib.hid hrsz; clear hrsz
  have HM1 := Lib.hid hm1; clear hm1
  have HM2 := Lib.hid hm2; clear hm2
  clear h hy hz hmb hr hS
  go_enter Try.func3, Try.ntmps3
  go_wp2_with fail
  with_reducible refine (alive_any w).mono ?_
  rintro E w1 ⟨rfl, hb1⟩
  have HB1 := Lib.hid hb1; clear hb1
  have hb0 : Below w1.heap.size w1 (w1.alloc (.cells #[] 40)) := (Below.refl _ _).alloc (Nat.le_refl _) _
  obtain ⟨v2, w2, hrun, ho2, hg2⟩ := run_addX (w1.alloc (.cells #[] 40)) 22 w1.heap.size _ [] (ownX_empty w1) w.heap.size A n c l ((HH.out w1 HB1.out).1.below (hb0.mono HB1.out.size)) (by simpa using by omega) (by simp)
  rw [List.nil_append] at ho2
  obtain ⟨A2, c2, rfl⟩ := ho2.shape
  rw [hln] at ho2 hrun
  have hb2 : Below w1.heap.size w1 w2 := hb0.trans (hg2.below (by simp) (fun k hk => by injection hk with hk; simp at hk; omega))
  have HB2 : Hid (Below w.heap.size w w2) := Lib.hid (HB1.out.trans (hb2.mono HB1.out.size))
  have hgiv : ∀ V, Below w2.heap.size w2 V → HoldsX V w2.heap.size A2 n l ∧ w2.heap.size ≤ V.heap.size := fun V hV => ⟨ho2.reads.below hV, hV.size⟩
  have HGIV := Lib.hid hgiv; clear hgiv ho2 hg2 hb2 hb0
  go_wp2_with (at_builtin; refine wpList_apprun rfl (.tmp 16) (.tmp 17) 22 22 rfl _ _ rfl rfl _ w2 hrun ?_)
  clear hrun
  go_wp2_with fail
  with_reducible refine (HENC.out A2 c2 w2.heap.size w2 (HGIV.out w2 (Below.refl _ _)).1 (Nat.le_refl _)).mono ?_
  rintro E w3 ⟨A3, c3, rfl, ho3, hb3⟩
  have HB23 := Lib.hid hb3
  have HB3 : Hid (Below w.heap.size w w3) := Lib.hid (HB2.out.trans (hb3.mono HB2.out.size))
  have hr3 := Owned.reads ho3
  have HR3 := Lib.hid hr3; clear hr3 ho3 hb3
  go_wp2_with fail
  with_reducible refine (HRENC.out w3 HB3.out).mono ?_
  rintro E w4 ⟨A4, c4, rfl, ho4, hb4⟩
  have HB24 : Hid (Below w2.heap.size w2 w4) := Lib.hid (HB23.out.trans (hb4.mono HB23.out.size))
  have HB4 : Hid (Below w.heap.size w w4) := Lib.hid (HB3.out.trans (hb4.mono HB3.out.size))
  have hr4 := Owned.reads ho4
  have HR4 := Lib.hid hr4
  have HR34 := Lib.hid (HR3.out.below hb4)
  have H34 := Lib.hid hb4.size
  clear hr4 ho4 hb4 HR3
  go_wp2_with fail
  with_reducible refine (HSZ.out A2 c2 w2.heap.size w4 (HGIV.out w4 HB24.out).1 (HGIV.out w4 HB24.out).2).mono ?_
  rintro E w5 ⟨rfl, hb5⟩
  have HB25 : Hid (Below w2.heap.size w2 w5) := Lib.hid (HB24.out.trans (hb5.mono HB24.out.size))
  have HB5 : Hid (Below w.heap.size w w5) := Lib.hid (HB4.out.trans (hb5.mono HB4.out.size))
  have HR35 := Lib.hid (HR34.out.below (hb5.mono H34.out))
  have HR45 := Lib.hid (HR4.out.below hb5)
  have H35 : Hid (w3.heap.size ≤ w5.heap.size) := Lib.hid (Nat.le_trans H34.out hb5.size)
  have H45 := Lib.hid hb5.size
  clear hb5 HR34 HR4
  go_wp2_with fail
  with_reducible refine (HRSZ.out w5 HB5.out).mono ?_
  rintro E w6 ⟨rfl, hb6⟩
  have HB26 : Hid (Below w2.heap.size w2 w6) := Lib.hid (HB25.out.trans (hb6.mono HB25.out.size))
  have HB6 : Hid (Below w.heap.size w w6) := Lib.hid (HB5.out.trans (hb6.mono HB5.out.size))
  have t1 := run_text w6 w3.heap.size A3 y1.length c3 y1 (HR35.out.below (hb6.mono H35.out))
  have t2 := run_text w6 w4.heap.size A4 y1.length c4 y1 (HR45.out.below (hb6.mono H45.out))
  have hsame := same_any A2 A n n c2 c w2.heap.size w.heap.size l l w6 (HGIV.out w6 HB26.out).1 (HH.out w6 HB6.out).1 (HGIV.out w6 HB26.out).2 (HH.out w6 HB6.out).2 (by omega)
  rw [decide_eq_true rfl] at hsame
  have HSAME := Lib.hid hsame; clear hsame hb6 HR35 HR45
  obtain ⟨S1, hS1⟩ : ∃ S : ByteArray, S = ⟨y1.toArray⟩ := ⟨_, rfl⟩
  rw [← hS1] at t1 t2
  clear hS1
  dsimp only at t1 t2 ⊢
  generalize y1.length = ny at t1 t2 ⊢
  go_wp2_with (first | (with_reducible refine (HM1.out _).mono ?_; rintro E w' ⟨rfl, rfl⟩) | (with_reducible refine (HM2.out _).mono ?_; rintro E w' ⟨rfl, rfl⟩) | (with_reducible refine HSAME.out.mono ?_; rintro E w7 ⟨rfl, hb7⟩))
  go_ret
  exact ⟨rfl, HB6.out.trans (hb7.mono HB6.out.size)⟩

theorem walks : Walks 3 Try.f3 All := by
  intro H enc W base args ds p hval hA hsz _
  rw [Try.params3] at hA hval hsz
  obtain ⟨v0, vs0, d0, ds0, p0, q0, hargs, rfl, rfl, h0, r0⟩ := trodAll_cons hA
  obtain ⟨v1, vs1, d1, ds1, p1, q1, rfl, rfl, rfl, h1, r1⟩ := trodAll_cons r0
  obtain ⟨rfl, rfl, rfl⟩ := trodAll_nil r1
  obtain rfl : args = #[v0, v1] := by cases args; simp_all
  obtain ⟨A0, n0, c0, l0, rfl, hl0, hr0, hn0, hc0⟩ := exts_open (hval 0 _ v0 rfl rfl) h0 _ (reach_exts hsz (j := 0) rfl rfl)
  obtain ⟨s1, rfl, rfl, rfl, hs1⟩ := Go.ChangeMaps.open_string Try.underlying9 (hval 1 _ v1 rfl rfl) h1
  exact walk A0 n0 c0 l0 s1 W hl0 hr0 (by omega) hs1

set_option maxRecDepth 100000 in
theorem proved : Rows.LeafEncodesSaid :=
  OpenClaim.holds_of_wide 3 Try.f3 rfl rfl rfl rfl rfl rfl rfl ⟨rfl, rfl, rfl, rfl, rfl⟩ rfl rfl rfl rfl rfl (by kernel_rfl) Try.func3 (by kernel_rfl)
    (of_decide_eq_true (by kernel_rfl)) (by unfold Func.isWrapper; first | (rw [if_pos (by decide +kernel)]; kernel_rfl) | (rw [if_neg (by decide +kernel)]; exact ⟨rfl, rfl⟩))
    (fun os started H enc _ => lifted (s := Rows.leafEncodesSpec) walks (by kernel_rfl) rfl rfl (fun H ds hl => by match ds, hl with | [d1, d2], _ => rfl) (by kernel_rfl) Try.func3 os started H enc
      (ChangeSpec.witness6 (enc := enc) (C := Try.checked) false ⟨#[], #[.slice none 0 0, .string ⟨#[]⟩], []⟩ 8 (by kernel_rfl) (by kernel_rfl) (by kernel_rfl) (by kernel_rfl)))
#print axioms proved
end Go.Proofs.Ytmnajefioehheaa.LeafEncodes
