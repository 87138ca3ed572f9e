/- PathSplits: for every path, the parts that the program tells, whether it has to be a directory, and the error, are the document's. For every path within the reach of memory. -/
import Derived.Test.YtamhbjpoganhnaaPhAlive
import Derived.Test.YtamhbjpoganhnaaPhArg
import Derived.Test.YtamhbjpoganhnaaPhBack
namespace Go.Proofs.Ytamhbjpoganhnaa.PathSplits
set_option maxRecDepth 20000
open Go.ChangeShapes Go.WideShapes Go.ChangeAt Go.RowKit Go.Deep
open Go.Proofs.Ytamhbjpoganhnaa.Mem Go.Proofs.Ytamhbjpoganhnaa.Ph Go.Proofs.Ytamhbjpoganhnaa.Lf Go.Proofs.Ytamhbjpoganhnaa.Lift Go.Proofs.Ytamhbjpoganhnaa.Reg

set_option maxRecDepth 100000 in
set_option maxHeartbeats 8000000 in
theorem walk (p : List UInt8) (w : World) (hp : p.length ≤ maxLen) :
    Calls Try.prog 3 #[.string ⟨p.toArray⟩] w fun E w' => E = .returned (.bool true) ∧ Below w.heap.size w w' := by
  obtain ⟨post, hpost⟩ : ∃ post : Ending → World → Prop, post = fun E w' => E = .returned (.bool true) ∧ Below w.heap.size w w' := ⟨_, rfl⟩
  rw [← hpost]
  have HP := Lib.hid hpost; clear hpost
  have hs := fun V => split_S p V hp
  have hr := fun V => rsplit_S p V hp
  have HS := Lib.hid hs; clear hs
  have HR := Lib.hid hr; clear hr
  generalize (⟨p.toArray⟩ : ByteArray) = S at *
  go_enter Try.func3, Try.ntmps3
  go_wp2_with fail
  with_reducible refine (alive_any w).mono ?_
  rintro E1 w1 ⟨rfl, hb1⟩
  have HB1 := Lib.hid hb1; clear hb1
  go_wp2_with fail
  with_reducible refine (HS.out w1).mono ?_
  rintro E2 w2 ⟨A2, c2, rfl, ho2, hb2⟩
  have HB2 : Hid (Below w.heap.size w w2) := Lib.hid (HB1.out.trans (hb2.mono HB1.out.size))
  have HO2 := Lib.hid (ho2.reads skOk); clear ho2 hb2
  go_wp2_with fail
  with_reducible refine (HR.out w2).mono ?_
  rintro E3 w3 ⟨A3, c3, rfl, ho3, hb3⟩
  have HB3 : Hid (Below w.heap.size w w3) := Lib.hid (HB2.out.trans (hb3.mono HB2.out.size))
  have hsame := same_any A2 A3 _ _ c2 c3 _ _ (splitP p).1 (splitP p).1 w3 (HO2.out.below hb3) (ho3.reads skOk) hb3.size (Nat.le_refl _) (by
    have h1 := ho3.fits
    have : (splitP p).1.length ≤ 9223372036854775807 := by have := h1.2.2; unfold maxLen at this; omega
    by_cases h0 : (splitP p).2.2 = 0
    · have := (parts_ok h0).2.2.1
      obtain ⟨q1, q2, q3, -⟩ := parts_ok h0
      have := (joinB_bound _ q1).2
      unfold pathB at q2
      split at q2
      · rename_i he; rw [he]; simp
      · omega
    · rw [parts_not h0]; simp)
  rw [decide_eq_true rfl] at hsame
  have HSAME := Lib.hid hsame; clear hsame ho3 hb3 HO2 HS HR
  generalize (splitP p).1.length = N at *
  generalize (splitP p).2.1 = d at *
  generalize (splitP p).2.2 = e at *
  go_wp2_with fail
  with_reducible refine HSAME.out.mono ?_
  rintro E4 w4 ⟨rfl, hb4⟩
  have HB4 : Hid (Below w.heap.size w w4) := Lib.hid (HB3.out.trans (hb4.mono HB3.out.size))
  clear hb4 HSAME
  go_wp2
  rw [HP.out]
  exact ⟨by simp, HB4.out⟩

theorem walks : Walks 3 Try.f3 All := by
  intro H enc W base args ds p hval hA hsz _
  rw [Try.params3] at hA hval hsz
  obtain ⟨v0, vs0, d0, ds0, p0, q0, hargs, rfl, rfl, h0, r0⟩ := trodAll_cons hA
  obtain ⟨rfl, rfl, rfl⟩ := trodAll_nil r0
  obtain rfl : args = #[v0] := by cases args; simp_all
  obtain ⟨s0, rfl, rfl, rfl, hs0⟩ := Go.ChangeMaps.open_string Try.underlying9 (hval 0 _ v0 rfl rfl) h0
  have hz0 := sized_string hsz (j := 0) rfl rfl
  have hw := walk s0.data.toList W (by rw [show s0.data.toList.length = s0.size from Array.length_toList]; exact hs0)
  rw [text_back] at hw
  exact hw

set_option maxRecDepth 100000 in
theorem proved : Rows.PathSplitsSaid :=
  OpenClaim.holds_of_wide 3 Try.f3 rfl rfl rfl rfl rfl rfl rfl ⟨rfl, rfl, rfl, rfl, rfl⟩ rfl rfl rfl rfl rfl (by kernel_rfl) Try.func3 (by kernel_rfl)
    (of_decide_eq_true (by kernel_rfl)) (by unfold Func.isWrapper; first | (rw [if_pos (by decide +kernel)]; kernel_rfl) | (rw [if_neg (by decide +kernel)]; exact ⟨rfl, rfl⟩))
    (fun os started H enc _ => lifted (s := Rows.pathSplitsSpec) walks (by kernel_rfl) rfl rfl (fun H ds hl => by match ds, hl with | [d1], _ => rfl) (by kernel_rfl) Try.func3 os started H enc
      (ChangeSpec.witness6 (enc := enc) (C := Try.checked) false ⟨#[], #[.string ⟨#[]⟩], []⟩ 8 (by kernel_rfl) (by kernel_rfl) (by kernel_rfl) (by kernel_rfl)))
#print axioms proved
end Go.Proofs.Ytamhbjpoganhnaa.PathSplits
