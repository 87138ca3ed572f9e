/- PathBack: for every path, the path that is joined out of its parts has the same parts, and is no longer. For every path within the reach of memory. -/
import Derived.Test.YtamhbjpoganhnaaPhAlive
import Derived.Test.YtamhbjpoganhnaaPhArg
import Derived.Test.YtamhbjpoganhnaaPhBack
namespace Go.Proofs.Ytamhbjpoganhnaa.PathBack
set_option maxRecDepth 20000
open Go.ChangeShapes Go.WideShapes Go.ChangeAt Go.RowKit Go.Deep
open Go.Proofs.Ytamhbjpoganhnaa.Mem Go.Proofs.Ytamhbjpoganhnaa.Ph Go.Proofs.Ytamhbjpoganhnaa.Lf Go.Proofs.Ytamhbjpoganhnaa.Lift Go.Proofs.Ytamhbjpoganhnaa.Reg

set_option maxRecDepth 100000 in
set_option maxHeartbeats 8000000 in
theorem walk (p : List UInt8) (w : World) (hp : p.length ≤ maxLen) :
    Calls Try.prog 5 #[.string ⟨p.toArray⟩] w fun E w' => E = .returned (.bool true) ∧ Below w.heap.size w w' := by
  obtain ⟨post, hpost⟩ : ∃ post : Ending → World → Prop, post = fun E w' => E = .returned (.bool true) ∧ Below w.heap.size w w' := ⟨_, rfl⟩
  rw [← hpost]
  have HP := Lib.hid hpost; clear hpost
  have hs := fun V => split_S p V hp
  have hsz : (⟨p.toArray⟩ : ByteArray).size = p.length := by simp [ByteArray.size]
  have hok := @parts_ok p
  have hno := @parts_not p
  generalize splitP p = r at *
  obtain ⟨l, d, e⟩ := r
  dsimp only at hs hok hno
  have HS := Lib.hid hs; clear hs
  have HPL : Hid (∃ t, t = p ∧ t.length = p.length) := Lib.hid ⟨p, rfl, rfl⟩
  generalize (⟨p.toArray⟩ : ByteArray) = S at *
  go_enter Try.func5, Try.ntmps5
  go_wp2_with fail
  with_reducible refine (alive_any w).mono ?_
  rintro E1 w1 ⟨rfl, hb1⟩
  have HB1 := Lib.hid hb1; clear hb1
  go_wp2_with fail
  with_reducible refine (HS.out w1).mono ?_
  rintro E2 w2 ⟨A2, c2, rfl, ho2, hb2⟩
  have HB2 : Hid (Below w.heap.size w w2) := Lib.hid (HB1.out.trans (hb2.mono HB1.out.size))
  have HO2 := Lib.hid (ho2.reads skOk)
  have HC2 := Lib.hid ho2.fits
  clear ho2 hb2 HS
  rcases Decidable.em (e = 0) with h0 | h0
  rotate_left
  · have hl := hno h0
    subst hl
    have hz : (e == 0) = false := beq_false_of_ne h0
    dsimp only [List.length_nil] at *
    clear hok hno
    go_wp2
    rw [HP.out]
    exact ⟨by simp, HB2.out⟩
  obtain ⟨hall, hpl, h256, -⟩ := hok h0
  subst h0
  have hb1 := joinB_bound l hall
  have hln : l.length ≤ 256 := by
    unfold pathB at hpl
    split at hpl
    · rename_i he; rw [he]; simp
    · omega
  have hj := fun (A : Option Addr) (c B : Nat) (V : World) (h : HoldsC SK V B A l.length l) (hB : B ≤ V.heap.size) (hc : l.length ≤ c) => join_any A l.length c B l V h hB (by omega) hc (fun x hx => by have := ok_len (List.all_eq_true.1 hall x hx); unfold maxLen; omega)
  unfold Join2 at hj
  rw [join_of hall (by omega)] at hj
  have hs2 := fun V => split_S (pathB l) V (by unfold maxLen; omega)
  rw [split_path hall (by omega)] at hs2
  dsimp only at hj hs2
  have hps : (⟨(pathB l).toArray⟩ : ByteArray).size = (pathB l).length := by simp [ByteArray.size]
  have hle : ((pathB l).length : Int) ≤ (p.length : Int) := by omega
  have HS2 := Lib.hid hs2; clear hs2
  have HJ := Lib.hid hj; clear hj hall hb1 hok hno
  generalize (pathB l).length = pl at *
  generalize (⟨(pathB l).toArray⟩ : ByteArray) = PB at *
  generalize upB l = up at *
  go_wp2_with fail
  with_reducible refine (HJ.out A2 c2 w2.heap.size w2 HO2.out (Nat.le_refl _) HC2.out.2.1).mono ?_
  rintro E3 w3 ⟨rfl, hb3⟩
  have HB3 : Hid (Below w.heap.size w w3) := Lib.hid (HB2.out.trans (hb3.mono HB2.out.size))
  have HO3 := Lib.hid (HO2.out.below hb3)
  have HW3 := Lib.hid hb3.size
  clear hb3 HJ HC2 HO2
  go_wp2_with fail
  with_reducible refine (HS2.out w3).mono ?_
  rintro E4 w4 ⟨A4, c4, rfl, ho4, hb4⟩
  have HB4 : Hid (Below w.heap.size w w4) := Lib.hid (HB3.out.trans (hb4.mono HB3.out.size))
  have hsame := same_any A2 A4 _ _ c2 c4 _ _ l l w4 (HO3.out.below (hb4.mono HW3.out)) (ho4.reads skOk) (Nat.le_trans HW3.out hb4.size) (Nat.le_refl _) (by omega)
  rw [decide_eq_true rfl] at hsame
  have HSAME := Lib.hid hsame; clear hsame ho4 hb4 HO3 HS2 HW3
  generalize l.length = N at *
  go_wp2_with fail
  with_reducible refine HSAME.out.mono ?_
  rintro E5 w5 ⟨rfl, hb5⟩
  have HB5 : Hid (Below w.heap.size w w5) := Lib.hid (HB4.out.trans (hb5.mono HB4.out.size))
  clear hb5 HSAME
  go_wp2
  rw [HP.out]
  exact ⟨by simp, HB5.out⟩

theorem walks : Walks 5 Try.f5 All := by
  intro H enc W base args ds p hval hA hsz _
  rw [Try.params5] at hA hval hsz
  obtain ⟨v0, vs0, d0, ds0, p0, q0, hargs, rfl, rfl, h0, r0⟩ := trodAll_cons hA
  obtain ⟨rfl, rfl, rfl⟩ := trodAll_nil r0
  obtain rfl : args = #[v0] := by cases args; simp_all
  obtain ⟨s0, rfl, rfl, rfl, hs0⟩ := Go.ChangeMaps.open_string Try.underlying9 (hval 0 _ v0 rfl rfl) h0
  have hz0 := sized_string hsz (j := 0) rfl rfl
  have hw := walk s0.data.toList W (by rw [show s0.data.toList.length = s0.size from Array.length_toList]; exact hs0)
  rw [text_back] at hw
  exact hw

set_option maxRecDepth 100000 in
theorem proved : Rows.PathBackSaid :=
  OpenClaim.holds_of_wide 5 Try.f5 rfl rfl rfl rfl rfl rfl rfl ⟨rfl, rfl, rfl, rfl, rfl⟩ rfl rfl rfl rfl rfl (by kernel_rfl) Try.func5 (by kernel_rfl)
    (of_decide_eq_true (by kernel_rfl)) (by unfold Func.isWrapper; first | (rw [if_pos (by decide +kernel)]; kernel_rfl) | (rw [if_neg (by decide +kernel)]; exact ⟨rfl, rfl⟩))
    (fun os started H enc _ => lifted (s := Rows.pathBackSpec) walks (by kernel_rfl) rfl rfl (fun H ds hl => by match ds, hl with | [d1], _ => rfl) (by kernel_rfl) Try.func5 os started H enc
      (ChangeSpec.witness6 (enc := enc) (C := Try.checked) false ⟨#[], #[.string ⟨#[]⟩], []⟩ 8 (by kernel_rfl) (by kernel_rfl) (by kernel_rfl) (by kernel_rfl)))
#print axioms proved
end Go.Proofs.Ytamhbjpoganhnaa.PathBack
