/- The law's fixed fact; a copy of a list. -/
import Derived.Test.YtmbmjdogfjmlpaaDoorSpBytes
import Derived.Test.YtmbmjdogfjmlpaaDoorSpSame
namespace Go.Proofs.YtmbmjdogfjmlpaaDoor.Sp
set_option maxRecDepth 20000
open Go.RowKit
open Go.Proofs.YtmbmjdogfjmlpaaDoor.Mem Go.Proofs.YtmbmjdogfjmlpaaDoor.Rec Go.Proofs.YtmbmjdogfjmlpaaDoor.Reg
attribute [local go_sem ↓] ldX_eq stX_eq eqX_eq neqX_eq

def L2 : List Rn := [⟨0, [97]⟩, ⟨2, [98, 99]⟩]
def M1 : List Rn := [⟨0, [97, 120, 121, 99]⟩]
theorem ofL : ofA [97, 0, 98, 99] = (L2, 0) := by decide +kernel
theorem putM : putA L2 1 [120, 121] = (M1, 0) := by decide +kernel
theorem bytesM : bytesA M1 0 5 = ([97, 120, 121, 99, 0], 0) := by decide +kernel
theorem endM : endA L2 = 4 := by decide +kernel
theorem repL {l : List Rn} (h : right l = true) : ∀ x ∈ l, x.rep := fun x hx => (okE_right (Int.le_refl 0) h x hx).1

set_option maxRecDepth 100000 in
set_option maxHeartbeats 8000000 in
theorem alive_any (w : World) :
    Calls Tryd.prog 9 #[] w fun e w' => e = .returned (.bool true) ∧ Below w.heap.size w w' := by
  obtain ⟨post, hpost⟩ : ∃ post : Ending → World → Prop, post = fun e w' => e = .returned (.bool true) ∧ Below w.heap.size w w' := ⟨_, rfl⟩
  rw [← hpost]
  have HP := Lib.hid hpost; clear hpost
  have hof := Of_any [97, 0, 98, 99] (by unfold maxLen; decide) w
  rw [ofL] at hof
  have HOF := Lib.hid hof; clear hof
  go_enter Tryd.func9, Tryd.ntmps9
  go_wp2_with fail
  with_reducible refine HOF.out.mono ?_
  rintro E1 w1 ⟨A1, c1, rfl, ho1, hb1⟩
  dsimp only at ho1 ⊢
  have HB1 := Lib.hid hb1; clear hb1
  have HO1 := Lib.hid ho1; clear ho1
  rw [show L2.length = 2 from rfl] at HO1 ⊢
  have hput := Put_any A1 2 c1 w1.heap.size L2 1 [120, 121] w1 HO1.out.reads (Nat.le_refl _) (by omega) (repL (by decide +kernel)) (by omega)
  rw [putM] at hput
  have HPUT := Lib.hid hput; clear hput
  go_wp2_with fail
  with_reducible refine HPUT.out.mono ?_
  rintro E2 w2 ⟨A2, c2, rfl, ho2, hb2⟩
  dsimp only at ho2 ⊢
  have HB2 := Lib.hid (HB1.out.trans (hb2.mono HB1.out.size))
  have HO12 := Lib.hid (HO1.out.below hb2); clear hb2
  have HO2 := Lib.hid ho2; clear ho2
  rw [show M1.length = 1 from rfl] at HO2 ⊢
  have hby := Bytes_any A2 1 c2 w2.heap.size M1 0 5 w2 HO2.out.reads (Nat.le_refl _) (by omega) (repL (by decide +kernel)) (by omega)
  rw [bytesM] at hby
  have HBY := Lib.hid hby; clear hby
  go_wp2_with fail
  with_reducible refine HBY.out.mono ?_
  rintro E3 w3 ⟨rfl, hb3⟩
  have HB3 := Lib.hid (HB2.out.trans (hb3.mono HB2.out.size))
  have ho3 := HO12.out.below hb3
  clear hb3
  obtain ⟨g, rfl, _, _, _⟩ := ho3.form (by omega)
  have hld := run_ldX_at ho3.reads 1 (by decide) (0 + 1 * 2) rfl
  rw [show (L2[1]'(by decide)).c = #[.int .i64 2, .string ⟨#[98, 99]⟩] from rfl] at hld
  have hld' : (ldX (.pointer (some ⟨g, 2, none⟩))).run Tryd.prog w3 = .ok (.agg #[.int .i64 2, .string ⟨#[98, 99]⟩]) w3 := hld
  have heq : (eqX (.agg #[.int .i64 2, .string ⟨#[98, 99]⟩]) (.agg #[.int .i64 2, .string ⟨#[98, 99]⟩])).run Tryd.prog w3 = .ok (.bool true) w3 := by
    have := run_eqX w3 ⟨2, [98, 99]⟩ ⟨2, [98, 99]⟩
    rw [decide_eq_true rfl] at this
    exact this
  have hend := End_any (some ⟨g, 0, none⟩) 2 c1 w3.heap.size L2 w3 ho3.reads (Nat.le_refl _) (by omega) (repL (by decide +kernel))
  rw [endM] at hend
  have HEND := Lib.hid hend; clear hend hld ho3
  go_wp2_with fail
  with_reducible refine HEND.out.mono ?_
  rintro E4 w4 ⟨rfl, hb4⟩
  have HB4 := Lib.hid (HB3.out.trans (hb4.mono HB3.out.size))
  clear hb4 hld' heq
  go_wp2
  rw [HP.out]
  exact ⟨rfl, HB4.out⟩
set_option maxHeartbeats 4000000 in
theorem copied_any (A : Option Addr) (n c B : Nat) (l : List Rn) (w : World) (h : HoldsX w B A n l) (hB : B ≤ w.heap.size) (hn : n ≤ 5864062014800) :
    Calls Tryd.prog 10 #[.slice A n c] w fun e w' => ∃ A' c', e = .returned (.slice A' n c') ∧ OwnX w' w.heap.size (.slice A' n c') l ∧ Below w.heap.size w w' := by
  have hln := h.1
  obtain ⟨post, hpost⟩ : ∃ post : Ending → World → Prop, post = fun e w' => ∃ A' c', e = .returned (.slice A' n c') ∧ OwnX w' w.heap.size (.slice A' n c') l ∧ Below w.heap.size w w' := ⟨_, rfl⟩
  rw [← hpost]
  have HP := Lib.hid hpost; clear hpost
  obtain ⟨v2, w2, hrun, ho2, hg2⟩ := run_addX (w.alloc (.cells #[] 33)) 22 w.heap.size _ [] (ownX_empty w) B A n c l (h.below (((Below.refl _ w).alloc (Nat.le_refl _) _).mono hB)) (by simp; omega) (by simp)
  rw [List.nil_append] at ho2
  obtain ⟨A2, c2, rfl⟩ := ho2.shape
  rw [hln] at ho2 hrun hg2
  have hb2 : Below w.heap.size w w2 := ((Below.refl w.heap.size w).alloc (Nat.le_refl _) _).trans (hg2.below (by simp) (fun k hk => by injection hk with hk; simp at hk; omega))
  have HB2 := Lib.hid hb2
  have HO2 := Lib.hid ho2
  clear ho2 hg2 hb2 h hln
  go_enter Tryd.func10, Tryd.ntmps10
  go_wp2_with (at_builtin; refine wpList_apprun rfl _ _ _ _ (by rfl) _ _ (by rfl) (by rfl) _ _ hrun ?_)
  go_wp2
  rw [HP.out]
  exact ⟨A2, c2, rfl, HO2.out, HB2.out⟩
end Go.Proofs.YtmbmjdogfjmlpaaDoor.Sp
