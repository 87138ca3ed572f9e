/- The law's fixed fact. -/
import Derived.Test.YtbagocghlijleaaAtDo
import Derived.Test.YtbagocghlijleaaAtCode
namespace Go.Proofs.Ytbagocghlijleaa.At
set_option maxRecDepth 20000
open Go.RowKit
open Go.Proofs.Ytbagocghlijleaa.Mem Go.Proofs.Ytbagocghlijleaa.Crc Go.Proofs.Ytbagocghlijleaa.Rec Go.Proofs.Ytbagocghlijleaa.Reg
attribute [local go_sem ↓] ldX_eq stX_eq

def b1 : Pr := ⟨[98], [49]⟩
def a2 : Pr := ⟨[97], [50]⟩
def L2 : List Pr := [a2, b1]
theorem setA : setL [b1] a2 = (L2, 0) := by decide +kernel
theorem getA : getL L2 [98] = ([49], 0) := by decide +kernel
theorem encA : enc L2 = (blockL L2, 0) := enc_yes (by decide +kernel) (by decide)
theorem lenA : (blockL L2).length = 256 := blockL_len (by decide)
theorem firstA : (blockL L2)[0]? = some 2 := by
  unfold blockL body headB
  rw [List.append_assoc, List.append_assoc, List.getElem?_append_left (by rw [bytesL_len]; decide)]
  decide

set_option maxRecDepth 100000 in
set_option maxHeartbeats 8000000 in
theorem alive_any (w : World) :
    Calls Try.prog 8 #[] w fun e w' => e = .returned (.bool true) ∧ Below w.heap.size w w' := by
  obtain ⟨post, hpost⟩ : ∃ post : Ending → World → Prop, post = fun e w' => e = .returned (.bool true) ∧ Below w.heap.size w w' := ⟨_, rfl⟩
  rw [← hpost]
  have HP := Lib.hid hpost; clear hpost
  obtain ⟨W0, hW0⟩ : ∃ W0, W0 = w.alloc (.cells #[.string ⟨#[98]⟩, .string ⟨#[49]⟩] 24) := ⟨_, rfl⟩
  have hown : OwnX W0 w.heap.size (.slice (some ⟨w.heap.size, 0, none⟩) 1 1) [b1] := by rw [hW0]; exact ownC_new PK_ok w [b1] (by unfold maxLen; decide)
  have hb0 : Below w.heap.size w W0 := by rw [hW0]; exact (Below.refl _ w).alloc (Nat.le_refl _) _
  have hset := Set_any (some ⟨w.heap.size, 0, none⟩) 1 1 W0.heap.size [b1] a2 W0 hown.reads (Nat.le_refl _) (by omega)
  rw [setA, show a2.c = #[.string ⟨#[97]⟩, .string ⟨#[50]⟩] from rfl] at hset
  have HSET := Lib.hid hset
  have HB0 := Lib.hid hb0
  have HW0 := Lib.hid hW0
  clear hset hb0 hW0 hown
  go_enter Try.func8, Try.ntmps8
  go_wp2_with fail
  rw [← HW0.out]
  with_reducible refine HSET.out.mono ?_
  rintro E1 w1 ⟨A1, c1, rfl, ho1, hb1⟩
  have HB1 : Hid (Below w.heap.size w w1) := Lib.hid (HB0.out.trans (hb1.mono HB0.out.size))
  dsimp only at ho1 ⊢
  rw [show L2.length = 2 from rfl] at ho1 ⊢
  obtain ⟨g, rfl, hg1, hg2, -⟩ := ho1.form (by omega)
  have hget := Get_any (some ⟨g, 0, none⟩) 2 c1 w1.heap.size L2 ⟨#[98]⟩ w1 ho1.reads (Nat.le_refl _) (by omega)
  rw [show (⟨#[98]⟩ : ByteArray).data.toList = [98] from rfl, getA] at hget
  have HGET := Lib.hid hget
  have HO1 := Lib.hid ho1
  clear hget ho1 hb1 HSET HW0
  go_wp2_with fail
  with_reducible refine HGET.out.mono ?_
  rintro E2 w2 ⟨rfl, hb2⟩
  have HB2 : Hid (Below w.heap.size w w2) := Lib.hid (HB1.out.trans (hb2.mono HB1.out.size))
  have HO2 := Lib.hid (HO1.out.below hb2)
  have HS2 := Lib.hid hb2.size
  have henc := encode_any (some ⟨g, 0, none⟩) 2 c1 w2.heap.size L2 w2 HO2.out.reads (Nat.le_refl _) (by omega)
  rw [encA] at henc
  have HENC := Lib.hid henc
  clear henc hb2 HGET
  dsimp only
  go_wp2_with fail
  with_reducible refine HENC.out.mono ?_
  rintro E3 w3 ⟨A3, c3, rfl, ho3, hb3⟩
  have HB3 : Hid (Below w.heap.size w w3) := Lib.hid (HB2.out.trans (hb3.mono HB2.out.size))
  have hr3 := (HO2.out.below hb3).reads
  have q0 := (hr3.cell 0 (by decide)).1
  have hbs := Owned.reads ho3
  dsimp only at hbs ⊢
  rw [lenA] at hbs ⊢
  obtain ⟨b3, off3, rfl, hl3, hc3⟩ := hbs.2 (by omega)
  have q1 := hc3 0 (by rw [lenA]; omega)
  have h2 : (blockL L2)[0]'(by rw [lenA]; omega) = 2 := by
    have := firstA
    rw [List.getElem?_eq_getElem (by rw [lenA]; omega)] at this
    exact Option.some.inj this
  rw [h2] at q1
  rw [show (L2[0]'(by decide)).t.toArray = #[97] from rfl] at q0
  have q1' : w3.cell? ⟨b3, off3, none⟩ = some (.int .u8 2) := q1
  have q0' : w3.cell? ⟨g, 0, none⟩ = some (.string ⟨#[97]⟩) := q0
  clear q0 q1 hc3 hbs ho3 hb3 hr3 HENC h2 hg1 hg2
  go_wp2
  rw [HP.out]
  exact ⟨rfl, HB3.out⟩
end Go.Proofs.Ytbagocghlijleaa.At
