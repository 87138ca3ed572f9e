/- The document's order of names. -/
import Derived.Test.YtbagocghlijleaaGreatHtDo
namespace Go.Proofs.YtbagocghlijleaaGreat.Ht
set_option maxRecDepth 20000
open Go.RowKit
open Go.Proofs.YtbagocghlijleaaGreat.Mem Go.Proofs.YtbagocghlijleaaGreat.Crc Go.Proofs.YtbagocghlijleaaGreat.Rec Go.Proofs.YtbagocghlijleaaGreat.Reg Go.Proofs.YtbagocghlijleaaGreat.Lf
attribute [local go_sem ↓] ldE_eq stE_eq ldX_eq stX_eq ldR_eq stR_eq ldQ_eq stQ_eq cvS_eq

theorem rsumT_any (S : ByteArray) (hS : S.size ≤ maxLen) (w : World) :
    Calls Tryz.prog 43 #[.string S] w fun e w' => e = .returned (.int .u32 (Crc.sum S.data.toList : Int)) ∧ Below w.heap.size w w' := by
  obtain ⟨c, V, hcv, hh, hb⟩ := conv_any S w
  have hs := refsum_any (some ⟨w.heap.size, 0, none⟩) S.size c V.heap.size S.data.toList V hh hS
  have HS := Lib.hid hs
  have HB := Lib.hid hb
  clear hs hb hh
  go_enter Tryz.func43, Tryz.ntmps43
  go_wp2_with fail
  with_reducible refine HS.out.mono ?_
  rintro E w1 ⟨rfl, rfl⟩
  clear HS
  go_wp2
  go_ret
  exact ⟨rfl, HB.out⟩
theorem below_any (S R : ByteArray) (hS : S.size ≤ maxLen) (hR : R.size ≤ maxLen) (w : World) :
    Calls Tryz.prog 25 #[.string S, .string R] w fun e w' => e = .returned (.bool (bel S.data.toList R.data.toList)) ∧ Below w.heap.size w w' := by
  have h1 := fun V => rsumT_any S hS V
  have h2 := fun V => rsumT_any R hR V
  obtain ⟨x, hx⟩ : ∃ x, x = Crc.sum S.data.toList := ⟨_, rfl⟩
  obtain ⟨y, hy⟩ : ∃ y, y = Crc.sum R.data.toList := ⟨_, rfl⟩
  have hbel : bel S.data.toList R.data.toList = (decide (x < y) || (decide (x = y) && less S.data.toList R.data.toList)) := by rw [hx, hy]; rfl
  obtain ⟨b, hb⟩ : ∃ b, b = bel S.data.toList R.data.toList := ⟨_, rfl⟩
  rw [← hb] at hbel ⊢
  simp only [← hx] at h1
  simp only [← hy] at h2
  have H1 := Lib.hid h1
  have H2 := Lib.hid h2
  have HBEL := Lib.hid hbel
  clear h1 h2 hbel hb hx hy
  go_enter Tryz.func25, Tryz.ntmps25
  go_wp2_with fail
  with_reducible refine (H1.out w).mono ?_
  rintro E w1 ⟨rfl, hb1⟩
  go_wp2_with fail
  with_reducible refine (H2.out w1).mono ?_
  rintro E w2 ⟨rfl, hb2⟩
  have HB : Hid (Below w.heap.size w w2) := Lib.hid (hb1.trans (hb2.mono hb1.size))
  clear hb1 hb2 H1 H2
  rcases Nat.lt_trichotomy x y with h | h | h
  · have e : b = true := by rw [HBEL.out, decide_eq_true h]; rfl
    go_wp2_with fail
    all_goals first | (exfalso; omega) | skip
    all_goals (go_ret; exact ⟨by rw [e]; simp, HB.out⟩)
  · have e : b = Op.bytesLess S.toList R.toList := by
      rw [HBEL.out, decide_eq_false (by omega), decide_eq_true h, ByteArray.toList_eq, ByteArray.toList_eq]; rfl
    subst h
    go_wp2_with fail
    all_goals first | (exfalso; omega) | skip
    all_goals (go_ret; exact ⟨by rw [e]; simp, HB.out⟩)
  · have e : b = false := by rw [HBEL.out, decide_eq_false (by omega), decide_eq_false (by omega)]; rfl
    go_wp2_with fail
    all_goals first | (exfalso; omega) | skip
    all_goals (go_ret; exact ⟨by rw [e]; simp; omega, HB.out⟩)
end Go.Proofs.YtbagocghlijleaaGreat.Ht
