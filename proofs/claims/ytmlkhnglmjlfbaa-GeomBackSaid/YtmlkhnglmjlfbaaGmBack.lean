/- A superblock says its number of blocks, and one with bits turned within 32 side by side is none: plain words. -/
import Derived.Test.YtmlkhnglmjlfbaaGmDec
import Derived.Test.YtmlkhnglmjlfbaaBurst
namespace Go.Proofs.Ytmlkhnglmjlfbaa.Gm
set_option maxRecDepth 20000
open Go.RowKit
open Go.Proofs.Ytmlkhnglmjlfbaa.Mem Go.Proofs.Ytmlkhnglmjlfbaa.Crc Go.Proofs.Ytmlkhnglmjlfbaa.Rec Go.Proofs.Ytmlkhnglmjlfbaa.Bst

theorem sup_split (b : Nat) : ∃ r, sup b = mark8 ++ (bytesL b 4 ++ r) := by
  have h1 : pre b 1 = mark8 ++ bytesL b 4 := rfl
  have h : ∀ k, ∃ r, pre b (k + 1) = mark8 ++ (bytesL b 4 ++ r) := by
    intro k
    induction k with
    | zero => exact ⟨[], by rw [h1, List.append_nil]⟩
    | succ k ih =>
      obtain ⟨r, hr⟩ := ih
      refine ⟨r ++ bytesL ((numsOf b).getD (k + 1) 0) 4, ?_⟩
      show pre b (k + 1) ++ _ = _
      rw [hr]
      simp only [List.append_assoc]
  obtain ⟨r, hr⟩ := h 7
  refine ⟨r ++ (bytesL (sum (pre b 8)) 4 ++ List.replicate 212 0), ?_⟩
  unfold sup
  rw [hr]
  simp only [List.append_assoc]
theorem said_sup (b : Nat) (h : b ≤ 1024) : said (sup b) = b := by
  obtain ⟨r, hr⟩ := sup_split b
  unfold said
  rw [hr, List.drop_left' (by rfl), List.take_left' (by rw [bytesL_len]), num_bytesL b 4 4 (by omega)]
  omega
theorem isSup_sup (b : Nat) (h1 : 128 ≤ b) (h2 : b ≤ 1024) : isSup (sup b) = true := by
  unfold isSup
  rw [said_sup b h2]
  exact decide_eq_true ⟨h1, h2, rfl⟩
theorem sup_inj (a b : Nat) (ha : a ≤ 1024) (hb : b ≤ 1024) (h : sup a = sup b) : a = b := by
  rw [← said_sup a ha, h, said_sup b hb]
/-- Of superblocks those alike but for less than 32 bits side by side are the same. -/
theorem sup_burst (a b : Nat) (h : Burst (sup a) (sup b)) : sup a = sup b := by
  have h2 : Burst (pre a 8 ++ bytesL (sum (pre a 8)) 4) (pre b 8 ++ bytesL (sum (pre b 8)) 4) := by
    unfold sup at h
    exact h.pre (by rw [List.length_append, List.length_append, pre_len, pre_len, bytesL_len, bytesL_len])
  unfold sup
  rw [h2.eq (sum_own _ _)]
theorem turned_not (burst first b : Nat) (hf : first ≤ 2048) (hm : mask burst first 256 32 ≠ 0) : isSup (turnTo burst first (sup b) 32) = false := by
  have hl : (sup b).length = 256 := sup_len b
  have hb := turn_burst burst first (sup b) (by rw [hl]; omega)
  have hn := turn_some burst first (sup b) (by rw [hl]; exact hm)
  unfold isSup
  rw [decide_eq_false_iff_not]
  rintro ⟨_, _, h3⟩
  generalize said (turnTo burst first (sup b) 32) = a at h3
  rw [h3] at hb hn
  exact hn (sup_burst a b hb)
end Go.Proofs.Ytmlkhnglmjlfbaa.Gm
