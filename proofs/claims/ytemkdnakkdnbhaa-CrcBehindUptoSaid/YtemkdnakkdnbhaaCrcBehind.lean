/- The sum of two lists of bytes one behind the other is made out of the first one's sum, and of nothing behind it is that sum: proved for any two lists of bytes that are together of bulk at most 1048576. -/
import Derived.Test.YtemkdnakkdnbhaaLift
namespace Go.Proofs.Ytemkdnakkdnbhaa.CrcBehind
open Go.ChangeShapes Go.WideShapes Go.ChangeAt Go.RowKit
open Go.Proofs.Ytemkdnakkdnbhaa.Crc Go.Proofs.Ytemkdnakkdnbhaa.Lift

theorem holds_nil (w : World) (B : Nat) : Holds w B none 0 [] := ⟨rfl, fun h => absurd h (by omega)⟩

set_option maxRecDepth 100000 in
theorem walk (A A' : Option Addr) (n n' c c' : Nat) (xs bs : List UInt8) (w : World) (h : Holds w w.heap.size A n xs) (h' : Holds w w.heap.size A' n' bs) (hm : n ≤ 1048576) (hm' : n' ≤ 1048576) :
    Calls Try.prog 5 #[.slice A n c, .slice A' n' c'] w fun e w' => e = .returned (.bool true) ∧ Below w.heap.size w w' := by
  obtain rfl : xs.length = n := h.1
  obtain rfl : bs.length = n' := h'.1
  have hn : xs.length ≤ maxLen := by unfold maxLen; omega
  have hn' : bs.length ≤ maxLen := by unfold maxLen; omega
  have E : Hid (more (sum xs) bs = sum (xs ++ bs)) := (more_append 0 xs bs).symm
  have E0 : Hid (more (sum xs) [] = sum xs) := more_nil _
  go_enter Try.func5, Try.ntmps5
  go_wp2_with fail
  refine (alive_any w).mono ?_
  rintro e w1 ⟨rfl, hb1⟩
  have hx1 := h.below hb1
  have ho := owned_made w1 [] w.heap.size hb1.size (by unfold maxLen; simp)
  go_wp2_with (at_builtin; refine wpList_addall (o := ⟨some 10, _, _, _, _, _⟩) rfl _ _ rfl w.heap.size _ [] rfl ho w.heap.size A xs.length c xs rfl ?c1 ?c2 ?c3 ?_)
  case c1 => exact hx1.below ((Below.refl _ _).alloc hb1.size _)
  case c2 => simp; omega
  case c3 => have := hb1.size; simp; omega
  intro g w2 ho2 hb2
  have hb2' : Below w.heap.size w w2 := (hb1.alloc hb1.size _).trans hb2
  have hx2 := h.below hb2'
  have hy2 := h'.below hb2'
  clear hb2 ho hx1 hb1
  have HO := Lib.hid ho2
  clear ho2
  go_wp2_with (at_builtin; refine wpList_addall (o := ⟨some 12, _, _, _, _, _⟩) rfl _ _ rfl w.heap.size g xs rfl HO.out w.heap.size A' bs.length c' bs rfl hy2 ?d2 ?d3 ?_)
  case d2 => omega
  case d3 => exact hb2'.size
  intro g3 w3 ho3 hb3
  have hb3' := hb2'.trans hb3
  have hx3 := h.below hb3'
  have hy3 := h'.below hb3'
  obtain ⟨A3, c3, rfl, hg⟩ := Owned.holds ho3
  have hl : (xs ++ bs).length ≤ maxLen := by unfold maxLen; simp; omega
  clear ho3 hb3 hx2 hy2 hb2' HO
  have E2 : Hid (more (sum xs) bs = sum (xs ++ bs)) := E.out
  clear E
  generalize xs ++ bs = ys at hg hl E2 ⊢
  go_wp2_with fail
  refine (sum_any A xs.length c xs _ (hx3.more hb3'.size) hn).mono ?_
  rintro e w4 ⟨rfl, hb⟩
  have hb4 := hb3'.trans (hb.mono hb3'.size)
  have hg4 := (hg.below hb).more hb.size
  have hx4 := h.below hb4
  have hy4 := h'.below hb4
  clear hb hg hx3 hy3 hb3'
  go_wp2_with fail
  refine (more_any (sum xs) A' bs.length c' bs _ (sum_lt xs) (hy4.more hb4.size) hn').mono ?_
  rintro e w5 ⟨rfl, hb⟩
  have hb5 := hb4.trans (hb.mono hb4.size)
  have hg5 := (hg4.below hb).more hb.size
  have hx5 := h.below hb5
  clear hb hg4 hx4 hy4 hb4
  rw [E2.out]
  go_wp2_with fail
  refine (sum_any A3 ys.length c3 ys _ hg5 hl).mono ?_
  rintro e w6 ⟨rfl, hb⟩
  have hb6 := hb5.trans (hb.mono hb5.size)
  have hx6 := h.below hb6
  clear hb hg5 hx5 hb5
  go_wp2_with fail
  refine (sum_any A xs.length c xs _ (hx6.more hb6.size) hn).mono ?_
  rintro e w7 ⟨rfl, hb⟩
  have hb7 := hb6.trans (hb.mono hb6.size)
  have hx7 := h.below hb7
  clear hb hx6 hb6
  go_wp2_with fail
  refine (more_any (sum xs) none 0 0 [] _ (sum_lt xs) (holds_nil _ _) (by omega)).mono ?_
  rintro e w8 ⟨rfl, hb⟩
  have hb8 := hb7.trans (hb.mono hb7.size)
  have hx8 := h.below hb8
  clear hb hx7 hb7
  rw [E0.out]
  go_wp2_with fail
  refine (sum_any A xs.length c xs _ (hx8.more hb8.size) hn).mono ?_
  rintro e w9 ⟨rfl, hb⟩
  have hb9 := hb8.trans (hb.mono hb8.size)
  clear hb hx8 hb8
  go_wp2
  go_ret
  exact ⟨rfl, hb9⟩

theorem walks : Walks 5 Try.f5 Rows.uptoSmall := by
  intro H enc W base args ds p hval hA _ hk
  rw [Try.params5] at hA hval
  obtain ⟨v0, vs0, d0, ds0, p0, q0, hargs, rfl, rfl, h0, r0⟩ := trodAll_cons hA
  obtain ⟨v1, vs1, d1, ds1, p1, q1, rfl, rfl, rfl, h1, r1⟩ := trodAll_cons r0
  obtain ⟨rfl, rfl, rfl⟩ := trodAll_nil r1
  obtain rfl : args = #[v0, v1] := by cases args; simp_all
  obtain ⟨A, n, c, xs, rfl, ha, _, hn⟩ := open_bytes (hval 0 _ v0 rfl rfl) h0 _ (bulk_bytes hk (by simp))
  obtain ⟨A', n', c', bs, rfl, hb, _, hn'⟩ := open_bytes (hval 1 _ v1 rfl rfl) h1 _ (bulk_bytes hk (by simp))
  exact walk A A' n n' c c' xs bs W ha hb hn hn'

set_option maxRecDepth 100000 in
theorem proved : Rows.CrcBehindUptoSaid :=
  OpenClaim.holds_of_cond 5 Try.f5 rfl rfl rfl rfl rfl rfl rfl ⟨rfl, rfl, rfl, rfl, rfl⟩ rfl rfl rfl rfl rfl (by kernel_rfl) Try.func5 (by kernel_rfl)
    (of_decide_eq_true (by kernel_rfl)) (by unfold Func.isWrapper; first | (rw [if_pos (by decide +kernel)]; kernel_rfl) | (rw [if_neg (by decide +kernel)]; exact ⟨rfl, rfl⟩))
    (fun os started H enc _ F => lifted_upto (s := Rows.crcBehindSpec) walks (by kernel_rfl) rfl rfl (fun H ds hl => by match ds, hl with | [d1, d2], _ => rfl) (by kernel_rfl) Try.func5 os started H enc F
      (OpenSpec.witness (enc := enc) (C := Try.checked) (s := Rows.OpenSpec.upto Rows.crcBehindSpec) (k := Rows.uptoSmall) rfl false ⟨#[], #[.slice none 0 0, .slice none 0 0], []⟩ 8 (by kernel_rfl) (by kernel_rfl) (by kernel_rfl)
        (x := ([.nil, .nil], [], [])) (by kernel_rfl) rfl (by kernel_rfl)))
#print axioms proved
end Go.Proofs.Ytemkdnakkdnbhaa.CrcBehind
