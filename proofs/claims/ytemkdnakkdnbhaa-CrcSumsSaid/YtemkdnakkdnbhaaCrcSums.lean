/- The sums of any bytes, from nothing and behind any sum, are the document's, and the bytes that were handed in stay as they were: proved for every list of bytes and every sum, within the form's own reach. -/
import Derived.Test.YtemkdnakkdnbhaaLift
namespace Go.Proofs.Ytemkdnakkdnbhaa.CrcSums
open Go.ChangeShapes Go.WideShapes Go.ChangeAt Go.RowKit
open Go.Proofs.Ytemkdnakkdnbhaa.Crc Go.Proofs.Ytemkdnakkdnbhaa.Lift

set_option maxRecDepth 100000 in
theorem walk (A : Option Addr) (n c : Nat) (bs : List UInt8) (s : Nat) (w : World) (h : Holds w w.heap.size A n bs) (hm : n ≤ 140737488351232) (hs : s < 4294967296) :
    Calls Try.prog 3 #[.slice A n c, .int .u32 (s : Int)] w fun e w' => e = .returned (.bool true) ∧ Below w.heap.size w w' := by
  obtain rfl : bs.length = n := h.1
  have hn : bs.length ≤ maxLen := by unfold maxLen; omega
  go_enter Try.func3, Try.ntmps3
  go_wp2_with fail
  refine (alive_any w).mono ?_
  rintro e w1 ⟨rfl, hb1⟩
  have h1 := h.below hb1
  have ho := owned_made w1 [] w.heap.size hb1.size (by unfold maxLen; simp)
  go_wp2_with (at_builtin; refine wpList_addall rfl _ _ rfl w.heap.size _ [] rfl ho w.heap.size A bs.length c bs rfl ?c1 ?c2 ?c3 ?_)
  case c1 => exact h1.below ((Below.refl _ _).alloc hb1.size _)
  case c2 => simp; omega
  case c3 => have := hb1.size; simp; omega
  intro g w2 ho2 hb2
  have hb2' : Below w.heap.size w w2 := (hb1.alloc hb1.size _).trans hb2
  have h2 := h.below hb2'
  obtain ⟨A2, c2, rfl, hg⟩ := Owned.holds ho2
  clear ho2 hb2 ho h1 hb1
  go_wp2_with fail
  refine (sum_any A2 bs.length c2 bs _ hg (by omega)).mono ?_
  rintro e w3 ⟨rfl, hb3⟩
  have h3 := h2.below (hb3.mono hb2'.size)
  have hg3 := (hg.below hb3).more hb3.size
  have hb3' := hb2'.trans (hb3.mono hb2'.size)
  clear hb3 hg h2 hb2'
  go_wp2_with fail
  refine (refsum_any A bs.length c _ bs _ h3 hn).mono ?_
  rintro e w' ⟨rfl, rfl⟩
  go_wp2_with fail
  refine (more_any s A2 bs.length c2 bs _ hs hg3 (by omega)).mono ?_
  rintro e w4 ⟨rfl, hb4⟩
  have h4 := h3.below (hb4.mono hb3'.size)
  have hg4 := (hg3.below hb4).more hb4.size
  have hb4' := hb3'.trans (hb4.mono hb3'.size)
  clear hb4 hg3 h3 hb3'
  go_wp2_with fail
  refine (refmore_any s A bs.length c _ bs _ hs h4 hn).mono ?_
  rintro e w' ⟨rfl, rfl⟩
  have t1 := run_text _ _ A2 bs.length c2 bs hg4
  have t2 := run_text _ _ A bs.length c bs h4
  clear hg4 h4
  go_wp2
  go_ret
  exact ⟨rfl, hb4'⟩

theorem walks : Walks 3 Try.f3 All := by
  intro H enc W base args ds p hval hA hsz _
  rw [Try.params3] at hA hval hsz
  obtain ⟨v0, vs0, d0, ds0, p0, q0, hargs, rfl, rfl, h0, r0⟩ := trodAll_cons hA
  obtain ⟨v1, vs1, d1, ds1, p1, q1, rfl, rfl, rfl, h1, r1⟩ := trodAll_cons r0
  obtain ⟨rfl, rfl, rfl⟩ := trodAll_nil r1
  obtain rfl : args = #[v0, v1] := by cases args; simp_all
  obtain ⟨A, n, c, bs, rfl, hb, _, hn⟩ := open_bytes (hval 0 _ v0 rfl rfl) h0 _ (reach_bytes hsz (j := 0) rfl rfl)
  obtain ⟨x, rfl, rfl, rfl, hx⟩ := open_int Try.underlying23 (hval 1 _ v1 rfl rfl) h1
  have := bounds_u32 hx
  obtain ⟨s, rfl⟩ := Int.eq_ofNat_of_zero_le this.1
  exact walk A n c bs s W hb hn (by omega)

set_option maxRecDepth 100000 in
theorem proved : Rows.CrcSumsSaid :=
  OpenClaim.holds_of_wide 3 Try.f3 rfl rfl rfl rfl rfl rfl rfl ⟨rfl, rfl, rfl, rfl, rfl⟩ rfl rfl rfl rfl rfl (by kernel_rfl) Try.func3 (by kernel_rfl)
    (of_decide_eq_true (by kernel_rfl)) (by unfold Func.isWrapper; first | (rw [if_pos (by decide +kernel)]; kernel_rfl) | (rw [if_neg (by decide +kernel)]; exact ⟨rfl, rfl⟩))
    (fun os started H enc _ => lifted (s := Rows.crcSumsSpec) walks (by kernel_rfl) rfl rfl (fun H ds hl => by match ds, hl with | [d1, d2], _ => rfl) (by kernel_rfl) Try.func3 os started H enc
      (ChangeSpec.witness6 (enc := enc) (C := Try.checked) false ⟨#[], #[.slice none 0 0, .int .u32 0], []⟩ 8 (by kernel_rfl) (by kernel_rfl) (by kernel_rfl) (by kernel_rfl)))
#print axioms proved
end Go.Proofs.Ytemkdnakkdnbhaa.CrcSums
