/- A number's bytes and a list's number are the document's, and a list of more than eight bytes is no number: proved for every number, every count and every list of bytes, within the form's own reach. -/
import Derived.Test.YtemkdnakkdnbhaaLift
namespace Go.Proofs.Ytemkdnakkdnbhaa.CrcNumbers
open Go.ChangeShapes Go.WideShapes Go.ChangeAt Go.RowKit
open Go.Proofs.Ytemkdnakkdnbhaa.Crc Go.Proofs.Ytemkdnakkdnbhaa.Lift

/-- What Number answers: the number, and whether there is one. -/
def numX (bs : List UInt8) : Int := if bs.length ≤ 8 then (numAt bs bs.length : Int) else 0
def numO (bs : List UInt8) : Bool := decide (bs.length ≤ 8)

theorem number_all (A : Option Addr) (c B : Nat) (bs : List UInt8) (w : World) (h : Holds w B A bs.length bs) (hm : bs.length ≤ maxLen) :
    Calls Try.prog 15 #[.slice A bs.length c] w fun e w' => e = .returned (.tuple #[.int .u64 (numX bs), .bool (numO bs)]) ∧ w = w' := by
  by_cases h8 : bs.length ≤ 8
  · have e1 : numX bs = (numAt bs bs.length : Int) := if_pos h8
    have e2 : numO bs = true := decide_eq_true h8
    rw [e1, e2]
    exact number_any A bs.length c B bs w h h8
  · have e1 : numX bs = 0 := if_neg h8
    have e2 : numO bs = false := decide_eq_false h8
    rw [e1, e2]
    exact number_long A bs.length c w (by omega) hm
theorem refnumber_all (A : Option Addr) (c B : Nat) (bs : List UInt8) (w : World) (h : Holds w B A bs.length bs) (hm : bs.length ≤ maxLen) :
    Calls Try.prog 16 #[.slice A bs.length c] w fun e w' => e = .returned (.tuple #[.int .u64 (numX bs), .bool (numO bs)]) ∧ w = w' := by
  by_cases h8 : bs.length ≤ 8
  · have e1 : numX bs = (numAt bs bs.length : Int) := if_pos h8
    have e2 : numO bs = true := decide_eq_true h8
    rw [e1, e2]
    exact refnumber_any A bs.length c B bs w h h8
  · have e1 : numX bs = 0 := if_neg h8
    have e2 : numO bs = false := decide_eq_false h8
    rw [e1, e2]
    exact refnumber_long A bs.length c w (by omega) hm

set_option maxRecDepth 100000 in
theorem walk (v : Nat) (n : Int) (A : Option Addr) (m c : Nat) (bs : List UInt8) (w : World) (h : Holds w w.heap.size A m bs) (hm : m ≤ 140737488351232) (h1 : -9223372036854775808 ≤ n) (h2 : n ≤ 9223372036854775807) :
    Calls Try.prog 4 #[.int .u64 (v : Int), .int .i64 n, .slice A m c] w fun e w' => e = .returned (.bool true) ∧ Below w.heap.size w w' := by
  obtain rfl : bs.length = m := h.1
  have hn : bs.length ≤ maxLen := by unfold maxLen; omega
  obtain ⟨L, hL⟩ : ∃ L : Nat, (L : Int) = min (max n 0) 8 := ⟨(min (max n 0) 8).toNat, by omega⟩
  have HL := Lib.hid hL
  clear hL
  go_enter Try.func4, Try.ntmps4
  go_wp2_with fail
  refine (alive_any w).mono ?_
  rintro e w1 ⟨rfl, hb1⟩
  have hx1 := h.below hb1
  have ho := owned_made w1 [] w.heap.size hb1.size (by unfold maxLen; simp)
  go_wp2_with (at_builtin; refine wpList_addall rfl _ _ rfl w.heap.size _ [] rfl ho w.heap.size A bs.length c bs rfl ?c1 ?c2 ?c3 ?_)
  case c1 => exact hx1.below ((Below.refl _ _).alloc hb1.size _)
  case c2 => simp; omega
  case c3 => have := hb1.size; simp; omega
  intro g w2 ho2 hb2
  have hb2' : Below w.heap.size w w2 := (hb1.alloc hb1.size _).trans hb2
  have hx2 := h.below hb2'
  obtain ⟨A2, c2, rfl, hg⟩ := Owned.holds ho2
  clear ho2 hb2 ho hx1 hb1
  go_wp2_with fail
  refine (number_all A2 c2 _ bs _ hg hn).mono ?_
  rintro e w' ⟨rfl, rfl⟩
  go_wp2_with fail
  refine (refnumber_all A c _ bs _ hx2 hn).mono ?_
  rintro e w' ⟨rfl, rfl⟩
  clear hg hx2
  go_wp2_with fail
  refine (bytes_any v n _ L HL.out h1 h2).mono ?_
  rintro e w' ⟨rfl, rfl⟩
  have hp := holds_lit w2 (bytesL v L) (bAt v L L) (bAt_full v L) (0, 0)
  rw [bytesL_len] at hp
  have hb3 := hb2'.alloc hb2'.size (.cells (bAt v L L) 5)
  have hz : w2.heap.size + 1 = (w2.alloc (.cells (bAt v L L) 5)).heap.size := by simp
  rw [hz] at hp
  have hs2 := hb2'.size
  clear hb2' hz
  generalize hA : (some { block := w2.heap.size, off := 0 } : Option Addr) = A3 at hp ⊢
  clear hA
  generalize w2.alloc (.cells (bAt v L L) 5) = w3 at hp hb3 ⊢
  go_wp2_with fail
  refine (refbytes_any v n _ L HL.out h1 h2).mono ?_
  rintro e w4 ⟨sv, rfl, ho4, hb4⟩
  have hp4 := hp.below hb4
  obtain ⟨A4, c4, rfl, hg4⟩ := Owned.holds ho4
  have hb5 := hb3.trans (hb4.mono hb3.size)
  rw [bytesL_len] at hg4 ⊢
  clear ho4 hb4 hb3 hp
  go_wp2_with fail
  refine (same_any A3 A4 L L L c4 _ _ (bytesL v L) (bytesL v L) _ hp4 hg4 rfl).mono ?_
  rintro e w' ⟨rfl, rfl⟩
  go_wp2
  go_ret
  exact ⟨rfl, hb5⟩

theorem walks : Walks 4 Try.f4 All := by
  intro H enc W base args ds p hval hA hsz _
  rw [Try.params4] at hA hval hsz
  obtain ⟨v0, vs0, d0, ds0, p0, q0, hargs, rfl, rfl, h0, r0⟩ := trodAll_cons hA
  obtain ⟨v1, vs1, d1, ds1, p1, q1, rfl, rfl, rfl, h1, r1⟩ := trodAll_cons r0
  obtain ⟨v2, vs2, d2, ds2, p2, q2, rfl, rfl, rfl, h2, r2⟩ := trodAll_cons r1
  obtain ⟨rfl, rfl, rfl⟩ := trodAll_nil r2
  obtain rfl : args = #[v0, v1, v2] := by cases args; simp_all
  obtain ⟨A, n, c, bs, rfl, hb, _, hn⟩ := open_bytes (hval 2 _ v2 rfl rfl) h2 _ (reach_bytes hsz (j := 2) rfl rfl)
  obtain ⟨x, rfl, rfl, rfl, hx⟩ := open_int Try.underlying28 (hval 0 _ v0 rfl rfl) h0
  obtain ⟨y, rfl, rfl, rfl, hy⟩ := open_int Try.underlying3 (hval 1 _ v1 rfl rfl) h1
  have bx := bounds_u64 hx
  have bY := bounds_i64 hy
  obtain ⟨v, rfl⟩ := Int.eq_ofNat_of_zero_le bx.1
  exact walk v y A n c bs W hb hn bY.1 bY.2

set_option maxRecDepth 100000 in
theorem proved : Rows.CrcNumbersSaid :=
  OpenClaim.holds_of_wide 4 Try.f4 rfl rfl rfl rfl rfl rfl rfl ⟨rfl, rfl, rfl, rfl, rfl⟩ rfl rfl rfl rfl rfl (by kernel_rfl) Try.func4 (by kernel_rfl)
    (of_decide_eq_true (by kernel_rfl)) (by unfold Func.isWrapper; first | (rw [if_pos (by decide +kernel)]; kernel_rfl) | (rw [if_neg (by decide +kernel)]; exact ⟨rfl, rfl⟩))
    (fun os started H enc _ => lifted (s := Rows.crcNumbersSpec) walks (by kernel_rfl) rfl rfl (fun H ds hl => by match ds, hl with | [d1, d2, d3], _ => rfl) (by kernel_rfl) Try.func4 os started H enc
      (ChangeSpec.witness6 (enc := enc) (C := Try.checked) false ⟨#[], #[.int .u64 0, .int .i64 0, .slice none 0 0], []⟩ 8 (by kernel_rfl) (by kernel_rfl) (by kernel_rfl) (by kernel_rfl)))
#print axioms proved
end Go.Proofs.Ytemkdnakkdnbhaa.CrcNumbers
