/- BitsTells: for every list of bytes and all numbers from and to, the program's Get, Count, First (of ones and of zeros) and Longest of a copy of the bytes answer what the document's answer of the bytes, and the copy is unchanged. -/
import Derived.Test.YtobnnflacdhjcaaBtAlive
import Derived.Test.YtobnnflacdhjcaaLift
namespace Go.Proofs.Ytobnnflacdhjcaa.BitsTells
set_option maxRecDepth 20000
open Go Go.ChangeShapes Go.WideShapes Go.ChangeAt Go.RowKit
open Go.Proofs.Ytobnnflacdhjcaa.Mem Go.Proofs.Ytobnnflacdhjcaa.Bt Go.Proofs.Ytobnnflacdhjcaa.Rec Go.Proofs.Ytobnnflacdhjcaa.Bits Go.Proofs.Ytobnnflacdhjcaa.Lift

set_option maxRecDepth 100000 in
set_option maxHeartbeats 4000000 in
theorem walk (A : Option Addr) (n c : Nat) (bs : List UInt8) (fr to : Int) (w : World) (h : Holds w w.heap.size A n bs) (hc : n ≤ c) (hm : c ≤ 140737488351232) (f1 : -9223372036854775808 ≤ fr) (f2 : fr ≤ 9223372036854775807) (_ : -9223372036854775808 ≤ to) (_ : to ≤ 9223372036854775807) :
    Calls Try.prog 3 #[.slice A n c, .int .i64 fr, .int .i64 to] w fun e w' => e = .returned (.bool true) ∧ Below w.heap.size w w' := by
  obtain rfl : bs.length = n := h.1
  have hn : bs.length ≤ 140737488351232 := by omega
  have HM := fun (V : World) (hb : Below w.heap.size w V) => h.below hb
  have H := Lib.hid HM; clear HM h
  go_enter Try.func3, Try.ntmps3
  go_wp2_with fail
  with_reducible refine (alive_any w).mono ?_
  rintro e w1 ⟨rfl, hb1⟩
  have ho := owned_made w1 [] w.heap.size hb1.size (by unfold maxLen; simp)
  have HB1 := Lib.hid hb1; clear hb1
  have HO1 := Lib.hid ho; clear ho
  go_wp2_with (at_builtin; refine wpList_addall rfl (.tmp 14) (.tmp 15) rfl w.heap.size _ [] rfl HO1.out w.heap.size A bs.length c bs rfl ?c1 ?c2 ?c3 ?_)
  case c1 => exact H.out _ (HB1.out.alloc HB1.out.size _)
  case c2 => simp; omega
  case c3 => have := HB1.out.size; simp; omega
  intro v w2 ho2 hb2
  have hb2' : Below w.heap.size w w2 := (HB1.out.alloc HB1.out.size _).trans hb2
  obtain ⟨A2, c2, rfl, -⟩ := Owned.holds ho2
  have HB2 := Lib.hid hb2'
  have HG := fun (V : World) (hb : Below w2.heap.size w2 V) => (Owned.reads ho2).below hb
  have G := Lib.hid HG; clear HG
  clear hb2 hb2' ho2 HO1 HB1
  -- Longest
  go_wp2_with fail
  with_reducible refine (long_any A2 bs.length c2 w2.heap.size bs fr to w2 (G.out _ (Below.refl _ _)) (Nat.le_refl _) (by omega)).mono ?_
  rintro e w3 ⟨x, m, hL, rfl, hb3⟩
  have GB3 := Lib.hid hb3; clear hb3
  have B3 := Lib.hid (HB2.out.trans (GB3.out.mono HB2.out.size))
  have HL := Lib.hid hL; clear hL
  go_wp2_with fail
  with_reducible refine (rlong_any A bs.length c w.heap.size bs fr to w3 (H.out _ B3.out) B3.out.size (by omega)).mono ?_
  rintro e w4 ⟨x', m', hL', rfl, hb4⟩
  obtain ⟨rfl, rfl⟩ := IsLong.one HL.out hL'
  clear hL' HL
  have GB4 := Lib.hid (GB3.out.trans (hb4.mono GB3.out.size))
  have B4 := Lib.hid (B3.out.trans (hb4.mono B3.out.size)); clear hb4 GB3 B3
  -- Get
  have hg1 := get_any A2 bs.length c2 w2.heap.size bs fr w4 (G.out _ GB4.out) (by omega)
  have hg2 := rget_any A bs.length c w.heap.size bs fr w4 (H.out _ B4.out) (by omega)
  obtain ⟨gb, hgb⟩ : ∃ gb, gb = getB bs fr := ⟨_, rfl⟩
  rw [← hgb] at hg1 hg2
  have HG1 := Lib.hid hg1; clear hg1
  have HG2 := Lib.hid hg2; clear hg2 hgb
  go_wp2_with fail
  with_reducible refine HG1.out.mono ?_
  rintro e w5 ⟨rfl, rfl⟩
  go_wp2_with fail
  with_reducible refine HG2.out.mono ?_
  rintro e w5 ⟨rfl, rfl⟩
  clear HG1 HG2
  have heq : ∀ W, (binOp .eql 4 (.bool gb) (.bool gb)).run Try.prog W = .ok (.bool true) W := fun W => by
    rw [run_eql_bool W 4 gb gb Try.underlying4]; simp
  -- Count
  have hk1 := count_any A2 bs.length c2 w2.heap.size bs fr to w4 (G.out _ GB4.out) GB4.out.size (by omega)
  obtain ⟨K, hK⟩ : ∃ K, K = cnt (bt bs) fr.toNat (hiN bs.length to - fr.toNat) := ⟨_, rfl⟩
  rw [← hK] at hk1
  have HK1 := Lib.hid hk1; clear hk1
  have HK := Lib.hid hK; clear hK
  go_wp2_with fail
  with_reducible refine HK1.out.mono ?_
  rintro e w5 ⟨rfl, hb5⟩
  have GB5 := Lib.hid (GB4.out.trans (hb5.mono GB4.out.size))
  have B5 := Lib.hid (B4.out.trans (hb5.mono B4.out.size)); clear hb5 GB4 B4 HK1
  have hk2 := rcount_any A bs.length c w.heap.size bs fr to w5 (H.out _ B5.out) B5.out.size (by omega)
  rw [← HK.out] at hk2
  have HK2 := Lib.hid hk2; clear hk2
  go_wp2_with fail
  with_reducible refine HK2.out.mono ?_
  rintro e w6 ⟨rfl, hb6⟩
  have GB6 := Lib.hid (GB5.out.trans (hb6.mono GB5.out.size))
  have B6 := Lib.hid (B5.out.trans (hb6.mono B5.out.size)); clear hb6 GB5 B5 HK2
  -- First
  go_wp2_with fail
  with_reducible refine (first_any A2 bs.length c2 w2.heap.size bs fr to true w6 (G.out _ GB6.out) GB6.out.size (by omega)).mono ?_
  rintro e w7 ⟨r7, hr7, rfl, hb7⟩
  have GB7 := Lib.hid (GB6.out.trans (hb7.mono GB6.out.size))
  have B7 := Lib.hid (B6.out.trans (hb7.mono B6.out.size)); clear hb7 GB6 B6
  have HR7 := Lib.hid hr7; clear hr7
  go_wp2_with fail
  with_reducible refine (rfirst_any A bs.length c w.heap.size bs fr to true w7 (H.out _ B7.out) B7.out.size (by omega)).mono ?_
  rintro e w8 ⟨r', hr', rfl, hb8⟩
  obtain rfl := IsFst.one HR7.out hr'
  clear hr' HR7
  have GB8 := Lib.hid (GB7.out.trans (hb8.mono GB7.out.size))
  have B8 := Lib.hid (B7.out.trans (hb8.mono B7.out.size)); clear hb8 GB7 B7
  -- First
  go_wp2_with fail
  with_reducible refine (first_any A2 bs.length c2 w2.heap.size bs fr to false w8 (G.out _ GB8.out) GB8.out.size (by omega)).mono ?_
  rintro e w9 ⟨r9, hr9, rfl, hb9⟩
  have GB9 := Lib.hid (GB8.out.trans (hb9.mono GB8.out.size))
  have B9 := Lib.hid (B8.out.trans (hb9.mono B8.out.size)); clear hb9 GB8 B8
  have HR9 := Lib.hid hr9; clear hr9
  go_wp2_with fail
  with_reducible refine (rfirst_any A bs.length c w.heap.size bs fr to false w9 (H.out _ B9.out) B9.out.size (by omega)).mono ?_
  rintro e w10 ⟨r', hr', rfl, hb10⟩
  obtain rfl := IsFst.one HR9.out hr'
  clear hr' HR9
  have GB10 := Lib.hid (GB9.out.trans (hb10.mono GB9.out.size))
  have B10 := Lib.hid (B9.out.trans (hb10.mono B9.out.size)); clear hb10 GB9 B9
  have q1 := run_text w10 w2.heap.size A2 bs.length c2 bs (G.out _ GB10.out)
  have q2 := run_text w10 w.heap.size A bs.length c bs (H.out _ B10.out)
  go_wp2
  go_ret
  exact ⟨rfl, B10.out⟩

theorem walks : Walks 3 Try.f3 All := by
  intro H enc W base args ds p hval hA hsz _
  rw [Try.params3] at hA hval hsz
  obtain ⟨v0, vs0, d0, ds0, p0, q0, hargs, rfl, rfl, h0, r0⟩ := trodAll_cons hA
  obtain ⟨v1, vs1, d1, ds1, p1, q1, rfl, rfl, rfl, h1, r1⟩ := trodAll_cons r0
  obtain ⟨v2, vs2, d2, ds2, p2, q2, rfl, rfl, rfl, h2, r2⟩ := trodAll_cons r1
  obtain ⟨rfl, rfl, rfl⟩ := trodAll_nil r2
  obtain rfl : args = #[v0, v1, v2] := by cases args; simp_all
  obtain ⟨A, n, c, bs, rfl, hb, hn, hc⟩ := open_bytesC (hval 0 _ v0 rfl rfl) h0 _ (reach_bytes hsz (j := 0) rfl rfl)
  obtain ⟨x1, rfl, rfl, rfl, hx1⟩ := open_int Try.underlying3 (hval 1 _ v1 rfl rfl) h1
  have bx1 := bounds_i64 hx1
  obtain ⟨x2, rfl, rfl, rfl, hx2⟩ := open_int Try.underlying3 (hval 2 _ v2 rfl rfl) h2
  have bx2 := bounds_i64 hx2
  exact walk A n c bs x1 x2 W hb hn hc (by omega) (by omega) (by omega) (by omega)

set_option maxRecDepth 100000 in
theorem proved : Rows.BitsTellsSaid :=
  OpenClaim.holds_of_wide 3 Try.f3 rfl rfl rfl rfl rfl rfl rfl ⟨rfl, rfl, rfl, rfl, rfl⟩ rfl rfl rfl rfl rfl (by kernel_rfl) Try.func3 (by kernel_rfl)
    (of_decide_eq_true (by kernel_rfl)) (by unfold Func.isWrapper; first | (rw [if_pos (by decide +kernel)]; kernel_rfl) | (rw [if_neg (by decide +kernel)]; exact ⟨rfl, rfl⟩))
    (fun os started H enc _ => lifted (s := Rows.bitsTellsSpec) walks (by kernel_rfl) rfl rfl (fun H ds hl => by match ds, hl with | [d1, d2, d3], _ => rfl) (by kernel_rfl) Try.func3 os started H enc
      (ChangeSpec.witness6 (enc := enc) (C := Try.checked) false ⟨#[], #[.slice none 0 0, .int .i64 0, .int .i64 0], []⟩ 8 (by kernel_rfl) (by kernel_rfl) (by kernel_rfl) (by kernel_rfl)))
#print axioms proved
end Go.Proofs.Ytobnnflacdhjcaa.BitsTells
