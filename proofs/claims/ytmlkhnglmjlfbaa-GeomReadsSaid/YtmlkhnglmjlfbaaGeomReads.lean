/- GeomReads: for every list of bytes, the program's Decode of a copy of it and the document's Decode of it answer the same geometry and the same error, and the bytes are unchanged. -/
import Derived.Test.YtmlkhnglmjlfbaaGmAlive
import Derived.Test.YtmlkhnglmjlfbaaGmRDec
import Derived.Test.YtmlkhnglmjlfbaaLift
namespace Go.Proofs.Ytmlkhnglmjlfbaa.GeomReads
set_option maxRecDepth 20000
open Go.ChangeShapes Go.WideShapes Go.ChangeAt Go.RowKit
open Go.Proofs.Ytmlkhnglmjlfbaa.Mem Go.Proofs.Ytmlkhnglmjlfbaa.Crc Go.Proofs.Ytmlkhnglmjlfbaa.Rec Go.Proofs.Ytmlkhnglmjlfbaa.Gm Go.Proofs.Ytmlkhnglmjlfbaa.Lift
attribute [local go_sem ↓] ldG_eq stG_eq eqG_eq

theorem decE_form (bs : List UInt8) : ∃ (G : Gm) (x : Int), decE bs = .tuple #[.agg G.c, .int .i64 x] := by
  unfold decE
  split
  · exact ⟨_, _, rfl⟩
  · exact ⟨_, _, rfl⟩
theorem decode_any (A : Option Addr) (n c B : Nat) (bs : List UInt8) (w : World) (h : Holds w B A n bs) (hc : n ≤ c) (hm : c ≤ maxLen) (hB : B ≤ w.heap.size) :
    Calls Try.prog 17 #[.slice A n c] w fun e w' => e = .returned (if n = 256 then decE bs else .tuple #[.agg gm0.c, .int .i64 13]) ∧ Below w.heap.size w w' := by
  by_cases hn : n = 256
  · subst hn
    exact decode_full A c B bs w h hc hm hB
  · rw [if_neg hn]
    exact decode_short A n c w hn
theorem rdecode_any (A : Option Addr) (n c B : Nat) (bs : List UInt8) (w : World) (h : Holds w B A n bs) (hc : n ≤ c) (hm : c ≤ maxLen) (hB : B ≤ w.heap.size) :
    Calls Try.prog 18 #[.slice A n c] w fun e w' => e = .returned (if n = 256 then decE bs else .tuple #[.agg gm0.c, .int .i64 13]) ∧ Below w.heap.size w w' := by
  by_cases hn : n = 256
  · subst hn
    exact rdecode_full A c B bs w h hc hm hB
  · rw [if_neg hn]
    exact rdecode_short A n c w hn

set_option maxRecDepth 100000 in
theorem walk (A : Option Addr) (n c : Nat) (bs : List UInt8) (w : World) (h : Holds w w.heap.size A n bs) (hc : n ≤ c) (hm : c ≤ 140737488351232) :
    Calls Try.prog 4 #[.slice A n c] w fun e w' => e = .returned (.bool true) ∧ Below w.heap.size w w' := by
  obtain rfl : bs.length = n := h.1
  have hm' : c ≤ maxLen := by unfold maxLen; omega
  obtain ⟨G, x, hGx⟩ : ∃ (G : Gm) (x : Int), (if bs.length = 256 then decE bs else .tuple #[.agg gm0.c, .int .i64 13]) = .tuple #[.agg G.c, .int .i64 x] := by
    split
    · exact decE_form bs
    · exact ⟨_, _, rfl⟩
  have HGX := Lib.hid hGx; clear hGx
  have H := Lib.hid h; clear h
  have HM := Lib.hid hm'; clear hm'
  go_enter Try.func4, Try.ntmps4
  go_wp2_with fail
  with_reducible refine (alive_any w).mono ?_
  rintro e w1 ⟨rfl, hb1⟩
  have ho := owned_made w1 [] w.heap.size hb1.size (by unfold maxLen; simp)
  have HB1 := Lib.hid hb1; clear hb1
  have HO1 := Lib.hid ho; clear ho
  go_wp2_with (at_builtin; refine wpList_addall rfl (.tmp 10) (.tmp 11) rfl w.heap.size _ [] rfl HO1.out w.heap.size A bs.length c bs rfl ?c1 ?c2 ?c3 ?_)
  case c1 => exact H.out.below (HB1.out.alloc HB1.out.size _)
  case c2 => simp; omega
  case c3 => have := HB1.out.size; simp; omega
  intro v w2 ho2 hb2
  have hb2' : Below w.heap.size w w2 := (HB1.out.alloc HB1.out.size _).trans hb2
  obtain ⟨A2, c2, rfl, -⟩ := Owned.holds ho2
  have HO2 := Lib.hid ho2
  have HB2 := Lib.hid hb2'
  clear hb2 hb2' ho2 HO1 HB1
  go_wp2_with fail
  with_reducible refine (decode_any A2 bs.length c2 w2.heap.size bs w2 (Owned.reads HO2.out) (Owned.fits HO2.out).1 (Owned.fits HO2.out).2 (Nat.le_refl _)).mono ?_
  rintro e w3 ⟨rfl, hb3⟩
  rw [HGX.out]
  obtain ⟨w4, hw4⟩ : ∃ y, y = w3.alloc (.cells G.c 23) := ⟨_, rfl⟩
  have l0 := run_stG_new w3 G
  rw [← hw4] at l0
  have hv4 : VarG w4 w3.heap.size G := hw4 ▸ VarG.new w3 _
  have hb4 : Below w.heap.size w w4 := hw4 ▸ (HB2.out.trans (hb3.mono HB2.out.size)).alloc (Nat.le_trans HB2.out.size hb3.size) _
  have HV4 := Lib.hid hv4; clear hv4
  have HB4 := Lib.hid hb4; clear hb4 hb3 hw4 HO2 HB2
  go_wp2_with fail
  with_reducible refine (rdecode_any A bs.length c w.heap.size bs w4 (H.out.below HB4.out) hc HM.out HB4.out.size).mono ?_
  rintro e w5 ⟨rfl, hb5⟩
  rw [HGX.out]
  obtain ⟨w6, hw6⟩ : ∃ y, y = w5.alloc (.cells G.c 23) := ⟨_, rfl⟩
  have l2 := run_stG_new w5 G
  rw [← hw6] at l2
  have hv6 : VarG w6 w5.heap.size G := hw6 ▸ VarG.new w5 _
  have hv6' : VarG w6 w3.heap.size G := hw6 ▸ (HV4.out.keep hb5).alloc _
  have hb6 : Below w.heap.size w w6 := hw6 ▸ (HB4.out.trans (hb5.mono HB4.out.size)).alloc (Nat.le_trans HB4.out.size hb5.size) _
  have q1 := hv6.load
  have q2 := hv6'.load
  have q3 := run_eqG w6 G G
  rw [decide_eq_true rfl] at q3
  have HB6 := Lib.hid hb6; clear hb6 hb5 hw6 hv6 hv6' HB4 HV4 l0
  go_wp2
  go_ret
  exact ⟨rfl, HB6.out⟩

theorem walks : Walks 4 Try.f4 All := by
  intro H enc W base args ds p hval hA hsz _
  rw [Try.params4] at hA hval hsz
  obtain ⟨v0, vs0, d0, ds0, p0, q0, hargs, rfl, rfl, h0, r0⟩ := trodAll_cons hA
  obtain ⟨rfl, rfl, rfl⟩ := trodAll_nil r0
  obtain rfl : args = #[v0] := by cases args; simp_all
  obtain ⟨A, n, c, bs, rfl, hb, hn, hc⟩ := open_bytesC (hval 0 _ v0 rfl rfl) h0 _ (reach_bytes hsz (j := 0) rfl rfl)
  exact walk A n c bs W hb hn hc

set_option maxRecDepth 100000 in
theorem proved : Rows.GeomReadsSaid :=
  OpenClaim.holds_of_wide 4 Try.f4 rfl rfl rfl rfl rfl rfl rfl ⟨rfl, rfl, rfl, rfl, rfl⟩ rfl rfl rfl rfl rfl (by kernel_rfl) Try.func4 (by kernel_rfl)
    (of_decide_eq_true (by kernel_rfl)) (by unfold Func.isWrapper; first | (rw [if_pos (by decide +kernel)]; kernel_rfl) | (rw [if_neg (by decide +kernel)]; exact ⟨rfl, rfl⟩))
    (fun os started H enc _ => lifted (s := Rows.geomReadsSpec) walks (by kernel_rfl) rfl rfl (fun H ds hl => by match ds, hl with | [d1], _ => rfl) (by kernel_rfl) Try.func4 os started H enc
      (ChangeSpec.witness6 (enc := enc) (C := Try.checked) false ⟨#[], #[.slice none 0 0], []⟩ 8 (by kernel_rfl) (by kernel_rfl) (by kernel_rfl) (by kernel_rfl)))
#print axioms proved
end Go.Proofs.Ytmlkhnglmjlfbaa.GeomReads
