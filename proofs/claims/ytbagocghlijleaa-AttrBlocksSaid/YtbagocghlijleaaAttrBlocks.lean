/- AttrBlocks: for every list of attributes and all bytes: the block that is written, and the list that is read, are as the document says, and the bytes that were given stay. For lists and bytes within the reach of memory. -/
import Derived.Test.YtbagocghlijleaaAtAlive
import Derived.Test.YtbagocghlijleaaAtArg
import Derived.Test.YtbagocghlijleaaAtRDec
import Derived.ChangeMaps5
namespace Go.Proofs.Ytbagocghlijleaa.AttrBlocks
set_option maxRecDepth 20000
open Go.ChangeShapes Go.WideShapes Go.ChangeAt Go.RowKit
open Go.Proofs.Ytbagocghlijleaa.Mem Go.Proofs.Ytbagocghlijleaa.Crc Go.Proofs.Ytbagocghlijleaa.Rec Go.Proofs.Ytbagocghlijleaa.At Go.Proofs.Ytbagocghlijleaa.Lift Go.Proofs.Ytbagocghlijleaa.Reg
attribute [local go_sem ↓] ldX_eq stX_eq eqX_eq neqX_eq

theorem enc_len (l : List Pr) : (enc l).1.length ≤ 256 := by
  unfold enc
  split
  · split
    · rw [blockL_len (by assumption)]; omega
    · simp
  · simp
theorem decP_few (b : List UInt8) : (decP b).1.length ≤ 83 := by
  unfold decP decL
  split
  · split
    · exact toldP_len b
    · exact Nat.zero_le _
  · exact Nat.zero_le _

set_option maxRecDepth 100000 in
set_option maxHeartbeats 8000000 in
theorem walk (A : Option Addr) (n c : Nat) (l : List Pr) (A' : Option Addr) (m c' : Nat) (bs : List UInt8) (w : World) (h : HoldsX w w.heap.size A n l) (hn : n ≤ 4398046510976) (h' : Holds w w.heap.size A' m bs) (hc : m ≤ c') (hm : c' ≤ 140737488351232) :
    Calls Try.prog 4 #[.slice A n c, .slice A' m c'] w fun E w' => E = .returned (.bool true) ∧ Below w.heap.size w w' := by
  obtain ⟨post, hpost⟩ : ∃ post : Ending → World → Prop, post = fun E w' => E = .returned (.bool true) ∧ Below w.heap.size w w' := ⟨_, rfl⟩
  rw [← hpost]
  have HP := Lib.hid hpost; clear hpost
  have hml := h'.1
  have HML := Lib.hid hml; clear hml
  have H := Lib.hid h'; clear h'
  have hh : ∀ V, Below w.heap.size w V → HoldsX V w.heap.size A n l ∧ w.heap.size ≤ V.heap.size := fun V hV => ⟨h.below hV, hV.size⟩
  have HH := Lib.hid hh; clear hh h
  -- what is written, and what is read
  have hel := enc_len l
  have hdl := decP_few bs
  have henc := fun (V : World) (hV : Below w.heap.size w V) => encode_any A n c w.heap.size l V (HH.out V hV).1 (HH.out V hV).2 (by omega)
  have hrenc := fun (V : World) (hV : Below w.heap.size w V) => rencode_any A n c w.heap.size l V (HH.out V hV).1 (HH.out V hV).2 (by omega)
  have hdec := fun (A2 : Option Addr) (c2 B : Nat) (V : World) (hV : Holds V B A2 m bs) (hB : B ≤ V.heap.size) (h2 : m ≤ c2) => decode_any A2 m c2 B bs V hV hB h2 (by omega)
  have hrdec := fun (V : World) (hV : Below w.heap.size w V) => rdecode_any A' m c' w.heap.size bs V (H.out.below hV) hV.size hc (by omega)
  simp only [← dec_same] at hrdec
  generalize enc l = y at hel henc hrenc
  generalize decP bs = z at hdl hdec hrdec
  obtain ⟨X, e1⟩ := y
  obtain ⟨M, e2⟩ := z
  dsimp only at hel hdl
  unfold Bytes2 at henc hrenc
  unfold Pairs2 at hdec hrdec
  dsimp only at henc hrenc hdec hrdec
  obtain ⟨nx, hnx⟩ : ∃ nx, nx = X.length := ⟨_, rfl⟩
  obtain ⟨nm, hnm⟩ : ∃ nm, nm = M.length := ⟨_, rfl⟩
  rw [← hnx] at henc hrenc hel
  rw [← hnm] at hdec hrdec hdl
  clear hnx hnm
  obtain ⟨SX, hSX⟩ : ∃ S : ByteArray, S = ⟨X.toArray⟩ := ⟨_, rfl⟩
  obtain ⟨SB, hSB⟩ : ∃ S : ByteArray, S = ⟨bs.toArray⟩ := ⟨_, rfl⟩
  have HSX := Lib.hid hSX; clear hSX
  have HSB := Lib.hid hSB; clear hSB
  have HENC := Lib.hid henc; clear henc
  have HRENC := Lib.hid hrenc; clear hrenc
  have HDEC := Lib.hid hdec; clear hdec
  have HRDEC := Lib.hid hrdec; clear hrdec
  go_enter Try.func4, Try.ntmps4
  go_wp2_with fail
  with_reducible refine (alive_any w).mono ?_
  rintro E1 w1 ⟨rfl, hb1⟩
  have HB1 := Lib.hid hb1; clear hb1
  go_wp2_with fail
  with_reducible refine (HENC.out w1 HB1.out).mono ?_
  rintro E2 w2 ⟨A2, c2, rfl, ho2, hb2⟩
  have HB2 : Hid (Below w.heap.size w w2) := Lib.hid (HB1.out.trans (hb2.mono HB1.out.size))
  have HX2 := Lib.hid ho2; clear ho2 hb2 HENC
  dsimp only
  go_wp2_with fail
  with_reducible refine (HRENC.out w2 HB2.out).mono ?_
  rintro E3 w3 ⟨A3, c3, rfl, ho3, hb3⟩
  have HB3 : Hid (Below w.heap.size w w3) := Lib.hid (HB2.out.trans (hb3.mono HB2.out.size))
  have HX3 := Lib.hid (Owned.keep HX2.out hb3 (Nat.le_refl _))
  have HY3 := Lib.hid ho3; clear ho3 hb3 HRENC HX2
  dsimp only
  have ho := owned_made w3 [] w3.heap.size (Nat.le_refl _) (by unfold maxLen; simp)
  have HO3 := Lib.hid ho; clear ho
  go_wp2_with (at_builtin; refine wpList_addall rfl (.tmp 26) (.tmp 27) rfl w3.heap.size _ [] rfl HO3.out w.heap.size A' m c' bs rfl ?c1 ?c2 ?c3 ?_)
  case c1 => exact H.out.below (HB3.out.alloc HB3.out.size _)
  case c2 => simp; omega
  case c3 => simp
  intro v4 w4 ho4 hb4
  obtain ⟨A4, c4, rfl⟩ := Owned.shape ho4
  rw [HML.out] at ho4 ⊢
  have hb34 : Below w3.heap.size w3 w4 := ((Below.refl w3.heap.size w3).alloc (Nat.le_refl _) _).trans hb4
  have HB4 : Hid (Below w.heap.size w w4) := Lib.hid (HB3.out.trans (hb34.mono HB3.out.size))
  have HX4 := Lib.hid (Owned.keep HX3.out hb34 (Nat.le_refl _))
  have HY4 := Lib.hid (Owned.keep HY3.out hb34 (Nat.le_refl _))
  have HO4 := Lib.hid ho4
  have hdc := HDEC.out A4 c4 w4.heap.size w4 (Owned.reads ho4) (Nat.le_refl _) (Owned.fits ho4).1
  have HDC := Lib.hid hdc; clear hdc
  clear hb4 hb34 ho4 HX3 HY3 HO3 HDEC
  go_wp2_with fail
  with_reducible refine HDC.out.mono ?_
  rintro E5 w5 ⟨A5, c5, rfl, ho5, hb5⟩
  have HB5 : Hid (Below w.heap.size w w5) := Lib.hid (HB4.out.trans (hb5.mono HB4.out.size))
  have HX5 := Lib.hid (Owned.keep HX4.out hb5 (Nat.le_refl _))
  have HY5 := Lib.hid (Owned.keep HY4.out hb5 (Nat.le_refl _))
  have HO5 := Lib.hid (Owned.keep HO4.out hb5 (Nat.le_refl _))
  have HM5 := Lib.hid ho5
  clear hb5 ho5 HX4 HY4 HO4 HDC
  dsimp only
  go_wp2_with fail
  with_reducible refine (HRDEC.out w5 HB5.out).mono ?_
  rintro E6 w6 ⟨A6, c6, rfl, ho6, hb6⟩
  have HB6 : Hid (Below w.heap.size w w6) := Lib.hid (HB5.out.trans (hb6.mono HB5.out.size))
  have HX6 := Lib.hid (Owned.keep HX5.out hb6 (Nat.le_refl _))
  have HY6 := Lib.hid (Owned.keep HY5.out hb6 (Nat.le_refl _))
  have HO6 := Lib.hid (Owned.keep HO5.out hb6 (Nat.le_refl _))
  have HM6 := Lib.hid (HM5.out.below hb6)
  have HN6 := Lib.hid ho6
  clear hb6 ho6 HX5 HY5 HO5 HM5 HRDEC
  dsimp only
  have t1 := run_text w6 w6.heap.size A2 nx c2 X (Owned.reads HX6.out)
  have t2 := run_text w6 w6.heap.size A3 nx c3 X (Owned.reads HY6.out)
  rw [← HSX.out] at t1 t2
  have hs := same_any A5 A6 nm nm c5 c6 w6.heap.size w6.heap.size M M w6 HM6.out.reads HN6.out.reads (Nat.le_refl _) (Nat.le_refl _) (by omega)
  rw [decide_eq_true rfl] at hs
  have HS := Lib.hid hs; clear hs
  go_wp2_with fail
  with_reducible refine HS.out.mono ?_
  rintro E7 w7 ⟨rfl, hb7⟩
  have HB7 : Hid (Below w.heap.size w w7) := Lib.hid (HB6.out.trans (hb7.mono HB6.out.size))
  have t3 := run_text w7 w7.heap.size A4 m c4 bs (Owned.reads (Owned.keep HO6.out hb7 (Nat.le_refl _)))
  have t4 := run_text w7 w.heap.size A' m c' bs (H.out.below HB7.out)
  rw [← HSB.out] at t3 t4
  clear t1 t2 hb7 HS HX6 HY6 HO6 HM6 HN6
  go_wp2
  rw [HP.out]
  exact ⟨rfl, HB7.out⟩

theorem walks : Walks 4 Try.f4 All := by
  intro H enc W base args ds p hval hA hsz _
  rw [Try.params4] at hA hval hsz
  obtain ⟨v0, vs0, d0, ds0, p0, q0, hargs, rfl, rfl, h0, r0⟩ := trodAll_cons hA
  obtain ⟨v1, vs1, d1, ds1, p1, q1, rfl, rfl, rfl, h1, r1⟩ := trodAll_cons r0
  obtain ⟨rfl, rfl, rfl⟩ := trodAll_nil r1
  obtain rfl : args = #[v0, v1] := by cases args; simp_all
  obtain ⟨A0, n0, c0, l0, rfl, hl0, hr0, hn0, hc0⟩ := exts_open (hval 0 _ v0 rfl rfl) h0 _ (reach_exts hsz (j := 0) rfl rfl)
  obtain ⟨A1, n1, c1, b1, rfl, hb1, hn1, hc1⟩ := open_bytesC (hval 1 _ v1 rfl rfl) h1 _ (reach_bytes hsz (j := 1) rfl rfl)
  exact walk A0 n0 c0 l0 A1 n1 c1 b1 W hl0 (by omega) hb1 hn1 hc1

set_option maxRecDepth 100000 in
theorem proved : Rows.AttrBlocksSaid :=
  OpenClaim.holds_of_wide 4 Try.f4 rfl rfl rfl rfl rfl rfl rfl ⟨rfl, rfl, rfl, rfl, rfl⟩ rfl rfl rfl rfl rfl (by kernel_rfl) Try.func4 (by kernel_rfl)
    (of_decide_eq_true (by kernel_rfl)) (by unfold Func.isWrapper; first | (rw [if_pos (by decide +kernel)]; kernel_rfl) | (rw [if_neg (by decide +kernel)]; exact ⟨rfl, rfl⟩))
    (fun os started H enc _ => lifted (s := Rows.attrBlocksSpec) walks (by kernel_rfl) rfl rfl (fun H ds hl => by match ds, hl with | [d1, d2], _ => rfl) (by kernel_rfl) Try.func4 os started H enc
      (ChangeSpec.witness6 (enc := enc) (C := Try.checked) false ⟨#[], #[.slice none 0 0, .slice none 0 0], []⟩ 8 (by kernel_rfl) (by kernel_rfl) (by kernel_rfl) (by kernel_rfl)))
#print axioms proved
end Go.Proofs.Ytbagocghlijleaa.AttrBlocks
