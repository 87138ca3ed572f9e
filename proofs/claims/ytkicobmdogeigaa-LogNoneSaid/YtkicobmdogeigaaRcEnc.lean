/- Contract of the program's Encode: for every record. -/
import Derived.Test.YtkicobmdogeigaaRcSlots
import Derived.Test.YtkicobmdogeigaaRcMay
import Derived.Test.YtkicobmdogeigaaRcPlain
namespace Go.Proofs.Ytkicobmdogeigaa.Rec
set_option maxRecDepth 20000
open Go.RowKit
open Go.Proofs.Ytkicobmdogeigaa.Mem Go.Proofs.Ytkicobmdogeigaa.Crc

theorem ownV_any (K S : Int) (kind : UInt8) (seq : Nat) (A : Option Addr) (n c B : Nat) (rest : List UInt8) (w : World) (hK : K = (kind.toNat : Int)) (hS : S = (seq : Int)) (h : Holds w B A n rest) (h0 : 0 < n) (hn : n ≤ 236) (hB : B ≤ w.heap.size) :
    Calls Try.prog 96 #[.int .u8 K, .int .u64 S, .slice A n c] w (Made w (ownL kind seq rest)) := by
  subst hK hS
  exact own_any kind seq A n c B rest w h h0 hn hB

/-- What Encode tells. -/
def Told (w : World) (t : Tx) (e : Ending) (w' : World) : Prop :=
  (t.mayB = false ∧ e = .returned (.tuple #[.slice none 0 0, .int .i64 17]) ∧ Below w.heap.size w w') ∨
  (t.mayB = true ∧ ∃ A c, e = .returned (.tuple #[.slice A t.enc.length c, .int .i64 0]) ∧ Owned w' w.heap.size (.slice A t.enc.length c) t.enc ∧ Below w.heap.size w w')

set_option maxRecDepth 100000 in
theorem enc_not (t : Tx) (Aw Ar : Option Addr) (nw cw nr cr B : Nat) (w : World) (h : TxAt w B t Aw nw cw Ar nr cr) (hB : B ≤ w.heap.size) (hm : t.mayB = false) :
    Calls Try.prog 77 #[.agg #[.int .u64 (t.seq : Int), .slice Aw nw cw, .slice Ar nr cr]] w (Told w t) := by
  obtain ⟨cur, hcur⟩ : ∃ c, c = #[Value.int .u64 (t.seq : Int), .slice Aw nw cw, .slice Ar nr cr] := ⟨_, rfl⟩
  have hb0 := (Below.refl w.heap.size w).alloc (Nat.le_refl _) (.cells cur 67)
  have hbk := heap_alloc_new w (.cells cur 67)
  have h1 := h.below (hb0.mono hB)
  have H1 := Lib.hid h1; clear h1
  have HB0 := Lib.hid hb0; clear hb0
  have HBK := Lib.hid hbk; clear hbk
  have HM := Lib.hid hm; clear hm h
  have hs0 : w.heap.size < (w.alloc (.cells cur 67)).heap.size := by simp
  go_enter Try.func77, Try.ntmps77
  go_wp2_with fail
  rw [← hcur]
  generalize w.alloc (.cells cur 67) = W at H1 HB0 HBK hs0 ⊢
  have HCUR := Lib.hid hcur; clear hcur
  have l0 : W.cell? ⟨w.heap.size, 0, none⟩ = some (.int .u64 (t.seq : Int)) := by rw [cell_of_row _ _ _ _ _ _ HBK.out, HCUR.out]; rfl
  have l1 : W.cell? ⟨w.heap.size, 1, none⟩ = some (.slice Aw nw cw) := by rw [cell_of_row _ _ _ _ _ _ HBK.out, HCUR.out]; rfl
  have l2 : W.cell? ⟨w.heap.size, 2, none⟩ = some (.slice Ar nr cr) := by rw [cell_of_row _ _ _ _ _ _ HBK.out, HCUR.out]; rfl
  have hmc := may_any t Aw Ar nw cw nr cr B W H1.out (by omega)
  rw [← HCUR.out] at hmc
  refine hmc.mono ?_
  clear hmc
  rintro e W1 ⟨rfl, hb1⟩
  rw [HM.out]
  have HB1 := Lib.hid hb1; clear hb1
  go_wp2
  go_ret2
  exact .inl ⟨HM.out, rfl, HB0.out.trans (HB1.out.mono (by omega))⟩

set_option maxRecDepth 100000 in
set_option maxHeartbeats 2000000 in
theorem enc_may (t : Tx) (Aw Ar : Option Addr) (nw cw nr cr B : Nat) (w : World) (h : TxAt w B t Aw nw cw Ar nr cr) (hB : B ≤ w.heap.size) (hm : t.mayB = true) :
    Calls Try.prog 77 #[.agg #[.int .u64 (t.seq : Int), .slice Aw nw cw, .slice Ar nr cr]] w (Told w t) := by
  have hmay := (mayB_iff t).1 hm
  obtain ⟨cur, hcur⟩ : ∃ c, c = #[Value.int .u64 (t.seq : Int), .slice Aw nw cw, .slice Ar nr cr] := ⟨_, rfl⟩
  have hb0 := (Below.refl w.heap.size w).alloc (Nat.le_refl _) (.cells cur 67)
  have hbk := heap_alloc_new w (.cells cur 67)
  have hnw := h.ws.1
  have hnr := h.rs.1
  have hhi := hmay.hi
  have hlo := hmay.lo
  have hw58 : nw ≤ 58 := by omega
  have hs0 : (w.alloc (.cells cur 67)).heap.size = w.heap.size + 1 := by simp
  have h1 := h.below (hb0.mono hB)
  have hsl := slots_len t
  have hhl := head_len t hmay
  have hsl1 : t.slots.length ≤ 236 := by omega
  have hsl0 : 0 < t.slots.length := by omega
  obtain ⟨SL, hSL⟩ : ∃ s, s = t.slots.length := ⟨_, rfl⟩
  rw [← hSL] at hsl0 hsl1
  have H1 := Lib.hid h1; clear h1
  have HB0 := Lib.hid hb0; clear hb0
  have HBK := Lib.hid hbk; clear hbk
  have HM := Lib.hid hm; clear hm h
  have HMAY := Lib.hid hmay; clear hmay
  have HNW := Lib.hid hnw; clear hnw
  have HS0 := Lib.hid hs0; clear hs0
  have HSL := Lib.hid hSL; clear hSL
  have HHL := Lib.hid hhl; clear hhl
  clear hsl hnr hhi hlo
  go_enter Try.func77, Try.ntmps77
  go_wp2_with fail
  rw [← hcur]
  generalize w.alloc (.cells cur 67) = W at H1 HB0 HBK HS0 ⊢
  have HCUR := Lib.hid hcur; clear hcur
  have l0 : W.cell? ⟨w.heap.size, 0, none⟩ = some (.int .u64 (t.seq : Int)) := by rw [cell_of_row _ _ _ _ _ _ HBK.out, HCUR.out]; rfl
  have l1 : W.cell? ⟨w.heap.size, 1, none⟩ = some (.slice Aw nw cw) := by rw [cell_of_row _ _ _ _ _ _ HBK.out, HCUR.out]; rfl
  have l2 : W.cell? ⟨w.heap.size, 2, none⟩ = some (.slice Ar nr cr) := by rw [cell_of_row _ _ _ _ _ _ HBK.out, HCUR.out]; rfl
  have hmc := may_any t Aw Ar nw cw nr cr B W H1.out (by have := HS0.out; omega)
  rw [← HCUR.out] at hmc
  refine hmc.mono ?_
  clear hmc
  rintro e W1 ⟨rfl, hb1⟩
  rw [HM.out]
  have hbk1 : W1.drew.heap[w.heap.size]? = some (.cells cur 67 (0, 0)) := (hb1.block _ (by have := HS0.out; omega)).trans HBK.out
  have m0 : W1.cell? ⟨w.heap.size, 0, none⟩ = some (.int .u64 (t.seq : Int)) := (hb1.cell (p := ⟨w.heap.size, 0, none⟩) (by have := HS0.out; show w.heap.size < _; omega)).trans l0
  have m1 : W1.cell? ⟨w.heap.size, 1, none⟩ = some (.slice Aw nw cw) := (hb1.cell (p := ⟨w.heap.size, 1, none⟩) (by have := HS0.out; show w.heap.size < _; omega)).trans l1
  have m2 : W1.cell? ⟨w.heap.size, 2, none⟩ = some (.slice Ar nr cr) := (hb1.cell (p := ⟨w.heap.size, 2, none⟩) (by have := HS0.out; show w.heap.size < _; omega)).trans l2
  have hT1 : TxAt W1.drew B t Aw nw cw Ar nr cr := (H1.out.below (hb1.mono (by have := HS0.out; omega))).below (Below.refl B W1).drew
  have hbW1 : Below W.heap.size W W1.drew := hb1.drew
  have HB1 := Lib.hid hbW1; clear hb1 hbW1
  have HT1 := Lib.hid hT1; clear hT1
  have HBK1 := Lib.hid hbk1; clear hbk1
  have hz1 : w.heap.size < W1.drew.heap.size := by have := HB1.out.size; have := HS0.out; omega
  have hz1' : B ≤ W1.drew.heap.size := by omega
  clear l0 l1 l2
  go_wp2_with fail
  go_region_held3 (fun V => V.cell? ⟨w.heap.size, 0, none⟩ = some (.int .u64 (t.seq : Int)) ∧ V.cell? ⟨w.heap.size, 1, none⟩ = some (.slice Aw nw cw) ∧ V.cell? ⟨w.heap.size, 2, none⟩ = some (.slice Ar nr cr)) (go_keep)
    (first
      | (go_at_call 97
         have hcall := slots_any t Aw Ar nw cw nr cr B W1.drew HT1.out hz1' HMAY.out
         with_reducible refine hcall.mono ?_
         clear hcall
         rintro e w2 ⟨A2, c2, rfl, ho2, hb2⟩
         rw [← HSL.out] at ho2 ⊢
         have k0 := (hb2.cell (p := ⟨w.heap.size, 0, none⟩) hz1).trans m0
         have k1 := (hb2.cell (p := ⟨w.heap.size, 1, none⟩) hz1).trans m1
         have k2 := (hb2.cell (p := ⟨w.heap.size, 2, none⟩) hz1).trans m2
         have HR2 := Lib.hid (Owned.reads ho2)
         have HB2 := Lib.hid hb2
         clear ho2 hb2)
      | (go_at_call 96
         have hcall := ownV_any 1 (t.seq : Int) 1 t.seq A2 SL c2 w2.heap.size t.slots w2 rfl rfl HR2.out hsl0 hsl1 (Nat.le_refl _)
         with_reducible refine hcall.mono ?_
         clear hcall
         rintro e w3 ⟨A3, c3, rfl, ho3, hb3⟩
         have hz2 : w.heap.size < w2.heap.size := by have := HB2.out.size; omega
         have j0 := (hb3.cell (p := ⟨w.heap.size, 0, none⟩) hz2).trans k0
         have j1 := (hb3.cell (p := ⟨w.heap.size, 1, none⟩) hz2).trans k1
         have j2 := (hb3.cell (p := ⟨w.heap.size, 2, none⟩) hz2).trans k2
         have HO3 := Lib.hid ho3
         have HB3 := Lib.hid hb3
         clear ho3 hb3))
  have hl0 : (ownL 1 t.seq t.slots).length = 256 := ownL_len _ _ _ (by rw [← HSL.out]; omega)
  rw [hl0] at HO3 ⊢
  obtain ⟨base, hbase0⟩ : ∃ b, b = w.heap.size + 1 := ⟨_, rfl⟩
  have hb13 : Below W1.drew.heap.size W1.drew w3 := HB2.out.trans (HB3.out.mono HB2.out.size)
  have hzb : base ≤ W1.drew.heap.size := by omega
  have hbW3 : Below base W w3 := (HB1.out.mono (by rw [hbase0]; have := HS0.out; omega)).trans (hb13.mono hzb)
  have ho3 : Owned w3 base (.slice A3 256 c3) (ownL 1 t.seq t.slots) := Owned.mono HO3.out (Nat.le_trans hzb HB2.out.size)
  obtain ⟨d0, hd0⟩ : ∃ d, d = ownL 1 t.seq t.slots := ⟨_, rfl⟩
  rw [← hd0] at ho3 hl0
  have hhead : t.head = d0 ++ bodyL t.ws := by rw [hd0]; rfl
  have hz3 : base ≤ w3.heap.size := Nat.le_trans hzb hb13.size
  have hT3 : TxAt w3 B t Aw nw cw Ar nr cr := HT1.out.below (hb13.mono hz1')
  have hBb : B ≤ base := by omega
  have HD0 := Lib.hid hd0; clear hd0
  have HL0 := Lib.hid hl0; clear hl0
  have HHD := Lib.hid hhead; clear hhead
  have HOs := Lib.hid ho3; clear ho3 HO3
  have HT3 := Lib.hid hT3; clear hT3
  have hbk3 : w3.heap[w.heap.size]? = some (.cells cur 67 (0, 0)) := (hb13.block _ hz1).trans HBK1.out
  have HBK3 := Lib.hid hbk3; clear hbk3
  have HW3 : Hid (Below w.heap.size w w3) := Lib.hid (HB0.out.trans (hbW3.mono (by omega)))
  have HB0E := Lib.hid hbase0; clear hbase0
  clear hb13 hbW3 HB1 HB2 HB3 HR2 HT1 HBK1 HB0 HBK H1 HS0 hzb hz1 hz1' hz2 k0 k1 k2 m0 m1 m2 j0 j2
  go_wp2
  go_loopw [4, 19] (fun v i wr => ∃ k : Nat, k ≤ nw ∧ i = .int .i64 k ∧ Owned wr base v (d0 ++ bodyL (t.ws.take k)) ∧ Below base w3 wr) (fun _ i _ => nw - (intOf i).toNat)
  case atStart => exact ⟨0, by omega, rfl, by simpa [bodyL] using HOs.out, Below.refl _ _⟩
  case round =>
    clear j1
    obtain ⟨k, hk, rfl, hown, hbr⟩ := hrel
    have HO := Lib.hid hown; clear hown
    have HBR := Lib.hid hbr; clear hbr
    by_cases hlt : k < nw
    · have hT := HT3.out.below (HBR.out.mono hBb)
      obtain ⟨x, hx⟩ : ∃ x, t.ws[k]? = some x := ⟨_, List.getElem?_eq_getElem (by have := HNW.out; omega)⟩
      obtain ⟨b, off, rfl, hbB, hc⟩ := hT.ws.2 (by omega)
      obtain ⟨e0, A', c', e1, hh, hf1, hf2⟩ := hc k x hx
      have hmem := List.mem_of_getElem? hx
      have hdl := HMAY.out.data x hmem
      have hsn := bodyL_snoc t.ws k x hx
      have hnl := bodyL_len (t.ws.take k) (fun y hy => HMAY.out.data y (List.mem_of_mem_take hy))
      rw [List.length_take, HNW.out, Nat.min_eq_left (by omega)] at hnl
      have hk0 : (0 : Int) ≤ (k : Int) := by omega
      have hkn : (k : Int) < (nw : Int) := by omega
      have HSN := Lib.hid hsn; clear hsn
      have HNL := Lib.hid hnl; clear hnl
      clear hc hT hmem hx
      obtain ⟨x1, x2⟩ := x
      dsimp only at e0 e1 hdl hh hf1 HSN
      rw [hdl] at e1 hh hf1
      have hbl := bareL_len x2
      rw [hdl] at hbl
      have HBL := Lib.hid hbl; clear hbl hdl
      have HH := Lib.hid hh; clear hh
      go_wp2_with fail
      have hh1 := HH.out.below (((Below.refl wr.heap.size wr).alloc (Nat.le_refl _) (.cells #[.int .i64 x1, .slice A' 256 c'] 83)).mono (show B ≤ wr.heap.size by have := HBR.out.size; omega))
      have ho1 : Owned (wr.alloc (.cells #[.int .i64 x1, .slice A' 256 c'] 83)) base u4 (d0 ++ bodyL (t.ws.take k)) := World.ownsRow.alloc HO.out _
      have hb1 := HBR.out.alloc (Nat.le_trans hz3 HBR.out.size) (.cells #[.int .i64 x1, .slice A' 256 c'] 83)
      clear e0 e1
      generalize wr.alloc (.cells #[.int .i64 x1, .slice A' 256 c'] 83) = w5 at hh1 ho1 hb1 ⊢
      have HH1 := Lib.hid hh1; clear hh1
      have HO1 := Lib.hid ho1; clear ho1
      have HB1 := Lib.hid hb1; clear hb1
      refine (bare_any A' 256 c' B x2 w5 HH1.out (by omega) (by have := HB1.out.size; omega)).mono ?_
      rintro e w6 ⟨A6, c6, rfl, ho6, hb6⟩
      rw [HBL.out] at ho6 ⊢
      have HO6 := Lib.hid ho6; clear ho6
      have HOv := Lib.hid (Owned.keep HO1.out hb6 (Nat.le_refl _))
      have HB6 : Hid (Below base w3 w6) := Lib.hid (HB1.out.trans (hb6.mono (Nat.le_trans hz3 HB1.out.size)))
      clear hb6
      go_wp2_with (at_builtin; refine wpList_addall rfl (.tmp 23) (.tmp 26) rfl base _ (d0 ++ bodyL (t.ws.take k)) rfl HOv.out w6.heap.size A6 256 c6 (bareL x2) rfl (Owned.reads HO6.out) ?c1 (Nat.le_trans hz3 HB6.out.size) ?_)
      case c1 => rw [List.length_append, HL0.out, HNL.out]; omega
      intro v8 w8 ho8 hb8
      have HO8 := Lib.hid ho8; clear ho8
      have HB8 : Hid (Below base w3 w8) := Lib.hid (HB6.out.trans hb8)
      clear hb8
      go_wp2
      go_roundw
      case rel => exact ⟨k + 1, by omega, by go_num, by rw [HSN.out]; exact HO8.out, HB8.out⟩
      case measure => simp [intOf]; omega
    · obtain rfl : nw = k := by omega
      have htk : t.ws.take nw = t.ws := List.take_of_length_le (by have := HNW.out; omega)
      rw [htk, ← HHD.out] at HO
      clear htk hk
      have hbkr : wr.heap[w.heap.size]? = some (.cells cur 67 (0, 0)) := (HBR.out.block _ (by have := HB0E.out; omega)).trans HBK3.out
      have HBKR := Lib.hid hbkr; clear hbkr
      obtain ⟨A4, c4, hv4, -⟩ := Owned.holds HO.out
      subst hv4
      have hhl := HHL.out
      have hhl2 : t.head.length ≤ 15104 := by have := HNW.out; omega
      obtain ⟨N, hN⟩ : ∃ N, N = t.head.length := ⟨_, rfl⟩
      rw [← hN] at HO hhl2 ⊢
      have HN := Lib.hid hN; clear hN hhl
      go_wp2_with fail
      refine (sum_any A4 N c4 t.head wr (Owned.reads HO.out) (by unfold maxLen; omega)).mono ?_
      rintro e w5 ⟨rfl, hb5⟩
      have hsm := sum_lt t.head
      have HO5 := Lib.hid (Owned.keep HO.out hb5 (Nat.le_refl _))
      have HB5 : Hid (Below base w3 w5) := Lib.hid (HBR.out.trans (hb5.mono (Nat.le_trans hz3 HBR.out.size)))
      clear hb5
      obtain ⟨SM, hSM⟩ : ∃ s, s = sum t.head := ⟨_, rfl⟩
      rw [← hSM] at hsm ⊢
      have HSM := Lib.hid hSM; clear hSM
      go_wp2_with fail
      refine (bytesV_any _ _ SM 4 w5 rfl rfl (by omega)).mono ?_
      rintro e w6 ⟨A6, c6, rfl, ho6, hb6⟩
      have HR6 := Lib.hid (Owned.reads ho6)
      have HO6 := Lib.hid (Owned.keep HO5.out hb6 (Nat.le_refl _))
      have HB6 : Hid (Below base w3 w6) := Lib.hid (HB5.out.trans (hb6.mono (Nat.le_trans hz3 HB5.out.size)))
      clear ho6 hb6
      have p0 : w6.cell? ⟨w.heap.size, 0, none⟩ = some (.int .u64 (t.seq : Int)) := by rw [cell_of_row _ _ _ _ _ _ ((HB6.out.block _ (by have := HB0E.out; omega)).trans HBK3.out), HCUR.out]; rfl
      go_wp2_with fail
      refine (ownV_any 2 (t.seq : Int) 2 t.seq A6 4 c6 w6.heap.size (bytesL SM 4) w6 rfl rfl HR6.out (by omega) (by omega) (Nat.le_refl _)).mono ?_
      rintro e w7 ⟨A7, c7, rfl, ho7, hb7⟩
      have hl7 : (ownL 2 t.seq (bytesL SM 4)).length = 256 := ownL_len _ _ _ (by rw [bytesL_len]; omega)
      rw [hl7] at ho7 ⊢
      have HR7 := Lib.hid (Owned.reads ho7)
      have HO7 := Lib.hid (Owned.keep HO6.out hb7 (Nat.le_refl _))
      have HB7 : Hid (Below base w3 w7) := Lib.hid (HB6.out.trans (hb7.mono (Nat.le_trans hz3 HB6.out.size)))
      clear ho7 hb7 hl7 p0
      go_wp2_with (at_builtin; refine wpList_addall rfl (.tmp 33) (.tmp 37) rfl base _ t.head rfl HO7.out w7.heap.size A7 256 c7 (ownL 2 t.seq (bytesL SM 4)) rfl HR7.out ?c2 (Nat.le_trans hz3 HB7.out.size) ?_)
      case c2 => rw [← HN.out]; omega
      intro v8 w8 ho8 hb8
      rw [HSM.out] at ho8
      have ho8' : Owned w8 base v8 t.enc := ho8
      clear ho8
      obtain ⟨A8, c8, hv8, -⟩ := Owned.holds ho8'
      subst hv8
      have HO8 := Lib.hid ho8'; clear ho8'
      have HB8 : Hid (Below w.heap.size w w8) := Lib.hid (HW3.out.trans ((HB7.out.trans hb8).mono (by have := HB0E.out; omega)))
      clear hb8
      go_wp2
      go_ret2
      exact .inr ⟨HM.out, A8, c8, rfl, Owned.mono HO8.out (by have := HB0E.out; omega), HB8.out⟩

theorem enc_any (t : Tx) (Aw Ar : Option Addr) (nw cw nr cr B : Nat) (w : World) (h : TxAt w B t Aw nw cw Ar nr cr) (hB : B ≤ w.heap.size) :
    Calls Try.prog 77 #[.agg #[.int .u64 (t.seq : Int), .slice Aw nw cw, .slice Ar nr cr]] w (Told w t) := by
  cases hm : t.mayB
  · exact enc_not t Aw Ar nw cw nr cr B w h hB hm
  · exact enc_may t Aw Ar nw cw nr cr B w h hB hm
end Go.Proofs.Ytkicobmdogeigaa.Rec
