/- The block of a right list: the program's call. -/
import Derived.Test.YtmnajefioehheaaLfPut
import Derived.Test.YtmnajefioehheaaLfRight
namespace Go.Proofs.Ytmnajefioehheaa.Lf
set_option maxRecDepth 20000
open Go.RowKit
open Go.Proofs.Ytmnajefioehheaa.Mem Go.Proofs.Ytmnajefioehheaa.Crc Go.Proofs.Ytmnajefioehheaa.Rec Go.Proofs.Ytmnajefioehheaa.Reg
attribute [local go_sem ↓] ldX_eq stX_eq

def room256 : Array Value := madeCells #[.int .u8 0] 256
theorem run_make_room (W : World) : (Instr.makeSlice 24 (.int .i64 0) (.int .i64 256)).run Try.prog W = .ok (.slice (some ⟨W.heap.size, 0, none⟩) 0 256) (W.alloc (.cells room256 5)) := by
  obtain ⟨i0, hi, hz0, hz1, hz2⟩ := info_parts info_u8
  have h := run_make (P := Try.prog) W 24 5 i0 (.int .u8 0) Try.underlying24 hi hz0 .i64 .i64 0 256 (by omega) (by omega) (by rw [hz2]; omega) (by omega)
  rw [hz1] at h
  exact h
theorem room_size : room256.size = 256 := by unfold room256; rw [size_madeCells]
theorem buf_new (w : World) : BufAt ((w.alloc (.cells room256 5)).alloc (.cells #[slB w.heap.size 0] 24)) (w.heap.size + 1) w.heap.size [] := by
  have hz : (w.alloc (.cells room256 5)).heap.size = w.heap.size + 1 := by simp
  refine ⟨?_, by simp, room256, ?_, room_size, by simp⟩
  · rw [← hz]; exact heap_alloc_new _ _
  · exact (Below.heap_alloc _ _ _ (by rw [hz]; omega)).trans (heap_alloc_new w _)

set_option maxRecDepth 100000 in
set_option maxHeartbeats 4000000 in
theorem coded_any (A : Option Addr) (n c B : Nat) (l : List Nm) (w : World) (h : HoldsX w B A n l) (hB : B ≤ w.heap.size) (hr : right l = true) (hs : sizeL l ≤ 248) :
    Calls Try.prog 18 #[.slice A n c, .int .i64 (sizeL l : Int)] w (Made w (blockL l)) := by
  have hmk := run_make_room
  have hbuf := buf_new w
  have hln := h.1
  obtain ⟨W0, hW0⟩ : ∃ W0, W0 = (w.alloc (.cells room256 5)).alloc (.cells #[.slice (some ⟨w.heap.size, 0, none⟩) 0 256] 24) := ⟨_, rfl⟩
  have hbuf' : BufAt W0 (w.heap.size + 1) w.heap.size [] := by rw [hW0]; exact hbuf
  have hb0 : Below w.heap.size w W0 := by rw [hW0]; exact ((Below.refl _ w).alloc (Nat.le_refl _) _).alloc (by simp) _
  obtain ⟨r, hrr⟩ : ∃ r, r = w.heap.size := ⟨_, rfl⟩
  obtain ⟨g, hgg⟩ : ∃ g, g = w.heap.size + 1 := ⟨_, rfl⟩
  rw [← hgg, ← hrr] at hbuf'
  have hbr : w.heap.size ≤ r := by omega
  have hbg : w.heap.size ≤ g := by omega
  clear hbuf
  have hok : ∀ x ∈ l, okN x = true := ((right_iff l).1 hr).1
  have h6 := sizeL_ge l hok
  obtain ⟨N, hN⟩ : ∃ N, N = l.length := ⟨_, rfl⟩
  rw [← hN] at h6 hln
  subst hln
  obtain ⟨Z, hZ⟩ : ∃ Z, Z = sizeL l := ⟨_, rfl⟩
  rw [← hZ] at h6 hs ⊢
  have HN := Lib.hid hN; clear hN
  have HZ := Lib.hid hZ; clear hZ
  have HOK := Lib.hid hok; clear hok
  have H := Lib.hid h; clear h
  have hw1 : IntKind.u64.wrap (N : Int) = (N : Int) := by rw [IntKind.wrap_u64]; omega
  have hw2 : IntKind.u64.wrap (Z : Int) = (Z : Int) := by rw [IntKind.wrap_u64]; omega
  have HW0 := Lib.hid hW0; clear hW0
  have HR := Lib.hid hrr; clear hrr
  have HG := Lib.hid hgg; clear hgg
  have HB0 := Lib.hid hb0; clear hb0
  have hbase0 : w.heap.size ≤ W0.heap.size := HB0.out.size
  have HBUF0 := Lib.hid hbuf'; clear hbuf'
  go_enter Try.func18, Try.ntmps18
  go_wp2_with fail
  rw [← HW0.out, ← HG.out, ← HR.out]
  clear hmk
  with_reducible refine (put2 g r N [] W0 HBUF0.out (by simp)).mono ?_
  rintro E V1 ⟨rfl, hbuf1, ht1⟩
  have HBUF1 := Lib.hid hbuf1; clear hbuf1
  have hV1 : w.heap.size ≤ V1.heap.size := Nat.le_trans hbase0 ht1.size
  have HB1 : Hid (Below w.heap.size w V1) := Lib.hid (HB0.out.trans (ht1.below hbase0 hbg hbr))
  clear ht1
  go_wp2_with fail
  with_reducible refine (put2 g r Z _ V1 HBUF1.out (by simp [bytesL_len])).mono ?_
  rintro E V2 ⟨rfl, hbuf2, ht2⟩
  have hV2 : w.heap.size ≤ V2.heap.size := Nat.le_trans hV1 ht2.size
  have HB2 : Hid (Below w.heap.size w V2) := Lib.hid (HB1.out.trans (ht2.below hV1 hbg hbr))
  have HBUF2 : Hid (BufAt V2 g r (headB l 0)) := Lib.hid (by
    have e : headB l 0 = ([] ++ bytesL N 2) ++ bytesL Z 2 := by unfold headB; rw [← HN.out, ← HZ.out]; simp [codes]
    rw [e]; exact hbuf2)
  clear ht2 hbuf2
  go_wp2
  go_loopw [22] (fun i wr => ∃ k : Nat, k ≤ N ∧ i = .int .i64 (k : Int) ∧ BufAt wr g r (headB l k) ∧ Below w.heap.size w wr) (fun i _ => N - (intOf i).toNat)
  case atStart => exact ⟨0, Nat.zero_le _, rfl, HBUF2.out, HB2.out⟩
  case round =>
    obtain ⟨k, hk, rfl, hbuf, hbr2⟩ := hrel
    have HBUF := Lib.hid hbuf; clear hbuf
    rcases Nat.lt_or_ge k N with hlt | hge
    · obtain ⟨b, off, rfl, hbB⟩ := H.out.addr (by omega)
      have hkl : k < l.length := by have := HN.out; omega
      obtain ⟨e, he⟩ : ∃ e, e = l[k] := ⟨_, rfl⟩
      have hh := H.out.below (hbr2.mono hB)
      have hld := run_ldX_at hh k hkl (off + k * 2) rfl
      rw [← he] at hld
      have hst := run_stX_new wr e
      have hvar : VarX (wr.alloc (.cells e.c 40)) wr.heap.size e := VarX.new wr e
      have hb1 : Below w.heap.size w (wr.alloc (.cells e.c 40)) := hbr2.alloc hbr2.size _
      have hb1' : Below wr.heap.size wr (wr.alloc (.cells e.c 40)) := (Below.refl _ wr).alloc (Nat.le_refl _) _
      have hbuf1 := HBUF.out.below hb1'
      obtain ⟨m1, m2, m3⟩ := okN_may (HOK.out e (he ▸ List.getElem_mem hkl))
      have m4 := may_len m1
      have hnext : headB l (k + 1) = ((headB l k ++ bytesL e.i.toNat 4) ++ bytesL e.t.length 1) ++ e.t := by
        unfold headB
        rw [codes_take l k hkl, ← he]
        unfold codeE
        simp only [List.append_assoc]
      have hlen : (headB l k).length + 5 + e.t.length ≤ 252 := by
        have h1 := headB_len l (k + 1)
        rw [hnext] at h1
        simp only [List.length_append, bytesL_len] at h1
        have h2 : sizeL (l.take (k + 1)) ≤ sizeL l := by
          have h3 : sizeL l = sizeL (l.take (k + 1)) + sizeL (l.drop (k + 1)) := by rw [← sizeL_app, List.take_append_drop]
          omega
        have := HZ.out
        omega
      clear hh he
      have HNEXT := Lib.hid hnext; clear hnext
      generalize headB l k = P at hlen hbuf1 HNEXT
      obtain ⟨ei, hei⟩ : ∃ ei : Nat, ei = e.i.toNat := ⟨_, rfl⟩
      have hei2 : e.i = (ei : Int) := by omega
      rw [← hei] at HNEXT
      have hwe : IntKind.u64.wrap (ei : Int) = (ei : Int) := by rw [IntKind.wrap_u64]; omega
      obtain ⟨S, hS⟩ : ∃ S : ByteArray, S = ⟨e.t.toArray⟩ := ⟨_, rfl⟩
      have hSs : S.size = e.t.length := by rw [hS, text_size]
      have hSd : S.data.toList = e.t := by rw [hS]
      rw [← hSs] at hlen m4 HNEXT
      rw [← hSd] at HNEXT
      have hws : IntKind.u64.wrap (S.size : Int) = (S.size : Int) := by rw [IntKind.wrap_u64]; omega
      have hkeep : ∀ V, VarX V wr.heap.size e → V.cell? ⟨wr.heap.size, 0, none⟩ = some (.string S) ∧ V.cell? ⟨wr.heap.size, 1, none⟩ = some (.int .i64 (ei : Int)) := fun V hV => by
        have := hV.cells
        rw [hei2, ← hS] at this
        exact this
      have HKEEP := Lib.hid hkeep; clear hkeep
      clear hS hSs hSd hei hei2 m1 m2 m3 HBUF
      have hk0 : (0 : Int) ≤ (k : Int) := by omega
      have hkn : (k : Int) < (N : Int) := by omega
      obtain ⟨q0, q1⟩ := HKEEP.out _ hvar
      obtain ⟨We, hWe⟩ : ∃ We, We = wr.alloc (.cells e.c 40) := ⟨_, rfl⟩
      rw [← hWe] at hvar hb1 hbuf1
      have HWE := Lib.hid hWe; clear hWe
      have HVAR := Lib.hid hvar; clear hvar
      have HB1e := Lib.hid hb1; clear hb1 hb1' hbr2
      have HBUF1e := Lib.hid hbuf1; clear hbuf1
      have hWes : w.heap.size ≤ We.heap.size := HB1e.out.size
      obtain ⟨C, hC⟩ : ∃ C, C = e.c := ⟨_, rfl⟩
      rw [← hC] at hld hst q0 q1 HWE
      have HC := Lib.hid hC; clear hC
      go_wp2_with fail
      rw [← HWE.out]
      with_reducible refine (put4 g r ei P We HBUF1e.out (by omega)).mono ?_
      rintro E V3 ⟨rfl, hbuf3, ht3⟩
      have hv3 := HVAR.out.tn HBUF1e.out ht3
      have hV3 : w.heap.size ≤ V3.heap.size := Nat.le_trans hWes ht3.size
      have HB3 : Hid (Below w.heap.size w V3) := Lib.hid (HB1e.out.trans (ht3.below hWes hbg hbr))
      clear q0 q1 hld hst ht3
      obtain ⟨q0, -⟩ := HKEEP.out _ hv3
      have HV3 := Lib.hid hv3; clear hv3
      have HBUF3 := Lib.hid hbuf3; clear hbuf3
      go_wp2_with fail
      with_reducible refine (put1 g r S.size _ V3 HBUF3.out (by rw [List.length_append, bytesL_len]; omega)).mono ?_
      rintro E V4 ⟨rfl, hbuf4, ht4⟩
      have hv4 := HV3.out.tn HBUF3.out ht4
      have hV4 : w.heap.size ≤ V4.heap.size := Nat.le_trans hV3 ht4.size
      have HB4 : Hid (Below w.heap.size w V4) := Lib.hid (HB3.out.trans (ht4.below hV3 hbg hbr))
      clear q0 ht4
      obtain ⟨q0, -⟩ := HKEEP.out _ hv4
      have qb := hbuf4.cell
      obtain ⟨V5, hrun, hr5, ht5⟩ := run_addR_text hbuf4.row S (by simp only [List.length_append, bytesL_len]; omega) 24 r
      have hbox : V5.heap[g]? = V4.heap[g]? := ht5.block g hbuf4.lt hbuf4.ne hbuf4.ne
      have hfin := hbuf4.store hr5 ht5.widen hbox
      have qc : V5.cell? ⟨g, 0, none⟩ = some (slB r ((P ++ bytesL ei 4) ++ bytesL S.size 1).length) := cell_of_row V5 g 0 _ _ _ (hbox.trans hbuf4.box)
      have qf : V5.frozen? ⟨g, 0, none⟩ = false := frozen_of_row V5 g 0 _ _ (hbox.trans hbuf4.box)
      rw [← HNEXT.out] at hfin hrun
      obtain ⟨M, hM⟩ : ∃ M, M = ((P ++ bytesL ei 4) ++ bytesL S.size 1).length := ⟨_, rfl⟩
      obtain ⟨M', hM'⟩ : ∃ M', M' = (headB l (k + 1)).length := ⟨_, rfl⟩
      rw [← hM, ← hM'] at hrun
      rw [← hM] at qb qc
      rw [← hM'] at hfin
      unfold slB at qb qc hrun hfin
      have HFIN := Lib.hid hfin; clear hfin
      have HB5 : Hid (Below w.heap.size w (V5.setCell ⟨g, 0, none⟩ (.slice (some ⟨r, 0, none⟩) M' 256))) := Lib.hid (HB4.out.trans (HFIN.out.2.below hV4 hbg hbr))
      clear hr5 ht5 hbox hbuf4 hv4 hM hM'
      go_wp2_with (at_builtin; refine wpList_apprun rfl _ _ _ _ (by rfl) _ _ (by rfl) (by rfl) _ _ hrun ?_)
      go_wp2
      go_roundw
      case rel => exact ⟨k + 1, by omega, by go_num, HFIN.out.1, HB5.out⟩
      case measure => simp [intOf]; omega
    · obtain rfl : k = N := by omega
      have hP : headB l k = headB l l.length := by rw [HN.out]
      have hbuf := HBUF.out
      have hpl := headB_len l l.length
      rw [List.take_length, ← HZ.out] at hpl
      rw [hP] at hbuf
      have hbd : body l = headB l l.length ++ zeros (248 - Z) := by unfold body; rw [← HZ.out]
      clear hP HBUF
      generalize headB l l.length = P at hbuf hpl hbd
      have hqb := hbuf.cell
      obtain ⟨V5, hrun, hr5, ht5⟩ := run_addR_zeros hbuf.row (248 - Z) (by omega) 24 r
      have hbox : V5.heap[g]? = wr.heap[g]? := ht5.block g hbuf.lt hbuf.ne hbuf.ne
      have hfin := hbuf.store hr5 ht5.widen hbox
      have qc : V5.cell? ⟨g, 0, none⟩ = some (slB r P.length) := cell_of_row V5 g 0 _ _ _ (hbox.trans hbuf.box)
      have qf : V5.frozen? ⟨g, 0, none⟩ = false := frozen_of_row V5 g 0 _ _ (hbox.trans hbuf.box)
      rw [← hbd] at hfin hrun
      have hbl : (body l).length = 252 := body_len (by rw [← HZ.out]; exact hs)
      rw [hbl] at hfin hrun
      obtain ⟨M, hM⟩ : ∃ M, M = P.length := ⟨_, rfl⟩
      rw [← hM] at hrun hqb qc
      have hM2 : M ≤ 252 := by omega
      have hM3 : (((248 - Z : Nat)) : Int) = 252 - (M : Int) := by omega
      rw [hM3] at hrun
      unfold slB at hqb qc hrun hfin
      have HFIN := Lib.hid hfin; clear hfin
      have hwr : w.heap.size ≤ wr.heap.size := hbr2.size
      obtain ⟨V6, hV6⟩ : ∃ V6, V6 = V5.setCell ⟨g, 0, none⟩ (.slice (some ⟨r, 0, none⟩) 252 256) := ⟨_, rfl⟩
      have HFIN2 := HFIN.out
      rw [← hV6] at HFIN2
      have HB6 : Hid (Below w.heap.size w V6) := Lib.hid (hbr2.trans (HFIN2.2.below hwr hbg hbr))
      have hV6s : w.heap.size ≤ V6.heap.size := Nat.le_trans hwr HFIN2.2.size
      have hb6 := HFIN2.1
      have q6 := hb6.cell
      rw [hbl] at q6
      unfold slB at q6
      have hsum := sum_any (some ⟨r, 0, none⟩) 252 256 (body l) V6 (by have := hb6.row.reads; rwa [hbl] at this) (by unfold maxLen; omega)
      have hbk : blockL l = body l ++ bytesL (sum (body l)) 4 := rfl
      have hwsum := wrap_sum (body l)
      have HBK := Lib.hid hbk; clear hbk hbd
      have HSUM := Lib.hid hsum; clear hsum
      have HB6F := Lib.hid hb6; clear hb6
      have HV6 := Lib.hid hV6; clear hV6 HFIN2
      have HBL := Lib.hid hbl; clear hbl
      clear hr5 ht5 hbox hbuf hM hM3 hpl hbr2
      have hkn : ¬ (k : Int) < (k : Int) := by omega
      go_wp2_with (at_builtin; refine wpList_apprun rfl _ _ _ _ (by rfl) _ _ (by rfl) (by rfl) _ _ hrun ?_)
      clear hrun hqb
      go_wp2_with fail
      rw [← HV6.out]
      clear qc qf
      go_wp2_with fail
      with_reducible refine HSUM.out.mono ?_
      rintro E V7 ⟨rfl, hb7⟩
      have hbuf7 := HB6F.out.below hb7
      have hV7 : w.heap.size ≤ V7.heap.size := Nat.le_trans hV6s hb7.size
      have HB7 : Hid (Below w.heap.size w V7) := Lib.hid (HB6.out.trans (hb7.mono hV6s))
      have HBUF7 := Lib.hid hbuf7; clear hbuf7 hb7 q6
      clear HSUM
      have HK := HBK.out
      obtain ⟨sm, hsm⟩ : ∃ sm, sm = sum (body l) := ⟨_, rfl⟩
      rw [← hsm] at hwsum HK ⊢
      have HBK2 := Lib.hid HK; clear HK hsm
      go_wp2_with fail
      with_reducible refine (put4 g r sm _ V7 HBUF7.out (by rw [HBL.out]; omega)).mono ?_
      rintro E V8 ⟨rfl, hbuf8, ht8⟩
      have HB8 : Hid (Below w.heap.size w V8) := Lib.hid (HB7.out.trans (ht8.below hV7 hbg hbr))
      have q8 := hbuf8.cell
      have ho8 := hbuf8.row.owned hbr
      rw [← HBK2.out] at q8 ho8
      obtain ⟨L, hL⟩ : ∃ L, L = (blockL l).length := ⟨_, rfl⟩
      rw [← hL] at q8 ho8
      unfold slB at q8
      have HL := Lib.hid hL; clear hL
      have HO := Lib.hid ho8; clear ho8 hbuf8 ht8
      go_wp2
      go_ret
      exact ⟨some ⟨r, 0, none⟩, 256, by rw [← HL.out]; rfl, by rw [← HL.out]; exact HO.out, HB8.out⟩
end Go.Proofs.Ytmnajefioehheaa.Lf
