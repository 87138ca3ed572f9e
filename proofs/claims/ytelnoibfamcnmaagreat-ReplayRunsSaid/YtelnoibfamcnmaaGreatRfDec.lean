/- Contract of the document's Decode: for all bytes. -/
import Derived.Test.YtelnoibfamcnmaaGreatRcDec
import Derived.Test.YtelnoibfamcnmaaGreatRfEnc
import Derived.Test.YtelnoibfamcnmaaGreatRfSame
import Derived.Deep.QuietTactic
import Derived.BigQuiet
namespace Go.Proofs.YtelnoibfamcnmaaGreat.Rec
set_option maxRecDepth 20000
open Go.RowKit
open Go.Proofs.YtelnoibfamcnmaaGreat.Mem Go.Proofs.YtelnoibfamcnmaaGreat.Crc

theorem atV_any (AT L : Int) (A : Option Addr) (N c B : Nat) (bs : List UInt8) (w : World) (at_ n : Nat) (hAT : AT = (at_ : Int)) (hL : L = (n : Int)) (h : Holds w B A N bs) (hc : N ≤ c) (hm : c ≤ 9223372036854775807) (h0 : 0 < n) (h4 : n ≤ 4) (hat : at_ + n ≤ N) :
    Calls Tryz.prog 94 #[.slice A N c, .int .i64 AT, .int .i64 L] w fun e w' => e = .returned (.int .i64 (numFrom bs at_ n : Int)) ∧ w = w' := by
  subst hAT hL
  exact at_ref A N c B bs w at_ n h hc hm h0 h4 hat

set_option maxRecDepth 100000 in
theorem refdec_short (A : Option Addr) (N c seq : Nat) (w : World) (hN : N < 256) :
    Calls Tryz.prog 67 #[.slice A N c, .int .u64 (seq : Int)] w (Undecoded w) := by
  have hb0 := (Below.refl w.heap.size w).alloc (Nat.le_refl _) (.cells #[.int .u64 0, .slice none 0 0, .slice none 0 0] 63)
  have hN2 : (N : Int) < 256 := by omega
  go_enter Tryz.func67, Tryz.ntmps67
  go_wp2_with fail
  refine bodyPost_ret (v := .tuple #[.agg #[.int .u64 0, .slice none 0 0, .slice none 0 0], .int .i64 0, .bool false]) (by simp [results, go_sem]) rfl ⟨rfl, ?_⟩
  exact hb0

set_option maxRecDepth 100000 in
theorem refdec_counts (A : Option Addr) (N c B : Nat) (bs : List UInt8) (seq : Nat) (w : World) (h : Holds w B A N bs) (hB : B ≤ w.heap.size) (hc : N ≤ c) (hm : c ≤ 9223372036854775807) (hN : 256 ≤ N) (hbad : ¬ (nW bs + nR bs ≤ 58 ∧ (nW bs + 2) * 256 ≤ N)) :
    Calls Tryz.prog 67 #[.slice A N c, .int .u64 (seq : Int)] w (Undecoded w) := by
  have hb0 := (Below.refl w.heap.size w).alloc (Nat.le_refl _) (.cells #[.int .u64 0, .slice none 0 0, .slice none 0 0] 63)
  have hbk := heap_alloc_new w (.cells #[.int .u64 0, .slice none 0 0, .slice none 0 0] 63)
  have h1 := h.below (hb0.mono hB)
  have H1 := Lib.hid h1; clear h1 h
  have HB0 := Lib.hid hb0; clear hb0
  have hN2 : ¬ (N : Int) < 256 := by omega
  have hw1 := nW_lt bs
  have hr1 := nR_lt bs
  have hwe : numFrom bs 16 2 = nW bs := rfl
  have hre : numFrom bs 18 2 = nR bs := rfl
  have HWE := Lib.hid hwe; clear hwe
  have HRE := Lib.hid hre; clear hre
  generalize nW bs = nw at hw1 HWE hbad ⊢
  generalize nR bs = nr at hr1 HRE hbad ⊢
  go_enter Tryz.func67, Tryz.ntmps67
  go_wp2_with fail
  generalize hWW : w.alloc (.cells #[.int .u64 0, .slice none 0 0, .slice none 0 0] 63) = W1 at H1 HB0 hbk ⊢
  have q0 : W1.cell? ⟨w.heap.size, 0, none⟩ = some (.int .u64 0) := cell_of_row W1 w.heap.size 0 _ _ _ hbk
  have q1 : W1.cell? ⟨w.heap.size, 1, none⟩ = some (.slice none 0 0) := cell_of_row W1 w.heap.size 1 _ _ _ hbk
  have q2 : W1.cell? ⟨w.heap.size, 2, none⟩ = some (.slice none 0 0) := cell_of_row W1 w.heap.size 2 _ _ _ hbk
  have f0 := frozen_of_row W1 w.heap.size 0 _ _ hbk
  have f1 := frozen_of_row W1 w.heap.size 1 _ _ hbk
  have f2 := frozen_of_row W1 w.heap.size 2 _ _ hbk
  clear hbk hWW
  with_reducible refine (atV_any 16 2 A N c B bs W1 16 2 rfl rfl H1.out hc hm (by omega) (by omega) (by omega)).mono ?_
  rintro e w' ⟨rfl, rfl⟩
  rw [HWE.out]
  go_wp2_with fail
  with_reducible refine (atV_any 18 2 A N c B bs W1 18 2 rfl rfl H1.out hc hm (by omega) (by omega) (by omega)).mono ?_
  rintro e w' ⟨rfl, rfl⟩
  rw [HRE.out]
  by_cases hsum : nw + nr ≤ 58
  · have hs1 : ¬ (58 : Int) < (nw : Int) + (nr : Int) := by omega
    have hd1 : decide ((58 : Int) < (nw : Int) + (nr : Int)) = false := by simpa using hs1
    have hs2 : (N : Int) < ((nw : Int) + 2) * 256 := by omega
    clear hbad
    go_wp2_with fail
    refine bodyPost_ret (v := .tuple #[.agg #[.int .u64 0, .slice none 0 0, .slice none 0 0], .int .i64 0, .bool false]) (by simp [results, go_sem, q0, q1, q2]) rfl ⟨rfl, ?_⟩
    exact ((HB0.out.setCell (by simp) _).setCell (by simp) _).setCell (by simp) _
  · have hs1 : (58 : Int) < (nw : Int) + (nr : Int) := by omega
    clear hbad
    go_wp2_with fail
    refine bodyPost_ret (v := .tuple #[.agg #[.int .u64 0, .slice none 0 0, .slice none 0 0], .int .i64 0, .bool false]) (by simp [results, go_sem, q0, q1, q2]) rfl ⟨rfl, ?_⟩
    exact ((HB0.out.setCell (by simp) _).setCell (by simp) _).setCell (by simp) _

set_option maxHeartbeats 4000000 in
set_option maxRecDepth 100000 in
theorem refdec_some (A : Option Addr) (N c B : Nat) (bs : List UInt8) (seq : Nat) (w : World) (h : Holds w B A N bs) (hB : B ≤ w.heap.size) (hc : N ≤ c) (hm : c ≤ 9223372036854775807) (hseq : seq < 18446744073709551616) (hsum : nW bs + nR bs ≤ 58) (hlen : (nW bs + 2) * 256 ≤ N) :
    Calls Tryz.prog 67 #[.slice A N c, .int .u64 (seq : Int)] w (DecPost w bs seq) := by
  have hb0 := (Below.refl w.heap.size w).alloc (Nat.le_refl _) (.cells #[.int .u64 0, .slice none 0 0, .slice none 0 0] 63)
  have hbk := heap_alloc_new w (.cells #[.int .u64 0, .slice none 0 0, .slice none 0 0] 63)
  have hs0 : (w.alloc (.cells #[.int .u64 0, .slice none 0 0, .slice none 0 0] 63)).heap.size = w.heap.size + 1 := by simp
  have h1 := h.below (hb0.mono hB)
  have H2 := Lib.hid h1; clear h1
  have HB1 := Lib.hid hb0; clear hb0
  have H0 := Lib.hid h; clear h
  have HSEQ := Lib.hid hseq; clear hseq
  have hN2 : ¬ (N : Int) < 256 := by omega
  have hw1 := nW_lt bs
  have hr1 := nR_lt bs
  have hwe : numFrom bs 16 2 = nW bs := rfl
  have hre : numFrom bs 18 2 = nR bs := rfl
  have HWE := Lib.hid hwe; clear hwe
  have HRE := Lib.hid hre; clear hre
  obtain ⟨nw, hnw⟩ : ∃ n, n = nW bs := ⟨_, rfl⟩
  obtain ⟨nr, hnr⟩ : ∃ n, n = nR bs := ⟨_, rfl⟩
  rw [← hnw] at hw1 HWE hsum hlen
  rw [← hnr] at hr1 HRE hsum
  have HNWE := Lib.hid hnw; clear hnw
  have HNRE := Lib.hid hnr; clear hnr
  go_enter Tryz.func67, Tryz.ntmps67
  go_wp2_with fail
  generalize w.alloc (.cells #[.int .u64 0, .slice none 0 0, .slice none 0 0] 63) = W1 at H2 HB1 hbk hs0 ⊢
  have HBK1 := Lib.hid hbk; clear hbk
  have HS1 := Lib.hid hs0; clear hs0
  with_reducible refine (atV_any 16 2 A N c B bs W1 16 2 rfl rfl H2.out hc hm (by omega) (by omega) (by omega)).mono ?_
  rintro e w' ⟨rfl, rfl⟩
  rw [HWE.out]
  go_wp2_with fail
  with_reducible refine (atV_any 18 2 A N c B bs W1 18 2 rfl rfl H2.out hc hm (by omega) (by omega) (by omega)).mono ?_
  rintro e w' ⟨rfl, rfl⟩
  rw [HRE.out]
  have hs1 : ¬ (58 : Int) < (nw : Int) + (nr : Int) := by omega
  have hd1 : decide ((58 : Int) < (nw : Int) + (nr : Int)) = false := by simpa using hs1
  have hs2 : ¬ (N : Int) < ((nw : Int) + 2) * 256 := by omega
  obtain ⟨W2, hW2⟩ : ∃ W, W = W1.alloc (.cells #[.int .u64 (seq : Int), .slice none 0 0, .slice none 0 0] 63) := ⟨_, rfl⟩
  have hzw : w.heap.size < W1.heap.size := by have := HS1.out; omega
  obtain ⟨base, hbase⟩ : ∃ b, b = W1.heap.size + 1 := ⟨_, rfl⟩
  obtain ⟨p, hp⟩ : ∃ p, p = W1.heap.size := ⟨_, rfl⟩
  have hT2 : Telling w W2 p base seq none 0 0 [] [] none 0 0 [] := by
    have hb2 : Below W1.heap.size W1 W2 := by rw [hW2]; exact (Below.refl _ _).alloc (Nat.le_refl _) _
    refine ⟨(hb2.block _ hzw).trans HBK1.out, by rw [hW2, hp]; exact heap_alloc_new W1 _, OwnsW.empty _ _, World.ownsRow_nil _ _ _ _, rfl, HB1.out.trans (hb2.mono (by omega)), by rw [hW2, hbase]; simp⟩
  have HT2 := Lib.hid hT2; clear hT2
  have hpb : p < base := by omega
  have hwp : w.heap.size < p := by omega
  have hBp : B ≤ w.heap.size := hB
  obtain ⟨SZ, hSZ⟩ : ∃ s : Nat, s = (nw + 2) * 256 := ⟨_, rfl⟩
  have hsz : ((nw : Int) + 2) * 256 = (SZ : Int) := by omega
  rw [hsz] at hs2
  have hs3 : ¬ N < SZ := by omega
  have hd3 : decide (N < SZ) = false := decide_eq_false hs3
  have HSZ := Lib.hid hSZ; clear hSZ
  go_wp2_with fail
  rw [← hW2, ← hp]
  have HW2 := Lib.hid hW2; clear hW2
  have HBS := Lib.hid hbase; clear hbase
  have HP := Lib.hid hp; clear hp
  clear hzw
  go_loopw [11, 12, 13] (fun i _ _ wr => ∃ (k : Nat) (Aw : Option Addr) (cw : Nat) (vs : List Value), k ≤ nw ∧ i = .int .i64 k ∧ Telling w wr p base seq Aw k cw ((List.range k).map (wtAt bs)) vs none 0 0 []) (fun i _ _ _ => nw - (intOf i).toNat)
  case atStart => exact ⟨0, none, 0, [], by omega, rfl, HT2.out⟩
  case round =>
    obtain ⟨k, Aw, cw, vs, hk, rfl, hT⟩ := hrel
    have HT := Lib.hid hT; clear hT
    have hk0 : (0 : Int) ≤ (k : Int) := by omega
    have hh := H0.out.below (HT.out.below.mono hB)
    obtain ⟨b, off, hA⟩ := Holds.addr hh (by omega)
    subst hA
    have HH := Lib.hid hh; clear hh
    by_cases hlt : k < nw
    · have hk1 : (k : Int) < (nw : Int) := by omega
      have hb1 : ((k : Int) + 2) * 256 ≤ (N : Int) := by omega
      have hb2 : ((k : Int) + 2) * 256 ≤ (c : Int) := by omega
      have hk58 : k < 58 := by omega
      have hlen256 : (k + 2) * 256 - (k + 1) * 256 = 256 := by omega
      have HD : Hid (Holds wr B (some ⟨b, off + (k + 1) * 256, none⟩) 256 ((bs.drop ((k + 1) * 256)).take 256)) := Lib.hid (Holds.drop HH.out (by omega))
      obtain ⟨K, hK⟩ : ∃ K, K = numFrom bs (20 + 4 * k) 4 := ⟨_, rfl⟩
      have hKlt : K < 4294967296 := by rw [hK]; exact numFrom_lt _ _ _
      obtain ⟨D, hD⟩ : ∃ D, D = (bs.drop ((k + 1) * 256)).take 256 := ⟨_, rfl⟩
      have hwt : wtAt bs k = ((outNum K : Int), outData K D) := by rw [hK, hD]; rfl
      rw [← hD] at HD
      have HK := Lib.hid hK; clear hK hD
      have HWT := Lib.hid hwt; clear hwt
      have p1 : wr.cell? ⟨p, 1, none⟩ = some (.slice Aw k cw) := cell_of_row wr p 1 _ _ _ HT.out.box
      have hpr : p < wr.heap.size := (Array.getElem?_eq_some_iff.1 HT.out.box).1
      have e1 : IntKind.i64.wrap (4 * (k : Int)) = 4 * (k : Int) := IntWalk.i64_in _ (by omega)
      have e2 : IntKind.i64.wrap (20 + 4 * (k : Int)) = 20 + 4 * (k : Int) := IntWalk.i64_in _ (by omega)
      have hszr : B ≤ wr.heap.size := by have := HT.out.below.size; omega
      have hbr : base ≤ wr.heap.size := HT.out.size
      obtain ⟨i0, hi, hz0, hz1, hz2⟩ := info_parts info_wt
      have HI := Lib.hid hi; clear hi
      have HZ0 := Lib.hid hz0; clear hz0
      have HZ1 := Lib.hid hz1; clear hz1
      have HZ2 := Lib.hid hz2; clear hz2
      go_wp2_with fail
      with_reducible refine (atV_any (20 + 4 * (k : Int)) 4 (some ⟨b, off, none⟩) N c B bs wr (20 + 4 * k) 4 (by omega) rfl HH.out hc hm (by omega) (by omega) (by omega)).mono ?_
      rintro e w' ⟨rfl, rfl⟩
      rw [← HK.out]
      clear e1 e2
      have hoe : Owned (wr.alloc (.cells #[] 5)) wr.heap.size (.slice (some ⟨wr.heap.size, 0, none⟩) 0 0) [] := owned_made wr [] wr.heap.size (Nat.le_refl _) (by unfold maxLen; simp)
      have hbe : Below wr.heap.size wr (wr.alloc (.cells #[] 5)) := (Below.refl _ wr).alloc (Nat.le_refl _) _
      have HDe := Lib.hid (HD.out.below (hbe.mono hszr))
      go_wp2_with (at_builtin; rw [hlen256]; refine wpList_addall (o := ⟨some 60, _, _, _, _, _⟩) rfl _ _ rfl wr.heap.size _ [] rfl hoe B (some ⟨b, off + (k + 1) * 256, none⟩) 256 (c - (k + 1) * 256) D rfl HDe.out (by simp) hbe.size ?_)
      intro v5 w5 ho5 hb5
      obtain ⟨g, cap, cur, hv, -⟩ := Owned.cut ho5 (by show 0 < D.length; rw [HD.out.1]; omega)
      subst hv
      have hdl : D.length = 256 := HD.out.1
      have ho5' : Owned w5 wr.heap.size (.slice (some ⟨g, 0, none⟩) 256 cap) D := by rw [← hdl]; exact ho5
      rw [hdl]
      clear ho5
      have hb5w : Below wr.heap.size wr w5 := hbe.trans hb5
      clear hoe hbe hb5
      by_cases hKb : 2147483648 ≤ K
      · obtain ⟨w6, hrun, ho6, hb6⟩ := run_copy_const w5 3 wr.heap.size g 256 cap D markL 256 cap ho5' (by decide) (by decide) (by decide)
        have hrun' : (Builtin.copy_ #[25, 9] 3 #[.slice (some ⟨g, 0, none⟩) 256 cap, .string ⟨#[85, 76, 79, 71]⟩]).run Tryz.prog w5 = .ok (goInt 4) w6 := hrun
        have hod : over D 0 markL = outData K D := by unfold outData; rw [if_pos hKb]
        have hon : (K : Int) - 2147483648 = ((outNum K : Nat) : Int) := by unfold outNum; rw [if_pos hKb]; omega
        rw [hod] at ho6
        have HB5 : Hid (Below wr.heap.size wr w6) := Lib.hid (hb5w.trans hb6)
        have HO5 := Lib.hid ho6; clear ho6 hb6 hrun ho5' hb5w hod hdl
        have hKi : (2147483648 : Int) ≤ (K : Int) := by omega
        have HON := Lib.hid hon; clear hon
        have pb : w6.cell? ⟨p, 1, none⟩ = some (.slice Aw k cw) := (HB5.out.cell (p := ⟨p, 1, none⟩) hpr).trans p1
        have hbA := (Below.refl w6.heap.size w6).alloc (Nat.le_refl _) (.cells #[.int .i64 ((K : Int) - 2147483648), .slice (some ⟨g, 0, none⟩) 256 cap] 56)
        have hbW := HB5.out.trans (hbA.mono HB5.out.size)
        have hown7 := HT.out.own.kept (Kept.of_below hbW (Nat.le_refl _))
        have hnews := World.news_of_block (w := w6.alloc (.cells #[.int .i64 ((K : Int) - 2147483648), .slice (some ⟨g, 0, none⟩) 256 cap] 56)) (heap_alloc_new w6 (.cells #[.int .i64 ((K : Int) - 2147483648), .slice (some ⟨g, 0, none⟩) 256 cap] 56))
        have hbase7 : base ≤ (w6.alloc (.cells #[.int .i64 ((K : Int) - 2147483648), .slice (some ⟨g, 0, none⟩) 256 cap] 56)).heap.size := by have := hbW.size; omega
        have ho5a : (w6.alloc (.cells #[.int .i64 ((K : Int) - 2147483648), .slice (some ⟨g, 0, none⟩) 256 cap] 56)).ownsRow wr.drew.heap.size 5 1 (.slice (some ⟨g, 0, none⟩) 256 cap) (outData K D).length ((outData K D).map byteV) := World.ownsRow.alloc HO5.out _
        have hb5d : Below wr.drew.heap.size wr.drew w6 := ⟨HB5.out.os, HB5.out.tape, HB5.out.output, HB5.out.size, HB5.out.block⟩
        have hbx : (w6.alloc (.cells #[.int .i64 ((K : Int) - 2147483648), .slice (some ⟨g, 0, none⟩) 256 cap] 56)).heap[p]? = _ := (hbW.block p hpr).trans HT.out.box
        have HOWN7 := Lib.hid hown7; clear hown7
        have HNEWS := Lib.hid hnews; clear hnews
        have HO5A := Lib.hid ho5a; clear ho5a
        have HB5D := Lib.hid hb5d; clear hb5d
        have HBX := Lib.hid hbx; clear hbx
        have HBA := Lib.hid hbA; clear hbA
        clear hbW
        go_wp2_with (at_builtin; refine wpList_append_lies (o := ⟨some 73, _, _, _, _, _⟩) _ rfl (.tmp 68) (.tmp 72) 57 rfl base 56 i0 (.agg #[.int .i64 0, .slice none 0 0]) 2 32 Tryz.underlying57 HI.out HZ0.out HZ1.out HZ2.out rfl (by omega) (.slice Aw k cw) k (wcells ((List.range k).map (wtAt bs)) vs) rfl HOWN7.out.row ⟨w6.heap.size, 0, none⟩ 1 1 [.int .i64 ((K : Int) - 2147483648), .slice (some ⟨g, 0, none⟩) 256 cap] rfl rfl HNEWS.out (by intro u hu; simp at hu; rcases hu with rfl | rfl <;> rfl) (by omega) (by unfold maxLen; omega) (by omega) hbase7 _ rfl ?_)
        intro g7 cap7 w7 hown8 hgrow8 hat8 hlt8
        have hbx8 : w7.heap[p]? = some (.cells #[.int .u64 (seq : Int), .slice Aw k cw, .slice none 0 0] 63 (0, 0)) := by
          rw [hgrow8.block p (Array.getElem?_eq_some_iff.1 HBX.out).1 (fun e => by have := (World.ownsRow.lt HOWN7.out.row p e.symm).1; omega)]
          exact HBX.out
        have n1 : w7.cell? ⟨p, 1, none⟩ = some (.slice Aw k cw) := cell_of_row w7 p 1 _ _ _ hbx8
        have f1 : w7.frozen? ⟨p, 1, none⟩ = false := frozen_of_row w7 p 1 _ _ hbx8
        have hT7 := Telling.nextW HT.out hpb hwp HB5D.out HBA.out HOWN7.out HO5A.out hown8 hgrow8 hbx8 HON.out HWT.out
        have HT7 := Lib.hid hT7; clear hT7
        clear hown8 hgrow8 hat8 hlt8 hbx8 pb
        go_wp2
        go_roundw
        case rel => exact ⟨k + 1, _, _, _, by omega, by go_num, HT7.out⟩
        case measure => simp [intOf]; omega
      · have hod : D = outData K D := by unfold outData; rw [if_neg hKb]
        have hon : (K : Int) = ((outNum K : Nat) : Int) := by unfold outNum; rw [if_neg hKb]
        rw [hod] at ho5'
        have HB5 := Lib.hid hb5w
        have HO5 := Lib.hid ho5'; clear ho5' hb5w hod hdl
        have hKi : ¬ (2147483648 : Int) ≤ (K : Int) := by omega
        have HON := Lib.hid hon; clear hon
        have pb : w5.cell? ⟨p, 1, none⟩ = some (.slice Aw k cw) := (HB5.out.cell (p := ⟨p, 1, none⟩) hpr).trans p1
        have hbA := (Below.refl w5.heap.size w5).alloc (Nat.le_refl _) (.cells #[.int .i64 (K : Int), .slice (some ⟨g, 0, none⟩) 256 cap] 56)
        have hbW := HB5.out.trans (hbA.mono HB5.out.size)
        have hown7 := HT.out.own.kept (Kept.of_below hbW (Nat.le_refl _))
        have hnews := World.news_of_block (w := w5.alloc (.cells #[.int .i64 (K : Int), .slice (some ⟨g, 0, none⟩) 256 cap] 56)) (heap_alloc_new w5 (.cells #[.int .i64 (K : Int), .slice (some ⟨g, 0, none⟩) 256 cap] 56))
        have hbase7 : base ≤ (w5.alloc (.cells #[.int .i64 (K : Int), .slice (some ⟨g, 0, none⟩) 256 cap] 56)).heap.size := by have := hbW.size; omega
        have ho5a : (w5.alloc (.cells #[.int .i64 (K : Int), .slice (some ⟨g, 0, none⟩) 256 cap] 56)).ownsRow wr.drew.heap.size 5 1 (.slice (some ⟨g, 0, none⟩) 256 cap) (outData K D).length ((outData K D).map byteV) := World.ownsRow.alloc HO5.out _
        have hb5d : Below wr.drew.heap.size wr.drew w5 := ⟨HB5.out.os, HB5.out.tape, HB5.out.output, HB5.out.size, HB5.out.block⟩
        have hbx : (w5.alloc (.cells #[.int .i64 (K : Int), .slice (some ⟨g, 0, none⟩) 256 cap] 56)).heap[p]? = _ := (hbW.block p hpr).trans HT.out.box
        have HOWN7 := Lib.hid hown7; clear hown7
        have HNEWS := Lib.hid hnews; clear hnews
        have HO5A := Lib.hid ho5a; clear ho5a
        have HB5D := Lib.hid hb5d; clear hb5d
        have HBX := Lib.hid hbx; clear hbx
        have HBA := Lib.hid hbA; clear hbA
        clear hbW
        go_wp2_with (at_builtin; refine wpList_append_lies (o := ⟨some 73, _, _, _, _, _⟩) _ rfl (.tmp 68) (.tmp 72) 57 rfl base 56 i0 (.agg #[.int .i64 0, .slice none 0 0]) 2 32 Tryz.underlying57 HI.out HZ0.out HZ1.out HZ2.out rfl (by omega) (.slice Aw k cw) k (wcells ((List.range k).map (wtAt bs)) vs) rfl HOWN7.out.row ⟨w5.heap.size, 0, none⟩ 1 1 [.int .i64 (K : Int), .slice (some ⟨g, 0, none⟩) 256 cap] rfl rfl HNEWS.out (by intro u hu; simp at hu; rcases hu with rfl | rfl <;> rfl) (by omega) (by unfold maxLen; omega) (by omega) hbase7 _ rfl ?_)
        intro g7 cap7 w7 hown8 hgrow8 hat8 hlt8
        have hbx8 : w7.heap[p]? = some (.cells #[.int .u64 (seq : Int), .slice Aw k cw, .slice none 0 0] 63 (0, 0)) := by
          rw [hgrow8.block p (Array.getElem?_eq_some_iff.1 HBX.out).1 (fun e => by have := (World.ownsRow.lt HOWN7.out.row p e.symm).1; omega)]
          exact HBX.out
        have n1 : w7.cell? ⟨p, 1, none⟩ = some (.slice Aw k cw) := cell_of_row w7 p 1 _ _ _ hbx8
        have f1 : w7.frozen? ⟨p, 1, none⟩ = false := frozen_of_row w7 p 1 _ _ hbx8
        have hT7 := Telling.nextW HT.out hpb hwp HB5D.out HBA.out HOWN7.out HO5A.out hown8 hgrow8 hbx8 HON.out HWT.out
        have HT7 := Lib.hid hT7; clear hT7
        clear hown8 hgrow8 hat8 hlt8 hbx8 pb
        go_wp2
        go_roundw
        case rel => exact ⟨k + 1, _, _, _, by omega, by go_num, HT7.out⟩
        case measure => simp [intOf]; omega
    · obtain rfl : k = nw := by omega
      obtain ⟨WS, hWS⟩ : ∃ l, l = (List.range k).map (wtAt bs) := ⟨_, rfl⟩
      rw [← hWS] at HT
      have HWS := Lib.hid hWS; clear hWS
      go_wp2
      go_loopw [14] (fun i wr => ∃ (j : Nat) (Ar : Option Addr) (cr : Nat), j ≤ nr ∧ i = .int .i64 j ∧ Telling w wr p base seq Aw k cw WS vs Ar j cr ((List.range j).map (rvAt bs k))) (fun i _ => nr - (intOf i).toNat)
      case atStart => exact ⟨0, none, 0, by omega, rfl, HT.out⟩
      case round =>
        clear HT HH
        obtain ⟨j, Ar, cr, hj, rfl, hT⟩ := hrel
        have HT := Lib.hid hT; clear hT
        have HH := Lib.hid (H0.out.below (HT.out.below.mono hB))
        have hj0 : (0 : Int) ≤ (j : Int) := by omega
        by_cases hlt2 : j < nr
        · have hj1 : (j : Int) < (nr : Int) := by omega
          have HHd : Hid (Holds wr.drew B (some ⟨b, off, none⟩) N bs) := HH
          obtain ⟨K, hK⟩ : ∃ K, K = numFrom bs (20 + 4 * (k + j)) 4 := ⟨_, rfl⟩
          have hKlt : K < 4294967296 := by rw [hK]; exact numFrom_lt _ _ _
          have hrv : rvAt bs k j = (K : Int) := by rw [hK]; rfl
          have HK := Lib.hid hK; clear hK
          have HRV := Lib.hid hrv; clear hrv
          have p2 : wr.cell? ⟨p, 2, none⟩ = some (.slice Ar j cr) := cell_of_row wr p 2 _ _ _ HT.out.box
          have pd2 : wr.drew.cell? ⟨p, 2, none⟩ = some (.slice Ar j cr) := p2
          have e0 : IntKind.i64.wrap ((k : Int) + (j : Int)) = (k : Int) + (j : Int) := IntWalk.i64_in _ (by omega)
          have e1 : IntKind.i64.wrap (4 * ((k : Int) + (j : Int))) = 4 * ((k : Int) + (j : Int)) := IntWalk.i64_in _ (by omega)
          have e2 : IntKind.i64.wrap (20 + 4 * ((k : Int) + (j : Int))) = 20 + 4 * ((k : Int) + (j : Int)) := IntWalk.i64_in _ (by omega)
          have hszr : base ≤ wr.drew.heap.size := HT.out.size
          obtain ⟨i1, hi, hz0, hz1, hz2⟩ := info_parts info_int
          have HI := Lib.hid hi; clear hi
          have HZ0 := Lib.hid hz0; clear hz0
          have HZ1 := Lib.hid hz1; clear hz1
          have HZ2 := Lib.hid hz2; clear hz2
          have hszr1 : base ≤ wr.heap.size := hszr
          have hpr : p < wr.heap.size := by omega
          have hbA := ((Below.refl wr.heap.size wr).alloc (Nat.le_refl _) (.cells #[.int .i64 (K : Int)] 3)).drew
          have k2 := (hbA.cell (p := ⟨p, 2, none⟩) hpr).trans p2
          have HOW : Hid ((wr.alloc (.cells #[.int .i64 (K : Int)] 3)).drew.ownsRow base 3 1 (.slice Ar j cr) j (((List.range j).map (rvAt bs k)).map (Value.int .i64))) := Lib.hid (World.ownsRow.alloc (w := wr) HT.out.ints (.cells #[.int .i64 (K : Int)] 3))
          have HNW := Lib.hid (World.news_of_block (w := (wr.alloc (.cells #[.int .i64 (K : Int)] 3)).drew) (show (wr.alloc (.cells #[.int .i64 (K : Int)] 3)).drew.heap[wr.heap.size]? = some (.cells #[.int .i64 (K : Int)] 3 (0, 0)) from heap_alloc_new wr (.cells #[.int .i64 (K : Int)] 3)))
          have hb5s : base ≤ (wr.alloc (.cells #[.int .i64 (K : Int)] 3)).drew.heap.size := by show base ≤ (wr.alloc _).heap.size; simp; omega
          have HBA := Lib.hid hbA; clear hbA
          go_wp2_with fail
          go_region_law ((first
              | (refine step_call3 (o := ⟨some 88, _, _, _, _, _⟩) rfl 94 _ _ (.tmp 82) (.tmp 87) (.const (.int .i64 4)) _ rfl Tryz.func94 (by kernel_rfl) rfl (.slice (some ⟨b, off, none⟩) N c) (.int .i64 (20 + 4 * ((k : Int) + (j : Int)))) (.int .i64 4) (by go_simp) (by go_simp) (by go_simp) _ (atV_any (20 + 4 * ((k : Int) + (j : Int))) 4 (some ⟨b, off, none⟩) N c B bs wr.drew (20 + 4 * (k + j)) 4 (by omega) rfl HHd.out hc hm (by omega) (by omega) (by omega)) ?_
                 rintro e w' ⟨rfl, rfl⟩
                 refine ⟨_, rfl, ?_⟩
                 rw [← HK.out])
              | (refine step_append_lies (o := ⟨some 90, _, _, _, _, _⟩) _ rfl (.tmp 81) (.tmp 89) 61 rfl base 3 i1 (.int .i64 0) 1 8 Tryz.underlying61 HI.out HZ0.out HZ1.out HZ2.out rfl (by omega) (.slice Ar j cr) j (((List.range j).map (rvAt bs k)).map (Value.int .i64)) (by go_simp) HOW.out ⟨wr.heap.size, 0, none⟩ 1 1 [.int .i64 (K : Int)] (by go_simp) rfl HNW.out (by intro u hu; simp at hu; subst hu; rfl) (by omega) (by unfold maxLen; omega) (by omega) hb5s _ rfl ?_
                 intro g cap w6 hown6 hgrow6 hat6 hlt6
                 have hbx6 : w6.heap[p]? = some (.cells #[.int .u64 (seq : Int), .slice Aw k cw, .slice Ar j cr] 63 (0, 0)) := by
                   rw [hgrow6.block p (by omega) (fun e => by
                     have := (World.ownsRow.lt HOW.out p e.symm).1; omega), HBA.out.block p hpr]
                   exact HT.out.box
                 have n2 : w6.cell? ⟨p, 2, none⟩ = some (.slice Ar j cr) := cell_of_row w6 p 2 _ _ _ hbx6
                 have f2 : w6.frozen? ⟨p, 2, none⟩ = false := frozen_of_row w6 p 2 _ _ hbx6
                 have HO6 := Lib.hid hown6
                 have HG6 := Lib.hid hgrow6
                 have HBX6 := Lib.hid hbx6
                 clear hown6 hgrow6 hat6 hlt6 hbx6)))
          all_goals
            have hT7 := Telling.nextR HT.out hpb hwp HBA.out HOW.out HO6.out HG6.out HBX6.out HRV.out
            have HT7 := Lib.hid hT7; clear hT7
            clear n2 f2 p2 pd2 k2 hb5s
            go_wp2
            go_roundw
            case rel => exact ⟨j + 1, _, _, by omega, by go_num, HT7.out⟩
            case measure => simp [intOf]; omega
        · obtain rfl : j = nr := by omega
          have hTT := HT.out
          have hot : OwnsT wr base (tellL bs seq) Aw cw Ar cr vs := ⟨by
              have hl : (tellL bs seq).ws = WS := by rw [HWS.out, HNWE.out]; rfl
              rw [hl, hTT.own.cnt]; exact hTT.own, by
              have hl : (tellL bs seq).rs = (List.range j).map (rvAt bs k) := by rw [HNWE.out, HNRE.out]; rfl
              have hn : (tellL bs seq).rs.length = j := by rw [hl]; simp
              rw [hn, hl]; exact hTT.ints⟩
          have htx := hot.holds HSEQ.out
          rw [← HNWE.out, ← HNRE.out] at htx
          have hec := encr_any (tellL bs seq) Aw Ar k cw j cr wr.heap.size wr htx (Nat.le_refl _)
          rw [show (tellL bs seq).seq = seq from rfl] at hec
          have c0 : wr.cell? ⟨p, 0, none⟩ = some (.int .u64 (seq : Int)) := cell_of_row wr p 0 _ _ _ hTT.box
          have c1 : wr.cell? ⟨p, 1, none⟩ = some (.slice Aw k cw) := cell_of_row wr p 1 _ _ _ hTT.box
          have c2 : wr.cell? ⟨p, 2, none⟩ = some (.slice Ar j cr) := cell_of_row wr p 2 _ _ _ hTT.box
          have hdec : decB bs seq = ((tellL bs seq).mayB && preB (tellL bs seq).enc bs) := by
            have ht : tellB bs = true := by
              unfold tellB
              simp only [Bool.and_eq_true, decide_eq_true_eq]
              rw [H0.out.1, ← HNWE.out, ← HNRE.out]
              have := HSZ.out
              exact ⟨by omega, hsum, hlen⟩
            unfold decB; rw [ht]; rfl
          have hel : (tellL bs seq).mayB = true → (tellL bs seq).enc.length = SZ := fun hm => by
            have h1 := enc_len _ ((mayB_iff _).1 hm)
            rw [(tellL_lens bs seq).1, ← HNWE.out] at h1
            have := HSZ.out; omega
          have hpw : p < wr.heap.size := (Array.getElem?_eq_some_iff.1 hTT.box).1
          have hww : w.heap.size < wr.heap.size := (Array.getElem?_eq_some_iff.1 hTT.res).1
          have HEC := Lib.hid hec; clear hec
          have HOT := Lib.hid hot; clear hot htx
          have HDEC := Lib.hid hdec; clear hdec
          have HEL := Lib.hid hel; clear hel
          clear hTT
          have hSc : SZ ≤ c := by omega
          have hSn : SZ ≤ N := by omega
          go_wp2_with fail
          with_reducible refine HEC.out.mono ?_
          clear HEC c0 c1 c2
          rintro e w3 hT
          rcases hT with ⟨hmb, rfl, hb3⟩ | ⟨hmb, A4, c4, rfl, ho4, hb4⟩
          · have hd : decB bs seq = false := by rw [HDEC.out, hmb]; rfl
            have hbk3 := (hb3.block _ hww).trans HT.out.res
            have HB3 : Hid (Below w.heap.size w w3) := Lib.hid (HT.out.below.trans (hb3.mono HT.out.below.size))
            have HD := Lib.hid hd; clear hd hmb hb3
            have q0 : w3.cell? ⟨w.heap.size, 0, none⟩ = some (.int .u64 0) := cell_of_row w3 w.heap.size 0 _ _ _ hbk3
            have q1 : w3.cell? ⟨w.heap.size, 1, none⟩ = some (.slice none 0 0) := cell_of_row w3 w.heap.size 1 _ _ _ hbk3
            have q2 : w3.cell? ⟨w.heap.size, 2, none⟩ = some (.slice none 0 0) := cell_of_row w3 w.heap.size 2 _ _ _ hbk3
            have f0 := frozen_of_row w3 w.heap.size 0 _ _ hbk3
            have f1 := frozen_of_row w3 w.heap.size 1 _ _ hbk3
            have f2 := frozen_of_row w3 w.heap.size 2 _ _ hbk3
            clear hbk3
            go_wp2
            go_quiet (fail)
            all_goals
              go_wp2_with fail
              refine bodyPost_ret (v := .tuple #[.agg #[.int .u64 0, .slice none 0 0, .slice none 0 0], .int .i64 0, .bool false]) (by simp [results, go_sem, q0, q1, q2]) rfl (.inr ⟨HD.out, rfl, ?_⟩)
              exact (((HB3.out.drewN _).setCell (by simp) _).setCell (by simp) _).setCell (by simp) _
          · have hL := HEL.out hmb
            have hdd : decB bs seq = preB (tellL bs seq).enc bs := by rw [HDEC.out, hmb]; rfl
            obtain ⟨E1, hE1⟩ : ∃ l, l = (tellL bs seq).enc := ⟨_, rfl⟩
            rw [← hE1] at hL hdd ho4 ⊢
            rw [hL] at ho4 ⊢
            have hbk3 := (hb4.block _ hww).trans HT.out.res
            have hbp3 := (hb4.block _ hpw).trans HT.out.box
            have HB3 : Hid (Below w.heap.size w w3) := Lib.hid (HT.out.below.trans (hb4.mono HT.out.below.size))
            have HOT3 := Lib.hid (HOT.out.kept (Kept.of_below hb4 (Nat.le_refl _)))
            have hr4 := Owned.reads ho4
            have hr0 := (HH.out.below ((Below.refl B wr).trans (hb4.mono (by have := HT.out.below.size; omega)))).take (k := SZ) hSn
            obtain ⟨E2, hE2⟩ : ∃ l, l = bs.take SZ := ⟨_, rfl⟩
            rw [← hE2] at hr0
            have tA := fun q => run_text (w3.drewN q) _ A4 SZ c4 _ (hr4.below ((Below.refl w3.heap.size w3).drewN q))
            have tB := fun q => run_text (w3.drewN q) _ (some ⟨b, off, none⟩) SZ c _ (hr0.below ((Below.refl B w3).drewN q))
            have q0 : w3.cell? ⟨w.heap.size, 0, none⟩ = some (.int .u64 0) := cell_of_row w3 w.heap.size 0 _ _ _ hbk3
            have q1 : w3.cell? ⟨w.heap.size, 1, none⟩ = some (.slice none 0 0) := cell_of_row w3 w.heap.size 1 _ _ _ hbk3
            have q2 : w3.cell? ⟨w.heap.size, 2, none⟩ = some (.slice none 0 0) := cell_of_row w3 w.heap.size 2 _ _ _ hbk3
            have f0 := frozen_of_row w3 w.heap.size 0 _ _ hbk3
            have f1 := frozen_of_row w3 w.heap.size 1 _ _ hbk3
            have f2 := frozen_of_row w3 w.heap.size 2 _ _ hbk3
            have d0 : w3.cell? ⟨p, 0, none⟩ = some (.int .u64 (seq : Int)) := cell_of_row _ _ _ _ _ _ hbp3
            have d1 : w3.cell? ⟨p, 1, none⟩ = some (.slice Aw k cw) := cell_of_row _ _ _ _ _ _ hbp3
            have d2 : w3.cell? ⟨p, 2, none⟩ = some (.slice Ar j cr) := cell_of_row _ _ _ _ _ _ hbp3
            have hpre : preB E1 bs = decide (E2 = E1) := by unfold preB; rw [hL, ← hE2]
            rw [hpre] at hdd
            have HDD := Lib.hid hdd; clear hdd hpre hmb hbk3 hbp3 hr4 hr0 ho4 hb4
            have HL := Lib.hid hL; clear hL
            have HE1 := Lib.hid hE1; clear hE1
            have HE2 := Lib.hid hE2; clear hE2
            by_cases hq : E1 = E2
            · subst hq
              have hd : decB bs seq = true := by rw [HDD.out]; exact decide_eq_true rfl
              have HD := Lib.hid hd; clear hd
              go_wp2
              go_quiet (fail)
              all_goals
                go_wp2_with fail
                refine bodyPost_ret (v := .tuple #[.agg #[.int .u64 (seq : Int), .slice Aw k cw, .slice Ar j cr], .int .i64 ((k : Int) + 2), .bool true]) (by simp [results, go_sem, q0, q1, q2]) rfl (.inl ⟨HD.out, Aw, cw, Ar, cr, vs, by rw [← HNWE.out, ← HNRE.out]; rfl, ?_, ?_⟩)
                · have hk1 : Kept base w3 ((((w3.drewN nq).setCell ⟨w.heap.size, 0, none⟩ (.int .u64 (seq : Int))).setCell ⟨w.heap.size, 1, none⟩ (.slice Aw k cw)).setCell ⟨w.heap.size, 2, none⟩ (.slice Ar j cr)) :=
                    Kept.trans (b := w3.drewN nq) (fun _ _ _ => rfl) (Kept.trans (Kept.trans (Kept.cell (by omega)) (Kept.cell (by omega)) (by simp [World.setCell])) (Kept.cell (by omega)) (by simp [World.setCell])) (Nat.le_refl _)
                  exact (HOT3.out.kept hk1).mono (by omega)
                · exact (((HB3.out.drewN _).setCell (by simp) _).setCell (by simp) _).setCell (by simp) _
            · have hq1 : (E1 == E2) = false := beq_eq_false_iff_ne.2 hq
              have hq2 : (E1 != E2) = true := by rw [bne, hq1]; rfl
              have hd : decB bs seq = false := by rw [HDD.out]; exact decide_eq_false (fun e => hq e.symm)
              have HD := Lib.hid hd; clear hd
              go_wp2
              go_quiet (fail)
              all_goals
                go_wp2_with fail
                refine bodyPost_ret (v := .tuple #[.agg #[.int .u64 0, .slice none 0 0, .slice none 0 0], .int .i64 0, .bool false]) (by simp [results, go_sem, q0, q1, q2]) rfl (.inr ⟨HD.out, rfl, ?_⟩)
                exact (((HB3.out.drewN _).setCell (by simp) _).setCell (by simp) _).setCell (by simp) _

theorem refdec_any (A : Option Addr) (N c B : Nat) (bs : List UInt8) (seq : Nat) (w : World) (h : Holds w B A N bs) (hB : B ≤ w.heap.size) (hc : N ≤ c) (hm : c ≤ 9223372036854775807) (hseq : seq < 18446744073709551616) :
    Calls Tryz.prog 67 #[.slice A N c, .int .u64 (seq : Int)] w (DecPost w bs seq) := by
  have hno : tellB bs = false → decB bs seq = false := fun e => by unfold decB; rw [e]; rfl
  by_cases h1 : N < 256
  · refine (refdec_short A N c seq w h1).mono fun e w' hu => .inr ⟨hno ?_, hu⟩
    unfold tellB
    rw [h.1, decide_eq_false (by omega)]; rfl
  · by_cases h2 : nW bs + nR bs ≤ 58 ∧ (nW bs + 2) * 256 ≤ N
    · exact refdec_some A N c B bs seq w h hB hc hm hseq h2.1 h2.2
    · refine (refdec_counts A N c B bs seq w h hB hc hm (by omega) h2).mono fun e w' hu => .inr ⟨hno ?_, hu⟩
      unfold tellB
      rw [h.1]
      by_cases h3 : nW bs + nR bs ≤ 58
      · rw [decide_eq_false (p := (nW bs + 2) * 256 ≤ N) (fun h4 => h2 ⟨h3, h4⟩)]; simp
      · rw [decide_eq_false (p := nW bs + nR bs ≤ 58) h3]; simp
end Go.Proofs.YtelnoibfamcnmaaGreat.Rec
