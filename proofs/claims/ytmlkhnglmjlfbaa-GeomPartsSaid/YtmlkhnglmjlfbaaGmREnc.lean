/- Contract of the document's making of a geometry's superblock. -/
import Derived.Test.YtmlkhnglmjlfbaaGmEnc
import Derived.Test.YtmlkhnglmjlfbaaGmPart
namespace Go.Proofs.Ytmlkhnglmjlfbaa.Gm
set_option maxRecDepth 20000
open Go.RowKit
open Go.Proofs.Ytmlkhnglmjlfbaa.Mem Go.Proofs.Ytmlkhnglmjlfbaa.Crc Go.Proofs.Ytmlkhnglmjlfbaa.Rec
attribute [local go_sem ↓] ldG_eq stG_eq eqG_eq

theorem rbytes4 (V : Int) (v : Nat) (w : World) (hV : V = (v : Int)) : Calls Try.prog 22 #[.int .u64 V, .int .i64 4] w fun e w' => ∃ A c, e = .returned (.slice A 4 c) ∧ Owned w' w.heap.size (.slice A 4 c) (bytesL v 4) ∧ Below w.heap.size w w' := by
  subst hV
  refine (refbytes_any v 4 w 4 (by omega) (by omega) (by omega)).mono ?_
  rintro e w1 ⟨sv, rfl, ho1, hb1⟩
  obtain ⟨A1, c1, rfl, -⟩ := Owned.holds ho1
  rw [bytesL_len] at ho1 ⊢
  exact ⟨A1, c1, rfl, ho1, hb1⟩

set_option maxRecDepth 100000 in
theorem rencode_no (g : Gm) (w : World) (h : g.is = false) :
    Calls Try.prog 12 #[.agg g.c] w fun e w' => e = .returned (.tuple #[.slice none 0 0, .int .i64 1]) ∧ Below w.heap.size w w' := by
  have hbx := boxed w g
  have l1 := hbx.load
  have HBX := Lib.hid hbx; clear hbx
  go_enter Try.func12, Try.ntmps12
  go_wp2_with fail
  with_reducible refine (ris_any g _).mono ?_
  rintro e w1 ⟨rfl, hb⟩
  have HB1 := Lib.hid (HBX.out.next hb); clear hb l1
  rw [h]
  go_wp2
  go_ret2
  exact ⟨rfl, HB1.out.below⟩

def lenOf : Value → Nat
  | .slice _ n _ => n
  | _ => 0
theorem pre_some (b k : Nat) : pre b k ++ bytesL ((numsOf b).getD k 0) 4 = pre b (k + 1) := rfl

set_option maxRecDepth 100000 in
set_option maxHeartbeats 1000000 in
theorem rencode_ok (b : Nat) (w : World) (h1 : 128 ≤ b) (h2 : b ≤ 1024) :
    Calls Try.prog 12 #[.agg (lay (b : Int)).c] w (Sup b w) := by
  unfold Sup
  have h := is_lay b h1 h2
  obtain ⟨g, hg⟩ : ∃ g, g = lay (b : Int) := ⟨_, rfl⟩
  rw [← hg] at h ⊢
  have HG := Lib.hid hg; clear hg
  have hbx := boxed w g
  have l1 := hbx.load
  have HBX := Lib.hid hbx; clear hbx
  go_enter Try.func12, Try.ntmps12
  go_wp2_with fail
  with_reducible refine (ris_any g _).mono ?_
  rintro e w1 ⟨rfl, hb⟩
  have HB1 := Lib.hid (HBX.out.next hb); clear hb l1
  rw [h]
  obtain ⟨W, hW⟩ : ∃ W, W = w1.alloc (.cells (mark8.map byteV).toArray 5) := ⟨_, rfl⟩
  have hbW : Boxed w g W := hW ▸ HB1.out.next ((Below.refl w1.heap.size w1).alloc (Nat.le_refl _) _)
  have hoW : Owned W w1.heap.size (.slice (some ⟨w1.heap.size, 0, none⟩) 8 8) mark8 := hW ▸ owned_made w1 mark8 w1.heap.size (Nat.le_refl _) (by decide)
  have hzW : W.heap.size = w1.heap.size + 1 := by rw [hW]; simp
  have hc8 : ∀ k, k < 8 → W.cell? ⟨w.heap.size, k, none⟩ = some (.int .i64 ((numsOf b).getD k 0 : Nat)) := fun k hk => by
    rw [cell_of_row _ _ _ _ _ _ hbW.row, HG.out, lay8_eq]; exact lay8_get b k hk
  have c0 := hc8 0 (by omega)
  have c1 := hc8 1 (by omega)
  have c2 := hc8 2 (by omega)
  have c3 := hc8 3 (by omega)
  have c4 := hc8 4 (by omega)
  have c5 := hc8 5 (by omega)
  have c6 := hc8 6 (by omega)
  have c7 := hc8 7 (by omega)
  have hlist : lay8 b = #[.int .i64 ((numsOf b).getD 0 0 : Nat), .int .i64 ((numsOf b).getD 1 0 : Nat), .int .i64 ((numsOf b).getD 2 0 : Nat), .int .i64 ((numsOf b).getD 3 0 : Nat), .int .i64 ((numsOf b).getD 4 0 : Nat), .int .i64 ((numsOf b).getD 5 0 : Nat), .int .i64 ((numsOf b).getD 6 0 : Nat), .int .i64 ((numsOf b).getD 7 0 : Nat)] := rfl
  have HLIST := Lib.hid hlist; clear hlist hc8
  have HBW := Lib.hid hbW; clear hbW
  have HOW := Lib.hid hoW; clear hoW
  have hmk : (mark8.map byteV).toArray = #[.int .u8 85, .int .u8 67, .int .u8 70, .int .u8 84, .int .u8 1, .int .u8 0, .int .u8 0, .int .u8 0] := rfl
  rw [hmk] at hW
  rw [hW] at c0 c1 c2 c3 c4 c5 c6 c7
  have HW := Lib.hid hW; clear hW hmk
  generalize (numsOf b).getD 0 0 = n0 at c0 HLIST
  generalize (numsOf b).getD 1 0 = n1 at c1 HLIST
  generalize (numsOf b).getD 2 0 = n2 at c2 HLIST
  generalize (numsOf b).getD 3 0 = n3 at c3 HLIST
  generalize (numsOf b).getD 4 0 = n4 at c4 HLIST
  generalize (numsOf b).getD 5 0 = n5 at c5 HLIST
  generalize (numsOf b).getD 6 0 = n6 at c6 HLIST
  generalize (numsOf b).getD 7 0 = n7 at c7 HLIST
  go_wp2_with fail
  rw [← HW.out]
  clear c0 c1 c2 c3 c4 c5 c6 c7
  obtain ⟨L, hL⟩ : ∃ L, L = W.alloc (.cells (lay8 b) 3) := ⟨_, rfl⟩
  have hLg : L.heap[w1.heap.size + 1]? = some (.cells (lay8 b) 3 (0, 0)) := by rw [hL, ← hzW]; exact heap_alloc_new W _
  have hbL : Below w.heap.size w L := hL ▸ HBW.out.below.alloc HBW.out.below.size _
  have hoL : Owned L w1.heap.size (.slice (some ⟨w1.heap.size, 0, none⟩) 8 8) mark8 := hL ▸ Owned.keep HOW.out ((Below.refl W.heap.size W).alloc (Nat.le_refl _) _) (Nat.le_refl _)
  have hzL : L.heap.size = w1.heap.size + 2 := by rw [hL]; simp; omega
  have hw1 : w.heap.size ≤ w1.heap.size := HB1.out.below.size
  rw [HLIST.out] at hL
  rw [← hL]
  have HLG := Lib.hid hLg; clear hLg
  have HBL := Lib.hid hbL; clear hbL
  have HOL := Lib.hid hoL; clear hoL
  clear hL HLIST HBW HOW HW HBX HB1 hzW
  go_loopw [4, 6] (fun sv i wr => ∃ k : Nat, k ≤ 8 ∧ i = .int .i64 (k : Int) ∧ Owned wr w1.heap.size sv (pre b k) ∧ sv.ownBlock ≠ some (w1.heap.size + 1) ∧ wr.heap[w1.heap.size + 1]? = some (.cells (lay8 b) 3 (0, 0)) ∧ Below w.heap.size w wr) (fun _ i _ => 8 - (intOf i).toNat)
  case atStart => exact ⟨0, by omega, rfl, HOL.out, by simp [Value.ownBlock], HLG.out, HBL.out⟩
  case round =>
    clear HOL HLG HBL
    obtain ⟨k, hk, rfl, ho, hne, hlg, hbr⟩ := hrel
    have hsz : w1.heap.size + 1 < wr.heap.size := (Array.getElem?_eq_some_iff.1 hlg).1
    rcases Nat.lt_or_ge k 8 with hlt | hge
    · have hc : wr.cell? ⟨w1.heap.size + 1, k, none⟩ = some (.int .i64 ((numsOf b).getD k 0 : Nat)) := by
        rw [cell_of_row _ _ _ _ _ _ hlg]; exact lay8_get b k hlt
      have hnl := nums_lt b k h2
      have hpre := pre_some b k
      have hpl := pre_len b k
      generalize (numsOf b).getD k 0 = N at hc hnl hpre
      have hw3 : IntKind.u64.wrap (N : Int) = (N : Int) := by rw [IntKind.wrap_u64]; omega
      have hpl' : (pre b k).length ≤ 40 := by omega
      have HPL := Lib.hid hpl'; clear hpl hpl'
      have HPRE := Lib.hid hpre; clear hpre
      have HO := Lib.hid ho; clear ho
      have HNE := Lib.hid hne; clear hne
      have HLG := Lib.hid hlg; clear hlg
      have HBR := Lib.hid hbr; clear hbr
      have HSZ := Lib.hid hsz; clear hsz
      clear hnl hzL
      go_wp2_with fail
      try rw [hw3]
      with_reducible refine (rbytes4 _ N _ rfl).mono ?_
      rintro e w2 ⟨A, c, rfl, ho2, hb2⟩
      have HO2 := Lib.hid (Owned.keep HO.out hb2 (Nat.le_refl _))
      have HR2 := Lib.hid (Owned.reads ho2)
      have HLG2 := Lib.hid ((hb2.block _ HSZ.out).trans HLG.out)
      have HBR2 : Hid (Below w.heap.size w w2) := Lib.hid (HBR.out.trans (hb2.mono HBR.out.size))
      have HSZ2 : Hid (w1.heap.size + 1 < w2.heap.size) := Lib.hid (Nat.lt_of_lt_of_le HSZ.out hb2.size)
      clear ho2 hb2 HO HLG HBR HSZ hc
      go_wp2_with (at_builtin; refine wpList_addallG rfl (.tmp 34) (.tmp 40) rfl w1.heap.size _ (pre b k) rfl HO2.out w2.heap.size A 4 c (bytesL N 4) rfl HR2.out (by omega) (by have := HPL.out; omega) (by have := HSZ2.out; omega) ?_)
      intro v3 w3 ho3 hb3 hgr
      have hk3 := hgr _ HSZ2.out HNE.out
      have HO3 := Lib.hid ho3
      have HLG3 := Lib.hid (hk3.1.trans HLG2.out)
      have HNE3 := Lib.hid hk3.2
      have HBR3 : Hid (Below w.heap.size w w3) := Lib.hid (HBR2.out.trans (hb3.mono hw1))
      clear hgr hk3 ho3 hb3
      go_wp2
      go_roundw
      case rel => exact ⟨k + 1, by omega, by go_num, by rw [← HPRE.out]; exact HO3.out, HNE3.out, HLG3.out, HBR3.out⟩
      case measure => simp [intOf]; omega
    · obtain rfl : k = 8 := by omega
      have hpl : (pre b 8).length = 40 := pre_len b 8
      obtain ⟨A, c, rfl, hh⟩ := Owned.holds ho
      rw [hpl] at hh ho
      have HO := Lib.hid ho; clear ho
      have HBR := Lib.hid hbr; clear hbr
      have HH := Lib.hid hh; clear hh
      have HPL := Lib.hid hpl
      have hsl : sum (pre b 8) < 4294967296 := sum_lt _
      have hw3 : IntKind.u64.wrap (sum (pre b 8) : Int) = (sum (pre b 8) : Int) := wrap_sum _
      have hzr : w1.heap.size ≤ wr.heap.size := by omega
      have HZR := Lib.hid hzr; clear hzr
      have HEND : Hid (sup b = (pre b 8 ++ bytesL (sum (pre b 8)) 4) ++ List.replicate 212 0) := Lib.hid rfl
      rw [hpl]
      generalize pre b 8 = P at HO HH HPL hsl hw3 HEND
      clear hne hlg hsz hk hge hzL hpl
      generalize hS : sum P = S at hw3 HEND
      clear hsl
      have HW3 := Lib.hid hw3; clear hw3
      go_wp2_with fail
      with_reducible refine (refsum_any A 40 c _ P wr HH.out (by unfold maxLen; omega)).mono ?_
      rintro e w2 ⟨rfl, rfl⟩
      rw [hS]
      have hw3 := HW3.out
      go_wp2_with fail
      try rw [hw3]
      with_reducible refine (rbytes4 _ S _ rfl).mono ?_
      rintro e w3 ⟨A3, c3, rfl, ho3, hb3⟩
      have HO3 := Lib.hid (Owned.keep HO.out hb3 (Nat.le_refl _))
      have HR3 := Lib.hid (Owned.reads ho3)
      have HBR3 : Hid (Below w.heap.size w w3) := Lib.hid (HBR.out.trans (hb3.mono HBR.out.size))
      have HZ3 : Hid (w1.heap.size ≤ w3.heap.size) := Lib.hid (Nat.le_trans HZR.out hb3.size)
      clear ho3 hb3 HO HBR HZR hw3 HW3
      go_wp2_with (at_builtin; refine wpList_addall rfl (.tmp 42) (.tmp 46) rfl w1.heap.size _ P rfl HO3.out w3.heap.size A3 4 c3 (bytesL S 4) rfl HR3.out (by rw [HPL.out]; omega) HZ3.out ?_)
      intro v4 w4 ho4 hb4
      have HBR4 : Hid (Below w.heap.size w w4) := Lib.hid (HBR3.out.trans (hb4.mono hw1))
      have HZ4 : Hid (w1.heap.size ≤ w4.heap.size) := Lib.hid (Nat.le_trans HZ3.out hb4.size)
      have hl4 : (P ++ bytesL S 4).length = 44 := by rw [List.length_append, HPL.out, bytesL_len]
      have HO4 := Lib.hid ho4; clear ho4 hb4
      generalize P ++ bytesL S 4 = P4 at HO4 HEND hl4
      have HL4 := Lib.hid hl4; clear hl4
      go_wp2_with fail
      go_loopw [4] (fun sv wr => ∃ k : Nat, k ≤ 212 ∧ Owned wr w1.heap.size sv (P4 ++ List.replicate k 0) ∧ w1.heap.size ≤ wr.heap.size ∧ Below w.heap.size w wr) (fun sv _ => 256 - lenOf sv)
      case atStart => exact ⟨0, by omega, by rw [List.replicate_zero, List.append_nil]; exact HO4.out, HZ4.out, HBR4.out⟩
      case round =>
        clear HO4 HZ4 HBR4
        obtain ⟨k, hk, ho, hzr, hbr⟩ := hrel
        have hl : (P4 ++ List.replicate k (0 : UInt8)).length = 44 + k := by rw [List.length_append, HL4.out, List.length_replicate]
        have hn : P4 ++ (List.replicate k (0 : UInt8) ++ [0]) = P4 ++ List.replicate (k + 1) 0 := by rw [List.replicate_succ']
        obtain ⟨A5, c5, rfl, -⟩ := Owned.holds ho
        rw [hl] at ho ⊢
        obtain ⟨N, hN⟩ : ∃ N, N = 44 + k := ⟨_, rfl⟩
        rw [← hN] at ho hl ⊢
        have HO := Lib.hid ho; clear ho
        have HZ := Lib.hid hzr; clear hzr
        have HB := Lib.hid hbr; clear hbr
        rcases Nat.lt_or_ge k 212 with hlt | hge
        · have hN1 : N < 256 := by omega
          have HNX := Lib.hid hn; clear hn
          have HLL := Lib.hid hl; clear hl
          have HNK := Lib.hid hN; clear hN
          clear hk
          go_wp2_with (at_builtin; refine wpList_addone rfl (.tmp 51) (.tmp 52) rfl w1.heap.size _ (P4 ++ List.replicate k 0) rfl HO.out 0 _ rfl rfl (by rw [HLL.out]; omega) HZ.out ?_)
          intro v6 w6 ho6 hb6
          rw [HNX.out] at ho6
          have HO6 := Lib.hid ho6
          have HZ6 : Hid (w1.heap.size ≤ w6.heap.size) := Lib.hid (Nat.le_trans HZ.out hb6.size)
          have HB6 : Hid (Below w.heap.size w w6) := Lib.hid (HB.out.trans (hb6.mono hw1))
          obtain ⟨A6, c6, hv6, -⟩ := Owned.holds ho6
          rw [List.length_append, HL4.out, List.length_replicate] at hv6
          have HV := Lib.hid hv6
          clear ho6 hb6 hv6
          go_wp2
          go_roundw
          case rel => exact ⟨k + 1, by omega, HO6.out, HZ6.out, HB6.out⟩
          case measure => rw [HV.out]; simp [lenOf]; have := HNK.out; omega
        · obtain rfl : k = 212 := by omega
          obtain rfl : N = 256 := by omega
          rw [← HEND.out] at HO
          have HZZ := HZ.out
          go_wp2
          go_ret2
          exact ⟨A5, c5, rfl, Owned.mono HO.out hw1, HB.out⟩
end Go.Proofs.Ytmlkhnglmjlfbaa.Gm
