/- Contracts of the document's making, reading and opening a log. -/
import Derived.Test.YtelnoibfamcnmaaGreatLgLog
import Derived.Test.YtelnoibfamcnmaaGreatRfLow
import Derived.Test.YtelnoibfamcnmaaGreatDkRefE
import Derived.Deep.RegionWith
import Derived.Deep.RegionHeld
namespace Go.Proofs.YtelnoibfamcnmaaGreat.Log
set_option maxRecDepth 20000
open Go.RowKit
open Go.Proofs.YtelnoibfamcnmaaGreat.Mem Go.Proofs.YtelnoibfamcnmaaGreat.Crc Go.Proofs.YtelnoibfamcnmaaGreat.Disk
open Go.Proofs.YtelnoibfamcnmaaGreat.Rec (numFrom numFrom_lt at_ref eqB)

set_option maxRecDepth 100000 in
set_option maxHeartbeats 1000000 in
theorem headr_any (seq pl : Nat) (w : World) (hp : pl < 4294967296) :
    Calls Tryz.prog 44 #[.int .u64 (seq : Int), .int .i64 (pl : Int)] w fun e w' => ∃ A c, e = .returned (.slice A 256 c) ∧ Owned w' w.heap.size (.slice A 256 c) (headH seq pl) ∧ Below w.heap.size w w' := by
  have hpw : IntKind.u64.wrap (pl : Int) = (pl : Int) := by rw [IntKind.wrap_u64]; omega
  obtain ⟨Z, hZ⟩ : ∃ Z, Z = markH ++ (bytesL seq 8 ++ bytesL pl 4) := ⟨_, rfl⟩
  have hZl : Z.length = 20 := by rw [hZ, List.length_append, List.length_append, bytesL_len, bytesL_len]; rfl
  obtain ⟨Y, hY⟩ : ∃ Y, Y = Z ++ bytesL (sum Z) 4 := ⟨_, rfl⟩
  have hYl : Y.length = 24 := by rw [hY, List.length_append, hZl, bytesL_len]
  have hend : headH seq pl = Y ++ List.replicate 232 0 := by rw [headH_eq, hY, hZ]; simp only [List.append_assoc]
  have ho : Owned (w.alloc (.cells ((markH).map byteV).toArray 5)) w.heap.size (.slice (some ⟨w.heap.size, 0, none⟩) 8 8) markH := owned_made w markH w.heap.size (Nat.le_refl _) (by unfold maxLen; simp [markH])
  have hb := (Below.refl w.heap.size w).alloc (Nat.le_refl _) (.cells ((markH).map byteV).toArray 5)
  have e : w.alloc (.cells ((markH).map byteV).toArray 5) = w.alloc (.cells #[.int .u8 85, .int .u8 76, .int .u8 79, .int .u8 71, .int .u8 3, .int .u8 0, .int .u8 0, .int .u8 0] 5) := rfl
  rw [e] at ho hb
  clear e
  have HO := Lib.hid ho; clear ho
  have HB := Lib.hid hb; clear hb
  have HZ := Lib.hid hZ; clear hZ
  have HZL := Lib.hid hZl; clear hZl
  have HY := Lib.hid hY; clear hY
  have HYL := Lib.hid hYl; clear hYl
  have HEND := Lib.hid hend; clear hend
  go_enter Tryz.func44, Tryz.ntmps44
  go_wp2_with fail
  generalize w.alloc (.cells #[.int .u8 85, .int .u8 76, .int .u8 79, .int .u8 71, .int .u8 3, .int .u8 0, .int .u8 0, .int .u8 0] 5) = W at HO HB ⊢
  refine (refbytes_any seq 8 W 8 (by omega) (by omega) (by omega)).mono ?_
  rintro e w1 ⟨sv, rfl, ho1, hb1⟩
  obtain ⟨A1, c1, rfl, hr1⟩ := Owned.holds ho1
  rw [bytesL_len] at hr1 ⊢
  have HO1 := Lib.hid (Owned.keep HO.out hb1 (Nat.le_refl _))
  have HB1 : Hid (Below w.heap.size w w1) := Lib.hid (HB.out.trans (hb1.mono HB.out.size))
  have HR1 := Lib.hid hr1
  clear ho1 hr1 hb1
  go_wp2_with (at_builtin; refine wpList_addall rfl (.tmp 6) (.tmp 8) rfl w.heap.size _ markH rfl HO1.out w1.heap.size A1 8 c1 (bytesL seq 8) rfl HR1.out ?c1 HB1.out.size ?_)
  case c1 => simp [markH]
  intro v2 w2 ho2 hb2
  have hl2 : (markH ++ bytesL seq 8).length = 16 := by rw [List.length_append, bytesL_len]; rfl
  obtain ⟨A2, c2, rfl, -⟩ := Owned.holds ho2
  rw [hl2] at ho2 ⊢
  have HO2 := Lib.hid ho2; clear ho2
  have HB2 : Hid (Below w.heap.size w w2) := Lib.hid (HB1.out.trans hb2)
  clear hb2
  go_wp2_with fail
  refine (refbytes_any pl 4 w2 4 (by omega) (by omega) (by omega)).mono ?_
  rintro e w3 ⟨sv, rfl, ho3, hb3⟩
  obtain ⟨A3, c3, rfl, hr3⟩ := Owned.holds ho3
  rw [bytesL_len] at hr3 ⊢
  have HO3 := Lib.hid (Owned.keep HO2.out hb3 (Nat.le_refl _))
  have HB3 : Hid (Below w.heap.size w w3) := Lib.hid (HB2.out.trans (hb3.mono HB2.out.size))
  have HR3 := Lib.hid hr3
  clear ho3 hr3 hb3
  go_wp2_with (at_builtin; refine wpList_addall rfl (.tmp 10) (.tmp 13) rfl w.heap.size _ (markH ++ bytesL seq 8) rfl HO3.out w3.heap.size A3 4 c3 (bytesL pl 4) rfl HR3.out ?c2 HB3.out.size ?_)
  case c2 => rw [hl2]; omega
  intro v4 w4 ho4 hb4
  rw [← HZ.out] at ho4
  obtain ⟨A4, c4, rfl, hr4⟩ := Owned.holds ho4
  rw [HZL.out] at ho4 hr4 ⊢
  have HO4 := Lib.hid ho4; clear ho4
  have HR4 := Lib.hid hr4; clear hr4
  have HB4 : Hid (Below w.heap.size w w4) := Lib.hid (HB3.out.trans hb4)
  clear hb4
  go_wp2_with fail
  refine (refsum_any A4 20 c4 w4.heap.size Z w4 HR4.out (by unfold maxLen; omega)).mono ?_
  rintro e w' ⟨rfl, rfl⟩
  have hsm := sum_lt Z
  go_wp2_with fail
  refine (refbytes_any (sum Z) 4 w4 4 (by omega) (by omega) (by omega)).mono ?_
  rintro e w5 ⟨sv, rfl, ho5, hb5⟩
  obtain ⟨A5, c5, rfl, hr5⟩ := Owned.holds ho5
  rw [bytesL_len] at hr5 ⊢
  have HO5 := Lib.hid (Owned.keep HO4.out hb5 (Nat.le_refl _))
  have HB5 : Hid (Below w.heap.size w w5) := Lib.hid (HB4.out.trans (hb5.mono HB4.out.size))
  have HR5 := Lib.hid hr5
  clear ho5 hr5 hb5
  go_wp2_with (at_builtin; refine wpList_addall rfl (.tmp 15) (.tmp 19) rfl w.heap.size _ Z rfl HO5.out w5.heap.size A5 4 c5 (bytesL (sum Z) 4) rfl HR5.out ?c3 HB5.out.size ?_)
  case c3 => rw [HZL.out]; omega
  intro v6 w6 ho6 hb6
  rw [← HY.out] at ho6
  obtain ⟨A6, c6, rfl, -⟩ := Owned.holds ho6
  have HO6 := Lib.hid ho6; clear ho6
  have HB6 : Hid (Below w.heap.size w w6) := Lib.hid (HB5.out.trans hb6)
  clear hb6
  rw [HYL.out]
  go_wp2
  go_loopw [5] (fun v wr => ∃ k : Nat, 24 + k ≤ 256 ∧ Owned wr w.heap.size v (Y ++ List.replicate k 0) ∧ Below w.heap.size w wr) (fun v _ => match v with | .slice _ n _ => 256 - n | _ => 0)
  case atStart => exact ⟨0, by omega, by have := HO6.out; rw [HYL.out] at this; simpa using this, HB6.out⟩
  case round =>
    obtain ⟨k, hk, hown, hbr⟩ := hrel
    have HOr := Lib.hid hown; clear hown
    have HBR := Lib.hid hbr; clear hbr
    obtain ⟨A, c, rfl, -⟩ := Owned.holds HOr.out
    have hlen : (Y ++ List.replicate k (0 : UInt8)).length = 24 + k := by rw [List.length_append, List.length_replicate, HYL.out]
    rw [hlen] at HOr ⊢
    clear hlen
    obtain ⟨N, hN⟩ : ∃ N, N = 24 + k := ⟨_, rfl⟩
    rw [← hN] at HOr hk ⊢
    by_cases hlt : N < 256
    · have HN := Lib.hid hN; clear hN
      go_wp2_with (at_builtin; refine wpList_addone rfl _ _ rfl w.heap.size _ (Y ++ List.replicate k 0) rfl HOr.out 0 _ rfl rfl ?c1 ?c2 ?_)
      case c1 => rw [List.length_append, List.length_replicate, HYL.out]; have := HN.out; omega
      case c2 => exact HBR.out.size
      intro sv w7 hown1 hb1
      have hown1' : Owned w7 w.heap.size sv (Y ++ List.replicate (k + 1) 0) := by
        rw [List.replicate_succ']; exact hown1
      obtain ⟨A7, c7, rfl, -⟩ := Owned.holds hown1'
      have hlen1 : (Y ++ List.replicate (k + 1) (0 : UInt8)).length = N + 1 := by rw [List.length_append, List.length_replicate, HN.out, HYL.out]; omega
      rw [hlen1] at hown1' ⊢
      have HO7 := Lib.hid hown1'; clear hown1' hown1 hlen1
      have HB7 := Lib.hid hb1; clear hb1
      go_wp2
      go_roundw
      case rel => exact ⟨k + 1, by have := HN.out; omega, HO7.out, HBR.out.trans HB7.out⟩
      case measure => simp; omega
    · obtain rfl : N = 256 := by omega
      have hk2 : k = 232 := by omega
      subst hk2
      rw [← HEND.out] at HOr
      go_wp2
      go_ret
      exact ⟨A, c, rfl, HOr.out, HBR.out⟩

theorem arear_any (n : Nat) (S L : Int) (w : World) (hn : n ≤ 1024) :
    Calls Tryz.prog 92 #[.int .i64 (n : Int), .int .i64 S, .int .i64 L] w fun e w' => e = .returned (.bool (okArea n S L)) ∧ w = w' := by
  unfold okArea
  by_cases h1 : 8 ≤ L
  · by_cases h2 : L ≤ 1024
    · by_cases h3 : 0 ≤ S
      · by_cases h4 : S ≤ (n : Int) - L
        all_goals
          go_enter Tryz.func92, Tryz.ntmps92
          go_wp2
          go_ret
          exact ⟨by simp [*], rfl⟩
      · have hd : decide (0 ≤ S) = false := by simpa using h3
        go_enter Tryz.func92, Tryz.ntmps92
        go_wp2
        go_ret
        exact ⟨by simp [*], rfl⟩
    · have hd : decide (L ≤ 1024) = false := by simpa using h2
      go_enter Tryz.func92, Tryz.ntmps92
      go_wp2
      go_ret
      exact ⟨by simp [*], rfl⟩
  · have hd : decide (8 ≤ L) = false := by simpa using h1
    go_enter Tryz.func92, Tryz.ntmps92
    go_wp2
    go_ret
    exact ⟨by simp [*], rfl⟩
set_option maxRecDepth 100000 in
set_option maxHeartbeats 1000000 in
theorem readr_is (b c l : Nat) (bs : List UInt8) (w : World) (h : Holds w w.heap.size (some ⟨b, 0, none⟩) 256 bs) (hc : 256 ≤ c ∧ c ≤ 9223372036854775807) (hl : 8 ≤ l ∧ l ≤ 1024) (hf : plH bs < l - 1) (he : bs = headH (seqH bs) (plH bs)) :
    Calls Tryz.prog 66 #[.slice (some ⟨b, 0, none⟩) 256 c, .int .i64 (l : Int)] w fun e w' => e = .returned (.tuple #[.int .u64 (seqH bs : Int), .int .i64 (plH bs : Int), .bool true]) ∧ Below w.heap.size w w' := by
  have n1 := refnumber_any _ 8 (c - 8) _ _ w (Go.Proofs.YtelnoibfamcnmaaGreat.Rec.Holds.drop h (show 8 + 8 ≤ 256 by omega)) (by omega)
  have n2 : Calls Tryz.prog 94 #[.slice (some ⟨b, 0, none⟩) 256 c, .int .i64 16, .int .i64 4] w fun e w' => e = .returned (.int .i64 (numFrom bs 16 4 : Int)) ∧ w = w' := at_ref _ 256 c _ bs w 16 4 h hc.1 hc.2 (by omega) (by omega) (by omega)
  have e1 : numAt ((bs.drop 8).take 8) 8 = seqH bs := rfl
  have e2 : numFrom bs 16 4 = plH bs := rfl
  rw [e1] at n1
  rw [e2] at n2
  have hlt : plH bs < 4294967296 := numFrom_lt bs 16 4
  have hh := headr_any (seqH bs) (plH bs)
  generalize seqH bs = sq at *
  generalize plH bs = pl at *
  have N1 := Lib.hid n1; clear n1
  have N2 := Lib.hid n2; clear n2
  have HH := Lib.hid hh; clear hh
  have HB := Lib.hid h; clear h
  rw [← he] at HH
  have hlen : bs.length = 256 := by rw [he, headH_len]
  go_enter Tryz.func66, Tryz.ntmps66
  go_wp2_with fail
  with_reducible refine N1.out.mono ?_
  rintro e w1 ⟨rfl, rfl⟩
  go_wp2_with fail
  with_reducible refine N2.out.mono ?_
  rintro e w1 ⟨rfl, rfl⟩
  clear N1 N2
  go_wp2_with fail
  have hw : IntKind.i64.wrap ((l : Int) - 1) = (l : Int) - 1 := by rw [IntKind.wrap_i64]; omega
  have hq : decide ((pl : Int) < (l : Int) - 1) = true := by simp; omega
  have hS := run_text w.drew _ _ 256 c bs (HB.out.below (Below.refl _ w).drew)
  have HV0 : Hid (Below w.heap.size w w.drew) := Lib.hid (Below.refl _ w).drew
  go_region_held (fun V => (convert 25 9 (.slice (some ⟨b, 0, none⟩) 256 c)).run Tryz.prog V = .ok (.string ⟨bs.toArray⟩) V) (assumption)
    (first
      | (go_at_call 44
         have hcall := HH.out w.drew (by omega)
         with_reducible refine hcall.mono ?_
         rintro e V1 ⟨AA, cA, rfl, hoA, hV1⟩
         clear hcall hS
         have hS1 := run_text V1 _ _ 256 c bs (HB.out.below (HV0.out.trans hV1))
         have tA := run_text V1 _ AA 256 cA bs (by have := Go.Proofs.YtelnoibfamcnmaaGreat.Rec.Owned.reads hoA; exact this)
         have HV1 := Lib.hid (HV0.out.trans hV1)
         clear hV1 hoA))
  all_goals
    go_wp2
    refine bodyPost_ret (results_tmp3 rfl _ _ _) rfl ?_
    exact ⟨rfl, HV1.out⟩
end Go.Proofs.YtelnoibfamcnmaaGreat.Log
