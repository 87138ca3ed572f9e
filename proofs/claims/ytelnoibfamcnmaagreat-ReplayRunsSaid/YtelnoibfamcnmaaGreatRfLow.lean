/- Contracts of the document's small calls on records: how a block of the log begins, whether one looks so, a block filled up and summed, a number at a place, two lists. -/
import Derived.Test.YtelnoibfamcnmaaGreatRcTxn
import Derived.Lib.SlBytesConst
import Derived.WalkSpells
import Derived.RegionTactic
import Derived.ChangeAlike
import Derived.Deep.QuietTactic
import Derived.BigQuiet
namespace Go.Proofs.YtelnoibfamcnmaaGreat.Rec
set_option maxRecDepth 20000
open Go.RowKit
open Go.Proofs.YtelnoibfamcnmaaGreat.Mem Go.Proofs.YtelnoibfamcnmaaGreat.Crc

theorem looks_ref (A : Option Addr) (n c B : Nat) (bs : List UInt8) (w : World) (h : Holds w B A n bs) (h4 : 4 ≤ n) (hc : n ≤ c) :
    Calls Tryz.prog 104 #[.slice A n c] w fun e w' => e = .returned (.bool (looks bs)) ∧ w = w' := by
  obtain ⟨b, off, rfl⟩ := Holds.addr h (by omega)
  have t1 := run_text w B _ 4 c _ (h.take h4)
  have hlk : looks bs = decide (bs.take 4 = [85, 76, 79, 71]) := rfl
  by_cases hq : bs.take 4 = [85, 76, 79, 71]
  · have hl : looks bs = true := by rw [hlk]; exact decide_eq_true hq
    rw [hl]
    rw [hq] at t1
    clear hl hq hlk h
    go_enter Tryz.func104, Tryz.ntmps104
    go_wp2
    go_ret
    exact ⟨rfl, rfl⟩
  · have hl : looks bs = false := by rw [hlk]; exact decide_eq_false hq
    rw [hl]
    generalize bs.take 4 = p at t1 hq
    have hne : (p == [85, 76, 79, 71]) = false := beq_eq_false_iff_ne.2 hq
    clear hl hlk h
    go_enter Tryz.func104, Tryz.ntmps104
    go_wp2
    go_ret
    exact ⟨by first | rfl | simp [hne] | simp [hq], rfl⟩

theorem head_ref (kind : UInt8) (seq : Nat) (w : World) :
    Calls Tryz.prog 103 #[.int .u8 (kind.toNat : Int), .int .u64 (seq : Int)] w (Made w (headL kind seq)) := by
  have ho : Owned (w.alloc (.cells (([85, 76, 79, 71, kind, 0, 0, 0] : List UInt8).map byteV).toArray 5)) w.heap.size (.slice (some ⟨w.heap.size, 0, none⟩) 8 8) [85, 76, 79, 71, kind, 0, 0, 0] :=
    owned_made w [85, 76, 79, 71, kind, 0, 0, 0] w.heap.size (Nat.le_refl _) (by unfold maxLen; simp)
  have hb := (Below.refl w.heap.size w).alloc (Nat.le_refl _) (.cells (([85, 76, 79, 71, kind, 0, 0, 0] : List UInt8).map byteV).toArray 5)
  have e : w.alloc (.cells (([85, 76, 79, 71, kind, 0, 0, 0] : List UInt8).map byteV).toArray 5) = w.alloc (.cells #[.int .u8 85, .int .u8 76, .int .u8 79, .int .u8 71, .int .u8 (kind.toNat : Int), .int .u8 0, .int .u8 0, .int .u8 0] 5) := rfl
  rw [e] at ho hb
  clear e
  have HO := Lib.hid ho; clear ho
  have HB := Lib.hid hb; clear hb
  go_enter Tryz.func103, Tryz.ntmps103
  go_wp2_with fail
  generalize w.alloc (.cells #[.int .u8 85, .int .u8 76, .int .u8 79, .int .u8 71, .int .u8 (kind.toNat : Int), .int .u8 0, .int .u8 0, .int .u8 0] 5) = W at HO HB ⊢
  refine (refbytes_any seq 8 W 8 (by omega) (by omega) (by omega)).mono ?_
  rintro e w1 ⟨sv, rfl, ho1, hb1⟩
  obtain ⟨A1, c1, rfl, hr1⟩ := Owned.holds ho1
  rw [bytesL_len] at hr1 ⊢
  have HO1 := Lib.hid (Owned.keep HO.out hb1 (Nat.le_refl _))
  have HB1 : Hid (Below w.heap.size w w1) := Lib.hid (HB.out.trans (hb1.mono HB.out.size))
  have HR1 := Lib.hid hr1
  clear ho1 hr1 hb1
  go_wp2_with (at_builtin; refine wpList_addall rfl _ _ rfl w.heap.size _ [85, 76, 79, 71, kind, 0, 0, 0] rfl HO1.out w1.heap.size A1 8 c1 (bytesL seq 8) rfl HR1.out ?c1 HB1.out.size ?_)
  case c1 => simp
  intro v2 w2 ho2 hb2
  have HO2 := Lib.hid ho2; clear ho2
  have HB2 : Hid (Below w.heap.size w w2) := Lib.hid (HB1.out.trans hb2)
  clear hb2
  have ho2' : Owned w2 w.heap.size v2 (headL kind seq) := HO2.out
  obtain ⟨A2, c2, rfl, -⟩ := Owned.holds ho2'
  have HE := Lib.hid ho2'; clear ho2'
  go_wp2
  go_ret
  exact ⟨A2, c2, rfl, HE.out, HB2.out⟩

/-- Bytes filled up with 0 to a block, with their sum at the end. -/
def sealL (bs : List UInt8) : List UInt8 := (bs ++ List.replicate (252 - bs.length) 0) ++ bytesL (sum (bs ++ List.replicate (252 - bs.length) 0)) 4
theorem sealL_own (kind : UInt8) (seq : Nat) (rest : List UInt8) (h : rest.length ≤ 236) : sealL (headL kind seq ++ rest) = ownL kind seq rest := by
  have e : headL kind seq ++ rest ++ List.replicate (252 - (headL kind seq ++ rest).length) 0 = ownP kind seq rest := by
    unfold ownP
    rw [List.length_append, headL_len, show 252 - (16 + rest.length) = 236 - rest.length by omega]
  rw [ownL_eq _ _ _ h]
  unfold sealL
  rw [e]

set_option maxRecDepth 100000 in
theorem sealed_ref (v : Value) (bs : List UInt8) (base : Nat) (w : World) (ho : Owned w base v bs) (hl : bs.length ≤ 252) (hbase : base ≤ w.heap.size) :
    Calls Tryz.prog 105 #[v] w fun e w' => ∃ A c, e = .returned (.slice A 256 c) ∧ Owned w' base (.slice A 256 c) (sealL bs) ∧ Below base w w' := by
  obtain ⟨Z, hZ⟩ : ∃ Z, Z = bs ++ List.replicate (252 - bs.length) 0 := ⟨_, rfl⟩
  have hZl : Z.length = 252 := by rw [hZ, List.length_append, List.length_replicate]; omega
  have hsl : sealL bs = Z ++ bytesL (sum Z) 4 := by unfold sealL; rw [← hZ]
  have HZ := Lib.hid hZ; clear hZ
  have HSL := Lib.hid hsl; clear hsl
  have HZL := Lib.hid hZl; clear hZl
  have HO := Lib.hid ho; clear ho
  go_enter Tryz.func105, Tryz.ntmps105
  go_wp2
  go_loopw [0] (fun v wr => ∃ k : Nat, bs.length + k ≤ 252 ∧ Owned wr base v (bs ++ List.replicate k 0) ∧ Below base w wr) (fun v _ => match v with | .slice _ n _ => 252 - n | _ => 0)
  case atStart => exact ⟨0, by omega, by simpa using HO.out, Below.refl _ _⟩
  case round =>
    obtain ⟨k, hk, hown, hbr⟩ := hrel
    have HOr := Lib.hid hown; clear hown
    have HBR := Lib.hid hbr; clear hbr
    obtain ⟨A, c, rfl, -⟩ := Owned.holds HOr.out
    have hlen : (bs ++ List.replicate k (0 : UInt8)).length = bs.length + k := by rw [List.length_append, List.length_replicate]
    rw [hlen] at HOr ⊢
    clear hlen
    obtain ⟨N, hN⟩ : ∃ N, N = bs.length + k := ⟨_, rfl⟩
    rw [← hN] at HOr hk ⊢
    by_cases hlt : N < 252
    · have HN := Lib.hid hN; clear hN
      go_wp2_with (at_builtin; refine wpList_addone rfl _ _ rfl base _ (bs ++ List.replicate k 0) rfl HOr.out 0 _ rfl rfl ?c1 ?c2 ?_)
      case c1 => rw [List.length_append, List.length_replicate]; have := HN.out; omega
      case c2 => exact Nat.le_trans hbase HBR.out.size
      intro sv w1 hown1 hb1
      have hown1' : Owned w1 base sv (bs ++ List.replicate (k + 1) 0) := by
        rw [List.replicate_succ']; exact hown1
      obtain ⟨A1, c1, rfl, -⟩ := Owned.holds hown1'
      have hlen1 : (bs ++ List.replicate (k + 1) (0 : UInt8)).length = N + 1 := by rw [List.length_append, List.length_replicate, HN.out]; omega
      rw [hlen1] at hown1' ⊢
      have HO1 := Lib.hid hown1'; clear hown1' hown1 hlen1
      have HB1 := Lib.hid hb1; clear hb1
      go_wp2
      go_roundw
      case rel => exact ⟨k + 1, by have := HN.out; omega, HO1.out, HBR.out.trans HB1.out⟩
      case measure => simp; omega
    · obtain rfl : N = 252 := by omega
      have hZk : bs ++ List.replicate k 0 = Z := by rw [HZ.out, show 252 - bs.length = k by omega]
      rw [hZk] at HOr
      clear hZk hN hk
      go_wp2_with fail
      refine (refsum_any A 252 c wr.heap.size Z wr (Owned.reads HOr.out) (by unfold maxLen; omega)).mono ?_
      rintro e w' ⟨rfl, rfl⟩
      have hsm := sum_lt Z
      have HE : Hid (bytesL (sum Z) 4 = bytesL (sum Z) 4) := Lib.hid rfl
      go_wp2_with fail
      refine (refbytes_any (sum Z) 4 wr 4 (by omega) (by omega) (by omega)).mono ?_
      rintro e w1 ⟨sv, rfl, ho1, hb1⟩
      obtain ⟨A1, c1, rfl, hr1⟩ := Owned.holds ho1
      rw [bytesL_len] at hr1 ⊢
      have HO1 := Lib.hid (Owned.keep HOr.out hb1 (Nat.le_refl _))
      have HB1 : Hid (Below base w w1) := Lib.hid (HBR.out.trans (hb1.mono (Nat.le_trans hbase HBR.out.size)))
      have HR1 := Lib.hid hr1
      clear ho1 hr1 hb1
      go_wp2_with (at_builtin; refine wpList_addall rfl (.tmp 9) (.tmp 13) rfl base _ Z rfl HO1.out w1.heap.size A1 4 c1 (bytesL (sum Z) 4) rfl HR1.out ?c3 (Nat.le_trans hbase HB1.out.size) ?_)
      case c3 => rw [HZL.out]; omega
      intro v2 w2 ho2 hb2
      rw [← HSL.out] at ho2
      obtain ⟨A2, c2, rfl, -⟩ := Owned.holds ho2
      have hfl : (sealL bs).length = 256 := by rw [HSL.out, List.length_append, HZL.out, bytesL_len]
      rw [hfl] at ho2 ⊢
      have HO2 := Lib.hid ho2; clear ho2 hfl
      have HB2 : Hid (Below base w w2) := Lib.hid (HB1.out.trans hb2)
      clear hb2
      go_wp2
      go_ret
      exact ⟨A2, c2, rfl, HO2.out, HB2.out⟩

theorem at_ref (A : Option Addr) (N c B : Nat) (bs : List UInt8) (w : World) (at_ n : Nat) (h : Holds w B A N bs) (hc : N ≤ c) (hm : c ≤ 9223372036854775807) (h0 : 0 < n) (h4 : n ≤ 4) (hat : at_ + n ≤ N) :
    Calls Tryz.prog 94 #[.slice A N c, .int .i64 (at_ : Int), .int .i64 (n : Int)] w fun e w' => e = .returned (.int .i64 (numFrom bs at_ n : Int)) ∧ w = w' := by
  obtain ⟨b, off, rfl⟩ := Holds.addr h (by omega)
  have hd := Holds.drop h hat
  have HD := Lib.hid hd; clear hd
  have hlt := numFrom_lt bs at_ n
  have hp : 2 ^ (8 * n) ≤ 2 ^ 32 := Nat.pow_le_pow_right (by omega) (by omega)
  have hlt2 : numFrom bs at_ n < 4294967296 := by omega
  have hdef : numAt ((bs.drop at_).take n) n = numFrom bs at_ n := rfl
  have HDEF := Lib.hid hdef; clear hdef hlt hp
  have H := Lib.hid h; clear h
  generalize numFrom bs at_ n = K at hlt2 HDEF ⊢
  go_enter Tryz.func94, Tryz.ntmps94
  go_wp2_with fail
  refine (refnumber_any _ n (c - at_) B _ w HD.out (by omega)).mono ?_
  rintro e w' ⟨rfl, rfl⟩
  rw [HDEF.out]
  go_wp2
  go_ret
  exact ⟨rfl, rfl⟩
end Go.Proofs.YtelnoibfamcnmaaGreat.Rec
