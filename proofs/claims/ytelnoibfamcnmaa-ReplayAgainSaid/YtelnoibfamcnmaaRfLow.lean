/- Contracts of the document's small calls on records: how a block of the log begins, whether one looks so, a block filled up and summed, a number at a place, two lists. -/
import Derived.Test.YtelnoibfamcnmaaRcTxn
import Derived.Lib.SlBytesConst
import Derived.WalkSpells
import Derived.RegionTactic
import Derived.ChangeAlike
import Derived.Deep.QuietTactic
import Derived.BigQuiet
namespace Go.Proofs.Ytelnoibfamcnmaa.Rec
set_option maxRecDepth 20000
open Go.RowKit
open Go.Proofs.Ytelnoibfamcnmaa.Mem Go.Proofs.Ytelnoibfamcnmaa.Crc

/-- Bytes filled up with 0 to a block, with their sum at the end. -/
def sealL (bs : List UInt8) : List UInt8 := (bs ++ List.replicate (252 - bs.length) 0) ++ bytesL (sum (bs ++ List.replicate (252 - bs.length) 0)) 4
theorem at_ref (A : Option Addr) (N c B : Nat) (bs : List UInt8) (w : World) (at_ n : Nat) (h : Holds w B A N bs) (hc : N ≤ c) (hm : c ≤ 9223372036854775807) (h0 : 0 < n) (h4 : n ≤ 4) (hat : at_ + n ≤ N) :
    Calls Try.prog 108 #[.slice A N c, .int .i64 (at_ : Int), .int .i64 (n : Int)] w fun e w' => e = .returned (.int .i64 (numFrom bs at_ n : Int)) ∧ w = w' := by
  obtain ⟨b, off, rfl⟩ := Holds.addr h (by omega)
  have hd := Holds.drop h hat
  have HD := Lib.hid hd; clear hd
  have hlt := numFrom_lt bs at_ n
  have hp : 2 ^ (8 * n) ≤ 2 ^ 32 := Nat.pow_le_pow_right (by omega) (by omega)
  have hlt2 : numFrom bs at_ n < 4294967296 := by omega
  have hdef : numAt ((bs.drop at_).take n) n = numFrom bs at_ n := rfl
  have HDEF := Lib.hid hdef; clear hdef hlt hp
  have H := Lib.hid h; clear h
  generalize numFrom bs at_ n = K at hlt2 HDEF ⊢
  go_enter Try.func108, Try.ntmps108
  go_wp2_with fail
  refine (refnumber_any _ n (c - at_) B _ w HD.out (by omega)).mono ?_
  rintro e w' ⟨rfl, rfl⟩
  rw [HDEF.out]
  go_wp2
  go_ret
  exact ⟨rfl, rfl⟩
end Go.Proofs.Ytelnoibfamcnmaa.Rec
