/- The fixed fact of layer 4's statements. -/
import Derived.Test.YtkicobmdogeigaaLgAppend
import Derived.Test.YtkicobmdogeigaaDkAlive
namespace Go.Proofs.Ytkicobmdogeigaa.Log
set_option maxRecDepth 20000
open Go.RowKit
open Go.Proofs.Ytkicobmdogeigaa.Mem Go.Proofs.Ytkicobmdogeigaa.Crc Go.Proofs.Ytkicobmdogeigaa.Disk
open Go.Proofs.Ytkicobmdogeigaa.Rec (Tx Wt TxAt HoldsW HoldsI IsInt enc_any Told enc_len mayB_iff numFrom eqB)

theorem bytesL_getD (v L k : Nat) (hk : k < L) : (bytesL v L).getD k 0 = byteN v k := by
  simp [bytesL, List.getD, hk]
theorem num_bytesL (v L : Nat) : ∀ k, k ≤ L → numAt (bytesL v L) k = v % 2 ^ (8 * k)
  | 0, _ => by simp [numAt, Nat.mod_one]
  | k + 1, hk => by
    have ih := num_bytesL v L k (by omega)
    show numAt (bytesL v L) k ||| ((bytesL v L).getD k 0).toNat * 2 ^ (8 * k) = _
    rw [ih, bytesL_getD v L k (by omega)]
    have e : (byteN v k).toNat = v / 2 ^ (8 * k) % 256 := by simp [byteN]
    have hlt : v % 2 ^ (8 * k) < 2 ^ (8 * k) := Nat.mod_lt _ (Nat.pow_pos (by omega))
    rw [e, Nat.or_comm, Nat.mul_comm, ← Nat.two_pow_add_eq_or_of_lt hlt, show 8 * (k + 1) = 8 * k + 8 by omega, Nat.pow_add, Nat.mod_mul, show (2 : Nat) ^ 8 = 256 from rfl]
    omega
theorem numFrom_at (a c : List UInt8) (v n k : Nat) (hk : k = a.length) (hv : v < 2 ^ (8 * n)) : numFrom (a ++ (bytesL v n ++ c)) k n = v := by
  subst hk
  unfold numFrom
  rw [List.drop_left, List.take_left' (bytesL_len v n), num_bytesL v n n (Nat.le_refl _), Nat.mod_eq_of_lt hv]

/-- What a head tells is read. -/
theorem seqH_head (sq pl : Nat) (h : sq < 18446744073709551616) : seqH (headH sq pl) = sq := by
  unfold seqH
  rw [headH_eq, List.append_assoc, List.append_assoc]
  exact numFrom_at markH _ sq 8 8 rfl h
theorem plH_head (sq pl : Nat) (h : pl < 4294967296) : plH (headH sq pl) = pl := by
  unfold plH
  rw [headH_eq, List.append_assoc (markH ++ bytesL sq 8)]
  exact numFrom_at (markH ++ bytesL sq 8) _ pl 4 16 (by rw [List.length_append, bytesL_len]; rfl) h
theorem okH_head (sq pl ring : Nat) (h : sq < 18446744073709551616) (hp : pl < ring) (hr : ring ≤ 1024) : okH (headH sq pl) ring = true := by
  unfold okH
  rw [seqH_head sq pl h, plH_head sq pl (by omega)]
  simp [eqB, hp]

/-- A new log on a new disk. -/
def freshD (n s : Nat) : Dk.Dk := ((Dk.Dk.new n).write s (headH 1 0)).flush
theorem freshD_read (n s : Nat) (hs : s < n) : (freshD n s).read s = headH 1 0 := by
  have h0 := Dk.new_ok n
  have h1 := Dk.write_ok _ h0 s (headH 1 0) (by simpa [Dk.Dk.new] using hs) (headH_len 1 0)
  unfold freshD
  rw [Dk.read_flush _ h1, Dk.read_write _ h0, if_pos rfl]
theorem freshD_size (n s : Nat) : (freshD n s).stable.length = n := by
  unfold freshD
  rw [Dk.size_flush, write_size]
  simp [Dk.Dk.new]

/-- The record of the fixed fact. -/
def tA : Tx := ⟨1, [(9, List.replicate 256 0)], []⟩
theorem tA_may : tA.mayB = true := by
  rw [mayB_iff]
  exact ⟨by decide, by decide, fun x hx => by simp [tA] at hx; subst hx; simp, fun x hx => by simp [tA, Tx.nums] at hx; omega, by simp [tA, Tx.nums]⟩
theorem tA_takes : takesB 16 0 7 tA = true := by decide

set_option maxRecDepth 100000 in
set_option maxHeartbeats 4000000 in
theorem alive_any (w : World) : Calls Try.prog 30 #[] w fun e w' => e = .returned (.bool true) ∧ Below w.heap.size w w' := by
  obtain ⟨Z, hZ⟩ : ∃ Z, Z = List.replicate 256 (0 : UInt8) := ⟨_, rfl⟩
  have hmk : ∀ W, (Instr.makeSlice 33 (.int .i64 256) (.int .i64 256)).run Try.prog W = .ok (.slice (some ⟨W.heap.size, 0, none⟩) 256 256) (W.alloc (.cells (Z.map byteV).toArray 5)) := by
    rw [hZ]
    exact Go.Proofs.Ytkicobmdogeigaa.Rec.run_makeZ 256 (by omega)
  have hZl : Z.length = 256 := by rw [hZ, List.length_replicate]
  have HMK := Lib.hid hmk; clear hmk
  have HZ := Lib.hid hZ; clear hZ
  have HZL := Lib.hid hZl; clear hZl
  go_enter Try.func30, Try.ntmps30
  go_wp2_with fail
  refine (new_d 16 16 0 _ rfl (by omega) (by omega)).mono ?_
  rintro e w1 ⟨p, F, rfl, hD, hF, hb1⟩
  unfold ptr
  have hfm : Calls Try.prog 32 #[.pointer (some ⟨p, 0, none⟩), .int .i64 0, .int .i64 8] w1 (Now w1 p (freshD 16 0) 1 F (.int .i64 0)) := format_d 0 8 0 8 rfl rfl (Dk.Dk.new 16) p 0 F w1 hD (by omega) (by omega) (by simp [Dk.Dk.new])
  have HFM := Lib.hid hfm; clear hfm
  have HF := Lib.hid hF; clear hF
  have HB1 := Lib.hid hb1; clear hb1 hD
  go_wp2_with fail
  with_reducible refine HFM.out.mono ?_
  rintro e w2 ⟨F2, rfl, hD2, hF2, hT2⟩
  clear HFM
  have hrd := freshD_read 16 0 (by omega)
  have hsz := freshD_size 16 0
  have hop : Calls Try.prog 31 #[.pointer (some ⟨p, 0, none⟩), .int .i64 0, .int .i64 8] w2 fun e w' => ∃ lp, e = .returned (.tuple #[.pointer (some ⟨lp, 0, none⟩), .int .i64 0]) ∧ LogAt w' lp p 0 7 1 0 0 (.slice none 0 0) ∧ w2.heap.size ≤ lp ∧ Below w2.heap.size w2 w' := by
    have := open_d 0 8 0 8 rfl rfl (freshD 16 0) p 1 F2 w2 hD2 (by omega) (by omega) (by rw [hsz]; omega) (by rw [hrd]; exact okH_head 1 0 7 (by omega) (by omega) (by omega))
    rw [hrd, seqH_head 1 0 (by omega), plH_head 1 0 (by omega)] at this
    exact this
  have HOP := Lib.hid hop; clear hop
  have hF2w : ∀ k, F2 k → w.heap.size ≤ k := fun k hk => by
    rcases hF2 k hk with e | e
    · exact HF.out k e
    · have := HB1.out.size; omega
  have hBw2 : Below w.heap.size w w2 := HB1.out.trans (hT2.below (fun k hk => HF.out k hk) HB1.out.size)
  have HBW2 := Lib.hid hBw2; clear hBw2
  have HD2 := Lib.hid hD2; clear hD2 hF2 hT2
  go_wp2_with fail
  with_reducible refine HOP.out.mono ?_
  rintro e w3 ⟨lp, rfl, hL3, hlp, hb3⟩
  clear HOP
  obtain ⟨m, hDM, hm⟩ := DiskAt.named HD2.out
  have hon : LogOn w3 lp p 0 7 1 0 0 (.slice none 0 0) 0 (freshD 16 0) 1 F2 m :=
    ⟨hDM.turns (Turns.of_below (F := fun _ => False) hb3) (fun _ _ e => e), hL3, ⟨[], World.ownsRow_nil _ _ _ _, fun u hu => by simp at hu⟩, fun e => by have := HD2.out.lt _ e; omega, fun k hk => (by cases hk), by rw [hsz]; omega⟩
  have HON := Lib.hid hon; clear hon
  have HB3 : Hid (Below w.heap.size w w3) := Lib.hid (HBW2.out.trans (hb3.mono HBW2.out.size))
  have hlpw : w.heap.size ≤ lp := by have := HBW2.out.size; omega
  have hlw : lp < w3.heap.size := (Array.getElem?_eq_some_iff.1 hL3).1
  have hFw : ∀ q, F2 q → q < w3.heap.size := fun q hq => HON.out.disk.lt q hq
  clear hL3 hlp hb3 hDM hm HD2 HBW2 HF HB1
  go_wp2_with fail
  rw [HMK.out]
  simp only [Result.andThen]
  rw [Oper.upon_value]
  clear HMK
  obtain ⟨W4, hW4⟩ : ∃ W4, W4 = (w3.alloc (.cells (Z.map byteV).toArray 5)).alloc (.cells #[.int .i64 9, .slice (some ⟨w3.heap.size, 0, none⟩) 256 256] 83) := ⟨_, rfl⟩
  have z1 : (w3.alloc (.cells (Z.map byteV).toArray 5)).heap.size = w3.heap.size + 1 := by simp
  have z4 : W4.heap.size = w3.heap.size + 2 := by rw [hW4]; simp
  have hb4 : Below w3.heap.size w3 W4 := by rw [hW4]; exact ((Below.refl _ w3).alloc (Nat.le_refl _) _).alloc (by simp) _
  have hx0 : W4.heap[w3.heap.size]? = some (.cells (Z.map byteV).toArray 5 (0, 0)) := by
    rw [hW4]; exact (Below.heap_alloc _ _ _ (by rw [z1]; omega)).trans (heap_alloc_new w3 _)
  have hx1 : W4.heap[w3.heap.size + 1]? = some (.cells #[.int .i64 9, .slice (some ⟨w3.heap.size, 0, none⟩) 256 256] 83 (0, 0)) := by
    rw [hW4, ← z1]; exact heap_alloc_new _ _
  have ht : ∀ W, Turns (fun q => F2 q ∨ q = lp) W4 W → TxAt W W4.heap.size tA (some ⟨w3.heap.size + 1, 0, none⟩) 1 1 none 0 0 := fun W hW => by
    have hy0 := (hW.block w3.heap.size (by omega) (fun e => by
      rcases e with e | e
      · have := hFw _ e; omega
      · omega)).trans hx0
    have hy1 := (hW.block (w3.heap.size + 1) (by omega) (fun e => by
      rcases e with e | e
      · have := hFw _ e; omega
      · omega)).trans hx1
    refine ⟨⟨rfl, fun _ => ⟨w3.heap.size + 1, 0, rfl, by omega, fun k x hx => ?_⟩⟩, ⟨rfl, fun h => absurd h (by omega)⟩, by show (1 : Nat) < _; omega, ⟨by omega, by omega, by omega, by omega⟩, fun x hx => ?_, fun x hx => (by cases hx)⟩
    · have hk : k = 0 := by
        have := (List.getElem?_eq_some_iff.1 hx).1
        simpa [tA] using this
      subst hk
      have hxe : x = ((9 : Int), List.replicate 256 (0 : UInt8)) := by simpa [tA] using hx.symm
      subst hxe
      have hlen : (List.replicate 256 (0 : UInt8)).length = 256 := List.length_replicate
      dsimp only
      rw [hlen]
      refine ⟨cell_of_row W _ 0 _ _ _ hy1, some ⟨w3.heap.size, 0, none⟩, 256, cell_of_row W _ 1 _ _ _ hy1, ⟨hlen, fun _ => ⟨w3.heap.size, 0, rfl, by omega, fun j hj => ?_⟩⟩, by omega, by unfold maxLen; omega⟩
      have hj' : j < 256 := by rw [hlen] at hj; exact hj
      rw [cell_of_row W _ _ _ _ _ hy0, List.getElem_replicate, List.getElem?_toArray, List.getElem?_map, HZ.out, List.getElem?_replicate, if_pos (by omega)]
      rfl
    · have hxe : x = ((9 : Int), List.replicate 256 (0 : UInt8)) := by simpa [tA] using hx
      subst hxe
      exact ⟨by show (-9223372036854775808 : Int) ≤ 9; omega, by show (9 : Int) ≤ _; omega⟩
  have hap := append_ok lp p 0 7 1 0 0 0 m 1 (.slice none 0 0) (freshD 16 0) F2 W4 (HON.out.later hb4) tA (some ⟨w3.heap.size + 1, 0, none⟩) none 1 1 0 0 ht rfl (by omega) tA_may (by rw [hsz]; exact tA_takes) (by omega) (by omega) (by omega)
  have HAP : Hid (Calls Try.prog 41 #[.pointer (some ⟨lp, 0, none⟩), .slice (some ⟨w3.heap.size + 1, 0, none⟩) 1 1, .slice none 0 0] W4 fun e w' => e = .returned (.tuple #[.int .u64 1, .int .i64 0]) ∧ Below w.heap.size w w' ∧ ∃ v' sq' pl', LogAt w' lp p 0 7 sq' pl' 3 v') := Lib.hid (hap.mono (fun e w' ⟨he, v', F', hon, hq, hT⟩ => ⟨he, (HB3.out.trans (hb4.mono HB3.out.size)).trans (hT.below (fun k hk => ?_) (by have := HB3.out.size; omega)), v', _, _, hon.log⟩))
  rotate_left
  · rcases hk with e | e | e
    · exact hF2w k e
    · omega
    · cases e
  clear hap ht hb4 hx0 hx1
  have HW4 := Lib.hid hW4; clear hW4
  go_wp2_with fail
  rw [← HW4.out]
  with_reducible refine HAP.out.mono ?_
  rintro e w5 ⟨rfl, hb5, v', sq', pl', hL5⟩
  have hrm := room_any lp p sq' pl' 3 (0 : Int) (7 : Int) v' w5 hL5 (by omega) (by omega)
  have hrm2 : Calls Try.prog 40 #[.pointer (some ⟨lp, 0, none⟩)] w5 fun e w' => e = .returned (.int .i64 4) ∧ Below w5.heap.size w5 w' := hrm
  have HRM := Lib.hid hrm2; clear hrm hrm2
  have HB5 := Lib.hid hb5; clear hb5
  clear HAP hL5
  go_wp2_with fail
  with_reducible refine HRM.out.mono ?_
  rintro e w6 ⟨rfl, hb6⟩
  go_wp2
  go_ret
  exact ⟨rfl, HB5.out.trans (hb6.mono HB5.out.size)⟩
end Go.Proofs.Ytkicobmdogeigaa.Log
