/- Contracts of the program's making an inode's bytes. -/
import Derived.Test.YtbppgihbnjnapaaInLay
import Derived.RegionTactic
import Derived.ChangeAlike
import Derived.Deep.RegionWith
import Derived.Deep.DrawnRows
namespace Go.Proofs.Ytbppgihbnjnapaa.Ino
set_option maxRecDepth 20000
open Go.RowKit
open Go.Proofs.Ytbppgihbnjnapaa.Mem Go.Proofs.Ytbppgihbnjnapaa.Crc Go.Proofs.Ytbppgihbnjnapaa.Rec
attribute [local go_sem ↓] Go.wp_at_zero Go.wp_at_succ ldI_eq stI_eq

theorem isum_any (n : Nat) (A : Option Addr) (c m B : Nat) (bs : List UInt8) (w : World) (h : Holds w B A m bs) (hB : B ≤ w.heap.size) (hm : m ≤ 1000) (hn : n ≤ 1048576) :
    Calls Try.prog 29 #[.slice A m c, .int .i64 (n : Int)] w fun e w' => e = .returned (.int .u32 (sum (bytesL n 4 ++ bs) : Int)) ∧ Below w.heap.size w w' := by
  have hw : IntKind.u64.wrap (n : Int) = (n : Int) := by rw [IntKind.wrap_u64]; omega
  have H := Lib.hid h; clear h
  obtain ⟨S, hS⟩ : ∃ S, sum (bytesL n 4 ++ bs) = S := ⟨_, rfl⟩
  rw [hS]
  have HS := Lib.hid hS; clear hS
  go_enter Try.func29, Try.ntmps29
  go_wp2_with fail
  with_reducible refine (show Calls Try.prog 28 #[.int .u64 (n : Int), .int .i64 4] w _ from bytesN_any n 4 w (by omega)).mono ?_
  rintro e w1 ⟨A1, c1, rfl, ho1, hb1⟩
  have HB1 := Lib.hid hb1
  have HO1 := Lib.hid ho1
  have hx1 := H.out.below (hb1.mono hB)
  clear hb1 ho1
  go_wp2_with (at_builtin; refine wpList_addall rfl (.tmp 7) (.tmp 8) rfl w.heap.size _ (bytesL n 4) rfl HO1.out B A m c bs rfl hx1 ?c2 HB1.out.size ?_)
  case c2 => rw [bytesL_len]; omega
  intro v w2 ho2 hb2
  obtain ⟨A2, c2, rfl, -⟩ := Owned.holds ho2
  have HB2 : Hid (Below w.heap.size w w2) := Lib.hid (HB1.out.trans hb2)
  have HR2 := Lib.hid (Owned.reads ho2)
  have hlen : (bytesL n 4 ++ bs).length = 4 + m := by rw [List.length_append, bytesL_len, H.out.1]
  rw [hlen] at HR2 ⊢
  clear hb2 ho2 hx1
  go_wp2_with fail
  with_reducible refine (sum_any A2 (4 + m) c2 (bytesL n 4 ++ bs) w2 HR2.out (by unfold maxLen; omega)).mono ?_
  rintro e w3 ⟨rfl, hb3⟩
  have HB3 : Hid (Below w.heap.size w w3) := Lib.hid (HB2.out.trans (hb3.mono HB2.out.size))
  clear hb3
  rw [HS.out]
  go_wp2
  go_ret
  exact ⟨rfl, HB3.out⟩

theorem set_one (k : UInt8) : (List.replicate 128 (0 : UInt8)).set 0 k = [k, 0] ++ List.replicate 126 0 := rfl
theorem set_two (k i : UInt8) : ((List.replicate 128 (0 : UInt8)).set 0 k).set 1 i = [k, i] ++ List.replicate 126 0 := rfl

set_option maxRecDepth 100000 in
set_option maxHeartbeats 2000000 in
theorem coded_any (k l s a : Nat) (inl : Bool) (body : List UInt8) (A : Option Addr) (c n B : Nat) (w : World) (hk : k ≤ 3) (hl : l ≤ 100) (hs : s ≤ 65536) (ha : a ≤ 1023) (hb : body.length = 60) (hn : n ≤ 1048576)
    (hx : Holds w B A 60 body) (hB : B ≤ w.heap.size) :
    Calls Try.prog 21 #[.agg (In.c ⟨k, l, s, inl, a, body⟩ A c), .int .i64 (n : Int)] w (Made w (code ⟨k, l, s, inl, a, body⟩ n)) := by
  unfold Made
  rw [code_len _ _ hb]
  obtain ⟨x, hxe⟩ : ∃ x : In, x = ⟨k, l, s, inl, a, body⟩ := ⟨_, rfl⟩
  rw [← hxe]
  obtain ⟨C, hC⟩ : ∃ C, C = x.c A c := ⟨_, rfl⟩
  rw [← hC]
  have hmk : ∀ W, (Instr.makeSlice 22 (.int .i64 128) (.int .i64 128)).run Try.prog W = .ok (.slice (some ⟨W.heap.size, 0, none⟩) 128 128) (W.alloc (.cells ((List.replicate 128 (0 : UInt8)).map byteV).toArray 5)) := run_makeZ 128 (by omega)
  have HMK := Lib.hid hmk; clear hmk
  have hx0 : VarI (w.alloc (.cells C 24)) w.heap.size x A c := by rw [hC]; exact VarI.new w x A c
  have hb0 : Below w.heap.size w (w.alloc (.cells C 24)) := (Below.refl _ _).alloc (Nat.le_refl _) _
  have hz0 : (w.alloc (.cells C 24)).heap.size = w.heap.size + 1 := by simp
  have HX0 := Lib.hid hx0; clear hx0
  have HB0 := Lib.hid hb0; clear hb0
  have HZ0 := Lib.hid hz0; clear hz0
  have HC := Lib.hid hC; clear hC
  have HXE := Lib.hid hxe; clear hxe
  have HX := Lib.hid hx; clear hx
  go_enter Try.func21, Try.ntmps21
  go_wp2_with fail
  rw [HMK.out]
  simp only [Result.andThen]
  rw [Oper.upon_value]
  generalize w.alloc (.cells C 24) = w0 at HX0 HZ0 HB0 ⊢
  obtain ⟨w1, hw1⟩ : ∃ y, y = w0.alloc (.cells ((List.replicate 128 (0 : UInt8)).map byteV).toArray 5) := ⟨_, rfl⟩
  have ho1 : Owned w1 (w.heap.size + 1) (.slice (some ⟨w.heap.size + 1, 0, none⟩) 128 128) (List.replicate 128 0) := by
    rw [hw1, ← HZ0.out]
    have := owned_made w0 (List.replicate 128 (0 : UInt8)) w0.heap.size (Nat.le_refl _) (by unfold maxLen; rw [List.length_replicate]; omega)
    rwa [List.length_replicate] at this
  have hb1 : Below w.heap.size w w1 := by rw [hw1]; exact HB0.out.alloc HB0.out.size _
  have hv1 : VarI w1 w.heap.size x A c := by rw [hw1]; exact HX0.out.alloc _
  rw [HZ0.out, ← hw1]
  obtain ⟨q0, q1, q2, q3, q4, q5⟩ := hv1.cells
  obtain ⟨g', cap', e', -, -, -, hrow⟩ := Owned.row ho1 (by rw [List.length_replicate]; omega)
  rw [List.length_replicate] at e'
  injection e' with e1 e2 e3
  injection e1 with e1
  injection e1 with e1
  subst e1
  obtain ⟨z0, f0, -⟩ := hrow 0 (by rw [List.length_replicate]; omega)
  obtain ⟨z1, f1, -⟩ := hrow 1 (by rw [List.length_replicate]; omega)
  clear hrow e2 e3
  rw [HXE.out] at q0 q1 q2 q3 q4 q5
  simp only at q0 q1 q2 q3 q4 q5
  clear q1 q2 q4 q5
  clear hw1
  unfold byteV at z0 z1
  have HO1 := Lib.hid ho1; clear ho1
  have HB1 := Lib.hid hb1; clear hb1
  have HV1 := Lib.hid hv1; clear hv1
  clear HB0 HX0 HZ0
  have hkb : Value.int .u8 (k : Int) = byteV (UInt8.ofNat k) := by
    unfold byteV
    rw [show (UInt8.ofNat k).toNat = k by simp; omega]
  have HKB := Lib.hid hkb; clear hkb
  have hbase : w.heap.size + 1 ≤ w1.heap.size := by
    obtain ⟨_, _, _, _, h, _⟩ := Owned.cut HO1.out (by rw [List.length_replicate]; omega)
    omega
  have HBS := Lib.hid hbase; clear hbase
  have tail0 : ∃ w5, w5 = (if inl then (w1.setCell ⟨w.heap.size + 1, 0, none⟩ (.int .u8 (k : Int))).setCell ⟨w.heap.size + 1, 1, none⟩ (.int .u8 1) else w1.setCell ⟨w.heap.size + 1, 0, none⟩ (.int .u8 (k : Int))) ∧ Owned w5 (w.heap.size + 1) (.slice (some ⟨w.heap.size + 1, 0, none⟩) 128 128) (p0 x ++ List.replicate 126 0) ∧ Below (w.heap.size + 1) w1 w5 := by
    refine ⟨_, rfl, ?_⟩
    obtain ⟨_, _, e0, -, -, -, hr⟩ := Owned.row HO1.out (by rw [List.length_replicate]; omega)
    rw [List.length_replicate] at e0
    injection e0 with e1 e2 e3
    injection e1 with e1
    injection e1 with e1
    subst e1
    obtain ⟨-, -, hr⟩ := hr 0 (by rw [List.length_replicate]; omega)
    obtain ⟨r1, r2⟩ := hr (UInt8.ofNat k)
    rw [← HKB.out] at r1 r2
    have hp : p0 x = [UInt8.ofNat k, inlB inl] := by rw [HXE.out]; rfl
    rw [hp]
    cases inl with
    | false =>
      rw [set_one] at r1
      exact ⟨r1, r2⟩
    | true =>
      obtain ⟨_, _, e0, -, -, -, hr⟩ := Owned.row r1 (by rw [List.length_set, List.length_replicate]; omega)
      rw [List.length_set, List.length_replicate] at e0
      injection e0 with e1 e2 e3
      injection e1 with e1
      injection e1 with e1
      subst e1
      obtain ⟨-, -, hr⟩ := hr 1 (by rw [List.length_set, List.length_replicate]; omega)
      obtain ⟨u1, u2⟩ := hr 1
      rw [set_two] at u1
      exact ⟨u1, r2.trans u2⟩
  obtain ⟨w5, hw5, ho5, hb5⟩ := tail0
  have HV5 : Hid (VarI w5 w.heap.size x A c) := Lib.hid (HV1.out.keep hb5 (by omega))
  have HB5 : Hid (Below w.heap.size w w5) := Lib.hid (HB1.out.trans (hb5.mono (by omega)))
  have HZ5 : Hid (w.heap.size + 1 ≤ w5.heap.size) := Lib.hid (Nat.le_trans HBS.out hb5.size)
  have HO5 := Lib.hid ho5; clear ho5 hb5
  have hy1 := over_zeros (p0 x) 126 2 (bytesL l 2) rfl
  have hy2 := over_zeros (p1 x) 124 4 (bytesL s 4) (p1_len x)
  have hy3 := over_zeros (p2 x) 120 8 (bytesL a 4) (p2_len x)
  have hy4 := over_zeros (p3 x) 116 12 body (p3_len x)
  have hp4 : (p4 x).length = 72 := p4_len x (by rw [HXE.out]; exact hb)
  have hal : (ahead x).length = 124 := ahead_len x (by rw [HXE.out]; exact hb)
  have hsp : p4 x ++ List.replicate 56 (0 : UInt8) = ahead x ++ List.replicate 4 0 := by unfold ahead; rw [List.append_assoc]; rfl
  have hy5 := over_zeros (ahead x) 4 124 (bytesL (sum (bytesL n 4 ++ ahead x)) 4) hal
  have e1 : p0 x ++ bytesL l 2 = p1 x := by unfold p1; rw [HXE.out]; rfl
  have e2 : p1 x ++ bytesL s 4 = p2 x := by unfold p2; rw [HXE.out]; rfl
  have e3 : p2 x ++ bytesL a 4 = p3 x := by unfold p3; rw [HXE.out]; rfl
  have e4 : p3 x ++ body = p4 x := by unfold p4; rw [HXE.out]
  have e5 : ahead x ++ bytesL (sum (bytesL n 4 ++ ahead x)) 4 = code x n := rfl
  rw [e1, bytesL_len] at hy1
  rw [e2, bytesL_len] at hy2
  rw [e3, bytesL_len] at hy3
  rw [e4, hb] at hy4
  rw [e5, bytesL_len] at hy5
  have htk : (p4 x ++ List.replicate 56 (0 : UInt8)).take 124 = ahead x := by rw [hsp, take_pre hal]
  have HY1 := Lib.hid hy1; clear hy1
  have HY2 := Lib.hid hy2; clear hy2
  have HY3 := Lib.hid hy3; clear hy3
  have HY4 := Lib.hid hy4; clear hy4
  have HY5 := Lib.hid hy5; clear hy5
  have HSP := Lib.hid hsp; clear hsp
  have HTK := Lib.hid htk; clear htk
  have HBL := Lib.hid hb; clear hb
  clear e1 e2 e3 e4 e5 hp4 hal
  have hw5' := Lib.hid hw5; clear hw5
  have hq : ∀ W, VarI W w.heap.size x A c → W.cell? ⟨w.heap.size, 1, none⟩ = some (.int .i64 (l : Int)) ∧ W.cell? ⟨w.heap.size, 2, none⟩ = some (.int .i64 (s : Int)) ∧ W.cell? ⟨w.heap.size, 4, none⟩ = some (.int .i64 (a : Int)) ∧ W.cell? ⟨w.heap.size, 5, none⟩ = some (.slice A 60 c) := by
    intro W hW
    obtain ⟨-, q1, q2, -, q4, q5⟩ := hW.cells
    rw [HXE.out] at q1 q2 q4 q5
    simp only [HBL.out] at q1 q2 q4 q5
    exact ⟨q1, q2, q4, q5⟩
  have HQ := Lib.hid hq; clear hq
  have HLT : Hid (w.heap.size < w.heap.size + 1) := Lib.hid (Nat.lt_succ_self _)
  have u1 : IntKind.u64.wrap (l : Int) = (l : Int) := by rw [IntKind.wrap_u64]; omega
  have u2 : IntKind.u64.wrap (s : Int) = (s : Int) := by rw [IntKind.wrap_u64]; omega
  have u3 : IntKind.u64.wrap (a : Int) = (a : Int) := by rw [IntKind.wrap_u64]; omega
  have HHN := Lib.hid hn; clear hn
  clear hl hs ha
  cases inl
  all_goals
    have hw5 := hw5'.out
    simp only [if_true, if_false, Bool.false_eq_true] at hw5
    go_wp2_with fail
    rw [← hw5]
    clear hw5 hw5' q0 q3 z0 z1 f0 f1 HO1 HB1 HV1 HKB HBS
    have HOd : Hid (Owned w5.drew (w.heap.size + 1) (.slice (some ⟨w.heap.size + 1, 0, none⟩) 128 128) (p0 x ++ List.replicate 126 0)) := HO5
    have HVd : Hid (VarI w5.drew w.heap.size x A c) := HV5
    have HBd : Hid (Below w.heap.size w w5.drew) := Lib.hid HB5.out.drew
    have HZd : Hid (w.heap.size + 1 ≤ w5.drew.heap.size) := HZ5
    obtain ⟨q1, q2, q4, q5⟩ := HQ.out _ HVd.out
    clear HO5 HV5 HB5 HZ5
    go_region_with (go_at_call 28; refine (bytes_laid _ l 2 rfl _ (w.heap.size + 1) (w.heap.size + 1) 128 128 (p0 x ++ List.replicate 126 0) 2 126 126 HOd.out HZd.out (by omega) (by omega) (by omega) (by omega)).mono ?_; rintro e w4 ⟨A4, c4, w6, rfl, hrun5, ho5, hb5⟩; rw [HY1.out] at ho5; have HO6 := Lib.hid ho5; have HB6 : Hid (Below w.heap.size w w6) := Lib.hid (HBd.out.trans (hb5.mono (by omega))); have HZ6 : Hid (w.heap.size + 1 ≤ w6.heap.size) := Lib.hid (Nat.le_trans HZd.out hb5.size); have HV6 : Hid (VarI w6 w.heap.size x A c) := Lib.hid (HVd.out.keep hb5 HLT.out); clear ho5 hb5)
    clear hrun5 q1 q2 q4 q5 HOd HVd HBd HZd
    go_wp2_with fail
    have HOd : Hid (Owned w6.drew (w.heap.size + 1) (.slice (some ⟨w.heap.size + 1, 0, none⟩) 128 128) (p1 x ++ List.replicate 124 0)) := HO6
    have HVd : Hid (VarI w6.drew w.heap.size x A c) := HV6
    have HBd : Hid (Below w.heap.size w w6.drew) := Lib.hid HB6.out.drew
    have HZd : Hid (w.heap.size + 1 ≤ w6.drew.heap.size) := HZ6
    obtain ⟨q1, q2, q4, q5⟩ := HQ.out _ HVd.out
    clear HO6 HV6 HB6 HZ6
    go_region_with (go_at_call 28; refine (bytes_laid _ s 4 rfl _ (w.heap.size + 1) (w.heap.size + 1) 128 128 (p1 x ++ List.replicate 124 0) 4 124 124 HOd.out HZd.out (by omega) (by omega) (by omega) (by omega)).mono ?_; rintro e w4 ⟨A4, c4, w7, rfl, hrun5, ho5, hb5⟩; rw [HY2.out] at ho5; have HO7 := Lib.hid ho5; have HB7 : Hid (Below w.heap.size w w7) := Lib.hid (HBd.out.trans (hb5.mono (by omega))); have HZ7 : Hid (w.heap.size + 1 ≤ w7.heap.size) := Lib.hid (Nat.le_trans HZd.out hb5.size); have HV7 : Hid (VarI w7 w.heap.size x A c) := Lib.hid (HVd.out.keep hb5 HLT.out); clear ho5 hb5)
    clear hrun5 q1 q2 q4 q5 HOd HVd HBd HZd
    go_wp2_with fail
    have HOd : Hid (Owned w7.drew (w.heap.size + 1) (.slice (some ⟨w.heap.size + 1, 0, none⟩) 128 128) (p2 x ++ List.replicate 120 0)) := HO7
    have HVd : Hid (VarI w7.drew w.heap.size x A c) := HV7
    have HBd : Hid (Below w.heap.size w w7.drew) := Lib.hid HB7.out.drew
    have HZd : Hid (w.heap.size + 1 ≤ w7.drew.heap.size) := HZ7
    obtain ⟨q1, q2, q4, q5⟩ := HQ.out _ HVd.out
    clear HO7 HV7 HB7 HZ7
    go_region_with (go_at_call 28; refine (bytes_laid _ a 4 rfl _ (w.heap.size + 1) (w.heap.size + 1) 128 128 (p2 x ++ List.replicate 120 0) 8 120 120 HOd.out HZd.out (by omega) (by omega) (by omega) (by omega)).mono ?_; rintro e w4 ⟨A4, c4, w8, rfl, hrun5, ho5, hb5⟩; rw [HY3.out] at ho5; have HO8 := Lib.hid ho5; have HB8 : Hid (Below w.heap.size w w8) := Lib.hid (HBd.out.trans (hb5.mono (by omega))); have HZ8 : Hid (w.heap.size + 1 ≤ w8.heap.size) := Lib.hid (Nat.le_trans HZd.out hb5.size); have HV8 : Hid (VarI w8 w.heap.size x A c) := Lib.hid (HVd.out.keep hb5 HLT.out); clear ho5 hb5)
    clear hrun5 q1 q2 q4 q5 HOd HVd HBd HZd
    go_wp2_with fail
    have HOd : Hid (Owned w8.drew (w.heap.size + 1) (.slice (some ⟨w.heap.size + 1, 0, none⟩) 128 128) (p3 x ++ List.replicate 116 0)) := HO8
    have HVd : Hid (VarI w8.drew w.heap.size x A c) := HV8
    have HBd : Hid (Below w.heap.size w w8.drew) := Lib.hid HB8.out.drew
    have HZd : Hid (w.heap.size + 1 ≤ w8.drew.heap.size) := HZ8
    obtain ⟨q1, q2, q4, q5⟩ := HQ.out _ HVd.out
    clear HO8 HV8 HB8 HZ8
    obtain ⟨w9, hrun9, ho9, hb9⟩ := run_copy_bytes w8.drew 3 (w.heap.size + 1) (w.heap.size + 1) 128 128 (p3 x ++ List.replicate 116 0) body 12 116 116 HOd.out B A 60 c (HX.out.below (HBd.out.mono hB)) (by omega) (by omega) (by omega)
    rw [HY4.out] at ho9
    have HO9 := Lib.hid ho9
    have HB9 : Hid (Below w.heap.size w w9) := Lib.hid (HBd.out.trans (hb9.mono (by omega)))
    have HZ9 : Hid (w.heap.size + 1 ≤ w9.heap.size) := Lib.hid (Nat.le_trans HZd.out hb9.size)
    clear ho9 hb9 q1 q2 q4 HOd HVd HBd HZd
    go_region
    clear hrun9 q5
    go_wp2_with fail
    have HOd : Hid (Owned w9.drew (w.heap.size + 1) (.slice (some ⟨w.heap.size + 1, 0, none⟩) 128 128) (p4 x ++ List.replicate 56 0)) := HO9
    have HBd : Hid (Below w.heap.size w w9.drew) := Lib.hid HB9.out.drew
    have HZd : Hid (w.heap.size + 1 ≤ w9.drew.heap.size) := HZ9
    have HR : Hid (Holds w9.drew w9.drew.heap.size (some ⟨w.heap.size + 1, 0, none⟩) 124 (ahead x)) := Lib.hid (by rw [← HTK.out]; exact (Owned.reads HOd.out).take (by omega))
    have HE : Hid (over (p4 x ++ List.replicate 56 0) 124 (bytesL (sum (bytesL n 4 ++ ahead x)) 4) = code x n) := Lib.hid (by rw [HSP.out, HY5.out]; exact List.append_nil _)
    clear HO9 HB9 HZ9
    obtain ⟨F, hF⟩ : ∃ F, F = p4 x ++ List.replicate 56 (0 : UInt8) := ⟨_, rfl⟩
    rw [← hF] at HOd HE
    clear hF
    go_region_with
      (first
        | (go_at_call 29
           refine (isum_any n (some ⟨w.heap.size + 1, 0, none⟩) 128 124 _ (ahead x) _ HR.out (Nat.le_refl _) (by omega) HHN.out).mono ?_
           rintro e w7 ⟨rfl, hb7⟩
           have HO7 := Lib.hid (Owned.keep HOd.out hb7 (Nat.le_refl _))
           have HB7 : Hid (Below w.heap.size w w7) := Lib.hid (HBd.out.trans (hb7.mono HBd.out.size))
           have HZ7 : Hid (w.heap.size + 1 ≤ w7.heap.size) := Lib.hid (Nat.le_trans HZd.out hb7.size)
           clear hb7)
        | (go_at_call 28
           refine (bytes_laid _ (sum (bytesL n 4 ++ ahead x)) 4 (wrap_sum _) _ (w.heap.size + 1) (w.heap.size + 1) 128 128 F 124 4 4 HO7.out HZ7.out (by omega) (by omega) (by omega) (by omega)).mono ?_
           rintro e w8 ⟨A8, c8, w9, rfl, hrun9, ho9, hb9⟩
           have HO9 := Lib.hid ho9
           have HB9 : Hid (Below w.heap.size w w9) := Lib.hid (HB7.out.trans (hb9.mono (by omega)))
           clear ho9 hb9))
    clear hrun9
    go_wp2
    go_ret
    have ho := HO9.out
    rw [HE.out] at ho
    exact ⟨_, _, rfl, Owned.mono ho (by omega), HB9.out⟩
end Go.Proofs.Ytbppgihbnjnapaa.Ino
