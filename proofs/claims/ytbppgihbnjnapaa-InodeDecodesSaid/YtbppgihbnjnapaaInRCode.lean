/- Contract of the document's Encode. -/
import Derived.Test.YtbppgihbnjnapaaInCode
namespace Go.Proofs.Ytbppgihbnjnapaa.Ino
set_option maxRecDepth 20000
open Go.RowKit
open Go.Proofs.Ytbppgihbnjnapaa.Mem Go.Proofs.Ytbppgihbnjnapaa.Crc Go.Proofs.Ytbppgihbnjnapaa.Rec
attribute [local go_sem ↓] Go.wp_at_zero Go.wp_at_succ ldI_eq stI_eq

theorem rbytesN (V : Int) (v m : Nat) (w : World) (hV : V = (v : Int)) (hm : m ≤ 8) : Calls Try.prog 22 #[.int .u64 V, .int .i64 (m : Int)] w fun e w' => ∃ A c, e = .returned (.slice A m c) ∧ Owned w' w.heap.size (.slice A m c) (bytesL v m) ∧ Below w.heap.size w w' := by
  subst hV
  refine (refbytes_any v (m : Int) w m (by omega) (by omega) (by omega)).mono ?_
  rintro e w1 ⟨sv, rfl, ho1, hb1⟩
  obtain ⟨A1, c1, rfl, -⟩ := Owned.holds ho1
  rw [bytesL_len] at ho1 ⊢
  exact ⟨A1, c1, rfl, ho1, hb1⟩
theorem rbytes2 (V : Int) (v : Nat) (w : World) (hV : V = (v : Int)) : Calls Try.prog 22 #[.int .u64 V, .int .i64 2] w fun e w' => ∃ A c, e = .returned (.slice A 2 c) ∧ Owned w' w.heap.size (.slice A 2 c) (bytesL v 2) ∧ Below w.heap.size w w' := rbytesN V v 2 w hV (by omega)
theorem rbytes4 (V : Int) (v : Nat) (w : World) (hV : V = (v : Int)) : Calls Try.prog 22 #[.int .u64 V, .int .i64 4] w fun e w' => ∃ A c, e = .returned (.slice A 4 c) ∧ Owned w' w.heap.size (.slice A 4 c) (bytesL v 4) ∧ Below w.heap.size w w' := rbytesN V v 4 w hV (by omega)

def lenOf : Value → Nat
  | .slice _ n _ => n
  | _ => 0

set_option maxRecDepth 100000 in
theorem rencode_far (x : In) (A : Option Addr) (c : Nat) (n : Int) (w : World) (hn : ¬ (0 ≤ n ∧ n ≤ 1048576)) :
    Calls Try.prog 11 #[.agg (x.c A c), .int .i64 n] w fun e w' => e = .returned (.tuple #[.slice none 0 0, .int .i64 1]) ∧ Below w.heap.size w w' := by
  obtain ⟨C, hC⟩ : ∃ C, C = x.c A c := ⟨_, rfl⟩
  rw [← hC]
  have HB : Hid (Below w.heap.size w (w.alloc (.cells C 24))) := Lib.hid ((Below.refl _ _).alloc (Nat.le_refl _) _)
  clear hC
  rcases Int.lt_or_le n 0 with h0 | h0
  · clear hn
    go_enter Try.func11, Try.ntmps11
    go_wp2
    go_ret2
    exact ⟨rfl, HB.out⟩
  · have h1 : 1048576 < n := by omega
    clear hn
    go_enter Try.func11, Try.ntmps11
    go_wp2
    go_ret2
    exact ⟨rfl, HB.out⟩

set_option maxRecDepth 100000 in
theorem rencode_nil (A : Option Addr) (c : Nat) (n : Int) (w : World) (hn : 0 ≤ n ∧ n ≤ 1048576) :
    Calls Try.prog 11 #[.agg (in0.c A c), .int .i64 n] w (Encd zer 0 w) := by
  unfold Encd
  rw [zer_len]
  obtain ⟨x, hx⟩ : ∃ x, x = in0 := ⟨_, rfl⟩
  have hnil : x.nil = true := by rw [hx]; exact nil_in0
  rw [← hx]
  clear hx
  have hbx := boxI w x A c
  have l1 := hbx.load
  have HBX := Lib.hid hbx; clear hbx
  obtain ⟨h0, h1⟩ := hn
  have h1' : ¬ 1048576 < n := by omega
  have h0' : ¬ n < 0 := by omega
  have HM := fun W => make128 W
  have HMK := Lib.hid HM; clear HM
  go_enter Try.func11, Try.ntmps11
  go_wp2_with fail
  with_reducible refine (rnil_any x A c _).mono ?_
  rintro e w2 ⟨rfl, hb⟩
  rw [hnil]
  have HB2 := Lib.hid (HBX.out.next hb)
  clear hb l1
  have l2 := HB2.out.load
  go_wp2_with fail
  with_reducible refine (rnil_any x A c _).mono ?_
  rintro e w3 ⟨rfl, hb⟩
  rw [hnil]
  have HB3 : Hid (Below w.heap.size w w3) := Lib.hid (HB2.out.next hb).below
  clear hb l2 hnil
  have l2 := HMK.out w3
  have HO : Hid (Owned (w3.alloc (.cells (zer.map byteV).toArray 5)) w.heap.size (.slice (some ⟨w3.heap.size, 0, none⟩) 128 128) zer) := Lib.hid (Owned.mono (zer_made w3) HB3.out.size)
  have HB4 : Hid (Below w.heap.size w (w3.alloc (.cells (zer.map byteV).toArray 5))) := Lib.hid (HB3.out.alloc HB3.out.size _)
  go_wp2
  go_ret2
  exact ⟨_, _, rfl, HO.out, HB4.out⟩

set_option maxRecDepth 100000 in
theorem rencode_not (x : In) (A : Option Addr) (c : Nat) (n : Int) (w : World) (hn : 0 ≤ n ∧ n ≤ 1048576) (hnil : x.nil = false) (hm : x.may = false) :
    Calls Try.prog 11 #[.agg (x.c A c), .int .i64 n] w fun e w' => e = .returned (.tuple #[.slice none 0 0, .int .i64 1]) ∧ Below w.heap.size w w' := by
  have hbx := boxI w x A c
  have l1 := hbx.load
  have HBX := Lib.hid hbx; clear hbx
  obtain ⟨h0, h1⟩ := hn
  have h1' : ¬ 1048576 < n := by omega
  have h0' : ¬ n < 0 := by omega
  go_enter Try.func11, Try.ntmps11
  go_wp2_with fail
  with_reducible refine (rnil_any x A c _).mono ?_
  rintro e w2 ⟨rfl, hb⟩
  rw [hnil]
  have HB2 := Lib.hid (HBX.out.next hb)
  clear hb l1
  have l2 := HB2.out.load
  go_wp2_with fail
  with_reducible refine (rcheck_any x A c _).mono ?_
  rintro e w3 ⟨rfl, hb⟩
  rw [chk_no hm]
  have HB3 := Lib.hid (HB2.out.next hb)
  clear hb l2
  go_wp2
  go_ret2
  exact ⟨rfl, HB3.out.below⟩

set_option maxRecDepth 100000 in
set_option maxHeartbeats 2000000 in
theorem rencode_may (k l s a : Nat) (inl : Bool) (body : List UInt8) (A : Option Addr) (c n B : Nat) (w : World) (hk : k ≤ 3) (hl : l ≤ 100) (hs : s ≤ 65536) (ha : a ≤ 1023) (hb : body.length = 60) (hn : n ≤ 1048576)
    (hm : In.may ⟨k, l, s, inl, a, body⟩ = true) (hx : Holds w B A 60 body) (hB : B ≤ w.heap.size) :
    Calls Try.prog 11 #[.agg (In.c ⟨k, l, s, inl, a, body⟩ A c), .int .i64 (n : Int)] w (Encd (code ⟨k, l, s, inl, a, body⟩ n) 0 w) := by
  unfold Encd
  rw [code_len _ _ hb]
  obtain ⟨x, hxe⟩ : ∃ x : In, x = ⟨k, l, s, inl, a, body⟩ := ⟨_, rfl⟩
  rw [← hxe] at hm ⊢
  have hnil := may_not_nil hm
  have hbx := boxI w x A c
  have l1 := hbx.load
  have HBX := Lib.hid hbx; clear hbx
  have h1 : (n : Int) ≤ 1048576 := by omega
  have h1' : ¬ 1048576 < (n : Int) := by omega
  have h0' : ¬ (n : Int) < 0 := by omega
  have hal : (ahead x).length = 124 := ahead_len x (by rw [hxe]; exact hb)
  have e1 : p0 x ++ bytesL l 2 = p1 x := by unfold p1; rw [hxe]; rfl
  have e2 : p1 x ++ bytesL s 4 = p2 x := by unfold p2; rw [hxe]; rfl
  have e3 : p2 x ++ bytesL a 4 = p3 x := by unfold p3; rw [hxe]; rfl
  have e4 : p3 x ++ body = p4 x := by unfold p4; rw [hxe]
  have e5 : ahead x ++ bytesL (sum (bytesL n 4 ++ ahead x)) 4 = code x n := rfl
  have hp0 : p0 x = [UInt8.ofNat k, inlB inl] := by rw [hxe]; rfl
  have hp4 : (p4 x).length = 72 := p4_len x (by rw [hxe]; exact hb)
  have hq : ∀ W, VarI W w.heap.size x A c → W.cell? ⟨w.heap.size, 0, none⟩ = some (.int .i64 (k : Int)) ∧ W.cell? ⟨w.heap.size, 1, none⟩ = some (.int .i64 (l : Int)) ∧ W.cell? ⟨w.heap.size, 2, none⟩ = some (.int .i64 (s : Int)) ∧ W.cell? ⟨w.heap.size, 3, none⟩ = some (.bool inl) ∧ W.cell? ⟨w.heap.size, 4, none⟩ = some (.int .i64 (a : Int)) ∧ W.cell? ⟨w.heap.size, 5, none⟩ = some (.slice A 60 c) := by
    intro W hW
    obtain ⟨q0, q1, q2, q3, q4, q5⟩ := hW.cells
    rw [hxe] at q0 q1 q2 q3 q4 q5
    simp only [hb] at q0 q1 q2 q3 q4 q5
    exact ⟨q0, q1, q2, q3, q4, q5⟩
  have HQ := Lib.hid hq; clear hq
  have hkb : Value.int .u8 (k : Int) = byteV (UInt8.ofNat k) := by
    unfold byteV
    rw [show (UInt8.ofNat k).toNat = k by simp; omega]
  have HKB := Lib.hid hkb; clear hkb
  have HXE := Lib.hid hxe; clear hxe
  have HX := Lib.hid hx; clear hx
  have HAL := Lib.hid hal; clear hal
  have E1 := Lib.hid e1; clear e1
  have E2 := Lib.hid e2; clear e2
  have E3 := Lib.hid e3; clear e3
  have E4 := Lib.hid e4; clear e4
  have E5 := Lib.hid e5; clear e5
  have HP0 := Lib.hid hp0; clear hp0
  have HP4 := Lib.hid hp4; clear hp4
  have HBL := Lib.hid hb; clear hb
  have u1 : IntKind.u64.wrap (l : Int) = (l : Int) := by rw [IntKind.wrap_u64]; omega
  have u2 : IntKind.u64.wrap (s : Int) = (s : Int) := by rw [IntKind.wrap_u64]; omega
  have u3 : IntKind.u64.wrap (a : Int) = (a : Int) := by rw [IntKind.wrap_u64]; omega
  have u4 : IntKind.u64.wrap (n : Int) = (n : Int) := by rw [IntKind.wrap_u64]; omega
  clear hl hs ha
  have HNN := Lib.hid hn; clear hn
  go_enter Try.func11, Try.ntmps11
  go_wp2_with fail
  with_reducible refine (rnil_any x A c _).mono ?_
  rintro e w2 ⟨rfl, hb⟩
  rw [hnil]
  have HB2 := Lib.hid (HBX.out.next hb)
  clear hb l1
  have l2 := HB2.out.load
  go_wp2_with fail
  with_reducible refine (rcheck_any x A c _).mono ?_
  rintro e w3 ⟨rfl, hb⟩
  rw [chk_yes hm]
  have HB3 := Lib.hid (HB2.out.next hb)
  clear hb l2
  have l3 := HB3.out.load
  go_wp2_with fail
  with_reducible refine (rnil_any x A c _).mono ?_
  rintro e w4 ⟨rfl, hb⟩
  rw [hnil]
  have HB4 := Lib.hid (HB3.out.next hb)
  clear hb l3
  obtain ⟨q0, q1, q2, q3, q4, q5⟩ := HQ.out w4 HB4.out.row
  clear q1 q2 q4 q5
  obtain ⟨w5, hw5⟩ : ∃ v, v = w4.alloc (.cells #[.int .u8 (k : Int), .int .u8 (if inl = true then 1 else 0)] 5) := ⟨_, rfl⟩
  have ho5 : Owned w5 w4.heap.size (.slice (some ⟨w4.heap.size, 0, none⟩) 2 2) (p0 x) := by
    have := owned_made w4 [UInt8.ofNat k, inlB inl] w4.heap.size (Nat.le_refl _) (by unfold maxLen; simp)
    rw [hw5, HP0.out]
    have e : ([UInt8.ofNat k, inlB inl].map byteV).toArray = #[.int .u8 (k : Int), .int .u8 (if inl = true then 1 else 0)] := by
      rw [HKB.out]
      cases inl <;> rfl
    rw [e] at this
    exact this
  have hx0 : BoxI w x A c w5 := hw5 ▸ HB4.out.next ((Below.refl w4.heap.size w4).alloc (Nat.le_refl _) _)
  have hz0 : BoxI w x A c (w4.alloc (.cells #[.int .u8 (k : Int), .int .u8 0] 5)) := HB4.out.next ((Below.refl w4.heap.size w4).alloc (Nat.le_refl _) _)
  have hlt : w.heap.size < w4.heap.size := HB4.out.row.lt
  have HLT := Lib.hid hlt; clear hlt
  have HV5 := Lib.hid hx0.row
  have HB5 := Lib.hid hx0.below
  have HZ5 : Hid (w4.heap.size ≤ w5.heap.size) := Lib.hid (by rw [hw5]; simp)
  have HO5 := Lib.hid ho5; clear ho5
  obtain ⟨-, q1', -, q3', -, -⟩ := HQ.out _ hz0.row
  have q1s := (HQ.out w5 hx0.row).2.1
  rw [hw5] at q1s
  have hw5' := Lib.hid hw5
  clear hx0 hz0 q3 hw5
  cases inl
  all_goals
    have hw5 := hw5'.out
    simp only [if_true, if_false, Bool.false_eq_true] at hw5 q1s
    go_wp2_with fail
    have HBS : Hid (w.heap.size ≤ w4.heap.size) := Lib.hid (Nat.le_of_lt HLT.out)
    rw [← hw5]
    clear hw5 hw5' q0 q3' q1' q1s
    with_reducible refine (rbytes2 _ l _ rfl).mono ?_
    rintro e v1 ⟨A1, c1, rfl, ho, hb⟩
    have HOa := Lib.hid (Owned.keep HO5.out hb (Nat.le_refl _))
    have HR := Lib.hid (Owned.reads ho)
    have HVa := Lib.hid (HV5.out.keep hb HV5.out.lt)
    have HBa : Hid (Below w.heap.size w v1) := Lib.hid (HB5.out.trans (hb.mono HB5.out.size))
    have HZa : Hid (w4.heap.size ≤ v1.heap.size) := Lib.hid (Nat.le_trans HZ5.out hb.size)
    clear ho hb HO5 HV5 HB5 HZ5
    go_wp2_with (at_builtin; refine wpList_addall rfl (.tmp 35) (.tmp 39) rfl w4.heap.size _ (p0 x) rfl HOa.out v1.heap.size A1 2 c1 (bytesL l 2) rfl HR.out (by rw [p0_len]; omega) HZa.out ?_)
    intro z6 w6 ho hb
    rw [E1.out] at ho
    obtain ⟨A6, c6, rfl, -⟩ := Owned.holds ho
    have hln : (p1 x).length = 4 := p1_len x
    rw [hln] at ho ⊢
    have HO6 := Lib.hid ho
    have HV6 := Lib.hid (HVa.out.keep hb HLT.out)
    have HB6 : Hid (Below w.heap.size w w6) := Lib.hid (HBa.out.trans (hb.mono HBS.out))
    have HZ6 : Hid (w4.heap.size ≤ w6.heap.size) := Lib.hid (Nat.le_trans HZa.out hb.size)
    clear ho hb hln HOa HR HVa HBa HZa
    obtain ⟨q0, q1, q2, q3, q4, q5⟩ := HQ.out _ HV6.out
    go_wp2_with fail
    with_reducible refine (rbytes4 _ s _ rfl).mono ?_
    rintro e v1 ⟨A1, c1, rfl, ho, hb⟩
    have HOa := Lib.hid (Owned.keep HO6.out hb (Nat.le_refl _))
    have HR := Lib.hid (Owned.reads ho)
    have HVa := Lib.hid (HV6.out.keep hb HV6.out.lt)
    have HBa : Hid (Below w.heap.size w v1) := Lib.hid (HB6.out.trans (hb.mono HB6.out.size))
    have HZa : Hid (w4.heap.size ≤ v1.heap.size) := Lib.hid (Nat.le_trans HZ6.out hb.size)
    clear ho hb HO6 HV6 HB6 HZ6 q0 q1 q2 q3 q4 q5
    go_wp2_with (at_builtin; refine wpList_addall rfl (.tmp 41) (.tmp 45) rfl w4.heap.size _ (p1 x) rfl HOa.out v1.heap.size A1 4 c1 (bytesL s 4) rfl HR.out (by rw [p1_len]; omega) HZa.out ?_)
    intro z7 w7 ho hb
    rw [E2.out] at ho
    obtain ⟨A7, c7, rfl, -⟩ := Owned.holds ho
    have hln : (p2 x).length = 8 := p2_len x
    rw [hln] at ho ⊢
    have HO7 := Lib.hid ho
    have HV7 := Lib.hid (HVa.out.keep hb HLT.out)
    have HB7 : Hid (Below w.heap.size w w7) := Lib.hid (HBa.out.trans (hb.mono HBS.out))
    have HZ7 : Hid (w4.heap.size ≤ w7.heap.size) := Lib.hid (Nat.le_trans HZa.out hb.size)
    clear ho hb hln HOa HR HVa HBa HZa
    obtain ⟨q0, q1, q2, q3, q4, q5⟩ := HQ.out _ HV7.out
    go_wp2_with fail
    with_reducible refine (rbytes4 _ a _ rfl).mono ?_
    rintro e v1 ⟨A1, c1, rfl, ho, hb⟩
    have HOa := Lib.hid (Owned.keep HO7.out hb (Nat.le_refl _))
    have HR := Lib.hid (Owned.reads ho)
    have HVa := Lib.hid (HV7.out.keep hb HV7.out.lt)
    have HBa : Hid (Below w.heap.size w v1) := Lib.hid (HB7.out.trans (hb.mono HB7.out.size))
    have HZa : Hid (w4.heap.size ≤ v1.heap.size) := Lib.hid (Nat.le_trans HZ7.out hb.size)
    clear ho hb HO7 HV7 HB7 HZ7 q0 q1 q2 q3 q4 q5
    go_wp2_with (at_builtin; refine wpList_addall rfl (.tmp 47) (.tmp 51) rfl w4.heap.size _ (p2 x) rfl HOa.out v1.heap.size A1 4 c1 (bytesL a 4) rfl HR.out (by rw [p2_len]; omega) HZa.out ?_)
    intro z8 w8 ho hb
    rw [E3.out] at ho
    obtain ⟨A8, c8, rfl, -⟩ := Owned.holds ho
    have hln : (p3 x).length = 12 := p3_len x
    rw [hln] at ho ⊢
    have HO8 := Lib.hid ho
    have HV8 := Lib.hid (HVa.out.keep hb HLT.out)
    have HB8 : Hid (Below w.heap.size w w8) := Lib.hid (HBa.out.trans (hb.mono HBS.out))
    have HZ8 : Hid (w4.heap.size ≤ w8.heap.size) := Lib.hid (Nat.le_trans HZa.out hb.size)
    clear ho hb hln HOa HR HVa HBa HZa
    obtain ⟨q0, q1, q2, q3, q4, q5⟩ := HQ.out _ HV8.out
    have hx8 := HX.out.below (HB8.out.mono hB)
    go_wp2_with (at_builtin; refine wpList_addall rfl (.tmp 53) (.tmp 55) rfl w4.heap.size _ (p3 x) rfl HO8.out B A 60 c body rfl hx8 (by rw [p3_len]; omega) HZ8.out ?_)
    intro z9 w9 ho hb
    rw [E4.out] at ho
    have HO9 := Lib.hid ho
    have HB9 : Hid (Below w.heap.size w w9) := Lib.hid (HB8.out.trans (hb.mono HBS.out))
    have HZ9 : Hid (w4.heap.size ≤ w9.heap.size) := Lib.hid (Nat.le_trans HZ8.out hb.size)
    clear ho hb hx8 HO8 HV8 HB8 HZ8 q0 q1 q2 q3 q4 q5
    go_wp2_with fail
    go_loopw [6] (fun sv wr => ∃ k : Nat, k ≤ 52 ∧ Owned wr w4.heap.size sv (p4 x ++ List.replicate k 0) ∧ w4.heap.size ≤ wr.heap.size ∧ Below w.heap.size w wr) (fun sv _ => 124 - lenOf sv)
    case atStart => exact ⟨0, by omega, by rw [List.replicate_zero, List.append_nil]; exact HO9.out, HZ9.out, HB9.out⟩
    case round =>
      clear HO9 HZ9 HB9
      obtain ⟨k, hk, ho, hzr, hbr⟩ := hrel
      have hl : (p4 x ++ List.replicate k (0 : UInt8)).length = 72 + k := by rw [List.length_append, HP4.out, List.length_replicate]
      have hn : p4 x ++ (List.replicate k (0 : UInt8) ++ [0]) = p4 x ++ List.replicate (k + 1) 0 := by rw [List.replicate_succ']
      obtain ⟨A5, c5, rfl, -⟩ := Owned.holds ho
      rw [hl] at ho ⊢
      obtain ⟨N, hN⟩ : ∃ N, N = 72 + k := ⟨_, rfl⟩
      rw [← hN] at ho hl ⊢
      have HO := Lib.hid ho; clear ho
      have HZ := Lib.hid hzr; clear hzr
      have HB := Lib.hid hbr; clear hbr
      rcases Nat.lt_or_ge k 52 with hlt | hge
      · have hN1 : N < 124 := by omega
        have HNX := Lib.hid hn; clear hn
        have HLL := Lib.hid hl; clear hl
        have HNK := Lib.hid hN; clear hN
        clear hk
        go_wp2_with (at_builtin; refine wpList_addone rfl (.tmp 60) (.tmp 61) rfl w4.heap.size _ (p4 x ++ List.replicate k 0) rfl HO.out 0 _ rfl rfl (by rw [HLL.out]; omega) HZ.out ?_)
        intro v6 w6 ho6 hb6
        rw [HNX.out] at ho6
        have HO6 := Lib.hid ho6
        have HZ6 : Hid (w4.heap.size ≤ w6.heap.size) := Lib.hid (Nat.le_trans HZ.out hb6.size)
        have HB6 : Hid (Below w.heap.size w w6) := Lib.hid (HB.out.trans (hb6.mono HBS.out))
        obtain ⟨A6, c6, hv6, -⟩ := Owned.holds ho6
        rw [List.length_append, HP4.out, List.length_replicate] at hv6
        have HV := Lib.hid hv6
        clear ho6 hb6 hv6
        go_wp2
        go_roundw
        case rel => exact ⟨k + 1, by omega, HO6.out, HZ6.out, HB6.out⟩
        case measure => rw [HV.out]; simp [lenOf]; have := HNK.out; omega
      · obtain rfl : k = 52 := by omega
        obtain rfl : N = 124 := by omega
        have HAH : Hid (p4 x ++ List.replicate 52 0 = ahead x) := Lib.hid rfl
        rw [HAH.out] at HO
        clear hn hl hge hk hN
        go_wp2_with fail
        with_reducible refine (rbytes4 _ n _ rfl).mono ?_
        rintro e v1 ⟨A1, c1, rfl, ho, hb⟩
        have HOa := Lib.hid (Owned.keep HO.out hb (Nat.le_refl _))
        have HOn := Lib.hid ho
        have HRb : Hid (Holds v1 v1.heap.size A5 124 (ahead x)) := Lib.hid (Owned.reads HOa.out)
        have HBa : Hid (Below w.heap.size w v1) := Lib.hid (HB.out.trans (hb.mono HB.out.size))
        have HZa : Hid (w4.heap.size ≤ v1.heap.size) := Lib.hid (Nat.le_trans HZ.out hb.size)
        have HSZ : Hid (wr.heap.size ≤ v1.heap.size) := Lib.hid hb.size
        have HSB := Lib.hid hb
        clear ho hb
        go_wp2_with (at_builtin; refine wpList_addall rfl (.tmp 65) (.tmp 66) rfl wr.heap.size _ (bytesL n 4) rfl HOn.out v1.heap.size A5 124 c5 (ahead x) rfl HRb.out (by rw [bytesL_len]; omega) HSZ.out ?_)
        intro z2 v2 ho hb
        obtain ⟨A2, c2, rfl, hh⟩ := Owned.holds ho
        have hln : (bytesL n 4 ++ ahead x).length = 128 := by rw [List.length_append, HAL.out, bytesL_len]
        rw [hln] at hh ⊢
        have HOb : Hid (Owned v2 w4.heap.size (.slice A5 124 c5) (ahead x)) := Lib.hid (Owned.keep HO.out (HSB.out.trans hb) (Nat.le_refl _))
        have HH := Lib.hid hh
        have HBb : Hid (Below w.heap.size w v2) := Lib.hid (HBa.out.trans (hb.mono HB.out.size))
        have HZb : Hid (w4.heap.size ≤ v2.heap.size) := Lib.hid (Nat.le_trans HZa.out hb.size)
        clear ho hb hh hln HOa HOn HRb HBa HZa HSZ HSB
        go_wp2_with fail
        with_reducible refine (refsum_any A2 128 c2 _ _ v2 HH.out (by unfold maxLen; omega)).mono ?_
        rintro e w2 ⟨rfl, rfl⟩
        obtain ⟨S, hS⟩ : ∃ S, sum (bytesL n 4 ++ ahead x) = S := ⟨_, rfl⟩
        have E5' := E5.out
        have hw3 : IntKind.u64.wrap (sum (bytesL n 4 ++ ahead x) : Int) = (sum (bytesL n 4 ++ ahead x) : Int) := wrap_sum _
        rw [hS] at E5' hw3
        rw [hS]
        have E6 := Lib.hid E5'; clear E5' hS
        go_wp2_with fail
        try rw [hw3]
        with_reducible refine (rbytes4 _ S _ rfl).mono ?_
        rintro e w3 ⟨A3, c3, rfl, ho3, hb3⟩
        have HO3 := Lib.hid (Owned.keep HOb.out hb3 (Nat.le_refl _))
        have HR3 := Lib.hid (Owned.reads ho3)
        have HB3' : Hid (Below w.heap.size w w3) := Lib.hid (HBb.out.trans (hb3.mono HBb.out.size))
        have HZ3 : Hid (w4.heap.size ≤ w3.heap.size) := Lib.hid (Nat.le_trans HZb.out hb3.size)
        clear ho3 hb3 hw3
        go_wp2_with (at_builtin; refine wpList_addall rfl (.tmp 68) (.tmp 72) rfl w4.heap.size _ (ahead x) rfl HO3.out w3.heap.size A3 4 c3 (bytesL S 4) rfl HR3.out (by rw [HAL.out]; omega) HZ3.out ?_)
        intro z4 v4 ho4 hb4
        rw [E6.out] at ho4
        obtain ⟨A9, c9, rfl, -⟩ := Owned.holds ho4
        have hln : (code x n).length = 128 := code_len x n (by rw [HXE.out]; exact HBL.out)
        rw [hln] at ho4 ⊢
        have HO4 := Lib.hid ho4
        have HB4' : Hid (Below w.heap.size w v4) := Lib.hid (HB3'.out.trans (hb4.mono HBS.out))
        clear ho4 hb4 hln
        go_wp2
        go_ret2
        exact ⟨_, _, rfl, Owned.mono HO4.out HBS.out, HB4'.out⟩

/-- What the document's Encode answers of whatever it is given. -/
theorem rencode_any (x : In) (A : Option Addr) (c B : Nat) (n : Int) (w : World) (hx : Holds w B A x.body.length x.body) (hB : B ≤ w.heap.size) :
    Calls Try.prog 11 #[.agg (x.c A c), .int .i64 n] w (Encd (enc x n).1 (enc x n).2 w) := by
  by_cases hn : 0 ≤ n ∧ n ≤ 1048576
  · cases h1 : x.nil with
    | true =>
      obtain rfl := nil_eq h1
      rw [enc_in0 n hn]
      exact rencode_nil A c n w hn
    | false =>
      cases h2 : x.may with
      | false =>
        rw [enc_not x n h1 h2]
        exact (rencode_not x A c n w hn h1 h2).mono fun e w' ⟨he, hb⟩ => ⟨none, 0, he, World.ownsRow_nil _ _ _ _, hb⟩
      | true =>
        obtain ⟨m, rfl⟩ := Int.eq_ofNat_of_zero_le hn.1
        rw [enc_may x _ hn h2]
        obtain ⟨k, l, s, a, g1, g2, g3, g4, g5, g6⟩ := in_nat h2
        rw [g5] at hx
        have h2' := h2
        rw [g6] at h2'
        have := rencode_may k l s a x.inl x.body A c m B w g1 g2 g3 g4 g5 (by omega) h2' hx hB
        rw [← g6] at this
        exact this
  · rw [enc_far x n hn]
    exact (rencode_far x A c n w hn).mono fun e w' ⟨he, hb⟩ => ⟨none, 0, he, World.ownsRow_nil _ _ _ _, hb⟩
end Go.Proofs.Ytbppgihbnjnapaa.Ino
