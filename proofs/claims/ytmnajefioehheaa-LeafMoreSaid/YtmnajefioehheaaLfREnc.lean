/- The document's Encode. -/
import Derived.Test.YtmnajefioehheaaLfRSize
import Derived.Test.YtmnajefioehheaaLfEnc
namespace Go.Proofs.Ytmnajefioehheaa.Lf
set_option maxRecDepth 20000
open Go.RowKit
open Go.Proofs.Ytmnajefioehheaa.Mem Go.Proofs.Ytmnajefioehheaa.Crc Go.Proofs.Ytmnajefioehheaa.Rec Go.Proofs.Ytmnajefioehheaa.Reg
attribute [local go_sem ↓] ldX_eq stX_eq

def lenS : Value → Nat
  | .slice _ n _ => n
  | _ => 0
theorem rbN (v m : Nat) (w : World) (hm : m ≤ 8) : Calls Try.prog 19 #[.int .u64 (v : Int), .int .i64 (m : Int)] w fun e w' => ∃ A c, e = .returned (.slice A m c) ∧ Owned w' w.heap.size (.slice A m c) (bytesL v m) ∧ Below w.heap.size w w' := by
  refine (refbytes_any v (m : Int) w m (by omega) (by omega) (by omega)).mono ?_
  rintro e w1 ⟨sv, rfl, ho1, hb1⟩
  obtain ⟨A1, c1, rfl, -⟩ := Owned.holds ho1
  rw [bytesL_len] at ho1 ⊢
  exact ⟨A1, c1, rfl, ho1, hb1⟩
theorem rb4 (v : Nat) (w : World) : Calls Try.prog 19 #[.int .u64 (v : Int), .int .i64 4] w fun e w' => ∃ A c, e = .returned (.slice A 4 c) ∧ Owned w' w.heap.size (.slice A 4 c) (bytesL v 4) ∧ Below w.heap.size w w' := rbN v 4 w (by omega)
theorem rb2 (v : Nat) (w : World) : Calls Try.prog 19 #[.int .u64 (v : Int), .int .i64 2] w fun e w' => ∃ A c, e = .returned (.slice A 2 c) ∧ Owned w' w.heap.size (.slice A 2 c) (bytesL v 2) ∧ Below w.heap.size w w' := rbN v 2 w (by omega)
theorem run_addS (w : World) (ty : TypeId) (base : Nat) (v : Value) (bs : List UInt8) (hown : Owned w base v bs) (s : ByteArray) (hlen : bs.length + s.size ≤ 140737488355328) (hbase : base ≤ w.heap.size) :
    ∃ v' w', (Builtin.append_ #[24, 9] ty #[v, .string s]).run Try.prog w = .ok v' w' ∧ Owned w' base v' (bs ++ s.data.toList) ∧ Below base w w' := by
  obtain ⟨i0, hi, hz0, hz1, hz2⟩ := info_parts info_u8
  obtain ⟨v', w', hrun, h2, h3, _⟩ := Lib.run_append_own_string (P := Try.prog) w base 24 9 ty 5 i0 Try.underlying24 Try.underlying9 hi hz0 hz1 hz2 v bs.length (bs.map byteV) hown s (by unfold maxLen; omega) hlen hbase
  refine ⟨v', w', hrun, ?_, (Below.refl base w).grown h3 hbase (Owned.base_le hown)⟩
  unfold Owned
  rw [List.length_append, List.map_append, show s.data.toList.length = s.size from Array.length_toList]
  exact h2
theorem byte_one (n : Nat) : bytesL n 1 = [UInt8.ofNat n] := by
  simp [bytesL, byteN]
theorem byte_val (n : Nat) (h : n < 256) : Value.int .u8 (n : Int) = byteV (UInt8.ofNat n) := by
  unfold byteV
  congr 1
  simp
  omega

set_option maxRecDepth 100000 in
set_option maxHeartbeats 4000000 in
theorem rcoded_any (A : Option Addr) (n c B : Nat) (l : List Nm) (w : World) (h : HoldsX w B A n l) (hB : B ≤ w.heap.size) (hr : ∀ x ∈ l, x.rep) (hn : n ≤ 5864062014805) (hq : right l = true) (hz : sizeL l ≤ 248) :
    Calls Try.prog 10 #[.slice A n c] w (Bytes2 w (blockL l, 0)) := by
  have hsize := rsize_any A n c B l w h hB hr hn
  rw [size_yes hq] at hsize
  have hln := h.1
  have hok : ∀ x ∈ l, okN x = true := ((right_iff l).1 hq).1
  have h6 := sizeL_ge l hok
  rw [hln] at h6
  obtain ⟨Z, hZ⟩ : ∃ Z, Z = sizeL l := ⟨_, rfl⟩
  rw [← hZ] at h6 hsize hz
  have HN := Lib.hid hln; clear hln
  have HZ := Lib.hid hZ; clear hZ
  have HOK := Lib.hid hok; clear hok
  have H := Lib.hid h; clear h
  have hw1 : IntKind.u64.wrap (n : Int) = (n : Int) := by rw [IntKind.wrap_u64]; omega
  have hw2 : IntKind.u64.wrap (Z : Int) = (Z : Int) := by rw [IntKind.wrap_u64]; omega
  have HS := Lib.hid hsize; clear hsize hr hn
  go_enter Try.func10, Try.ntmps10
  go_wp2_with (first | (with_reducible refine HS.out.mono ?_; rintro E w1 ⟨rfl, hb⟩) | fail)
  have hw1s : w.heap.size ≤ w1.heap.size := hb.size
  have HB1 := Lib.hid hb; clear hb HS
  go_wp2_with fail
  with_reducible refine (rb2 n w1).mono ?_
  rintro E w2 ⟨A2, c2, rfl, ho2, hb2⟩
  have hw2s : w.heap.size ≤ w2.heap.size := Nat.le_trans hw1s hb2.size
  have HB2 : Hid (Below w.heap.size w w2) := Lib.hid (HB1.out.trans (hb2.mono hw1s))
  have HO2 := Lib.hid ho2; clear ho2 hb2
  go_wp2_with fail
  with_reducible refine (rb2 Z w2).mono ?_
  rintro E w3 ⟨A3, c3, rfl, ho3, hb3⟩
  have hw3s : w.heap.size ≤ w3.heap.size := Nat.le_trans hw2s hb3.size
  have HB3 : Hid (Below w.heap.size w w3) := Lib.hid (HB2.out.trans (hb3.mono hw2s))
  have HO2' : Hid (Owned w3 w.heap.size (.slice A2 2 c2) (bytesL n 2)) := Lib.hid (Owned.mono (Owned.keep HO2.out hb3 (Nat.le_refl _)) hw1s)
  have HO3 : Hid (Holds w3 w3.heap.size A3 2 (bytesL Z 2)) := Lib.hid (Owned.reads ho3)
  clear ho3 hb3
  go_wp2_with (at_builtin; refine wpList_addall rfl (.tmp 21) (.tmp 24) rfl w.heap.size _ _ rfl HO2'.out w3.heap.size A3 2 c3 _ rfl HO3.out (by rw [bytesL_len]; omega) hw3s ?_)
  intro v4 w4 ho4 hb4
  have e4 : bytesL n 2 ++ bytesL Z 2 = headB l 0 := by unfold headB; rw [HN.out, ← HZ.out]; simp [codes]
  rw [e4] at ho4
  obtain ⟨A4, c4, rfl⟩ := Owned.shape ho4
  have HB4 : Hid (Below w.heap.size w w4) := Lib.hid (HB3.out.trans hb4)
  have HO4 := Lib.hid ho4; clear ho4 hb4 e4
  obtain ⟨m4, hm4⟩ : ∃ m4, m4 = (headB l 0).length := ⟨_, rfl⟩
  rw [← hm4] at HO4 ⊢
  have HM4 := Lib.hid hm4; clear hm4
  go_wp2
  go_loopw [6, 7] (fun bv i wr => ∃ (k m : Nat) (A' : Option Addr) (c' : Nat), k ≤ n ∧ i = .int .i64 (k : Int) ∧ bv = .slice A' m c' ∧ m = (headB l k).length ∧ Owned wr w.heap.size (.slice A' m c') (headB l k) ∧ Below w.heap.size w wr) (fun _ i _ => n - (intOf i).toNat)
  case atStart => exact ⟨0, m4, A4, c4, Nat.zero_le _, rfl, rfl, HM4.out, HO4.out, HB4.out⟩
  case round =>
    obtain ⟨k, m, A', c', hk, rfl, rfl, hm, hown, hbr⟩ := hrel
    have hwr : w.heap.size ≤ wr.heap.size := hbr.size
    have HO := Lib.hid hown; clear hown
    rcases Nat.lt_or_ge k n with hlt | hge
    · obtain ⟨b, off, rfl, hbB⟩ := H.out.addr (by omega)
      have hkl : k < l.length := by have := HN.out; omega
      obtain ⟨e, he⟩ : ∃ e, e = l[k] := ⟨_, rfl⟩
      have hcells : ∀ V, Below w.heap.size w V → V.cell? ⟨b, off + k * 2, none⟩ = some (.string ⟨e.t.toArray⟩) ∧ V.cell? ⟨b, off + k * 2 + 1, none⟩ = some (.int .i64 e.i) := fun V hV => by
        have h1 := (H.out.below (hV.mono hB)).cell k hkl
        rwa [← he] at h1
      obtain ⟨m1, m2, m3⟩ := okN_may (HOK.out e (he ▸ List.getElem_mem hkl))
      have m4' := may_len m1
      have hnext : headB l (k + 1) = ((headB l k ++ bytesL e.i.toNat 4) ++ bytesL e.t.length 1) ++ e.t := by
        unfold headB
        rw [codes_take l k hkl, ← he]
        unfold codeE
        simp only [List.append_assoc]
      have hlen : (headB l k).length ≤ 252 := by
        have h1 := headB_len l k
        have h2 : sizeL (l.take k) ≤ sizeL l := by
          have h3 : sizeL l = sizeL (l.take k) + sizeL (l.drop k) := by rw [← sizeL_app, List.take_append_drop]
          omega
        have := HZ.out
        omega
      clear he
      have HNEXT := Lib.hid hnext; clear hnext
      generalize headB l k = P at hm hlen HO HNEXT
      obtain ⟨ei, hei⟩ : ∃ ei : Nat, ei = e.i.toNat := ⟨_, rfl⟩
      have hei2 : e.i = (ei : Int) := by omega
      rw [← hei] at HNEXT
      have hwe : IntKind.u64.wrap (ei : Int) = (ei : Int) := by rw [IntKind.wrap_u64]; omega
      obtain ⟨S, hS⟩ : ∃ S : ByteArray, S = ⟨e.t.toArray⟩ := ⟨_, rfl⟩
      have hSs : S.size = e.t.length := by rw [hS, text_size]
      have hSd : S.data.toList = e.t := by rw [hS]
      rw [← hSs] at m4' HNEXT
      rw [← hSd] at HNEXT
      rw [← hS] at hcells
      rw [hei2] at hcells
      have hwu : IntKind.u8.wrap (S.size : Int) = (S.size : Int) := by rw [IntKind.wrap_u8]; omega
      have hone := byte_one S.size
      rw [hone] at HNEXT
      have hval := byte_val S.size (by omega)
      have HCELLS := Lib.hid hcells; clear hcells
      clear hS hSs hSd hei hei2 m1 m2 m3 hone
      have hk0 : (0 : Int) ≤ (k : Int) := by omega
      have hkn : (k : Int) < (n : Int) := by omega
      obtain ⟨q0, q1⟩ := HCELLS.out wr hbr
      have HBR := Lib.hid hbr; clear hbr
      subst hm
      obtain ⟨mP, hmP⟩ : ∃ mP, mP = P.length := ⟨_, rfl⟩
      rw [← hmP] at hlen HO ⊢
      have HMP := Lib.hid hmP; clear hmP
      have HVAL := Lib.hid hval; clear hval
      go_wp2_with fail
      with_reducible refine (rb4 ei wr).mono ?_
      rintro E V1 ⟨A1, c1, rfl, ho1, hb1⟩
      have hV1 : w.heap.size ≤ V1.heap.size := Nat.le_trans hwr hb1.size
      have HBV1 : Hid (Below w.heap.size w V1) := Lib.hid (HBR.out.trans (hb1.mono hwr))
      have HO1 : Hid (Owned V1 w.heap.size (.slice A' mP c') P) := Lib.hid (Owned.keep HO.out hb1 (Nat.le_refl _))
      have HR1 : Hid (Holds V1 V1.heap.size A1 4 (bytesL ei 4)) := Lib.hid (Owned.reads ho1)
      clear ho1 hb1 q0 q1
      go_wp2_with (at_builtin; refine wpList_addall rfl (.tmp 32) (.tmp 39) rfl w.heap.size _ _ rfl HO1.out V1.heap.size A1 4 c1 _ rfl HR1.out (by rw [← HMP.out]; omega) hV1 ?_)
      intro v2 V2 ho2 hb2
      obtain ⟨A2, c2, rfl⟩ := Owned.shape ho2
      have HBV2 : Hid (Below w.heap.size w V2) := Lib.hid (HBV1.out.trans hb2)
      have hV2 : w.heap.size ≤ V2.heap.size := HBV2.out.size
      obtain ⟨q0, -⟩ := HCELLS.out V2 HBV2.out
      have HO2 := Lib.hid ho2; clear ho2 hb2
      obtain ⟨n2, hn2⟩ : ∃ n2, n2 = (P ++ bytesL ei 4).length := ⟨_, rfl⟩
      have hn2b : n2 ≤ 256 := by rw [hn2, List.length_append, bytesL_len, ← HMP.out]; omega
      rw [← hn2] at HO2 ⊢
      have HN2 := Lib.hid hn2; clear hn2
      go_wp2_with (at_builtin; refine wpList_addone rfl (.tmp 41) (.tmp 49) rfl w.heap.size _ _ rfl HO2.out (UInt8.ofNat S.size) _ HVAL.out rfl (by rw [← HN2.out]; omega) hV2 ?_)
      intro v3 V3 ho3 hb3
      replace ho3 : Owned V3 w.heap.size v3 ((P ++ bytesL ei 4) ++ [UInt8.ofNat S.size]) := by simpa only [List.append_assoc] using ho3
      obtain ⟨A3, c3, rfl⟩ := Owned.shape ho3
      have HBV3 : Hid (Below w.heap.size w V3) := Lib.hid (HBV2.out.trans hb3)
      have hV3 : w.heap.size ≤ V3.heap.size := HBV3.out.size
      clear q0
      obtain ⟨q0, -⟩ := HCELLS.out V3 HBV3.out
      obtain ⟨v5, V5, hrun, ho5, hb5⟩ := run_addS V3 24 w.heap.size _ _ ho3 S (by rw [List.length_append, ← HN2.out, List.length_singleton]; omega) hV3
      rw [← HNEXT.out] at ho5
      obtain ⟨A5, c5, rfl⟩ := Owned.shape ho5
      have HBV5 : Hid (Below w.heap.size w V5) := Lib.hid (HBV3.out.trans hb5)
      have HO5 := Lib.hid ho5; clear ho5 hb5 ho3 hb3
      obtain ⟨n3, hn3⟩ : ∃ n3, n3 = ((P ++ bytesL ei 4) ++ [UInt8.ofNat S.size]).length := ⟨_, rfl⟩
      obtain ⟨n5, hn5⟩ : ∃ n5, n5 = (headB l (k + 1)).length := ⟨_, rfl⟩
      rw [← hn3] at hrun ⊢
      rw [← hn5] at hrun HO5
      have HN5 := Lib.hid hn5; clear hn5 hn3
      go_wp2_with (at_builtin; refine wpList_apprun rfl _ _ _ _ (by rfl) _ _ (by rfl) (by rfl) _ _ hrun ?_)
      go_wp2
      go_roundw
      case rel => exact ⟨k + 1, n5, A5, c5, by omega, by go_num, rfl, HN5.out, HO5.out, HBV5.out⟩
      case measure => simp [intOf]; omega
    · obtain rfl : k = n := by omega
      have hP : headB l k = headB l l.length := by rw [HN.out]
      have hpl := headB_len l l.length
      rw [List.take_length, ← HZ.out] at hpl
      have hbd : body l = headB l l.length ++ zeros (248 - Z) := by unfold body; rw [← HZ.out]
      have ho := HO.out
      rw [hP] at hm ho
      clear hP HO
      generalize headB l l.length = P at hm ho hpl hbd
      have HO := Lib.hid ho; clear ho
      have HBR := Lib.hid hbr; clear hbr
      have HBD := Lib.hid hbd; clear hbd
      have HPL := Lib.hid hpl; clear hpl
      have hm2 : m = 4 + Z := by rw [hm, HPL.out]
      clear hm
      have hm252' : m ≤ 252 := by omega
      have HM2 := Lib.hid hm2; clear hm2
      have hkn : ¬ (k : Int) < (k : Int) := by omega
      go_wp2
      go_loopw [6] (fun v wr => ∃ (j m' : Nat) (A2 : Option Addr) (c2 : Nat), m' = 4 + Z + j ∧ m' ≤ 252 ∧ v = .slice A2 m' c2 ∧ Owned wr w.heap.size (.slice A2 m' c2) (P ++ zeros j) ∧ Below w.heap.size w wr) (fun v _ => 252 - lenS v)
      case atStart => exact ⟨0, m, A', c', HM2.out, hm252', rfl, by rw [show zeros 0 = [] from rfl, List.append_nil]; exact HO.out, HBR.out⟩
      case round =>
        obtain ⟨j, m', A2, c2, hmj, hm252, rfl, hown, hbq⟩ := hrel
        have hwr : w.heap.size ≤ wr.heap.size := hbq.size
        have HMJ := Lib.hid hmj; clear hmj
        have HOQ := Lib.hid hown; clear hown
        have HBQ := Lib.hid hbq; clear hbq
        have HLL := Lib.hid (show (P ++ zeros j).length = m' from (Owned.len HOQ.out).symm)
        rcases Nat.lt_or_ge m' 252 with hlt | hge2
        · have hlt' : (m' : Int) < 252 := by omega
          go_wp2_with (at_builtin; refine wpList_addone rfl (.tmp 61) (.tmp 62) rfl w.heap.size _ (P ++ zeros j) rfl HOQ.out 0 _ rfl rfl (by rw [HLL.out]; omega) hwr ?_)
          intro v1 V1 ho1 hb1
          have he : (P ++ zeros j) ++ [0] = P ++ zeros (j + 1) := by rw [List.append_assoc]; congr 1; exact List.replicate_succ'.symm
          replace ho1 : Owned V1 w.heap.size v1 (P ++ zeros (j + 1)) := by simpa only [← List.append_assoc, he] using ho1
          obtain ⟨A1, c1, rfl⟩ := Owned.shape ho1
          have hl1 : (P ++ zeros (j + 1)).length = m' + 1 := by
            have := HLL.out
            simp [zeros] at this ⊢
            omega
          rw [hl1] at ho1 ⊢
          have HO1 := Lib.hid ho1; clear ho1
          have HB1 : Hid (Below w.heap.size w V1) := Lib.hid (HBQ.out.trans hb1)
          clear hb1 he hl1
          go_wp2
          go_roundw
          case rel => exact ⟨j + 1, m' + 1, A1, c1, by have := HMJ.out; omega, by omega, rfl, HO1.out, HB1.out⟩
          case measure => simp only [lenS]; omega
        · have hmm : m' = 252 := by omega
          subst hmm
          have hbody : P ++ zeros j = body l := by rw [HBD.out, show j = 248 - Z by have := HMJ.out; omega]
          have hown := HOQ.out
          rw [hbody] at hown
          have hsum := refsum_any A2 252 c2 wr.heap.size (body l) wr (Owned.reads hown) (by unfold maxLen; omega)
          have hbk : blockL l = body l ++ bytesL (sum (body l)) 4 := rfl
          have hwsum := wrap_sum (body l)
          obtain ⟨sm, hsm⟩ : ∃ sm, sm = sum (body l) := ⟨_, rfl⟩
          rw [← hsm] at hsum hbk hwsum
          have HSUM := Lib.hid hsum; clear hsum
          have HBK := Lib.hid hbk; clear hbk hsm
          have HOW := Lib.hid hown; clear hown hbody HOQ
          have hblen := body_len (l := l) (by rw [← HZ.out]; exact hz)
          have HBL := Lib.hid hblen; clear hblen
          clear HMJ hge2
          go_wp2_with (first | (with_reducible refine HSUM.out.mono ?_; rintro E w5 ⟨rfl, rfl⟩) | fail)
          with_reducible refine (rb4 sm wr).mono ?_
          rintro E V6 ⟨A6, c6, rfl, ho6, hb6⟩
          have HB6 : Hid (Below w.heap.size w V6) := Lib.hid (HBQ.out.trans (hb6.mono hwr))
          have hV6 : w.heap.size ≤ V6.heap.size := HB6.out.size
          have HO6 : Hid (Owned V6 w.heap.size (.slice A2 252 c2) (body l)) := Lib.hid (Owned.keep HOW.out hb6 (Nat.le_refl _))
          have HR6 : Hid (Holds V6 V6.heap.size A6 4 (bytesL sm 4)) := Lib.hid (Owned.reads ho6)
          clear ho6 hb6
          go_wp2_with (at_builtin; refine wpList_addall rfl (.tmp 64) (.tmp 68) rfl w.heap.size _ _ rfl HO6.out V6.heap.size A6 4 c6 _ rfl HR6.out (by rw [HBL.out]; omega) hV6 ?_)
          intro v7 V7 ho7 hb7
          rw [← HBK.out] at ho7
          obtain ⟨A7, c7, rfl⟩ := Owned.shape ho7
          have HB7 : Hid (Below w.heap.size w V7) := Lib.hid (HB6.out.trans hb7)
          obtain ⟨n7, hn7⟩ : ∃ n7, n7 = (blockL l).length := ⟨_, rfl⟩
          rw [← hn7] at ho7 ⊢
          have HO7 := Lib.hid ho7; clear ho7 hb7
          have HN7 := Lib.hid hn7; clear hn7
          go_wp2
          go_ret2
          exact ⟨A7, c7, by rw [← HN7.out]; rfl, by rw [← HN7.out]; exact HO7.out, HB7.out⟩

set_option maxRecDepth 100000 in
set_option maxHeartbeats 1000000 in
theorem rencode_any (A : Option Addr) (n c B : Nat) (l : List Nm) (w : World) (h : HoldsX w B A n l) (hB : B ≤ w.heap.size) (hr : ∀ x ∈ l, x.rep) (hn : n ≤ 5864062014805) :
    Calls Try.prog 10 #[.slice A n c] w (Bytes2 w (enc l)) := by
  have hln := h.1
  cases hq : right l with
  | false =>
    have hsize := rsize_any A n c B l w h hB hr hn
    rw [size_not hq] at hsize
    rw [enc_not hq]
    have HS := Lib.hid hsize; clear hsize h
    go_enter Try.func10, Try.ntmps10
    go_wp2_with (with_reducible refine HS.out.mono ?_; rintro E w1 ⟨rfl, hb⟩)
    have HB := Lib.hid hb; clear hb
    go_ret2
    exact ⟨none, 0, rfl, owned_nil _ _, HB.out⟩
  | true =>
    by_cases hz : sizeL l ≤ 248
    · rw [enc_yes hq hz]
      exact rcoded_any A n c B l w h hB hr hn hq hz
    · have hsize := rsize_any A n c B l w h hB hr hn
      rw [size_yes hq] at hsize
      have hfar := sizeL_far hq l.length
      rw [List.take_length, hln] at hfar
      rw [enc_far hq (by omega)]
      have HS := Lib.hid hsize; clear hsize h
      generalize sizeL l = Z at HS hfar hz
      go_enter Try.func10, Try.ntmps10
      go_wp2_with (with_reducible refine HS.out.mono ?_; rintro E w1 ⟨rfl, hb⟩)
      have HB := Lib.hid hb; clear hb
      go_ret2
      exact ⟨none, 0, rfl, owned_nil _ _, HB.out⟩
end Go.Proofs.Ytmnajefioehheaa.Lf
