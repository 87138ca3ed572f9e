/- Bytes that begin with extents, and a root that names blocks: the program's calls. -/
import Derived.Test.YtkhenchhafmlmaaExCoded
import Derived.Test.YtkhenchhafmlmaaExInts
namespace Go.Proofs.Ytkhenchhafmlmaa.Ex
set_option maxRecDepth 20000
open Go.RowKit
open Go.Proofs.Ytkhenchhafmlmaa.Mem Go.Proofs.Ytkhenchhafmlmaa.Crc Go.Proofs.Ytkhenchhafmlmaa.Rec Go.Proofs.Ytkhenchhafmlmaa.Reg
attribute [local go_sem ↓] ldX_eq stX_eq

/-- A copy of an extent's bytes into bytes of one's own. -/
theorem coded_laid (e : X) (he : e.may = true) (W : World) (base g n cap : Nat) (bs : List UInt8) (k dl dc : Nat) (ho : Owned W base (.slice (some ⟨g, 0, none⟩) n cap) bs) (hbase : base ≤ W.heap.size) (hd : 12 ≤ dl) (hk : k + 12 ≤ n) :
    Calls Try.prog 68 #[.agg e.c] W fun E w4 => ∃ A4 c4 w5, E = .returned (.slice A4 12 c4) ∧
      (Builtin.copy_ #[46, 46] 3 #[.slice (some ⟨g, k, none⟩) dl dc, .slice A4 12 c4]).run Try.prog w4 = .ok (goInt 12) w5 ∧ Owned w5 base (.slice (some ⟨g, 0, none⟩) n cap) (over bs k (encX e)) ∧ Below base W w5 :=
  (coded_any e he W).mono fun E w4 ⟨A4, c4, he, ho4, hb4⟩ => by
    obtain ⟨w5, hrun5, ho5, hb5⟩ := run_copy_bytes w4 3 base g n cap bs (encX e) k dl dc (Owned.keep ho hb4 (Nat.le_refl _)) w4.heap.size A4 12 c4 (Owned.reads ho4) (by omega) hd hk
    exact ⟨A4, c4, w5, he, hrun5, ho5, (hb4.mono hbase).trans hb5⟩

set_option maxRecDepth 100000 in
set_option maxHeartbeats 4000000 in
theorem holding_any (A : Option Addr) (n c B size : Nat) (l : List X) (w : World) (h : HoldsX w B A n l) (hB : B ≤ w.heap.size) (hmay : ∀ x ∈ l, x.may = true) (hsz : 4 + n * 12 ≤ size) (hs : size ≤ 256) :
    Calls Try.prog 46 #[.slice A n c, .int .i64 (size : Int)] w fun E w' => E = .returned (.slice (some ⟨w.heap.size, 0, none⟩) size size) ∧ Owned w' w.heap.size (.slice (some ⟨w.heap.size, 0, none⟩) size size) (holdB l size) ∧ Below w.heap.size w w' := by
  have hln := h.1
  have hmk : (Instr.makeSlice 46 (.int .i64 (size : Int)) (.int .i64 (size : Int))).run Try.prog w = .ok (.slice (some ⟨w.heap.size, 0, none⟩) size size) (w.alloc (.cells ((List.replicate size (0 : UInt8)).map byteV).toArray 5)) := run_makeZ size (by omega) w
  obtain ⟨W, hW⟩ : ∃ W, W = w.alloc (.cells ((List.replicate size (0 : UInt8)).map byteV).toArray 5) := ⟨_, rfl⟩
  rw [← hW] at hmk
  have hoW : Owned W w.heap.size (.slice (some ⟨w.heap.size, 0, none⟩) size size) (List.replicate size 0) := by
    have := owned_made w (List.replicate size (0 : UInt8)) w.heap.size (Nat.le_refl _) (by unfold maxLen; rw [List.length_replicate]; omega)
    rw [List.length_replicate] at this
    rw [hW]; exact this
  have hbW : Below w.heap.size w W := by rw [hW]; exact (Below.refl _ _).alloc (Nat.le_refl _) _
  have hw1 : IntKind.u64.wrap (n : Int) = (n : Int) := by rw [IntKind.wrap_u64]; omega
  have hst := hold_start n size (by omega) (by omega)
  have HST := Lib.hid hst; clear hst
  have HOd : Hid (Owned W.drew w.heap.size (.slice (some ⟨w.heap.size, 0, none⟩) size size) (List.replicate size 0)) := Lib.hid hoW
  have HBd : Hid (Below w.heap.size w W.drew) := Lib.hid hbW.drew
  clear hW hoW hbW
  have H := Lib.hid h; clear h
  have HLN := Lib.hid hln; clear hln
  have HMAY := Lib.hid hmay; clear hmay
  have HBB := Lib.hid hB; clear hB
  have hz2 : (2 : Int) ≤ (size : Int) := by omega
  go_enter Try.func46, Try.ntmps46
  go_wp2_with fail
  go_region_with (go_at_call 67; refine (bytes_laid _ n 2 rfl _ w.heap.size w.heap.size size size _ 0 2 size HOd.out HBd.out.size (by omega) (by omega) (by omega) (by omega)).mono ?_; rintro E w4 ⟨A4, c4, w6, rfl, hrun5, ho5, hb5⟩; rw [HST.out] at ho5; have HO6 := Lib.hid ho5; have HB6 : Hid (Below w.heap.size w w6) := Lib.hid (HBd.out.trans hb5); clear ho5 hb5)
  clear hrun5 hmk HOd HBd
  go_wp2
  go_loopw [19] (fun i wr => ∃ k : Nat, k ≤ n ∧ i = .int .i64 (k : Int) ∧ Owned wr w.heap.size (.slice (some ⟨w.heap.size, 0, none⟩) size size) (padB (headB n 0 ++ encs (l.take k)) size) ∧ Below w.heap.size w wr) (fun i _ => n - (intOf i).toNat)
  case atStart => exact ⟨0, Nat.zero_le _, rfl, HO6.out, HB6.out⟩
  case round =>
    obtain ⟨k, hk, rfl, hown, hbr⟩ := hrel
    have HO := Lib.hid hown; clear hown
    have HBR := Lib.hid hbr; clear hbr
    rcases Nat.lt_or_ge k n with hlt | hge
    · have hkl : k < l.length := by have := HLN.out; omega
      obtain ⟨b, off, rfl, hbB⟩ := H.out.addr (by omega)
      obtain ⟨e, he⟩ : ∃ e, e = l[k] := ⟨_, rfl⟩
      have hld := run_ldX_at (H.out.below (HBR.out.mono HBB.out)) k hkl (off + k * 4) rfl
      rw [← he] at hld
      have hem := HMAY.out e (he ▸ List.getElem_mem hkl)
      have hsn : over (padB (headB n 0 ++ encs (l.take k)) size) (4 + k * 12) (encX e) = padB (headB n 0 ++ encs (l.take (k + 1))) size := by
        have hl : (l.take k).length = k := by rw [List.length_take]; omega
        have := hold_step (l.take k) e n size
        rw [hl] at this
        rw [this, List.take_succ_eq_append_getElem hkl, ← he]
      have HSN := Lib.hid hsn; clear hsn he
      have HEM := Lib.hid hem; clear hem
      have hst := run_stX_new wr e
      obtain ⟨W1, hW1⟩ : ∃ W1, W1 = wr.alloc (.cells e.c 24) := ⟨_, rfl⟩
      rw [← hW1] at hst
      have hv1 : VarX W1 wr.heap.size e := hW1 ▸ VarX.new wr e
      have hld1 : (ldX (.pointer (some ⟨wr.heap.size, 0, none⟩))).run Try.prog W1.drew = .ok (.agg e.c) W1.drew := VarX.load (show VarX W1.drew wr.heap.size e from hv1)
      have HB1 : Hid (Below w.heap.size w W1.drew) := Lib.hid (by rw [hW1]; exact (HBR.out.alloc HBR.out.size _).drew)
      have HO1 : Hid (Owned W1.drew w.heap.size (.slice (some ⟨w.heap.size, 0, none⟩) size size) (padB (headB n 0 ++ encs (l.take k)) size)) := Lib.hid (by rw [hW1]; exact World.ownsRow.alloc HO.out _)
      have hlaid := coded_laid e HEM.out W1.drew w.heap.size w.heap.size size size _ (4 + k * 12) (size - (4 + k * 12)) (size - (4 + k * 12)) HO1.out HB1.out.size (by omega) (by omega)
      rw [HSN.out] at hlaid
      have HLAID := Lib.hid hlaid; clear hlaid hW1 hv1 HO HBR
      generalize e.c = EC at hld hst hld1 HLAID
      have hk0 : (0 : Int) ≤ (k : Int) := by omega
      have hkn : (k : Int) < (n : Int) := by omega
      have hwm : IntKind.i64.wrap ((k : Int) * 12) = (k : Int) * 12 := by rw [IntKind.wrap_i64]; omega
      have hwa : IntKind.i64.wrap (4 + (k : Int) * 12) = ((4 + k * 12 : Nat) : Int) := by rw [IntKind.wrap_i64]; omega
      have hp0 : (0 : Int) ≤ ((4 + k * 12 : Nat) : Int) := by omega
      have hp1 : ((4 + k * 12 : Nat) : Int) ≤ (size : Int) := by omega
      have hp2 : ¬ (size = 4 + k * 12) := by omega
      obtain ⟨pp, hpp⟩ : ∃ pp, pp = 4 + k * 12 := ⟨_, rfl⟩
      rw [← hpp] at hwa hp0 hp1 hp2 HLAID
      clear hpp
      go_wp2_with fail
      go_region_with (go_at_call 68; refine HLAID.out.mono ?_; rintro E w4 ⟨A4, c4, w7, rfl, hrun5, ho5, hb5⟩; have HO7 := Lib.hid ho5; have HB7 : Hid (Below w.heap.size w w7) := Lib.hid (HB1.out.trans hb5); clear ho5 hb5)
      clear hrun5 hld hst hld1
      go_wp2
      go_roundw
      case rel => exact ⟨k + 1, by omega, by go_num, HO7.out, HB7.out⟩
      case measure => simp [intOf]; omega
    · have hkn : k = n := by omega
      subst hkn
      have hown := HO.out
      rw [List.take_of_length_le (by have := HLN.out; omega)] at hown
      have hh : padB (headB k 0 ++ encs l) size = holdB l size := by unfold holdB; rw [HLN.out]
      rw [hh] at hown
      have HO2 := Lib.hid hown; clear hown hh
      have hge' : ¬ (k : Int) < (k : Int) := by omega
      go_wp2
      go_ret
      exact ⟨rfl, HO2.out, HBR.out⟩

set_option maxRecDepth 100000 in
set_option maxHeartbeats 4000000 in
theorem naming_any (A : Option Addr) (n c B : Nat) (l : List Int) (w : World) (h : HoldsI w B A n l) (hB : B ≤ w.heap.size) (hran : ∀ x ∈ l, 0 ≤ x ∧ x ≤ 4294967295) (hn : n ≤ 14) :
    Calls Try.prog 47 #[.slice A n c] w fun E w' => E = .returned (.slice (some ⟨w.heap.size, 0, none⟩) 60 60) ∧ Owned w' w.heap.size (.slice (some ⟨w.heap.size, 0, none⟩) 60 60) (nameB l) ∧ Below w.heap.size w w' := by
  have hln := h.1
  have hmk : (Instr.makeSlice 46 (.int .i64 60) (.int .i64 60)).run Try.prog w = .ok (.slice (some ⟨w.heap.size, 0, none⟩) 60 60) (w.alloc (.cells ((List.replicate 60 (0 : UInt8)).map byteV).toArray 5)) := run_makeZ 60 (by omega) w
  obtain ⟨W, hW⟩ : ∃ W, W = w.alloc (.cells ((List.replicate 60 (0 : UInt8)).map byteV).toArray 5) := ⟨_, rfl⟩
  rw [← hW] at hmk
  have hoW : Owned W w.heap.size (.slice (some ⟨w.heap.size, 0, none⟩) 60 60) (List.replicate 60 0) := by
    have := owned_made w (List.replicate 60 (0 : UInt8)) w.heap.size (Nat.le_refl _) (by unfold maxLen; rw [List.length_replicate]; omega)
    rw [List.length_replicate] at this
    rw [hW]; exact this
  have hbW : Below w.heap.size w W := by rw [hW]; exact (Below.refl _ _).alloc (Nat.le_refl _) _
  have hw1 : IntKind.u64.wrap (n : Int) = (n : Int) := by rw [IntKind.wrap_u64]; omega
  have hst := name_start n (by omega)
  have HST := Lib.hid hst; clear hst
  have HOd : Hid (Owned W.drew w.heap.size (.slice (some ⟨w.heap.size, 0, none⟩) 60 60) (List.replicate 60 0)) := Lib.hid hoW
  have HBd : Hid (Below w.heap.size w W.drew) := Lib.hid hbW.drew
  clear hW hoW hbW
  have H := Lib.hid h; clear h
  have HLN := Lib.hid hln; clear hln
  have HRAN := Lib.hid hran; clear hran
  have HBB := Lib.hid hB; clear hB
  have HMK := Lib.hid hmk; clear hmk
  go_enter Try.func47, Try.ntmps47
  go_wp2_with fail
  rw [HMK.out]
  simp only [Result.andThen]
  rw [Oper.upon_value]
  go_wp2_with fail
  go_region_with (go_at_call 67; refine (bytes_laid _ n 2 rfl _ w.heap.size w.heap.size 60 60 _ 0 2 60 HOd.out HBd.out.size (by omega) (by omega) (by omega) (by omega)).mono ?_; rintro E w4 ⟨A4, c4, w6, rfl, hrun5, ho5, hb5⟩; have HO6 : Hid (Owned w6.drew w.heap.size (.slice (some ⟨w.heap.size, 0, none⟩) 60 60) (over (List.replicate 60 0) 0 (bytesL n 2))) := Lib.hid ho5; have HB6 : Hid (Below w.heap.size w w6.drew) := Lib.hid (HBd.out.trans hb5).drew; clear ho5 hb5)
  clear hrun5 HOd HBd
  go_wp2_with fail
  go_region_with (go_at_call 67; refine (bytes_laid _ 1 2 rfl _ w.heap.size w.heap.size 60 60 _ 2 2 58 HO6.out HB6.out.size (by omega) (by omega) (by omega) (by omega)).mono ?_; rintro E w4 ⟨A4, c4, w7, rfl, hrun5, ho5, hb5⟩; rw [HST.out] at ho5; have HO7 := Lib.hid ho5; have HB7 : Hid (Below w.heap.size w w7) := Lib.hid (HB6.out.trans hb5); clear ho5 hb5)
  clear hrun5 HO6 HB6
  go_wp2
  go_loopw [20] (fun i wr => ∃ k : Nat, k ≤ n ∧ i = .int .i64 (k : Int) ∧ Owned wr w.heap.size (.slice (some ⟨w.heap.size, 0, none⟩) 60 60) (padB (headB n 1 ++ blkB (l.take k)) 60) ∧ Below w.heap.size w wr) (fun i _ => n - (intOf i).toNat)
  case atStart => exact ⟨0, Nat.zero_le _, rfl, HO7.out, HB7.out⟩
  case round =>
    obtain ⟨k, hk, rfl, hown, hbr⟩ := hrel
    have HO := Lib.hid hown; clear hown
    have HBR := Lib.hid hbr; clear hbr
    rcases Nat.lt_or_ge k n with hlt | hge
    · have hkl : k < l.length := by have := HLN.out; omega
      obtain ⟨b, off, rfl, hbB, hcl⟩ := H.out.2 (by omega)
      have hx := ((HBR.out.mono HBB.out).cell (p := ⟨b, off + k, none⟩) hbB).trans (hcl k hkl)
      obtain ⟨v, hv⟩ : ∃ v : Nat, l[k] = (v : Int) := ⟨(l[k]).toNat, by have := HRAN.out _ (List.getElem_mem hkl); omega⟩
      rw [hv] at hx
      have hv1 : v ≤ 4294967295 := by have := HRAN.out _ (List.getElem_mem hkl); omega
      have hsn : over (padB (headB n 1 ++ blkB (l.take k)) 60) (4 + k * 4) (bytesL v 4) = padB (headB n 1 ++ blkB (l.take (k + 1))) 60 := by
        have hl : (l.take k).length = k := by rw [List.length_take]; omega
        have := name_step (l.take k) (v : Int) n 60
        rw [hl] at this
        rw [show ((v : Int)).toNat = v by omega] at this
        rw [this, List.take_succ_eq_append_getElem hkl, hv]
      have HSN := Lib.hid hsn; clear hsn hcl hv
      have HB1 : Hid (Below w.heap.size w wr.drew) := Lib.hid HBR.out.drew
      have HO1 : Hid (Owned wr.drew w.heap.size (.slice (some ⟨w.heap.size, 0, none⟩) 60 60) (padB (headB n 1 ++ blkB (l.take k)) 60)) := HO
      have hlaid := bytes_laid (v : Int) v 4 rfl wr.drew w.heap.size w.heap.size 60 60 _ (4 + k * 4) (60 - (4 + k * 4)) (60 - (4 + k * 4)) HO1.out HB1.out.size (by omega) (by omega) (by omega) (by omega)
      rw [HSN.out] at hlaid
      have HLAID := Lib.hid hlaid; clear hlaid
      have hk0 : (0 : Int) ≤ (k : Int) := by omega
      have hkn : (k : Int) < (n : Int) := by omega
      have hu : IntKind.u64.wrap (v : Int) = (v : Int) := by rw [IntKind.wrap_u64]; omega
      have hwm : IntKind.i64.wrap ((k : Int) * 4) = (k : Int) * 4 := by rw [IntKind.wrap_i64]; omega
      have hwa : IntKind.i64.wrap (4 + (k : Int) * 4) = ((4 + k * 4 : Nat) : Int) := by rw [IntKind.wrap_i64]; omega
      have hp0 : (0 : Int) ≤ ((4 + k * 4 : Nat) : Int) := by omega
      have hp1 : ((4 + k * 4 : Nat) : Int) ≤ 60 := by omega
      have hp2 : ¬ (60 = 4 + k * 4) := by omega
      obtain ⟨pp, hpp⟩ : ∃ pp, pp = 4 + k * 4 := ⟨_, rfl⟩
      rw [← hpp] at hwa hp0 hp1 hp2 HLAID
      clear hpp
      go_wp2_with fail
      go_region_with (go_at_call 67; refine HLAID.out.mono ?_; rintro E w4 ⟨A4, c4, w8, rfl, hrun5, ho5, hb5⟩; have HO8 := Lib.hid ho5; have HB8 : Hid (Below w.heap.size w w8) := Lib.hid (HB1.out.trans hb5); clear ho5 hb5)
      clear hrun5 hx
      go_wp2
      go_roundw
      case rel => exact ⟨k + 1, by omega, by go_num, HO8.out, HB8.out⟩
      case measure => simp [intOf]; omega
    · have hkn : k = n := by omega
      subst hkn
      have hown := HO.out
      rw [List.take_of_length_le (by have := HLN.out; omega)] at hown
      have hh : padB (headB k 1 ++ blkB l) 60 = nameB l := by unfold nameB; rw [HLN.out]
      rw [hh] at hown
      have HO2 := Lib.hid hown; clear hown hh
      have hge' : ¬ (k : Int) < (k : Int) := by omega
      go_wp2
      go_ret
      exact ⟨rfl, HO2.out, HBR.out⟩
end Go.Proofs.Ytkhenchhafmlmaa.Ex
