/- A right list as bytes: the document's Spread. -/
import Derived.Test.YtmbmjdogfjmlpaaDoorSpRCheck
import Derived.Lib.AppendStr
namespace Go.Proofs.YtmbmjdogfjmlpaaDoor.Sp
set_option maxRecDepth 20000
open Go.RowKit
open Go.Proofs.YtmbmjdogfjmlpaaDoor.Mem Go.Proofs.YtmbmjdogfjmlpaaDoor.Rec Go.Proofs.YtmbmjdogfjmlpaaDoor.Reg
attribute [local go_sem ↓] ldX_eq stX_eq

theorem strCells_bytes (t : List UInt8) : Lib.strCells (⟨t.toArray⟩ : ByteArray) = t.map byteV := by
  unfold Lib.strCells
  rfl
/-- 'append(b, s...)', b bytes of one's own, s a text. -/
theorem run_addtext (w : World) (ty : TypeId) (base : Nat) (v : Value) (bs t : List UInt8) (hown : Owned w base v bs) (hlen : bs.length + t.length ≤ 140737488355328) (hbase : base ≤ w.heap.size) :
    ∃ v' w', (Builtin.append_ #[41, 9] ty #[v, .string ⟨t.toArray⟩]).run Tryd.prog w = .ok v' w' ∧ Owned w' base v' (bs ++ t) ∧ Below base w w' := by
  obtain ⟨i0, hi, hz0, hz1, hz2⟩ := info_parts info_u8
  have hts : (⟨t.toArray⟩ : ByteArray).size = t.length := text_size t
  obtain ⟨v', w', hrun, h2, h3⟩ := Lib.run_append_own_string (P := Tryd.prog) (w := w) base 41 9 ty 5 i0 Tryd.underlying41 Tryd.underlying9 hi hz0 hz1 hz2 v bs.length (bs.map byteV) hown ⟨t.toArray⟩ (by unfold maxLen; rw [hts]; omega) (by rw [hts]; omega) hbase
  refine ⟨v', w', hrun, ?_, (Below.refl base w).grown h3.1 hbase (Owned.base_le hown)⟩
  unfold Owned
  rw [List.length_append, List.map_append, ← strCells_bytes t, ← hts]
  exact h2
/-- 'append(b, 0)', the 0 in a block of its own, made last. -/
theorem run_addzero (W : World) (ty : TypeId) (base : Nat) (v : Value) (bs : List UInt8) (hown : Owned W base v bs) (hlen : bs.length + 1 ≤ 140737488355328) (hbase : base ≤ W.heap.size) :
    ∃ v' W', (Builtin.append_ #[41, 41] ty #[v, .slice (some ⟨W.heap.size, 0, none⟩) 1 1]).run Tryd.prog (W.alloc (.cells #[.int .u8 0] 5)) = .ok v' W' ∧ Owned W' base v' (bs ++ [0]) ∧ Below base W W' := by
  have hc : (W.alloc (.cells #[.int .u8 0] 5)).cell? ⟨W.heap.size, 0, none⟩ = some (.int .u8 0) := by
    rw [cell_of_row _ _ _ _ _ _ (heap_alloc_new W _)]; rfl
  obtain ⟨v', W', h1, h2, h3⟩ := run_addall (W.alloc (.cells #[.int .u8 0] 5)) ty base v bs (World.ownsRow.alloc hown _) (W.heap.size + 1) (some ⟨W.heap.size, 0, none⟩) 1 1 [0]
    ⟨rfl, fun _ => ⟨W.heap.size, 0, rfl, by omega, fun j hj => by
      have : j = 0 := by simpa using hj
      subst this; exact hc⟩⟩ hlen (by simp; omega)
  exact ⟨v', W', h1, h2, ((Below.refl base W).alloc hbase _).trans h3⟩
theorem Owned.shp {w : World} {base : Nat} {v : Value} {bs : List UInt8} (h : Owned w base v bs) : ∃ A c, v = .slice A bs.length c := Owned.shape h
set_option maxRecDepth 100000 in
set_option maxHeartbeats 16000000 in
theorem rspread_any (A : Option Addr) (n c B : Nat) (l : List Rn) (w : World) (h : HoldsX w B A n l) (hB : B ≤ w.heap.size) (hn : n ≤ 1048576) (hr : right l = true) :
    Calls Tryd.prog 28 #[.slice A n c] w (Made w (spr [] l)) := by
  have hln := h.1
  obtain ⟨post, hpost⟩ : ∃ post, post = Made w (spr [] l) := ⟨_, rfl⟩
  rw [← hpost]
  have HP := Lib.hid hpost; clear hpost
  have hh : ∀ V, Below w.heap.size w V → HoldsX V B A n l := fun V hV => h.below (hV.mono hB)
  have HH := Lib.hid hh; clear hh
  have H := Lib.hid h; clear h
  have HLN := Lib.hid hln; clear hln
  have HRT := Lib.hid hr; clear hr
  go_enter Tryd.func28, Tryd.ntmps28
  go_wp2
  go_loopw [3, 4] (fun bv i wr => ∃ (k : Nat) (Ab : Option Addr) (cb bl : Nat) (bs : List UInt8), k ≤ n ∧ i = .int .i64 (k : Int) ∧ bv = .slice Ab bl cb ∧ bl = bs.length ∧ spr bs (l.drop k) = spr [] l ∧ chk (bl : Int) (l.drop k) = true ∧ bl ≤ 65536 ∧ Owned wr w.heap.size (.slice Ab bl cb) bs ∧ Below w.heap.size w wr) (fun _ i _ => n - (intOf i).toNat)
  case atStart => exact ⟨0, none, 0, 0, [], Nat.zero_le _, rfl, rfl, rfl, rfl, HRT.out, by omega, ⟨rfl, .inl ⟨rfl, rfl⟩⟩, Below.refl _ _⟩
  case round =>
    obtain ⟨k, Ab, cb, bl, bs, hk, rfl, rfl, hbl, hsp, hch, hb6, hown, hbr⟩ := hrel
    have HO := Lib.hid hown; clear hown
    have HSP := Lib.hid hsp; clear hsp
    have HCH := Lib.hid hch; clear hch
    have HBL := Lib.hid hbl; clear hbl
    rcases Nat.lt_or_ge k n with hlt | hge
    rotate_left
    · have HBR := Lib.hid hbr; clear hbr
      have hkn : ¬ (k : Int) < (n : Int) := by omega
      have hall : spr [] l = bs := by rw [← HSP.out, List.drop_of_length_le (by have := HLN.out; omega)]; rfl
      rw [hall] at HP
      clear hall
      go_wp2
      rw [HP.out]
      exact ⟨Ab, cb, by rw [← HBL.out], by rw [← HBL.out]; exact HO.out, HBR.out⟩
    · obtain ⟨b, off, rfl, hbB⟩ := H.out.addr (by omega)
      have hkl : k < l.length := by have := HLN.out; omega
      obtain ⟨e, he⟩ : ∃ e, e = l[k] := ⟨_, rfl⟩
      have hdr : l.drop k = e :: l.drop (k + 1) := by rw [List.drop_eq_getElem_cons hkl, he]
      have hch2 := HCH.out
      have hsp2 := HSP.out
      rw [hdr] at hch2 hsp2
      have hch3 := chk_cons.1 hch2
      have hox := okR_iff.1 hch3.1
      have hsp3 : spr (bs ++ List.replicate (e.a.toNat - bs.length) 0 ++ e.t) (l.drop (k + 1)) = spr [] l := hsp2
      have hxe : e.e = e.a + (e.t.length : Int) := rfl
      have hk0 : (0 : Int) ≤ (k : Int) := by omega
      have hkn : (k : Int) < (n : Int) := by omega
      obtain ⟨a, ha⟩ : ∃ a : Nat, e.a = (a : Int) := ⟨e.a.toNat, by omega⟩
      have hca : ∀ V, Below w.heap.size w V → V.cell? ⟨b, off + k * 2, none⟩ = some (.int .i64 (a : Int)) ∧ V.cell? ⟨b, off + k * 2 + 1, none⟩ = some (.string ⟨e.t.toArray⟩) := fun V hV => by
        have := (HH.out V hV).cell k hkl
        rw [← he, ha] at this
        exact this
      rw [ha] at hox hxe
      rw [show e.a.toNat - bs.length = a - bl by rw [← HBL.out]; omega] at hsp3
      have hch4 := hch3.2
      obtain ⟨t, ht⟩ : ∃ t, t = e.t := ⟨_, rfl⟩
      rw [← ht] at hox hxe hsp3 hca
      obtain ⟨ee, hee⟩ : ∃ ee, ee = e.e := ⟨_, rfl⟩
      rw [← hee] at hox hxe hch4
      have HSP3 := Lib.hid hsp3; clear hsp3 hsp2
      have HCH4 := Lib.hid hch4; clear hch4 hch3 hch2 hdr
      have HCA := Lib.hid hca; clear hca
      have hab : bl ≤ a := by omega
      have hat : (a : Int) + (t.length : Int) = ee := by omega
      have he6 : ee ≤ 65536 := hox.2.1
      have HAT := Lib.hid hat; clear hat hxe hox ht hee ha he
      have HBR := Lib.hid hbr; clear hbr
      have ha6 : (a : Int) ≤ 65536 := by have := HAT.out; omega
      go_wp2
      go_loopw [3] (fun bv wi => ∃ (z : Nat) (Az : Option Addr) (cz zl : Nat), bl + z ≤ a ∧ zl = bl + z ∧ bv = .slice Az zl cz ∧ Owned wi w.heap.size (.slice Az zl cz) (bs ++ List.replicate z 0) ∧ Below w.heap.size w wi) (fun bv _ => match bv with | .slice _ m _ => a - m | _ => 0)
      case atStart => exact ⟨0, Ab, cb, bl, by omega, rfl, rfl, by simpa using HO.out, HBR.out⟩
      case round =>
        obtain ⟨z, Az, cz, zl, hza, hzl, rfl, hoz, hbz⟩ := hrel
        have HOZ := Lib.hid hoz; clear hoz
        obtain ⟨q0, q1⟩ := HCA.out wr hbz
        have HBZ := Lib.hid hbz; clear hbz
        have HZL := Lib.hid hzl; clear hzl
        rcases Nat.lt_or_ge zl a with hlz | hgz
        · have hlz' : (zl : Int) < (a : Int) := by omega
          have hlen : (bs ++ List.replicate z 0).length = zl := by rw [List.length_append, List.length_replicate, ← HBL.out, HZL.out]
          obtain ⟨v', W5, hrun, ho5, hb5⟩ := run_addzero wr 41 w.heap.size _ _ HOZ.out (by rw [hlen]; omega) HBZ.out.size
          obtain ⟨A5, c5, rfl⟩ := Owned.shp ho5
          rw [List.length_append, hlen, List.length_singleton] at ho5 hrun
          have hap : bs ++ List.replicate z 0 ++ [0] = bs ++ List.replicate (z + 1) (0 : UInt8) := by
            rw [List.append_assoc, ← List.replicate_succ']
          rw [hap] at ho5
          have HB5 := Lib.hid (HBZ.out.trans hb5)
          have HO5 := Lib.hid ho5; clear ho5 hb5 hlen hap q1
          go_wp2_with (at_builtin; refine wpList_apprun rfl _ _ _ _ (by rfl) _ _ (by rfl) (by rfl) _ _ hrun ?_)
          go_wp2
          go_roundw
          case rel => exact ⟨z + 1, A5, c5, zl + 1, by have := HZL.out; omega, by have := HZL.out; omega, rfl, HO5.out, HB5.out⟩
          case measure => simp; omega
        · have hlz' : ¬ (zl : Int) < (a : Int) := by omega
          have hz : z = a - bl := by have := HZL.out; omega
          subst hz
          have hlen : (bs ++ List.replicate (a - bl) 0).length = zl := by rw [List.length_append, List.length_replicate, ← HBL.out, HZL.out]
          obtain ⟨v', W5, hrun, ho5, hb5⟩ := run_addtext wr 41 w.heap.size _ _ t HOZ.out (by rw [hlen]; have := HAT.out; have := HZL.out; omega) HBZ.out.size
          obtain ⟨A5, c5, rfl⟩ := Owned.shp ho5
          have hl5 : (bs ++ List.replicate (a - bl) 0 ++ t).length = ee.toNat := by rw [List.length_append, hlen]; have := HAT.out; have := HZL.out; omega
          rw [hl5] at ho5 hrun
          have HB5 := Lib.hid (HBZ.out.trans hb5)
          have HO5 := Lib.hid ho5; clear ho5 hb5 hlen
          have HL5 := Lib.hid hl5; clear hl5
          have HEE : Hid (((ee.toNat : Nat) : Int) = ee) := Lib.hid (by have := HAT.out; omega)
          obtain ⟨T, hT⟩ : ∃ T : ByteArray, T = ⟨t.toArray⟩ := ⟨_, rfl⟩
          rw [← hT] at hrun q1
          clear hT
          obtain ⟨el, hel⟩ : ∃ el, el = ee.toNat := ⟨_, rfl⟩
          rw [← hel] at hrun HO5 HL5 HEE
          clear hel
          go_wp2_with (at_builtin; refine wpList_apprun rfl _ _ _ _ (by rfl) _ _ (by rfl) (by rfl) _ _ hrun ?_)
          go_wp2
          go_roundw
          case rel => exact ⟨k + 1, A5, c5, el, _, by omega, by go_num, rfl, HL5.out.symm, HSP3.out, chk_mono (by have := HEE.out; omega) HCH4.out, by have := HEE.out; omega, HO5.out, HB5.out⟩
          case measure => simp [intOf]; omega
end Go.Proofs.YtmbmjdogfjmlpaaDoor.Sp
