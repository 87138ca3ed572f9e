/- Layer 5's fixed fact. -/
import Derived.Test.YtelnoibfamcnmaaGreatRpRec
import Derived.Test.YtelnoibfamcnmaaGreatRpPlain
namespace Go.Proofs.YtelnoibfamcnmaaGreat.Rp
set_option maxRecDepth 20000
open Go.RowKit
open Go.Proofs.YtelnoibfamcnmaaGreat.Mem Go.Proofs.YtelnoibfamcnmaaGreat.Crc Go.Proofs.YtelnoibfamcnmaaGreat.Disk Go.Proofs.YtelnoibfamcnmaaGreat.Log
open Go.Proofs.YtelnoibfamcnmaaGreat.Rec (Tx Wt TxAt)

def sev (k : Nat) : List UInt8 := List.replicate k 7 ++ List.replicate (256 - k) 0
theorem sev_len (k : Nat) (hk : k ≤ 256) : (sev k).length = 256 := by unfold sev; simp; omega
theorem sev_set (k : Nat) (hk : k < 256) : (sev k).set k 7 = sev (k + 1) := by
  unfold sev
  rw [List.set_append_right _ _ (by simp)]
  simp only [List.length_replicate, Nat.sub_self]
  rw [show 256 - k = (256 - (k + 1)) + 1 by omega, List.replicate_succ, List.set_cons_zero, List.replicate_succ']
  simp
set_option maxHeartbeats 1000000 in
theorem data_any (w : World) : Calls Tryz.prog 21 #[.int .u8 7] w fun e w' => ∃ g, e = .returned (.slice (some ⟨g, 0, none⟩) 256 256) ∧ Holds w' w'.heap.size (some ⟨g, 0, none⟩) 256 (List.replicate 256 7) ∧ w.heap.size ≤ g ∧ Below w.heap.size w w' := by
  have hmk : ∀ W, (Instr.makeSlice 25 (.int .i64 256) (.int .i64 256)).run Tryz.prog W = .ok (.slice (some ⟨W.heap.size, 0, none⟩) 256 256) (W.alloc (.cells ((List.replicate 256 (0 : UInt8)).map byteV).toArray 5)) := fun W => Go.Proofs.YtelnoibfamcnmaaGreat.Rec.run_makeZ 256 (by omega) W
  obtain ⟨bx, hbx⟩ : ∃ bx, bx = Obj.cells ((List.replicate 256 (0 : UInt8)).map byteV).toArray 5 := ⟨_, rfl⟩
  rw [← hbx] at hmk
  have ho0 : Owned (w.alloc bx) w.heap.size (.slice (some ⟨w.heap.size, 0, none⟩) 256 256) (sev 0) := by
    have h1 := owned_made w (List.replicate 256 0) w.heap.size (Nat.le_refl _) (by unfold maxLen; simp)
    rw [hbx]
    simpa [sev] using h1
  have hb0 : Below w.heap.size w (w.alloc bx) := (Below.refl _ w).alloc (Nat.le_refl _) _
  have HO0 := Lib.hid ho0; clear ho0
  have HB0 := Lib.hid hb0; clear hb0 hbx
  go_enter Tryz.func21, Tryz.ntmps21
  go_wp2_with fail
  generalize w.alloc bx = W at HO0 HB0 ⊢
  clear hmk
  go_loopw [4] (fun kv wr => ∃ k : Nat, k ≤ 256 ∧ kv = .int .i64 (k : Int) ∧ Owned wr w.heap.size (.slice (some ⟨w.heap.size, 0, none⟩) 256 256) (sev k) ∧ Below w.heap.size w wr) (fun kv _ => 256 - (intOf kv).toNat)
  case atStart => exact ⟨0, by omega, rfl, HO0.out, HB0.out⟩
  case round =>
    obtain ⟨k, hk, rfl, hown, hbr⟩ := hrel
    rcases Nat.lt_or_ge k 256 with hlt | hge
    · have hl := sev_len k hk
      obtain ⟨g, cap, hv, -, hgl, -, hrow⟩ := Owned.row hown (by rw [hl]; omega)
      injection hv with hv _ _
      injection hv with hv
      injection hv with hv
      subst hv
      obtain ⟨hc, hf, hset⟩ := hrow k (by rw [hl]; omega)
      obtain ⟨ho2, hb2⟩ := hset 7
      rw [sev_set k hlt] at ho2
      have hkk : (k : Int) < 256 := by omega
      have hb3 := Below.setCell hbr (p := ⟨w.heap.size, k, none⟩) (Nat.le_refl _) (byteV 7)
      obtain ⟨u, hu⟩ : ∃ u, u = byteV (sev k)[k] := ⟨_, rfl⟩
      rw [← hu] at hc
      have HO2 := Lib.hid ho2; clear ho2
      have HB3 := Lib.hid hb3; clear hb3 hb2 hbr hown hset hrow hl hu
      go_wp2
      go_roundw
      case rel => exact ⟨k + 1, by omega, by go_num, HO2.out, HB3.out⟩
      case measure => simp [intOf]; omega
    · obtain rfl : k = 256 := by omega
      have HOWN := Lib.hid hown; clear hown
      go_wp2
      go_ret
      have h2 := Go.Proofs.YtelnoibfamcnmaaGreat.Rec.Owned.reads HOWN.out
      exact ⟨w.heap.size, rfl, by simpa [sev] using h2, Nat.le_refl _, hbr⟩

def t7 : Tx := ⟨1, [(9, List.replicate 256 7)], []⟩
theorem t7_may : t7.mayB = true := by
  rw [Go.Proofs.YtelnoibfamcnmaaGreat.Rec.mayB_iff]
  exact ⟨by decide, by decide, fun x hx => by simp [t7] at hx; subst hx; simp, fun x hx => by simp [t7, Tx.nums] at hx; omega, by simp [t7, Tx.nums]⟩
theorem t7_takes : takesB 16 0 7 t7 = true := by decide
def g7 : Lg := ((Lg.fresh 16 0).app 16 0 7 t7).2.2
theorem g7_app : (Lg.fresh 16 0).app 16 0 7 t7 = (1, 0, g7) ∧ g7.ts = [t7] ∧ g7.seq = 2 := by
  have hf : (Lg.fresh 16 0).fair 16 0 7 t7 = true := by
    show (t7.mayB && takesB 16 0 7 t7) = true
    rw [t7_may, t7_takes]; rfl
  have h1 : (Lg.fresh 16 0).app 16 0 7 t7 = (1, 0, (Lg.fresh 16 0).add 0 7 t7) := by
    unfold Lg.app
    rw [hf, if_pos rfl, if_pos (by decide)]
    rfl
  refine ⟨by unfold g7; rw [h1], by unfold g7; rw [h1]; rfl, by unfold g7; rw [h1]; rfl⟩
theorem g7_inv : Inv 16 0 7 g7 1 0 := inv_app (inv_fresh 16 0 7 ⟨by omega, by omega, by omega⟩) t7 (by decide)
def d7 : Dk.Dk := g7.d.flush
theorem d7_chain : d7.Ok ∧ d7.stable.length = 16 ∧ chainD d7 0 7 = [t7] ∧ okH (d7.read 0) 7 = true ∧ (recD d7 0 7).read 9 = List.replicate 256 7 := by
  have hi := g7_inv
  have hok : d7.Ok := Dk.flush_ok _ hi.ok
  have hn : d7.stable.length = 16 := by unfold d7; rw [Dk.size_flush]; exact hi.size
  have hch : chainD d7 0 7 = [t7] := by
    rw [chain_whole hi (by rw [g7_app.2.2]; omega) d7 hn (fun i _ _ => Dk.read_flush _ hi.ok i), g7_app.2.1]
  have hhd : d7.read 0 = headH 1 0 := by
    show g7.d.flush.read 0 = _
    rw [Dk.read_flush _ hi.ok, head_read hi.ok hi.free hi.calm, hi.head]
  refine ⟨hok, hn, hch, by rw [hhd]; exact okH_head 1 0 7 (by omega) (by omega) (by omega), ?_⟩
  have hb := (recD_parts d7 hok 0 7 (by omega) (by omega)).2.2.2
  rw [recD_read d7 hok 0 7 (by omega) (by omega), if_neg (by omega), if_neg (by omega), hch]
  show (homeW (revsOf [t7]) 1 d7 (9, List.replicate 256 7)).read 9 = _
  unfold homeW
  rw [if_pos (by decide)]
  rw [Dk.read_write _ hok]
  rfl

set_option maxRecDepth 100000 in
set_option maxHeartbeats 4000000 in
theorem alive_any (w : World) : Calls Tryz.prog 4 #[] w fun e w' => e = .returned (.bool true) ∧ Below w.heap.size w w' := by
  obtain ⟨e7, -, -⟩ := g7_app
  obtain ⟨k1, k2, k3, k4, k5⟩ := d7_chain
  have E7 := Lib.hid e7; clear e7
  have K1 := Lib.hid k1; clear k1
  have K2 := Lib.hid k2; clear k2
  have K3 := Lib.hid k3; clear k3
  have K4 := Lib.hid k4; clear k4
  have K5 := Lib.hid k5; clear k5
  go_enter Tryz.func4, Tryz.ntmps4
  go_wp2_with fail
  refine (new_d 16 16 0 _ rfl (by omega) (by omega)).mono ?_
  rintro e w1 ⟨p, F, rfl, hD, hF, hb1⟩
  unfold ptr
  have hfm : Calls Tryz.prog 18 #[.pointer (some ⟨p, 0, none⟩), .int .i64 0, .int .i64 8] w1 (Now w1 p (freshD 16 0) 1 F (.int .i64 0)) := format_d 0 8 0 8 rfl rfl (Dk.Dk.new 16) p 0 F w1 hD (by omega) (by omega) (by simp [Dk.Dk.new])
  have HFM := Lib.hid hfm; clear hfm
  have HF := Lib.hid hF; clear hF
  have HB1 := Lib.hid hb1; clear hb1 hD
  go_wp2_with fail
  with_reducible refine HFM.out.mono ?_
  rintro e w2 ⟨F2, rfl, hD2, hF2, hT2⟩
  clear HFM
  have hrd := freshD_read 16 0 (by omega)
  have hsz := freshD_size 16 0
  have hop : Calls Tryz.prog 19 #[.pointer (some ⟨p, 0, none⟩), .int .i64 0, .int .i64 8] w2 fun e w' => ∃ lp, e = .returned (.tuple #[.pointer (some ⟨lp, 0, none⟩), .int .i64 0]) ∧ LogAt w' lp p ((0 : Nat) : Int) ((7 : Nat) : Int) 1 0 0 (.slice none 0 0) ∧ w2.heap.size ≤ lp ∧ Below w2.heap.size w2 w' := by
    have := open_d 0 8 0 8 rfl rfl (freshD 16 0) p 1 F2 w2 hD2 (by omega) (by omega) (by rw [hsz]; omega) (by rw [hrd]; exact okH_head 1 0 7 (by omega) (by omega) (by omega))
    rw [hrd, seqH_head 1 0 (by omega), plH_head 1 0 (by omega)] at this
    exact this
  have HOP := Lib.hid hop; clear hop
  have hF2w : ∀ k, F2 k → w.heap.size ≤ k := fun k hk => by
    rcases hF2 k hk with e | e
    · exact HF.out k e
    · have := HB1.out.size; omega
  have hBw2 : Below w.heap.size w w2 := HB1.out.trans (hT2.below (fun k hk => HF.out k hk) HB1.out.size)
  have HBW2 := Lib.hid hBw2; clear hBw2
  have HD2 := Lib.hid hD2; clear hD2 hF2 hT2
  go_wp2_with fail
  with_reducible refine HOP.out.mono ?_
  rintro e w3 ⟨lp, rfl, hL3, hlp, hb3⟩
  clear HOP
  have hkn : Known w3 w3 lp p 0 7 16 F2 NoX (Lg.fresh 16 0) 0 1 := opened_known (HD2.out.turns (Turns.of_below (F := fun _ => False) hb3) (fun _ _ e => e)) hL3 (fun e => by have := HD2.out.lt _ e; omega) hsz ⟨by omega, by omega⟩ (by omega) (by omega)
  have HKN := Lib.hid hkn; clear hkn
  have HB3 : Hid (Below w.heap.size w w3) := Lib.hid (HBW2.out.trans (hb3.mono HBW2.out.size))
  have hlpw : w.heap.size ≤ lp := by have := HBW2.out.size; omega
  have hlw : lp < w3.heap.size := (Array.getElem?_eq_some_iff.1 hL3).1
  have hFw : ∀ q, F2 q → q < w3.heap.size := fun q hq => Nat.lt_of_lt_of_le (HD2.out.lt q hq) hb3.size
  have HFW := Lib.hid hFw; clear hFw
  have HF2W := Lib.hid hF2w; clear hF2w
  clear hL3 hlp hb3 HD2 HBW2 HF HB1 hrd hsz
  have hda := data_any w3
  have HDA := Lib.hid hda; clear hda
  go_wp2_with fail
  with_reducible refine HDA.out.mono ?_
  rintro e w4 ⟨gd, rfl, hh4, hgw, hb4⟩
  have hgd : ¬ F2 gd := fun e => by have := HFW.out _ e; omega
  have hgl : gd ≠ lp := by omega
  clear HDA
  obtain ⟨w5, hw5⟩ : ∃ w5, w5 = w4.alloc (.cells #[.int .i64 9, .slice (some ⟨gd, 0, none⟩) 256 256] 56) := ⟨_, rfl⟩
  have hb5 : Below w4.heap.size w4 w5 := hw5 ▸ (Below.refl _ w4).alloc (Nat.le_refl _) _
  have hz5 : w5.heap.size = w4.heap.size + 1 := by rw [hw5]; simp
  have hx5 : w5.heap[w4.heap.size]? = some (.cells #[.int .i64 9, .slice (some ⟨gd, 0, none⟩) 256 256] 56 (0, 0)) := hw5 ▸ heap_alloc_new w4 _
  have hb35 : Below w3.heap.size w3 w5 := hb4.trans (hb5.mono hb4.size)
  have hkn5 : Known w5 w5 lp p 0 7 16 F2 NoX (Lg.fresh 16 0) 0 1 := HKN.out.aside (Turns.of_below hb35) (fun _ _ e => e) (fun e => e) (fun q e => e.elim)
  have ht : ∀ W, Turns (fun q => (F2 q ∨ w5.heap.size ≤ q) ∨ q = lp) w5 W → TxAt W w5.heap.size t7 (some ⟨w4.heap.size, 0, none⟩) 1 1 none 0 0 := fun W hW => by
    have hy1 := (hW.block w4.heap.size (by omega) (fun e => by
      rcases e with (e | e) | e
      · have := HFW.out _ e; have := hb4.size; omega
      · omega
      · have := hb4.size; omega)).trans hx5
    have hy0 : Holds W w4.heap.size (some ⟨gd, 0, none⟩) 256 (List.replicate 256 7) := by
      obtain ⟨hl, hc⟩ := hh4
      obtain ⟨b, off, e, hbl, hcs⟩ := hc (by omega)
      injection e with e
      injection e with e1 e2
      subst e1 e2
      exact ⟨hl, fun _ => ⟨gd, 0, rfl, hbl, fun j hj => by
        have hb := hb5.block gd hbl
        have hw := hW.block gd (by omega) (fun e => by
          rcases e with (e | e) | e
          · exact (hgd e).elim
          · omega
          · exact (hgl e).elim)
        exact (World.cell?_of_block (hw.trans hb)).trans (hcs j hj)⟩⟩
    refine ⟨⟨rfl, fun _ => ⟨w4.heap.size, 0, rfl, by omega, fun k x hx => ?_⟩⟩, ⟨rfl, fun h => absurd h (by omega)⟩, by show (1 : Nat) < _; omega, ⟨by omega, by omega, by omega, by omega⟩, fun x hx => ?_, fun x hx => (by cases hx)⟩
    · have hk : k = 0 := by
        have := (List.getElem?_eq_some_iff.1 hx).1
        simpa [t7] using this
      subst hk
      have hxe : x = ((9 : Int), List.replicate 256 (7 : UInt8)) := by simpa [t7] using hx.symm
      subst hxe
      have hlen : (List.replicate 256 (7 : UInt8)).length = 256 := List.length_replicate
      dsimp only
      rw [hlen]
      exact ⟨cell_of_row W _ 0 _ _ _ hy1, some ⟨gd, 0, none⟩, 256, cell_of_row W _ 1 _ _ _ hy1, hy0.more (by omega), by omega, by unfold maxLen; omega⟩
    · have hxe : x = ((9 : Int), List.replicate 256 (7 : UInt8)) := by simpa [t7] using hx
      subst hxe
      exact ⟨by show (-9223372036854775808 : Int) ≤ 9; omega, by show (9 : Int) ≤ _; omega⟩
  have hap := append_knw w5 w5 lp p 0 7 16 0 1 F2 NoX (Lg.fresh 16 0) hkn5 t7 _ _ 1 1 0 0 ht (by show (1 : Nat) ≤ _; omega) (by omega) (by omega)
  rw [E7.out] at hap
  have hap2 : Calls Tryz.prog 20 #[.pointer (some ⟨lp, 0, none⟩), .slice (some ⟨w4.heap.size, 0, none⟩) 1 1, .slice none 0 0] w5 fun e w' => e = .returned (.tuple #[.int .u64 1, .int .i64 0]) ∧ Known w5 w' lp p 0 7 16 F2 NoX g7 1 61 := hap
  have HAP := Lib.hid hap2; clear hap hap2 ht hkn5 hx5 hh4 hgd hgl
  have HB5 := Lib.hid (HB3.out.trans (hb35.mono HB3.out.size)); clear hb35 hb5 hb4
  have HW5 := Lib.hid hw5; clear hw5
  go_wp2_with fail
  rw [← HW5.out]
  with_reducible refine HAP.out.mono ?_
  rintro e w6 ⟨rfl, hk6⟩
  clear HAP HW5
  have hb6 : Below w.heap.size w w6 := HB5.out.trans (hk6.turns.below (fun q e => by
    rcases e with e | e
    · exact HF2W.out q e
    · omega) HB5.out.size)
  obtain ⟨c6, F6, v6, hD6, hc6, hF6, -, -⟩ := hk6.disk
  have hF6w : ∀ q, F6 q → w.heap.size ≤ q := fun q e => by
    rcases hF6 q e with e | e
    · exact HF2W.out q e
    · have := HB5.out.size; omega
  have hfl := (Homing.start hD6).flush (by omega)
  have HFL := Lib.hid hfl; clear hfl hk6 hD6 hF6
  have HB6 := Lib.hid hb6; clear hb6
  go_wp2_with fail
  with_reducible refine HFL.out.mono ?_
  rintro e w7 ⟨rfl, hh7⟩
  clear HFL
  have hh7 : Homing w6 p F6 w7 d7 c6 := hh7
  have hb7 : Below w.heap.size w w7 := HB6.out.trans (hh7.turns.below hF6w HB6.out.size)
  obtain ⟨F7, hD7, hF7, -⟩ := hh7
  have hF7w : ∀ q, F7 q → w.heap.size ≤ q := fun q e => by
    rcases hF7 q e with e | e
    · exact hF6w q e
    · have := HB6.out.size; omega
  have hsc := scan_ok 0 8 d7 p c6 F7 w7 hD7 (by omega) (by omega) (by omega) (by rw [K2.out]; omega) K4.out
  rw [show 8 - 1 = 7 from rfl, K3.out] at hsc
  have hsc2 : Calls Tryz.prog 6 #[.pointer (some ⟨p, 0, none⟩), .int .i64 0, .int .i64 8] w7 fun e w' => ∃ A c, e = .returned (.tuple #[.slice A 1 c, .int .i64 0]) ∧ Below w7.heap.size w7 w' := hsc.mono fun e w' ⟨A, c', _, h1, _, _, _, h5⟩ => ⟨A, c', h1, h5⟩
  have HSC := Lib.hid hsc2; clear hsc hsc2
  have HD7 := Lib.hid hD7; clear hD7
  have HB7 := Lib.hid hb7; clear hb7 hF7
  go_wp2_with fail
  with_reducible refine HSC.out.mono ?_
  rintro e w8 ⟨A8, c8, rfl, hb8⟩
  clear HSC
  have hD8 : DiskAt w8 p d7 c6 F7 := HD7.out.turns (Turns.of_below (F := fun _ => False) hb8) (fun _ _ e => e)
  have hrc := recover_ok 0 8 d7 p c6 F7 w8 hD8 (by omega) (by omega) (by omega) (by rw [K2.out]; omega) K4.out
  rw [show 8 - 1 = 7 from rfl, K3.out] at hrc
  have hrc2 : Calls Tryz.prog 7 #[.pointer (some ⟨p, 0, none⟩), .int .i64 0, .int .i64 8] w8 fun e w' => e = .returned (.tuple #[.int .i64 1, .int .i64 0]) ∧ Homing w8 p F7 w' (recD d7 0 7) (c6 + 62464) := hrc
  have HRC := Lib.hid hrc2; clear hrc hrc2 hD8
  have HB8 := Lib.hid (HB7.out.trans (hb8.mono HB7.out.size)); clear hb8 HB7 HD7
  go_wp2_with fail
  with_reducible refine HRC.out.mono ?_
  rintro e w9 ⟨rfl, hh9⟩
  clear HRC
  have hb9 : Below w.heap.size w w9 := HB8.out.trans (hh9.turns.below hF7w HB8.out.size)
  obtain ⟨F9, hD9, -, -⟩ := hh9
  have hrd := readB_d 9 (recD d7 0 7) p _ F9 w9 hD9 (by omega) (by rw [recD_size, K2.out]; omega)
  rw [K5.out] at hrd
  have hrd2 : Calls Tryz.prog 23 #[.pointer (some ⟨p, 0, none⟩), .int .i64 9] w9 fun e w' => ∃ b, e = .returned (.tuple #[.slice (some ⟨b, 0, none⟩) 256 256, .int .i64 0]) ∧ w'.cell? ⟨b, 0, none⟩ = some (.int .u8 7) ∧ Below w9.heap.size w9 w' := hrd.mono fun e w' ⟨b, h1, h2, h3⟩ => by
    refine ⟨b, h1, ?_, h3⟩
    obtain ⟨hl, hc⟩ := h2
    obtain ⟨b', off, e, hbl, hcs⟩ := hc (by omega)
    injection e with e
    injection e with e1 e2
    subst e1 e2
    have := hcs 0 (by rw [hl]; omega)
    simpa using this
  have HRD := Lib.hid hrd2; clear hrd hrd2 hD9
  have HB9 := Lib.hid hb9; clear hb9
  go_wp2_with fail
  with_reducible refine HRD.out.mono ?_
  rintro e w10 ⟨b10, rfl, hc10, hb10⟩
  clear HRD
  have HB10 := Lib.hid (HB9.out.trans (hb10.mono HB9.out.size)); clear hb10
  go_wp2
  go_ret
  exact ⟨rfl, HB10.out⟩
end Go.Proofs.YtelnoibfamcnmaaGreat.Rp
