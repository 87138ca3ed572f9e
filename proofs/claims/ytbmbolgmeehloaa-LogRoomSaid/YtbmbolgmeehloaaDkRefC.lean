/- The document's disk: a crash. -/
import Derived.Test.YtbmbolgmeehloaaDkRefF
import Derived.Test.YtbmbolgmeehloaaDkCrash
namespace Go.Proofs.Ytbmbolgmeehloaa.Disk
set_option maxRecDepth 20000
open Go.RowKit
open Go.Proofs.Ytbmbolgmeehloaa.Mem Go.Proofs.Ytbmbolgmeehloaa.Reg

theorem refBit_int (A : Option Addr) (nb c B : Nat) (i : Int) (k : Nat) (bs : List UInt8) (w : World) (hi : i = (k : Int)) (h : Holds w B A nb bs) (hm : nb ≤ maxLen) (hk : k ≤ 4398046511104) :
    Calls Try.prog 82 #[.slice A nb c, .int .i64 i] w fun e w' => e = .returned (.bool (Dk.bit bs k)) ∧ w = w' := by
  subst hi; exact refBit_any A nb c B k bs w h hm hk

theorem run_slice_sec (W : World) (a off c l : Nat) (i j : Int) (hi : i = (l : Int)) (hj : j = (l : Int) + 64) (hl : l + 64 ≤ 256) (hc : 256 ≤ c) :
    (Instr.slice 33 (.slice (some ⟨a, off, none⟩) 256 c) (some (.int .i64 i)) (some (.int .i64 j)) none).run Try.prog W = .ok (.slice (some ⟨a, off + l, none⟩) 64 (c - l)) W := by
  subst hi hj
  have h := run_slice_lh (P := Try.prog) W 33 (some ⟨a, off, none⟩) 256 c (by rw [Try.underlying33]; rfl) .i64 .i64 (l : Int) ((l : Int) + 64) (by omega) (by omega) (by omega)
  rw [h]
  have hs : (sizeOf (Try.prog.elem 33)).run Try.prog W = .ok 1 W := by rfl
  rw [hs]
  have e : ((l : Int) + 64).toNat = l + 64 := by omega
  simp [Result.andThen, sliced, show ¬ c = l by omega, Addr.add_mid, e]

theorem RefAt.bare {w : World} {r : Nat} {R : RefLow} {vb vw vg : Value} {D : Nat → Prop} (h : RefAt w r R vb vw vg D) :
    RefAt ((((w.setCell ⟨r, 1, none⟩ (.slice none 0 0)).setCell ⟨r, 2, none⟩ (.slice none 0 0)).setCell ⟨r, 3, none⟩ (.bool false)).setCell ⟨r, 4, none⟩ (.int .i64 0)) r { st := R.st, ws := [], gs := [], set := false, left := 0 } vb (.slice none 0 0) (.slice none 0 0) D ∧
    Turns (fun k => k = r) w ((((w.setCell ⟨r, 1, none⟩ (.slice none 0 0)).setCell ⟨r, 2, none⟩ (.slice none 0 0)).setCell ⟨r, 3, none⟩ (.bool false)).setCell ⟨r, 4, none⟩ (.int .i64 0)) := by
  have hT : Turns (fun k => k = r) w ((((w.setCell ⟨r, 1, none⟩ (.slice none 0 0)).setCell ⟨r, 2, none⟩ (.slice none 0 0)).setCell ⟨r, 3, none⟩ (.bool false)).setCell ⟨r, 4, none⟩ (.int .i64 0)) :=
    (((turns_cell w r 1 _).setCell (p := ⟨r, 2, none⟩) (fun _ => rfl) _).setCell (p := ⟨r, 3, none⟩) (fun _ => rfl) _).setCell (p := ⟨r, 4, none⟩) (fun _ => rfl) _
  have hap := h.apart
  refine ⟨⟨?_, h.st.turns hT (fun k hk e => hap.1 (by rw [hk, e])), World.ownsRow_nil _ _ _ _, World.ownsRow_nil _ _ _ _, h.far, fun y hy => by simp at hy⟩, hT⟩
  have h1 := heap_setCell_same w r 1 (v := Value.slice none 0 0) (hg := h.head)
  have h2 := heap_setCell_same _ r 2 (v := Value.slice none 0 0) (hg := h1)
  have h3 := heap_setCell_same _ r 3 (v := Value.bool false) (hg := h2)
  exact heap_setCell_same _ r 4 (v := Value.int .i64 0) (hg := h3)

def RefLow.torn (R : RefLow) (bits : List UInt8) (k s : Nat) : RefLow := { R with st := tearL bits k ((R.ws.map WrAt.plain).getD k (0, [])) (crashL bits (R.ws.map WrAt.plain) R.st k) s }
def RefLow.crashed (R : RefLow) (bits : List UInt8) (k : Nat) : RefLow := { R with st := crashL bits (R.ws.map WrAt.plain) R.st k }
set_option maxRecDepth 100000 in
set_option maxHeartbeats 2000000 in
theorem refCrash_any (A : Option Addr) (nb c B : Nat) (bits : List UInt8) (R : RefLow) (r n : Nat) (vb vw vg : Value) (D : Nat → Prop) (w : World) (h : RefAt w r R vb vw vg D) (hn : R.st.length = 256 * n) (h0 : 0 < n) (hm : n ≤ 1024) (hx : ∀ x ∈ R.ws, x.blk < n) (hfew : R.ws.length ≤ 1048576)
    (hbits : ∀ w', Turns (fun k => k = r ∨ vb.ownBlock = some k) w w' → Holds w' B A nb bits) (hnb : nb ≤ maxLen) (hD : ∀ k, D k → vb.ownBlock ≠ some k) :
    Calls Try.prog 53 #[.pointer (some ⟨r, 0, none⟩), .slice A nb c] w fun e w' =>
      e = .returned (.tuple #[]) ∧ RefAt w' r { st := (R.crashed bits R.ws.length).st, ws := [], gs := [], set := false, left := 0 } vb (.slice none 0 0) (.slice none 0 0) D ∧ Turns (fun k => k = r ∨ vb.ownBlock = some k) w w' := by
  have HN := Lib.hid hn; clear hn
  have HX := Lib.hid hx; clear hx
  have HBI := Lib.hid hbits; clear hbits
  have H := Lib.hid h; clear h
  have hrl : r < w.heap.size := H.out.lt
  go_enter Try.func53, Try.ntmps53
  go_wp2
  go_loopw [4, 5] (fun i _ wr => ∃ k : Nat, k ≤ R.ws.length ∧ i = .int .i64 k ∧ RefAt wr r (R.crashed bits k) vb vw vg D ∧ Turns (fun k => k = r ∨ vb.ownBlock = some k) w wr) (fun i _ _ => R.ws.length - (intOf i).toNat)
  case atStart => exact ⟨0, by omega, rfl, H.out, Turns.refl _ _⟩
  case round =>
    obtain ⟨k, hk, rfl, hR, hT⟩ := hrel
    have c1 : wr.cell? ⟨r, 1, none⟩ = some vw := cell_of_row wr r 1 _ _ _ hR.head
    obtain ⟨vwA, vwc, hvw⟩ : ∃ A c, vw = .slice A R.ws.length c := by
      rcases hR.ws.2 with ⟨e, e0⟩ | ⟨g, cap, cur, e, _⟩
      · exact ⟨none, 0, by rw [e]; congr 1; exact e0.symm⟩
      · exact ⟨_, _, e⟩
    rw [hvw] at c1
    have HVW := Lib.hid hvw; clear hvw
    have HR := Lib.hid hR; clear hR
    have HT := Lib.hid hT; clear hT
    have hk0 : (0 : Int) ≤ (k : Int) := by omega
    by_cases hlt : k < R.ws.length
    · have hkn : (k : Int) < (R.ws.length : Int) := by omega
      obtain ⟨x, hxk⟩ : ∃ x, R.ws[k]? = some x := ⟨_, List.getElem?_eq_getElem hlt⟩
      have hxn : x.blk < n := HX.out x (List.mem_of_getElem? hxk)
      have hgx : (R.ws.map WrAt.plain).getD k (0, []) = x.plain := by rw [List.getD_eq_getElem?_getD, List.getElem?_map, hxk]; rfl
      have hstc : (crashL bits (R.ws.map WrAt.plain) R.st k).length = 256 * n := crashL_len bits (R.ws.map WrAt.plain) R.st n HN.out (fun y hy => by
        obtain ⟨z, hz, rfl⟩ := List.mem_map.1 hy
        exact ⟨HX.out z hz, (H.out.data z (by simp [hz])).1.1⟩) k (by rw [List.length_map]; omega)
      have hxl : x.data.length = 256 := (H.out.data x (by simp [List.mem_of_getElem? hxk])).1.1
      have hsts : ∀ s, s ≤ 4 → (R.torn bits k s).st.length = 256 * n := fun s hs => by
        show (tearL bits k ((R.ws.map WrAt.plain).getD k (0, [])) (crashL bits (R.ws.map WrAt.plain) R.st k) s).length = _
        rw [hgx]
        exact tearL_len bits k x.plain _ n hstc hxn hxl s hs
      have HGX := Lib.hid hgx; clear hgx
      have HST := Lib.hid hsts; clear hsts hstc
      have HXK := Lib.hid hxk; clear hxk
      have HXL := Lib.hid hxl; clear hxl
      go_wp2
      clear c1
      go_loopw [5] (fun i wr => ∃ s : Nat, s ≤ 4 ∧ i = .int .i64 s ∧ RefAt wr r (R.torn bits k s) vb vw vg D ∧ Turns (fun k => k = r ∨ vb.ownBlock = some k) w wr) (fun i _ => 4 - (intOf i).toNat)
      case atStart => exact ⟨0, by omega, rfl, HR.out, HT.out⟩
      case round =>
        clear HR HT
        obtain ⟨s, hs, rfl, hR, hT⟩ := hrel
        have c1 : wr.cell? ⟨r, 1, none⟩ = some vw := cell_of_row wr r 1 _ _ _ hR.head
        rw [HVW.out] at c1
        have HR := Lib.hid hR; clear hR
        have HT := Lib.hid hT; clear hT
        have hs0 : (0 : Int) ≤ (s : Int) := by omega
        by_cases hlt4 : s < 4
        · have hsn : (s : Int) < 4 := by omega
          have w1e : IntKind.i64.wrap (4 * (k : Int)) = 4 * (k : Int) := IntWalk.i64_in _ (by omega)
          have w2e : IntKind.i64.wrap (4 * (k : Int) + (s : Int)) = 4 * (k : Int) + (s : Int) := IntWalk.i64_in _ (by omega)
          have HBT := Lib.hid (refBit_int A nb c B (4 * (k : Int) + (s : Int)) (4 * k + s) bits wr (by omega) (HBI.out wr HT.out) hnb (by omega))
          go_wp2_with fail
          with_reducible refine HBT.out.mono ?_
          clear HBT
          rintro e w' ⟨rfl, hww⟩
          subst hww
          cases hbit : Dk.bit bits (4 * k + s)
          · have hnx : R.torn bits k (s + 1) = R.torn bits k s := by
              unfold RefLow.torn; show ({ R with st := if Dk.bit bits (4 * k + s) = true then _ else _ } : RefLow) = _
              rw [hbit]; rfl
            have HNX := Lib.hid hnx; clear hnx hbit
            go_wp2
            go_roundw
            case rel => exact ⟨s + 1, by omega, by go_num, by rw [HNX.out]; exact HR.out, HT.out⟩
            case measure => simp [intOf]; omega
          · have hnx : (R.torn bits k s).lay x s (s + 1) = R.torn bits k (s + 1) := by
              unfold RefLow.lay RefLow.torn
              show ({ R with st := Disk.laid (tearL bits k ((R.ws.map WrAt.plain).getD k (0, [])) (crashL bits (R.ws.map WrAt.plain) R.st k) s) x.plain s (s + 1) } : RefLow) = { R with st := if Dk.bit bits (4 * k + s) = true then _ else _ }
              rw [hbit, HGX.out]; rfl
            obtain ⟨g, cap, bw, cw, a, off, cur, hs'⟩ := HR.out.spot (HST.out s hs) h0 (show (R.torn bits k s).ws[k]? = some x from HXK.out)
            have hfin := HR.out.laid (HST.out s hs) hs' hxn (show s < s + 1 by omega) (show s + 1 ≤ 4 by omega) hD
            rw [hnx] at hfin
            clear hnx hbit
            have hvw2 : Value.slice vwA R.ws.length vwc = .slice (some ⟨bw, 0, none⟩) R.ws.length cw := by rw [← HVW.out]; exact hs'.ew
            injection hvw2 with d1 d2 d3
            clear d2
            subst d1 d3
            have hN256 : 256 * n ≤ 262144 := by omega
            have hcap := hs'.fit
            unfold maxLen at hcap
            have hroom := hs'.room
            obtain ⟨p, hp⟩ : ∃ p, p = x.blk * 256 + s * 64 := ⟨_, rfl⟩
            have hpn : p + 64 ≤ 256 * n := by omega
            have e1 : IntKind.i64.wrap ((x.blk : Int) * 256) = (x.blk : Int) * 256 := IntWalk.i64_in _ (by omega)
            have e2 : IntKind.i64.wrap ((s : Int) * 64) = (s : Int) * 64 := IntWalk.i64_in _ (by omega)
            have e3 : IntKind.i64.wrap ((x.blk : Int) * 256 + (s : Int) * 64) = (p : Int) := by rw [IntWalk.i64_in _ (by omega)]; omega
            have e4 : IntKind.i64.wrap ((s : Int) * 64 + 64) = (s : Int) * 64 + 64 := IntWalk.i64_in _ (by omega)
            have q1 := fun W => run_slice_from W g (256 * n) cap p (p : Int) rfl (by omega) hcap.1
            have q2 := fun W => run_slice_sec W a off x.c (s * 64) ((s : Int) * 64) ((s : Int) * 64 + 64) (by omega) (by omega) (by omega) hroom.1
            have t0 := hs'.h0
            rw [hs'.eb] at t0
            have t2 := hs'.num
            have t3 := hs'.slc
            have HS := Lib.hid hs'; clear hs'
            have HF := Lib.hid hfin; clear hfin
            obtain ⟨V, hV⟩ : ∃ V, V = wr.drew.setRow g (splice cur.toList (x.blk * 256 + s * 64) (piece x s (s + 1))).toArray := ⟨_, rfl⟩
            have hk0' : V.cell? ⟨r, 0, none⟩ = some (.slice (some ⟨g, 0, none⟩) (256 * n) cap) := by rw [hV]; exact (World.cell?_of_block (w := wr) (setRow_other wr.drew g r _ HS.out.ne2)).trans t0
            have hk1' : V.cell? ⟨r, 1, none⟩ = some (.slice (some ⟨bw, 0, none⟩) R.ws.length vwc) := by rw [hV]; exact (World.cell?_of_block (w := wr) (setRow_other wr.drew g r _ HS.out.ne2)).trans c1
            have hk2' : V.cell? ⟨bw, k * 2, none⟩ = some (.int .i64 (x.blk : Int)) := by rw [hV]; exact (World.cell?_of_block (w := wr) (setRow_other wr.drew g bw _ HS.out.ne1)).trans t2
            have hk3' : V.cell? ⟨bw, k * 2 + 1, none⟩ = some (.slice (some ⟨a, off, none⟩) 256 x.c) := by rw [hV]; exact (World.cell?_of_block (w := wr) (setRow_other wr.drew g bw _ HS.out.ne1)).trans t3
            have hpl0 := piece_len x s (s + 1) HS.out.len (by omega) (by omega)
            have hpl : (piece x s (s + 1)).length = 64 := by rw [hpl0]; omega
            have hmin : (piece x s (s + 1)).length = Nat.min 64 (256 * n - p) := by rw [hpl]; exact (Nat.min_eq_left (by omega)).symm
            have hfit : p + (piece x s (s + 1)).length ≤ cur.size := by rw [hpl, hcap.2.2]; omega
            have hsrc := piece_src x s (s + 1) HS.out.src
            have hrow : wr.drew.heap[g]? = some (.cells cur 5 (0, 0)) := HS.out.row
            have HROW := Lib.hid hrow; clear hrow
            have HSRC := Lib.hid hsrc; clear hsrc
            have HMIN := Lib.hid hmin; clear hmin
            have HFIT := Lib.hid hfit; clear hfit
            rw [← hp] at hV
            have HP := Lib.hid hp; clear hp hpl hpl0 hroom
            have HK : Hid (V.cell? ⟨r, 0, none⟩ = some (.slice (some ⟨g, 0, none⟩) (256 * n) cap) ∧ V.cell? ⟨r, 1, none⟩ = some (.slice (some ⟨bw, 0, none⟩) R.ws.length vwc) ∧ V.cell? ⟨bw, k * 2, none⟩ = some (.int .i64 (x.blk : Int)) ∧ V.cell? ⟨bw, k * 2 + 1, none⟩ = some (.slice (some ⟨a, off, none⟩) 256 x.c)) := Lib.hid ⟨hk0', hk1', hk2', hk3'⟩
            have HV := Lib.hid hV; clear hV hk0' hk1' hk2' hk3' w1e w2e
            go_wp2
            go_region_held_law (fun (U : World) => U.cell? ⟨r, 0, none⟩ = some (.slice (some ⟨g, 0, none⟩) (256 * n) cap) ∧ U.cell? ⟨r, 1, none⟩ = some (.slice (some ⟨bw, 0, none⟩) R.ws.length vwc) ∧ U.cell? ⟨bw, k * 2, none⟩ = some (.int .i64 (x.blk : Int)) ∧ U.cell? ⟨bw, k * 2 + 1, none⟩ = some (.slice (some ⟨a, off, none⟩) 256 x.c)) (first | go_keep | exact HK.out)
              ((refine step_copy_row rfl (.tmp 41) (.tmp 55) 33 33 rfl 5 Try.underlying33 info_byte g p _ _ ⟨a, off + s * 64, none⟩ 64 _ rfl rfl cur 5 HROW.out (piece x s (s + 1)) HMIN.out HSRC.out HFIT.out (piece_one x s (s + 1)) ?_
                rw [show wr.drew.setRow g (splice cur.toList p (piece x s (s + 1))).toArray = V from HV.out.symm]))
            go_wp2
            go_roundw
            case rel => exact ⟨s + 1, by omega, by go_num, by rw [HV.out, HP.out]; exact HF.out.1, by rw [HV.out, HP.out]; exact HT.out.trans HF.out.2 (fun _ _ e => .inr e)⟩
            case measure => simp [intOf]; omega
        · obtain rfl : s = 4 := by omega
          go_wp2
          go_roundw
          case rel => exact ⟨k + 1, by omega, by go_num, HR.out, HT.out⟩
          case measure => simp [intOf]; omega
    · obtain rfl : k = R.ws.length := by omega
      have d2 : wr.cell? ⟨r, 2, none⟩ = some vg := cell_of_row wr r 2 _ _ _ HR.out.head
      have d3 := HR.out.f3
      have d4 := HR.out.f4
      have f1 := frozen_of_row wr r 1 _ _ HR.out.head
      have f2 := frozen_of_row wr r 2 _ _ HR.out.head
      have f3 := frozen_of_row wr r 3 _ _ HR.out.head
      have f4 := frozen_of_row wr r 4 _ _ HR.out.head
      go_wp2
      go_end0
      have hb := HR.out.bare
      exact ⟨rfl, hb.1, HT.out.trans hb.2 (fun _ _ e => .inl e)⟩
end Go.Proofs.Ytbmbolgmeehloaa.Disk
