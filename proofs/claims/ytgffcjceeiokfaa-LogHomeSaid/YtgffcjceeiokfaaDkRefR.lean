/- The document's disk: a block read, the image. -/
import Derived.Test.YtgffcjceeiokfaaDkRefF
import Derived.Test.YtgffcjceeiokfaaDkCrash
import Derived.Test.YtgffcjceeiokfaaDkRead
namespace Go.Proofs.Ytgffcjceeiokfaa.Disk
set_option maxRecDepth 20000
open Go.RowKit
open Go.Proofs.Ytgffcjceeiokfaa.Mem Go.Proofs.Ytgffcjceeiokfaa.Reg

theorem refBit_int (A : Option Addr) (nb c B : Nat) (i : Int) (k : Nat) (bs : List UInt8) (w : World) (hi : i = (k : Int)) (h : Holds w B A nb bs) (hm : nb ≤ maxLen) (hk : k ≤ 4398046511104) :
    Calls Try.prog 97 #[.slice A nb c, .int .i64 i] w fun e w' => e = .returned (.bool (Dk.bit bs k)) ∧ w = w' := by
  subst hi; exact refBit_any A nb c B k bs w h hm hk

theorem run_slice_sec (W : World) (a off c l : Nat) (i j : Int) (hi : i = (l : Int)) (hj : j = (l : Int) + 64) (hl : l + 64 ≤ 256) (hc : 256 ≤ c) :
    (Instr.slice 33 (.slice (some ⟨a, off, none⟩) 256 c) (some (.int .i64 i)) (some (.int .i64 j)) none).run Try.prog W = .ok (.slice (some ⟨a, off + l, none⟩) 64 (c - l)) W := by
  subst hi hj
  have h := run_slice_lh (P := Try.prog) W 33 (some ⟨a, off, none⟩) 256 c (by rw [Try.underlying33]; rfl) .i64 .i64 (l : Int) ((l : Int) + 64) (by omega) (by omega) (by omega)
  rw [h]
  have hs : (sizeOf (Try.prog.elem 33)).run Try.prog W = .ok 1 W := by rfl
  rw [hs]
  have e : ((l : Int) + 64).toNat = l + 64 := by omega
  simp [Result.andThen, sliced, show ¬ c = l by omega, Addr.add_mid, e]

theorem RefAt.bare {w : World} {r : Nat} {R : RefLow} {vb vw vg : Value} {D : Nat → Prop} (h : RefAt w r R vb vw vg D) :
    RefAt ((((w.setCell ⟨r, 1, none⟩ (.slice none 0 0)).setCell ⟨r, 2, none⟩ (.slice none 0 0)).setCell ⟨r, 3, none⟩ (.bool false)).setCell ⟨r, 4, none⟩ (.int .i64 0)) r { st := R.st, ws := [], gs := [], set := false, left := 0 } vb (.slice none 0 0) (.slice none 0 0) D ∧
    Turns (fun k => k = r) w ((((w.setCell ⟨r, 1, none⟩ (.slice none 0 0)).setCell ⟨r, 2, none⟩ (.slice none 0 0)).setCell ⟨r, 3, none⟩ (.bool false)).setCell ⟨r, 4, none⟩ (.int .i64 0)) := by
  have hT : Turns (fun k => k = r) w ((((w.setCell ⟨r, 1, none⟩ (.slice none 0 0)).setCell ⟨r, 2, none⟩ (.slice none 0 0)).setCell ⟨r, 3, none⟩ (.bool false)).setCell ⟨r, 4, none⟩ (.int .i64 0)) :=
    (((turns_cell w r 1 _).setCell (p := ⟨r, 2, none⟩) (fun _ => rfl) _).setCell (p := ⟨r, 3, none⟩) (fun _ => rfl) _).setCell (p := ⟨r, 4, none⟩) (fun _ => rfl) _
  have hap := h.apart
  refine ⟨⟨?_, h.st.turns hT (fun k hk e => hap.1 (by rw [hk, e])), World.ownsRow_nil _ _ _ _, World.ownsRow_nil _ _ _ _, h.far, fun y hy => by simp at hy⟩, hT⟩
  have h1 := heap_setCell_same w r 1 (v := Value.slice none 0 0) (hg := h.head)
  have h2 := heap_setCell_same _ r 2 (v := Value.slice none 0 0) (hg := h1)
  have h3 := heap_setCell_same _ r 3 (v := Value.bool false) (hg := h2)
  exact heap_setCell_same _ r 4 (v := Value.int .i64 0) (hg := h3)

def RefLow.torn (R : RefLow) (bits : List UInt8) (k s : Nat) : RefLow := { R with st := tearL bits k ((R.ws.map WrAt.plain).getD k (0, [])) (crashL bits (R.ws.map WrAt.plain) R.st k) s }
def RefLow.crashed (R : RefLow) (bits : List UInt8) (k : Nat) : RefLow := { R with st := crashL bits (R.ws.map WrAt.plain) R.st k }
set_option maxRecDepth 100000 in
set_option maxHeartbeats 2000000 in
theorem refCrash_any (A : Option Addr) (nb c B : Nat) (bits : List UInt8) (R : RefLow) (r n : Nat) (vb vw vg : Value) (D : Nat → Prop) (w : World) (h : RefAt w r R vb vw vg D) (hn : R.st.length = 256 * n) (h0 : 0 < n) (hm : n ≤ 1024) (hx : ∀ x ∈ R.ws, x.blk < n) (hfew : R.ws.length ≤ 1048576)
    (hbits : ∀ w', Turns (fun k => k = r ∨ vb.ownBlock = some k) w w' → Holds w' B A nb bits) (hnb : nb ≤ maxLen) (hD : ∀ k, D k → vb.ownBlock ≠ some k) :
    Calls Try.prog 62 #[.pointer (some ⟨r, 0, none⟩), .slice A nb c] w fun e w' =>
      e = .returned (.tuple #[]) ∧ RefAt w' r { st := (R.crashed bits R.ws.length).st, ws := [], gs := [], set := false, left := 0 } vb (.slice none 0 0) (.slice none 0 0) D ∧ Turns (fun k => k = r ∨ vb.ownBlock = some k) w w' := by
  have HN := Lib.hid hn; clear hn
  have HX := Lib.hid hx; clear hx
  have HBI := Lib.hid hbits; clear hbits
  have H := Lib.hid h; clear h
  have hrl : r < w.heap.size := H.out.lt
  go_enter Try.func62, Try.ntmps62
  go_wp2
  go_loopw [4, 5] (fun i _ wr => ∃ k : Nat, k ≤ R.ws.length ∧ i = .int .i64 k ∧ RefAt wr r (R.crashed bits k) vb vw vg D ∧ Turns (fun k => k = r ∨ vb.ownBlock = some k) w wr) (fun i _ _ => R.ws.length - (intOf i).toNat)
  case atStart => exact ⟨0, by omega, rfl, H.out, Turns.refl _ _⟩
  case round =>
    obtain ⟨k, hk, rfl, hR, hT⟩ := hrel
    have c1 : wr.cell? ⟨r, 1, none⟩ = some vw := cell_of_row wr r 1 _ _ _ hR.head
    obtain ⟨vwA, vwc, hvw⟩ : ∃ A c, vw = .slice A R.ws.length c := by
      rcases hR.ws.2 with ⟨e, e0⟩ | ⟨g, cap, cur, e, _⟩
      · exact ⟨none, 0, by rw [e]; congr 1; exact e0.symm⟩
      · exact ⟨_, _, e⟩
    rw [hvw] at c1
    have HVW := Lib.hid hvw; clear hvw
    have HR := Lib.hid hR; clear hR
    have HT := Lib.hid hT; clear hT
    have hk0 : (0 : Int) ≤ (k : Int) := by omega
    by_cases hlt : k < R.ws.length
    · have hkn : (k : Int) < (R.ws.length : Int) := by omega
      obtain ⟨x, hxk⟩ : ∃ x, R.ws[k]? = some x := ⟨_, List.getElem?_eq_getElem hlt⟩
      have hxn : x.blk < n := HX.out x (List.mem_of_getElem? hxk)
      have hgx : (R.ws.map WrAt.plain).getD k (0, []) = x.plain := by rw [List.getD_eq_getElem?_getD, List.getElem?_map, hxk]; rfl
      have hstc : (crashL bits (R.ws.map WrAt.plain) R.st k).length = 256 * n := crashL_len bits (R.ws.map WrAt.plain) R.st n HN.out (fun y hy => by
        obtain ⟨z, hz, rfl⟩ := List.mem_map.1 hy
        exact ⟨HX.out z hz, (H.out.data z (by simp [hz])).1.1⟩) k (by rw [List.length_map]; omega)
      have hxl : x.data.length = 256 := (H.out.data x (by simp [List.mem_of_getElem? hxk])).1.1
      have hsts : ∀ s, s ≤ 4 → (R.torn bits k s).st.length = 256 * n := fun s hs => by
        show (tearL bits k ((R.ws.map WrAt.plain).getD k (0, [])) (crashL bits (R.ws.map WrAt.plain) R.st k) s).length = _
        rw [hgx]
        exact tearL_len bits k x.plain _ n hstc hxn hxl s hs
      have HGX := Lib.hid hgx; clear hgx
      have HST := Lib.hid hsts; clear hsts hstc
      have HXK := Lib.hid hxk; clear hxk
      have HXL := Lib.hid hxl; clear hxl
      go_wp2
      clear c1
      go_loopw [5] (fun i wr => ∃ s : Nat, s ≤ 4 ∧ i = .int .i64 s ∧ RefAt wr r (R.torn bits k s) vb vw vg D ∧ Turns (fun k => k = r ∨ vb.ownBlock = some k) w wr) (fun i _ => 4 - (intOf i).toNat)
      case atStart => exact ⟨0, by omega, rfl, HR.out, HT.out⟩
      case round =>
        clear HR HT
        obtain ⟨s, hs, rfl, hR, hT⟩ := hrel
        have c1 : wr.cell? ⟨r, 1, none⟩ = some vw := cell_of_row wr r 1 _ _ _ hR.head
        rw [HVW.out] at c1
        have HR := Lib.hid hR; clear hR
        have HT := Lib.hid hT; clear hT
        have hs0 : (0 : Int) ≤ (s : Int) := by omega
        by_cases hlt4 : s < 4
        · have hsn : (s : Int) < 4 := by omega
          have w1e : IntKind.i64.wrap (4 * (k : Int)) = 4 * (k : Int) := IntWalk.i64_in _ (by omega)
          have w2e : IntKind.i64.wrap (4 * (k : Int) + (s : Int)) = 4 * (k : Int) + (s : Int) := IntWalk.i64_in _ (by omega)
          have HBT := Lib.hid (refBit_int A nb c B (4 * (k : Int) + (s : Int)) (4 * k + s) bits wr (by omega) (HBI.out wr HT.out) hnb (by omega))
          go_wp2_with fail
          with_reducible refine HBT.out.mono ?_
          clear HBT
          rintro e w' ⟨rfl, hww⟩
          subst hww
          cases hbit : Dk.bit bits (4 * k + s)
          · have hnx : R.torn bits k (s + 1) = R.torn bits k s := by
              unfold RefLow.torn; show ({ R with st := if Dk.bit bits (4 * k + s) = true then _ else _ } : RefLow) = _
              rw [hbit]; rfl
            have HNX := Lib.hid hnx; clear hnx hbit
            go_wp2
            go_roundw
            case rel => exact ⟨s + 1, by omega, by go_num, by rw [HNX.out]; exact HR.out, HT.out⟩
            case measure => simp [intOf]; omega
          · have hnx : (R.torn bits k s).lay x s (s + 1) = R.torn bits k (s + 1) := by
              unfold RefLow.lay RefLow.torn
              show ({ R with st := Disk.laid (tearL bits k ((R.ws.map WrAt.plain).getD k (0, [])) (crashL bits (R.ws.map WrAt.plain) R.st k) s) x.plain s (s + 1) } : RefLow) = { R with st := if Dk.bit bits (4 * k + s) = true then _ else _ }
              rw [hbit, HGX.out]; rfl
            obtain ⟨g, cap, bw, cw, a, off, cur, hs'⟩ := HR.out.spot (HST.out s hs) h0 (show (R.torn bits k s).ws[k]? = some x from HXK.out)
            have hfin := HR.out.laid (HST.out s hs) hs' hxn (show s < s + 1 by omega) (show s + 1 ≤ 4 by omega) hD
            rw [hnx] at hfin
            clear hnx hbit
            have hvw2 : Value.slice vwA R.ws.length vwc = .slice (some ⟨bw, 0, none⟩) R.ws.length cw := by rw [← HVW.out]; exact hs'.ew
            injection hvw2 with d1 d2 d3
            clear d2
            subst d1 d3
            have hN256 : 256 * n ≤ 262144 := by omega
            have hcap := hs'.fit
            unfold maxLen at hcap
            have hroom := hs'.room
            obtain ⟨p, hp⟩ : ∃ p, p = x.blk * 256 + s * 64 := ⟨_, rfl⟩
            have hpn : p + 64 ≤ 256 * n := by omega
            have e1 : IntKind.i64.wrap ((x.blk : Int) * 256) = (x.blk : Int) * 256 := IntWalk.i64_in _ (by omega)
            have e2 : IntKind.i64.wrap ((s : Int) * 64) = (s : Int) * 64 := IntWalk.i64_in _ (by omega)
            have e3 : IntKind.i64.wrap ((x.blk : Int) * 256 + (s : Int) * 64) = (p : Int) := by rw [IntWalk.i64_in _ (by omega)]; omega
            have e4 : IntKind.i64.wrap ((s : Int) * 64 + 64) = (s : Int) * 64 + 64 := IntWalk.i64_in _ (by omega)
            have q1 := fun W => run_slice_from W g (256 * n) cap p (p : Int) rfl (by omega) hcap.1
            have q2 := fun W => run_slice_sec W a off x.c (s * 64) ((s : Int) * 64) ((s : Int) * 64 + 64) (by omega) (by omega) (by omega) hroom.1
            have t0 := hs'.h0
            rw [hs'.eb] at t0
            have t2 := hs'.num
            have t3 := hs'.slc
            have HS := Lib.hid hs'; clear hs'
            have HF := Lib.hid hfin; clear hfin
            obtain ⟨V, hV⟩ : ∃ V, V = wr.drew.setRow g (splice cur.toList (x.blk * 256 + s * 64) (piece x s (s + 1))).toArray := ⟨_, rfl⟩
            have hk0' : V.cell? ⟨r, 0, none⟩ = some (.slice (some ⟨g, 0, none⟩) (256 * n) cap) := by rw [hV]; exact (World.cell?_of_block (w := wr) (setRow_other wr.drew g r _ HS.out.ne2)).trans t0
            have hk1' : V.cell? ⟨r, 1, none⟩ = some (.slice (some ⟨bw, 0, none⟩) R.ws.length vwc) := by rw [hV]; exact (World.cell?_of_block (w := wr) (setRow_other wr.drew g r _ HS.out.ne2)).trans c1
            have hk2' : V.cell? ⟨bw, k * 2, none⟩ = some (.int .i64 (x.blk : Int)) := by rw [hV]; exact (World.cell?_of_block (w := wr) (setRow_other wr.drew g bw _ HS.out.ne1)).trans t2
            have hk3' : V.cell? ⟨bw, k * 2 + 1, none⟩ = some (.slice (some ⟨a, off, none⟩) 256 x.c) := by rw [hV]; exact (World.cell?_of_block (w := wr) (setRow_other wr.drew g bw _ HS.out.ne1)).trans t3
            have hpl0 := piece_len x s (s + 1) HS.out.len (by omega) (by omega)
            have hpl : (piece x s (s + 1)).length = 64 := by rw [hpl0]; omega
            have hmin : (piece x s (s + 1)).length = Nat.min 64 (256 * n - p) := by rw [hpl]; exact (Nat.min_eq_left (by omega)).symm
            have hfit : p + (piece x s (s + 1)).length ≤ cur.size := by rw [hpl, hcap.2.2]; omega
            have hsrc := piece_src x s (s + 1) HS.out.src
            have hrow : wr.drew.heap[g]? = some (.cells cur 5 (0, 0)) := HS.out.row
            have HROW := Lib.hid hrow; clear hrow
            have HSRC := Lib.hid hsrc; clear hsrc
            have HMIN := Lib.hid hmin; clear hmin
            have HFIT := Lib.hid hfit; clear hfit
            rw [← hp] at hV
            have HP := Lib.hid hp; clear hp hpl hpl0 hroom
            have HK : Hid (V.cell? ⟨r, 0, none⟩ = some (.slice (some ⟨g, 0, none⟩) (256 * n) cap) ∧ V.cell? ⟨r, 1, none⟩ = some (.slice (some ⟨bw, 0, none⟩) R.ws.length vwc) ∧ V.cell? ⟨bw, k * 2, none⟩ = some (.int .i64 (x.blk : Int)) ∧ V.cell? ⟨bw, k * 2 + 1, none⟩ = some (.slice (some ⟨a, off, none⟩) 256 x.c)) := Lib.hid ⟨hk0', hk1', hk2', hk3'⟩
            have HV := Lib.hid hV; clear hV hk0' hk1' hk2' hk3' w1e w2e
            go_wp2
            go_region_held_law (fun (U : World) => U.cell? ⟨r, 0, none⟩ = some (.slice (some ⟨g, 0, none⟩) (256 * n) cap) ∧ U.cell? ⟨r, 1, none⟩ = some (.slice (some ⟨bw, 0, none⟩) R.ws.length vwc) ∧ U.cell? ⟨bw, k * 2, none⟩ = some (.int .i64 (x.blk : Int)) ∧ U.cell? ⟨bw, k * 2 + 1, none⟩ = some (.slice (some ⟨a, off, none⟩) 256 x.c)) (first | go_keep | exact HK.out)
              ((refine step_copy_row rfl (.tmp 41) (.tmp 55) 33 33 rfl 5 Try.underlying33 info_byte g p _ _ ⟨a, off + s * 64, none⟩ 64 _ rfl rfl cur 5 HROW.out (piece x s (s + 1)) HMIN.out HSRC.out HFIT.out (piece_one x s (s + 1)) ?_
                rw [show wr.drew.setRow g (splice cur.toList p (piece x s (s + 1))).toArray = V from HV.out.symm]))
            go_wp2
            go_roundw
            case rel => exact ⟨s + 1, by omega, by go_num, by rw [HV.out, HP.out]; exact HF.out.1, by rw [HV.out, HP.out]; exact HT.out.trans HF.out.2 (fun _ _ e => .inr e)⟩
            case measure => simp [intOf]; omega
        · obtain rfl : s = 4 := by omega
          go_wp2
          go_roundw
          case rel => exact ⟨k + 1, by omega, by go_num, HR.out, HT.out⟩
          case measure => simp [intOf]; omega
    · obtain rfl : k = R.ws.length := by omega
      have d2 : wr.cell? ⟨r, 2, none⟩ = some vg := cell_of_row wr r 2 _ _ _ HR.out.head
      have d3 := HR.out.f3
      have d4 := HR.out.f4
      have f1 := frozen_of_row wr r 1 _ _ HR.out.head
      have f2 := frozen_of_row wr r 2 _ _ HR.out.head
      have f3 := frozen_of_row wr r 3 _ _ HR.out.head
      have f4 := frozen_of_row wr r 4 _ _ HR.out.head
      go_wp2
      go_end0
      have hb := HR.out.bare
      exact ⟨rfl, hb.1, HT.out.trans hb.2 (fun _ _ e => .inl e)⟩
end Go.Proofs.Ytgffcjceeiokfaa.Disk

namespace Go.Proofs.Ytgffcjceeiokfaa.Disk
set_option maxRecDepth 20000
open Go.RowKit
open Go.Proofs.Ytgffcjceeiokfaa.Mem Go.Proofs.Ytgffcjceeiokfaa.Reg

theorem row_write {w : World} {v : Value} {l : List WrAt} {k : Nat} {x : WrAt} (h : Row w 83 2 v l.length (l.flatMap WrAt.cells)) (hx : l[k]? = some x) :
    ∃ bw cw, v = .slice (some ⟨bw, 0, none⟩) l.length cw ∧ w.cell? ⟨bw, k * 2, none⟩ = some (.int .i64 (x.blk : Int)) ∧ w.cell? ⟨bw, k * 2 + 1, none⟩ = some (.slice x.A 256 x.c) := by
  have hk := (List.getElem?_eq_some_iff.1 hx).1
  obtain ⟨bw, cw, curw, hvw, hgw, hw1, hw2, hw3, hw4⟩ := h.cut (by omega)
  obtain ⟨q1, q2⟩ := flat_cells l k x hx
  have hlen := WrAt.cells_len l
  have hcell : ∀ j u, (l.flatMap WrAt.cells)[j]? = some u → w.cell? ⟨bw, j, none⟩ = some u := fun j u hu => by
    rw [cell_of_row _ _ _ _ _ _ hgw]
    have hj := (List.getElem?_eq_some_iff.1 hu).1
    rw [← hw4, List.getElem?_take, if_pos (by omega)] at hu
    simpa using hu
  exact ⟨bw, cw, hvw, hcell _ _ q1, hcell _ _ q2⟩

/-- What is read of a block. -/
def readR (R : RefLow) (i : Nat) : List UInt8 := Dk.last (Dk.last ((R.st.drop (i * 256)).take 256) (R.ws.map WrAt.plain) i) (R.gs.map WrAt.plain) i

/-- The block's bytes so far: where they lie. -/
def Lies (w : World) (v : Value) (bs : List UInt8) : Prop := ∃ b o c, v = .slice (some ⟨b, o, none⟩) 256 c ∧ b < w.heap.size ∧ w.rangeAt b o (bs.map byteV) ∧ bs.length = 256 ∧ 256 ≤ c ∧ c ≤ maxLen

theorem run_slice_blk (W : World) (g N c l : Nat) (i j : Int) (hi : i = (l : Int)) (hj : j = (l : Int) + 256) (hl : l + 256 ≤ N) (hc : N ≤ c) :
    (Instr.slice 33 (.slice (some ⟨g, 0, none⟩) N c) (some (.int .i64 i)) (some (.int .i64 j)) none).run Try.prog W = .ok (.slice (some ⟨g, l, none⟩) 256 (c - l)) W := by
  subst hi hj
  have h := run_slice_lh (P := Try.prog) W 33 (some ⟨g, 0, none⟩) N c (by rw [Try.underlying33]; rfl) .i64 .i64 (l : Int) ((l : Int) + 256) (by omega) (by omega) (by omega)
  rw [h]
  have hs : (sizeOf (Try.prog.elem 33)).run Try.prog W = .ok 1 W := by rfl
  rw [hs]
  have e : ((l : Int) + 256).toNat = l + 256 := by omega
  simp [Result.andThen, sliced, show ¬ c = l by omega, Addr.add_mid, e]

set_option maxRecDepth 100000 in
set_option maxHeartbeats 2000000 in
theorem refRead_some (i n : Nat) (R : RefLow) (r : Nat) (vb vw vg : Value) (D : Nat → Prop) (w : World) (h : RefAt w r R vb vw vg D) (hn : R.st.length = 256 * n) (hm : n ≤ 1024) (hi : i < n) (hfw : R.ws.length ≤ 1048576) (hfg : R.gs.length ≤ 1048576) :
    Calls Try.prog 21 #[.pointer (some ⟨r, 0, none⟩), .int .i64 (i : Int)] w fun e w' => ∃ v, e = .returned (.tuple #[v, .int .i64 0]) ∧ Owned w' w.heap.size v (readR R i) ∧ Below w.heap.size w w' := by
  have HN := Lib.hid hn; clear hn
  have h0 : ¬ (i : Int) < 0 := by omega
  have h1 : ¬ (n : Int) ≤ (i : Int) := by omega
  have h1d : decide ((n : Int) ≤ (i : Int)) = false := decide_eq_false h1
  have h1n : decide (n ≤ i) = false := decide_eq_false (by omega)
  obtain ⟨g, cap, cur, rfl, hg, hc1, hc2, hc3, hc4⟩ := h.st.cut (by have := HN.out; omega)
  have hst : ∀ j v, (((R.st.drop (i * 256)).take 256).map byteV)[j]? = some v → w.cell? ⟨g, i * 256 + j, none⟩ = some v := by
    intro j v hv
    have hj : j < 256 := by
      have := (List.getElem?_eq_some_iff.1 hv).1
      simp at this; omega
    have h4 : (cur.toList.take (R.st.length * 1))[i * 256 + j]? = (R.st.map byteV)[i * 256 + j]? := by rw [hc4]
    rw [List.getElem?_take, if_pos (by have := HN.out; omega)] at h4
    rw [cell_of_row _ _ _ _ _ _ hg]
    rw [List.getElem?_map, List.getElem?_take, if_pos hj, List.getElem?_drop, ← List.getElem?_map] at hv
    rw [← hv, ← h4]; simp
  have hgl : g < w.heap.size := (Array.getElem?_eq_some_iff.1 hg).1
  have hlen : ((R.st.drop (i * 256)).take 256).length = 256 := by have := HN.out; simp; omega
  have c0 := h.f0
  have hNc : R.st.length ≤ cap := hc1
  rw [HN.out] at c0 hNc
  have hcm : cap ≤ maxLen := hc2
  unfold maxLen at hcm
  have e1 : IntKind.i64.wrap ((i : Int) * 256) = (i : Int) * 256 := IntWalk.i64_in _ (by omega)
  have e2 : IntKind.i64.wrap ((i : Int) * 256 + 256) = (i : Int) * 256 + 256 := IntWalk.i64_in _ (by omega)
  have q1 := fun W => run_slice_blk W g (256 * n) cap (i * 256) ((i : Int) * 256) ((i : Int) * 256 + 256) (by omega) (by omega) (by omega) hNc
  clear hc1 hc2 hc3 hc4
  have HST := Lib.hid hst; clear hst
  have HLE := Lib.hid hlen; clear hlen
  have HG := Lib.hid hg; clear hg
  have H := Lib.hid h; clear h
  go_enter Try.func21, Try.ntmps21
  go_wp2_with fail
  with_reducible refine (refSize_any R r n _ vw vg D w H.out HN.out hm).mono ?_
  rintro e w' ⟨rfl, hww⟩
  subst hww
  go_wp2
  go_loopw [6, 7] (fun b k wr => wr = w ∧ ∃ kk : Nat, kk ≤ R.ws.length ∧ k = .int .i64 (kk : Int) ∧ Lies w b (Dk.last ((R.st.drop (i * 256)).take 256) ((R.ws.take kk).map WrAt.plain) i)) (fun _ k _ => R.ws.length - (intOf k).toNat)
  case atStart => exact ⟨rfl, 0, by omega, rfl, ⟨g, i * 256, cap - i * 256, rfl, hgl, fun j v hv => HST.out j v hv, HLE.out, by omega, by unfold maxLen; omega⟩⟩
  case round =>
    obtain ⟨rfl, k, hk, rfl, b0, o0, c0', rfl, hb0, hr0, hl0, hc0, hc1⟩ := hrel
    have c1 : wr.cell? ⟨r, 1, none⟩ = some vw := cell_of_row wr r 1 _ _ _ H.out.head
    obtain ⟨vA, vc, hvv⟩ : ∃ A c, vw = .slice A R.ws.length c := by
      rcases H.out.ws.2 with ⟨e, e0⟩ | ⟨g, cap, cur, e, _⟩
      · exact ⟨none, 0, by rw [e]; congr 1; exact e0.symm⟩
      · exact ⟨_, _, e⟩
    rw [hvv] at c1
    have HVV := Lib.hid hvv; clear hvv
    have HR0 := Lib.hid hr0; clear hr0
    have HL0 := Lib.hid hl0; clear hl0
    have HC1 := Lib.hid hc1; clear hc1
    have hk0 : (0 : Int) ≤ (k : Int) := by omega
    by_cases hlt : k < R.ws.length
    · have hkn : (k : Int) < (R.ws.length : Int) := by omega
      obtain ⟨x, hxk⟩ : ∃ x, R.ws[k]? = some x := ⟨_, List.getElem?_eq_getElem hlt⟩
      obtain ⟨bw, cw, hvw, c2, c3⟩ := row_write H.out.ws hxk
      obtain ⟨⟨hxl, hx1, hx2⟩, a, off, hxa, hDa, hal, hsrc, -⟩ := H.out.data x (by simp [List.mem_of_getElem? hxk])
      have hsn : (R.ws.take (k + 1)).map WrAt.plain = (R.ws.take k).map WrAt.plain ++ [x.plain] := by
        rw [List.take_add_one, hxk]; simp
      rw [hxa] at c3
      have HN1 := Lib.hid hsn; clear hsn
      have HSRC := Lib.hid hsrc; clear hsrc
      rw [HVV.out] at hvw
      injection hvw with d1 d2 d3
      clear d2
      subst d1 d3
      have HXK := Lib.hid hxk; clear hxk
      have HX2 := Lib.hid hx2; clear hx2
      have HXL := Lib.hid hxl; clear hxl
      clear hxa hDa
      by_cases hxi : x.blk = i
      · rw [hxi] at c2
        go_wp2
        go_roundw
        case rel =>
          refine ⟨by trivial, k + 1, by omega, by go_num, a, off, x.c, rfl, hal, ?_, ?_, hx1, HX2.out⟩
          · rw [HN1.out, Dk.last_snoc, if_pos (show x.plain.1 = i from hxi)]; exact HSRC.out
          · rw [HN1.out, Dk.last_snoc, if_pos (show x.plain.1 = i from hxi)]; exact HXL.out
        case measure => simp [intOf]; omega
      · have hxd : ((x.blk : Int) == (i : Int)) = false := by simp; omega
        have hxn : ¬ (x.blk : Int) = (i : Int) := by omega
        go_wp2
        go_roundw
        case rel =>
          refine ⟨by trivial, k + 1, by omega, by go_num, b0, o0, c0', rfl, hb0, ?_, ?_, hc0, HC1.out⟩
          · rw [HN1.out, Dk.last_snoc, if_neg (show ¬ x.plain.1 = i from hxi)]; exact HR0.out
          · rw [HN1.out, Dk.last_snoc, if_neg (show ¬ x.plain.1 = i from hxi)]; exact HL0.out
        case measure => simp [intOf]; omega
    · obtain rfl : k = R.ws.length := by omega
      have hr1 := HR0.out
      have hl1 := HL0.out
      rw [List.take_length] at hr1 hl1
      clear HR0 HL0
      have HR1 := Lib.hid hr1; clear hr1
      have HL1 := Lib.hid hl1; clear hl1
      go_wp2
      clear c1
      obtain ⟨w, hw⟩ : ∃ w, w = wr := ⟨_, rfl⟩
      subst hw
      go_loopw [6, 8] (fun b k wr => wr = w ∧ ∃ kk : Nat, kk ≤ R.gs.length ∧ k = .int .i64 (kk : Int) ∧ Lies w b (Dk.last (Dk.last ((R.st.drop (i * 256)).take 256) (R.ws.map WrAt.plain) i) ((R.gs.take kk).map WrAt.plain) i)) (fun _ k _ => R.gs.length - (intOf k).toNat)
      case atStart => exact ⟨rfl, 0, by omega, rfl, ⟨b0, o0, c0', rfl, hb0, HR1.out, HL1.out, hc0, HC1.out⟩⟩
      case round =>
        obtain ⟨rfl, k, hk, rfl, b0, o0, c0', rfl, hb0, hr0, hl0, hc0, hc1⟩ := hrel
        have c1 : wr.cell? ⟨r, 2, none⟩ = some vg := cell_of_row wr r 2 _ _ _ H.out.head
        obtain ⟨vA, vc, hvv⟩ : ∃ A c, vg = .slice A R.gs.length c := by
          rcases H.out.gs.2 with ⟨e, e0⟩ | ⟨g, cap, cur, e, _⟩
          · exact ⟨none, 0, by rw [e]; congr 1; exact e0.symm⟩
          · exact ⟨_, _, e⟩
        rw [hvv] at c1
        have HVV := Lib.hid hvv; clear hvv
        have HR0 := Lib.hid hr0; clear hr0
        have HL0 := Lib.hid hl0; clear hl0
        have HC1 := Lib.hid hc1; clear hc1
        have hk0 : (0 : Int) ≤ (k : Int) := by omega
        by_cases hlt : k < R.gs.length
        · have hkn : (k : Int) < (R.gs.length : Int) := by omega
          obtain ⟨x, hxk⟩ : ∃ x, R.gs[k]? = some x := ⟨_, List.getElem?_eq_getElem hlt⟩
          obtain ⟨bw, cw, hvw, c2, c3⟩ := row_write H.out.gs hxk
          obtain ⟨⟨hxl, hx1, hx2⟩, a, off, hxa, hDa, hal, hsrc, -⟩ := H.out.data x (by simp [List.mem_of_getElem? hxk])
          have hsn : (R.gs.take (k + 1)).map WrAt.plain = (R.gs.take k).map WrAt.plain ++ [x.plain] := by
            rw [List.take_add_one, hxk]; simp
          rw [hxa] at c3
          have HN1 := Lib.hid hsn; clear hsn
          have HSRC := Lib.hid hsrc; clear hsrc
          rw [HVV.out] at hvw
          injection hvw with d1 d2 d3
          clear d2
          subst d1 d3
          have HXK := Lib.hid hxk; clear hxk
          have HX2 := Lib.hid hx2; clear hx2
          have HXL := Lib.hid hxl; clear hxl
          clear hxa hDa
          by_cases hxi : x.blk = i
          · rw [hxi] at c2
            go_wp2
            go_roundw
            case rel =>
              refine ⟨by trivial, k + 1, by omega, by go_num, a, off, x.c, rfl, hal, ?_, ?_, hx1, HX2.out⟩
              · rw [HN1.out, Dk.last_snoc, if_pos (show x.plain.1 = i from hxi)]; exact HSRC.out
              · rw [HN1.out, Dk.last_snoc, if_pos (show x.plain.1 = i from hxi)]; exact HXL.out
            case measure => simp [intOf]; omega
          · have hxd : ((x.blk : Int) == (i : Int)) = false := by simp; omega
            have hxn : ¬ (x.blk : Int) = (i : Int) := by omega
            go_wp2
            go_roundw
            case rel =>
              refine ⟨by trivial, k + 1, by omega, by go_num, b0, o0, c0', rfl, hb0, ?_, ?_, hc0, HC1.out⟩
              · rw [HN1.out, Dk.last_snoc, if_neg (show ¬ x.plain.1 = i from hxi)]; exact HR0.out
              · rw [HN1.out, Dk.last_snoc, if_neg (show ¬ x.plain.1 = i from hxi)]; exact HL0.out
            case measure => simp [intOf]; omega
        · obtain rfl : k = R.gs.length := by omega
          have hr1 := HR0.out
          have hl1 := HL0.out
          rw [List.take_length] at hr1 hl1
          clear HR0 HL0
          have HR1 := Lib.hid hr1; clear hr1
          have HL1 := Lib.hid hl1; clear hl1
          have hw := @rfl World wr
          have hoe : Owned (wr.alloc (.cells #[] 5)) wr.heap.size (.slice (some ⟨wr.heap.size, 0, none⟩) 0 0) [] := owned_made wr [] wr.heap.size (Nat.le_refl _) (by unfold maxLen; simp)
          have hbe : Below wr.heap.size wr (wr.alloc (.cells #[] 5)) := (Below.refl _ wr).alloc (Nat.le_refl _) _
          have hho : Holds wr wr.heap.size (some ⟨b0, o0, none⟩) 256 (readR R i) := ⟨HL1.out, fun _ => ⟨b0, o0, rfl, hb0, fun j hj => by
            have := HR1.out j (byteV ((readR R i)[j]'hj)) (by rw [List.getElem?_map]; show Option.map byteV (readR R i)[j]? = _; rw [List.getElem?_eq_getElem hj]; rfl)
            exact this⟩⟩
          have HDe := Lib.hid (hho.below hbe); clear hho
          go_wp2_with (at_builtin; refine wpList_addall (o := ⟨some 83, _, _, _, _, _⟩) rfl _ _ rfl wr.heap.size _ [] rfl hoe wr.heap.size (some ⟨b0, o0, none⟩) 256 _ (readR R i) rfl HDe.out (by simp) hbe.size ?_)
          intro v2 w2 ho2 hb2
          have HO2 := Lib.hid ho2; clear ho2
          have HB2 := Lib.hid (hbe.trans hb2)
          clear hoe hbe hb2 HDe
          go_wp2
          go_ret2
          exact ⟨v2, rfl, HO2.out, HB2.out⟩

def imageR (R : RefLow) (k : Nat) : List UInt8 := (List.range k).flatMap (readR R)
theorem imageR_snoc (R : RefLow) (k : Nat) : imageR R (k + 1) = imageR R k ++ readR R k := by
  unfold imageR
  rw [List.range_succ, List.flatMap_append]
  simp
theorem readR_len {w : World} {r : Nat} {R : RefLow} {vb vw vg : Value} {D : Nat → Prop} {n i : Nat} (h : RefAt w r R vb vw vg D) (hn : R.st.length = 256 * n) (hi : i < n) : (readR R i).length = 256 := by
  have key : ∀ (l : List WrAt) (b : List UInt8), (∀ x ∈ l, x.data.length = 256) → b.length = 256 → (Dk.last b (l.map WrAt.plain) i).length = 256 := by
    intro l
    induction l with
    | nil => intro b _ hb; exact hb
    | cons x t ih =>
      intro b hx hb
      rw [List.map_cons, Dk.last_cons]
      refine ih _ (fun y hy => hx y (by simp [hy])) ?_
      split
      · exact hx x (by simp)
      · exact hb
  refine key _ _ (fun x hx => (h.data x (by simp [hx])).1.1) (key _ _ (fun x hx => (h.data x (by simp [hx])).1.1) (by simp; omega))
theorem imageR_len {w : World} {r : Nat} {R : RefLow} {vb vw vg : Value} {D : Nat → Prop} {n : Nat} (h : RefAt w r R vb vw vg D) (hn : R.st.length = 256 * n) : ∀ k, k ≤ n → (imageR R k).length = 256 * k
  | 0, _ => rfl
  | k + 1, hk => by
    rw [imageR_snoc, List.length_append, readR_len h hn (by omega), imageR_len h hn k (by omega)]
    omega

set_option maxRecDepth 100000 in
set_option maxHeartbeats 2000000 in
theorem refImage_any (n : Nat) (R : RefLow) (r : Nat) (vb vw vg : Value) (D : Nat → Prop) (w : World) (h : RefAt w r R vb vw vg D) (hn : R.st.length = 256 * n) (hm : n ≤ 1024) (hfw : R.ws.length ≤ 1048576) (hfg : R.gs.length ≤ 1048576) :
    Calls Try.prog 24 #[.pointer (some ⟨r, 0, none⟩)] w fun e w' => ∃ v, e = .returned v ∧ Owned w' w.heap.size v (imageR R n) ∧ Below w.heap.size w w' := by
  have HN := Lib.hid hn; clear hn
  have H := Lib.hid h; clear h
  have hnil : Owned w w.heap.size (.slice none 0 0) [] := World.ownsRow_nil _ _ _ _
  go_enter Try.func24, Try.ntmps24
  go_wp2
  go_loopw [3, 4, 5, 6] (fun l i _ _ wr => ∃ k : Nat, k ≤ n ∧ i = .int .i64 (k : Int) ∧ Owned wr w.heap.size l (imageR R k) ∧ Below w.heap.size w wr) (fun _ i _ _ _ => n - (intOf i).toNat)
  case atStart => exact ⟨0, by omega, rfl, hnil, Below.refl _ _⟩
  case round =>
    clear hnil
    obtain ⟨k, hk, rfl, hO, hB⟩ := hrel
    have hR : RefAt wr r R vb vw vg D := H.out.turns (F := fun _ => False) (Turns.of_below hB) (fun h => h) (fun _ _ h => h) (fun _ _ h => h) (fun _ _ h => h) (fun _ _ h => h)
    obtain ⟨A, c, rfl, -⟩ := Owned.holds hO
    have hil := imageR_len H.out HN.out k hk
    rw [hil] at hO ⊢
    have HIL := Lib.hid hil; clear hil
    have HO := Lib.hid hO; clear hO
    have HB := Lib.hid hB; clear hB
    have HR := Lib.hid hR; clear hR
    have hk0 : (0 : Int) ≤ (k : Int) := by omega
    go_wp2_with fail
    with_reducible refine (refSize_any R r n vb vw vg D wr HR.out HN.out hm).mono ?_
    rintro e w' ⟨rfl, hww⟩
    subst hww
    by_cases hlt : k < n
    · have hkn : (k : Int) < (n : Int) := by omega
      go_wp2_with fail
      with_reducible refine (refRead_some k n R r vb vw vg D wr HR.out HN.out hm hlt hfw hfg).mono ?_
      rintro e w1 ⟨v1, rfl, ho1, hb1⟩
      have hrl := readR_len HR.out HN.out hlt
      obtain ⟨A1, c1, rfl, hh1⟩ := Owned.holds ho1
      rw [hrl] at hh1 ⊢
      have HH1 := Lib.hid hh1; clear hh1
      have hO1 : Owned w1 w.heap.size (.slice A (256 * k) c) (imageR R k) := Owned.keep HO.out hb1 (Nat.le_refl _)
      have HO1 := Lib.hid hO1; clear hO1
      have hB1 : Below w.heap.size w w1 := HB.out.trans (hb1.mono HB.out.size)
      have hs1 : w.heap.size ≤ w1.heap.size := hB1.size
      have HB1 := Lib.hid hB1; clear hB1
      have hl9 : (imageR R k).length + 256 ≤ 140737488355328 := by rw [HIL.out]; omega
      have HL9 := Lib.hid hl9; clear hl9
      clear ho1 hb1 hrl
      go_wp2_with (at_builtin; refine wpList_addall (o := ⟨some 21, _, _, _, _, _⟩) rfl _ _ rfl w.heap.size _ (imageR R k) rfl HO1.out w1.heap.size A1 256 c1 (readR R k) rfl HH1.out HL9.out hs1 ?_)
      intro v2 w2 ho2 hb2
      have HO2 := Lib.hid ho2; clear ho2
      have HB2 := Lib.hid (HB1.out.trans hb2); clear hb2
      go_wp2
      go_roundw
      case rel => exact ⟨k + 1, by omega, by go_num, by rw [imageR_snoc]; exact HO2.out, HB2.out⟩
      case measure => simp [intOf]; omega
    · obtain rfl : k = n := by omega
      go_wp2
      go_ret
      exact ⟨_, rfl, by rw [HIL.out] at *; exact HO.out, HB.out⟩
end Go.Proofs.Ytgffcjceeiokfaa.Disk
