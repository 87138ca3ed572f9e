/- The document's disk: a block read, the image. -/
import Derived.Test.YtelnoibfamcnmaaGreatDkRefF
import Derived.Test.YtelnoibfamcnmaaGreatDkCrash
import Derived.Test.YtelnoibfamcnmaaGreatDkRead
namespace Go.Proofs.YtelnoibfamcnmaaGreat.Disk
set_option maxRecDepth 20000
open Go.RowKit
open Go.Proofs.YtelnoibfamcnmaaGreat.Mem Go.Proofs.YtelnoibfamcnmaaGreat.Reg


def RefLow.torn (R : RefLow) (bits : List UInt8) (k s : Nat) : RefLow := { R with st := tearL bits k ((R.ws.map WrAt.plain).getD k (0, [])) (crashL bits (R.ws.map WrAt.plain) R.st k) s }
def RefLow.crashed (R : RefLow) (bits : List UInt8) (k : Nat) : RefLow := { R with st := crashL bits (R.ws.map WrAt.plain) R.st k }
end Go.Proofs.YtelnoibfamcnmaaGreat.Disk

namespace Go.Proofs.YtelnoibfamcnmaaGreat.Disk
set_option maxRecDepth 20000
open Go.RowKit
open Go.Proofs.YtelnoibfamcnmaaGreat.Mem Go.Proofs.YtelnoibfamcnmaaGreat.Reg

theorem row_write {w : World} {v : Value} {l : List WrAt} {k : Nat} {x : WrAt} (h : Row w 56 2 v l.length (l.flatMap WrAt.cells)) (hx : l[k]? = some x) :
    ∃ bw cw, v = .slice (some ⟨bw, 0, none⟩) l.length cw ∧ w.cell? ⟨bw, k * 2, none⟩ = some (.int .i64 (x.blk : Int)) ∧ w.cell? ⟨bw, k * 2 + 1, none⟩ = some (.slice x.A 256 x.c) := by
  have hk := (List.getElem?_eq_some_iff.1 hx).1
  obtain ⟨bw, cw, curw, hvw, hgw, hw1, hw2, hw3, hw4⟩ := h.cut (by omega)
  obtain ⟨q1, q2⟩ := flat_cells l k x hx
  have hlen := WrAt.cells_len l
  have hcell : ∀ j u, (l.flatMap WrAt.cells)[j]? = some u → w.cell? ⟨bw, j, none⟩ = some u := fun j u hu => by
    rw [cell_of_row _ _ _ _ _ _ hgw]
    have hj := (List.getElem?_eq_some_iff.1 hu).1
    rw [← hw4, List.getElem?_take, if_pos (by omega)] at hu
    simpa using hu
  exact ⟨bw, cw, hvw, hcell _ _ q1, hcell _ _ q2⟩

/-- What is read of a block. -/
def readR (R : RefLow) (i : Nat) : List UInt8 := Dk.last (Dk.last ((R.st.drop (i * 256)).take 256) (R.ws.map WrAt.plain) i) (R.gs.map WrAt.plain) i

/-- The block's bytes so far: where they lie. -/
def Lies (w : World) (v : Value) (bs : List UInt8) : Prop := ∃ b o c, v = .slice (some ⟨b, o, none⟩) 256 c ∧ b < w.heap.size ∧ w.rangeAt b o (bs.map byteV) ∧ bs.length = 256 ∧ 256 ≤ c ∧ c ≤ maxLen

theorem run_slice_blk (W : World) (g N c l : Nat) (i j : Int) (hi : i = (l : Int)) (hj : j = (l : Int) + 256) (hl : l + 256 ≤ N) (hc : N ≤ c) :
    (Instr.slice 25 (.slice (some ⟨g, 0, none⟩) N c) (some (.int .i64 i)) (some (.int .i64 j)) none).run Tryz.prog W = .ok (.slice (some ⟨g, l, none⟩) 256 (c - l)) W := by
  subst hi hj
  have h := run_slice_lh (P := Tryz.prog) W 25 (some ⟨g, 0, none⟩) N c (by rw [Tryz.underlying25]; rfl) .i64 .i64 (l : Int) ((l : Int) + 256) (by omega) (by omega) (by omega)
  rw [h]
  have hs : (sizeOf (Tryz.prog.elem 25)).run Tryz.prog W = .ok 1 W := by rfl
  rw [hs]
  have e : ((l : Int) + 256).toNat = l + 256 := by omega
  simp [Result.andThen, sliced, show ¬ c = l by omega, Addr.add_mid, e]

set_option maxRecDepth 100000 in
set_option maxHeartbeats 2000000 in
theorem refRead_some (i n : Nat) (R : RefLow) (r : Nat) (vb vw vg : Value) (D : Nat → Prop) (w : World) (h : RefAt w r R vb vw vg D) (hn : R.st.length = 256 * n) (hm : n ≤ 1024) (hi : i < n) (hfw : R.ws.length ≤ 1048576) (hfg : R.gs.length ≤ 1048576) :
    Calls Tryz.prog 46 #[.pointer (some ⟨r, 0, none⟩), .int .i64 (i : Int)] w fun e w' => ∃ v, e = .returned (.tuple #[v, .int .i64 0]) ∧ Owned w' w.heap.size v (readR R i) ∧ Below w.heap.size w w' := by
  have HN := Lib.hid hn; clear hn
  have h0 : ¬ (i : Int) < 0 := by omega
  have h1 : ¬ (n : Int) ≤ (i : Int) := by omega
  have h1d : decide ((n : Int) ≤ (i : Int)) = false := decide_eq_false h1
  have h1n : decide (n ≤ i) = false := decide_eq_false (by omega)
  obtain ⟨g, cap, cur, rfl, hg, hc1, hc2, hc3, hc4⟩ := h.st.cut (by have := HN.out; omega)
  have hst : ∀ j v, (((R.st.drop (i * 256)).take 256).map byteV)[j]? = some v → w.cell? ⟨g, i * 256 + j, none⟩ = some v := by
    intro j v hv
    have hj : j < 256 := by
      have := (List.getElem?_eq_some_iff.1 hv).1
      simp at this; omega
    have h4 : (cur.toList.take (R.st.length * 1))[i * 256 + j]? = (R.st.map byteV)[i * 256 + j]? := by rw [hc4]
    rw [List.getElem?_take, if_pos (by have := HN.out; omega)] at h4
    rw [cell_of_row _ _ _ _ _ _ hg]
    rw [List.getElem?_map, List.getElem?_take, if_pos hj, List.getElem?_drop, ← List.getElem?_map] at hv
    rw [← hv, ← h4]; simp
  have hgl : g < w.heap.size := (Array.getElem?_eq_some_iff.1 hg).1
  have hlen : ((R.st.drop (i * 256)).take 256).length = 256 := by have := HN.out; simp; omega
  have c0 := h.f0
  have hNc : R.st.length ≤ cap := hc1
  rw [HN.out] at c0 hNc
  have hcm : cap ≤ maxLen := hc2
  unfold maxLen at hcm
  have e1 : IntKind.i64.wrap ((i : Int) * 256) = (i : Int) * 256 := IntWalk.i64_in _ (by omega)
  have e2 : IntKind.i64.wrap ((i : Int) * 256 + 256) = (i : Int) * 256 + 256 := IntWalk.i64_in _ (by omega)
  have q1 := fun W => run_slice_blk W g (256 * n) cap (i * 256) ((i : Int) * 256) ((i : Int) * 256 + 256) (by omega) (by omega) (by omega) hNc
  clear hc1 hc2 hc3 hc4
  have HST := Lib.hid hst; clear hst
  have HLE := Lib.hid hlen; clear hlen
  have HG := Lib.hid hg; clear hg
  have H := Lib.hid h; clear h
  go_enter Tryz.func46, Tryz.ntmps46
  go_wp2_with fail
  with_reducible refine (refSize_any R r n _ vw vg D w H.out HN.out hm).mono ?_
  rintro e w' ⟨rfl, hww⟩
  subst hww
  go_wp2
  go_loopw [6, 7] (fun b k wr => wr = w ∧ ∃ kk : Nat, kk ≤ R.ws.length ∧ k = .int .i64 (kk : Int) ∧ Lies w b (Dk.last ((R.st.drop (i * 256)).take 256) ((R.ws.take kk).map WrAt.plain) i)) (fun _ k _ => R.ws.length - (intOf k).toNat)
  case atStart => exact ⟨rfl, 0, by omega, rfl, ⟨g, i * 256, cap - i * 256, rfl, hgl, fun j v hv => HST.out j v hv, HLE.out, by omega, by unfold maxLen; omega⟩⟩
  case round =>
    obtain ⟨rfl, k, hk, rfl, b0, o0, c0', rfl, hb0, hr0, hl0, hc0, hc1⟩ := hrel
    have c1 : wr.cell? ⟨r, 1, none⟩ = some vw := cell_of_row wr r 1 _ _ _ H.out.head
    obtain ⟨vA, vc, hvv⟩ : ∃ A c, vw = .slice A R.ws.length c := by
      rcases H.out.ws.2 with ⟨e, e0⟩ | ⟨g, cap, cur, e, _⟩
      · exact ⟨none, 0, by rw [e]; congr 1; exact e0.symm⟩
      · exact ⟨_, _, e⟩
    rw [hvv] at c1
    have HVV := Lib.hid hvv; clear hvv
    have HR0 := Lib.hid hr0; clear hr0
    have HL0 := Lib.hid hl0; clear hl0
    have HC1 := Lib.hid hc1; clear hc1
    have hk0 : (0 : Int) ≤ (k : Int) := by omega
    by_cases hlt : k < R.ws.length
    · have hkn : (k : Int) < (R.ws.length : Int) := by omega
      obtain ⟨x, hxk⟩ : ∃ x, R.ws[k]? = some x := ⟨_, List.getElem?_eq_getElem hlt⟩
      obtain ⟨bw, cw, hvw, c2, c3⟩ := row_write H.out.ws hxk
      obtain ⟨⟨hxl, hx1, hx2⟩, a, off, hxa, hDa, hal, hsrc, -⟩ := H.out.data x (by simp [List.mem_of_getElem? hxk])
      have hsn : (R.ws.take (k + 1)).map WrAt.plain = (R.ws.take k).map WrAt.plain ++ [x.plain] := by
        rw [List.take_add_one, hxk]; simp
      rw [hxa] at c3
      have HN1 := Lib.hid hsn; clear hsn
      have HSRC := Lib.hid hsrc; clear hsrc
      rw [HVV.out] at hvw
      injection hvw with d1 d2 d3
      clear d2
      subst d1 d3
      have HXK := Lib.hid hxk; clear hxk
      have HX2 := Lib.hid hx2; clear hx2
      have HXL := Lib.hid hxl; clear hxl
      clear hxa hDa
      by_cases hxi : x.blk = i
      · rw [hxi] at c2
        go_wp2
        go_roundw
        case rel =>
          refine ⟨by trivial, k + 1, by omega, by go_num, a, off, x.c, rfl, hal, ?_, ?_, hx1, HX2.out⟩
          · rw [HN1.out, Dk.last_snoc, if_pos (show x.plain.1 = i from hxi)]; exact HSRC.out
          · rw [HN1.out, Dk.last_snoc, if_pos (show x.plain.1 = i from hxi)]; exact HXL.out
        case measure => simp [intOf]; omega
      · have hxd : ((x.blk : Int) == (i : Int)) = false := by simp; omega
        have hxn : ¬ (x.blk : Int) = (i : Int) := by omega
        go_wp2
        go_roundw
        case rel =>
          refine ⟨by trivial, k + 1, by omega, by go_num, b0, o0, c0', rfl, hb0, ?_, ?_, hc0, HC1.out⟩
          · rw [HN1.out, Dk.last_snoc, if_neg (show ¬ x.plain.1 = i from hxi)]; exact HR0.out
          · rw [HN1.out, Dk.last_snoc, if_neg (show ¬ x.plain.1 = i from hxi)]; exact HL0.out
        case measure => simp [intOf]; omega
    · obtain rfl : k = R.ws.length := by omega
      have hr1 := HR0.out
      have hl1 := HL0.out
      rw [List.take_length] at hr1 hl1
      clear HR0 HL0
      have HR1 := Lib.hid hr1; clear hr1
      have HL1 := Lib.hid hl1; clear hl1
      go_wp2
      clear c1
      obtain ⟨w, hw⟩ : ∃ w, w = wr := ⟨_, rfl⟩
      subst hw
      go_loopw [6, 8] (fun b k wr => wr = w ∧ ∃ kk : Nat, kk ≤ R.gs.length ∧ k = .int .i64 (kk : Int) ∧ Lies w b (Dk.last (Dk.last ((R.st.drop (i * 256)).take 256) (R.ws.map WrAt.plain) i) ((R.gs.take kk).map WrAt.plain) i)) (fun _ k _ => R.gs.length - (intOf k).toNat)
      case atStart => exact ⟨rfl, 0, by omega, rfl, ⟨b0, o0, c0', rfl, hb0, HR1.out, HL1.out, hc0, HC1.out⟩⟩
      case round =>
        obtain ⟨rfl, k, hk, rfl, b0, o0, c0', rfl, hb0, hr0, hl0, hc0, hc1⟩ := hrel
        have c1 : wr.cell? ⟨r, 2, none⟩ = some vg := cell_of_row wr r 2 _ _ _ H.out.head
        obtain ⟨vA, vc, hvv⟩ : ∃ A c, vg = .slice A R.gs.length c := by
          rcases H.out.gs.2 with ⟨e, e0⟩ | ⟨g, cap, cur, e, _⟩
          · exact ⟨none, 0, by rw [e]; congr 1; exact e0.symm⟩
          · exact ⟨_, _, e⟩
        rw [hvv] at c1
        have HVV := Lib.hid hvv; clear hvv
        have HR0 := Lib.hid hr0; clear hr0
        have HL0 := Lib.hid hl0; clear hl0
        have HC1 := Lib.hid hc1; clear hc1
        have hk0 : (0 : Int) ≤ (k : Int) := by omega
        by_cases hlt : k < R.gs.length
        · have hkn : (k : Int) < (R.gs.length : Int) := by omega
          obtain ⟨x, hxk⟩ : ∃ x, R.gs[k]? = some x := ⟨_, List.getElem?_eq_getElem hlt⟩
          obtain ⟨bw, cw, hvw, c2, c3⟩ := row_write H.out.gs hxk
          obtain ⟨⟨hxl, hx1, hx2⟩, a, off, hxa, hDa, hal, hsrc, -⟩ := H.out.data x (by simp [List.mem_of_getElem? hxk])
          have hsn : (R.gs.take (k + 1)).map WrAt.plain = (R.gs.take k).map WrAt.plain ++ [x.plain] := by
            rw [List.take_add_one, hxk]; simp
          rw [hxa] at c3
          have HN1 := Lib.hid hsn; clear hsn
          have HSRC := Lib.hid hsrc; clear hsrc
          rw [HVV.out] at hvw
          injection hvw with d1 d2 d3
          clear d2
          subst d1 d3
          have HXK := Lib.hid hxk; clear hxk
          have HX2 := Lib.hid hx2; clear hx2
          have HXL := Lib.hid hxl; clear hxl
          clear hxa hDa
          by_cases hxi : x.blk = i
          · rw [hxi] at c2
            go_wp2
            go_roundw
            case rel =>
              refine ⟨by trivial, k + 1, by omega, by go_num, a, off, x.c, rfl, hal, ?_, ?_, hx1, HX2.out⟩
              · rw [HN1.out, Dk.last_snoc, if_pos (show x.plain.1 = i from hxi)]; exact HSRC.out
              · rw [HN1.out, Dk.last_snoc, if_pos (show x.plain.1 = i from hxi)]; exact HXL.out
            case measure => simp [intOf]; omega
          · have hxd : ((x.blk : Int) == (i : Int)) = false := by simp; omega
            have hxn : ¬ (x.blk : Int) = (i : Int) := by omega
            go_wp2
            go_roundw
            case rel =>
              refine ⟨by trivial, k + 1, by omega, by go_num, b0, o0, c0', rfl, hb0, ?_, ?_, hc0, HC1.out⟩
              · rw [HN1.out, Dk.last_snoc, if_neg (show ¬ x.plain.1 = i from hxi)]; exact HR0.out
              · rw [HN1.out, Dk.last_snoc, if_neg (show ¬ x.plain.1 = i from hxi)]; exact HL0.out
            case measure => simp [intOf]; omega
        · obtain rfl : k = R.gs.length := by omega
          have hr1 := HR0.out
          have hl1 := HL0.out
          rw [List.take_length] at hr1 hl1
          clear HR0 HL0
          have HR1 := Lib.hid hr1; clear hr1
          have HL1 := Lib.hid hl1; clear hl1
          have hw := @rfl World wr
          have hoe : Owned (wr.alloc (.cells #[] 5)) wr.heap.size (.slice (some ⟨wr.heap.size, 0, none⟩) 0 0) [] := owned_made wr [] wr.heap.size (Nat.le_refl _) (by unfold maxLen; simp)
          have hbe : Below wr.heap.size wr (wr.alloc (.cells #[] 5)) := (Below.refl _ wr).alloc (Nat.le_refl _) _
          have hho : Holds wr wr.heap.size (some ⟨b0, o0, none⟩) 256 (readR R i) := ⟨HL1.out, fun _ => ⟨b0, o0, rfl, hb0, fun j hj => by
            have := HR1.out j (byteV ((readR R i)[j]'hj)) (by rw [List.getElem?_map]; show Option.map byteV (readR R i)[j]? = _; rw [List.getElem?_eq_getElem hj]; rfl)
            exact this⟩⟩
          have HDe := Lib.hid (hho.below hbe); clear hho
          go_wp2_with (at_builtin; refine wpList_addall (o := ⟨some 83, _, _, _, _, _⟩) rfl _ _ rfl wr.heap.size _ [] rfl hoe wr.heap.size (some ⟨b0, o0, none⟩) 256 _ (readR R i) rfl HDe.out (by simp) hbe.size ?_)
          intro v2 w2 ho2 hb2
          have HO2 := Lib.hid ho2; clear ho2
          have HB2 := Lib.hid (hbe.trans hb2)
          clear hoe hbe hb2 HDe
          go_wp2
          go_ret2
          exact ⟨v2, rfl, HO2.out, HB2.out⟩

def imageR (R : RefLow) (k : Nat) : List UInt8 := (List.range k).flatMap (readR R)
theorem imageR_snoc (R : RefLow) (k : Nat) : imageR R (k + 1) = imageR R k ++ readR R k := by
  unfold imageR
  rw [List.range_succ, List.flatMap_append]
  simp
theorem readR_len {w : World} {r : Nat} {R : RefLow} {vb vw vg : Value} {D : Nat → Prop} {n i : Nat} (h : RefAt w r R vb vw vg D) (hn : R.st.length = 256 * n) (hi : i < n) : (readR R i).length = 256 := by
  have key : ∀ (l : List WrAt) (b : List UInt8), (∀ x ∈ l, x.data.length = 256) → b.length = 256 → (Dk.last b (l.map WrAt.plain) i).length = 256 := by
    intro l
    induction l with
    | nil => intro b _ hb; exact hb
    | cons x t ih =>
      intro b hx hb
      rw [List.map_cons, Dk.last_cons]
      refine ih _ (fun y hy => hx y (by simp [hy])) ?_
      split
      · exact hx x (by simp)
      · exact hb
  refine key _ _ (fun x hx => (h.data x (by simp [hx])).1.1) (key _ _ (fun x hx => (h.data x (by simp [hx])).1.1) (by simp; omega))
theorem imageR_len {w : World} {r : Nat} {R : RefLow} {vb vw vg : Value} {D : Nat → Prop} {n : Nat} (h : RefAt w r R vb vw vg D) (hn : R.st.length = 256 * n) : ∀ k, k ≤ n → (imageR R k).length = 256 * k
  | 0, _ => rfl
  | k + 1, hk => by
    rw [imageR_snoc, List.length_append, readR_len h hn (by omega), imageR_len h hn k (by omega)]
    omega

set_option maxRecDepth 100000 in
set_option maxHeartbeats 2000000 in
theorem refImage_any (n : Nat) (R : RefLow) (r : Nat) (vb vw vg : Value) (D : Nat → Prop) (w : World) (h : RefAt w r R vb vw vg D) (hn : R.st.length = 256 * n) (hm : n ≤ 1024) (hfw : R.ws.length ≤ 1048576) (hfg : R.gs.length ≤ 1048576) :
    Calls Tryz.prog 16 #[.pointer (some ⟨r, 0, none⟩)] w fun e w' => ∃ v, e = .returned v ∧ Owned w' w.heap.size v (imageR R n) ∧ Below w.heap.size w w' := by
  have HN := Lib.hid hn; clear hn
  have H := Lib.hid h; clear h
  have hnil : Owned w w.heap.size (.slice none 0 0) [] := World.ownsRow_nil _ _ _ _
  go_enter Tryz.func16, Tryz.ntmps16
  go_wp2
  go_loopw [3, 4, 5, 6] (fun l i _ _ wr => ∃ k : Nat, k ≤ n ∧ i = .int .i64 (k : Int) ∧ Owned wr w.heap.size l (imageR R k) ∧ Below w.heap.size w wr) (fun _ i _ _ _ => n - (intOf i).toNat)
  case atStart => exact ⟨0, by omega, rfl, hnil, Below.refl _ _⟩
  case round =>
    clear hnil
    obtain ⟨k, hk, rfl, hO, hB⟩ := hrel
    have hR : RefAt wr r R vb vw vg D := H.out.turns (F := fun _ => False) (Turns.of_below hB) (fun h => h) (fun _ _ h => h) (fun _ _ h => h) (fun _ _ h => h) (fun _ _ h => h)
    obtain ⟨A, c, rfl, -⟩ := Owned.holds hO
    have hil := imageR_len H.out HN.out k hk
    rw [hil] at hO ⊢
    have HIL := Lib.hid hil; clear hil
    have HO := Lib.hid hO; clear hO
    have HB := Lib.hid hB; clear hB
    have HR := Lib.hid hR; clear hR
    have hk0 : (0 : Int) ≤ (k : Int) := by omega
    go_wp2_with fail
    with_reducible refine (refSize_any R r n vb vw vg D wr HR.out HN.out hm).mono ?_
    rintro e w' ⟨rfl, hww⟩
    subst hww
    by_cases hlt : k < n
    · have hkn : (k : Int) < (n : Int) := by omega
      go_wp2_with fail
      with_reducible refine (refRead_some k n R r vb vw vg D wr HR.out HN.out hm hlt hfw hfg).mono ?_
      rintro e w1 ⟨v1, rfl, ho1, hb1⟩
      have hrl := readR_len HR.out HN.out hlt
      obtain ⟨A1, c1, rfl, hh1⟩ := Owned.holds ho1
      rw [hrl] at hh1 ⊢
      have HH1 := Lib.hid hh1; clear hh1
      have hO1 : Owned w1 w.heap.size (.slice A (256 * k) c) (imageR R k) := Owned.keep HO.out hb1 (Nat.le_refl _)
      have HO1 := Lib.hid hO1; clear hO1
      have hB1 : Below w.heap.size w w1 := HB.out.trans (hb1.mono HB.out.size)
      have hs1 : w.heap.size ≤ w1.heap.size := hB1.size
      have HB1 := Lib.hid hB1; clear hB1
      have hl9 : (imageR R k).length + 256 ≤ 140737488355328 := by rw [HIL.out]; omega
      have HL9 := Lib.hid hl9; clear hl9
      clear ho1 hb1 hrl
      go_wp2_with (at_builtin; refine wpList_addall (o := ⟨some 21, _, _, _, _, _⟩) rfl _ _ rfl w.heap.size _ (imageR R k) rfl HO1.out w1.heap.size A1 256 c1 (readR R k) rfl HH1.out HL9.out hs1 ?_)
      intro v2 w2 ho2 hb2
      have HO2 := Lib.hid ho2; clear ho2
      have HB2 := Lib.hid (HB1.out.trans hb2); clear hb2
      go_wp2
      go_roundw
      case rel => exact ⟨k + 1, by omega, by go_num, by rw [imageR_snoc]; exact HO2.out, HB2.out⟩
      case measure => simp [intOf]; omega
    · obtain rfl : k = n := by omega
      go_wp2
      go_ret
      exact ⟨_, rfl, by rw [HIL.out] at *; exact HO.out, HB.out⟩
end Go.Proofs.YtelnoibfamcnmaaGreat.Disk
