/- entryOf and leafOf: the program's calls. -/
import Derived.Test.YtbagocghlijleaaGreatHtSort
import Derived.Test.YtbagocghlijleaaGreatLfEnc
import Derived.Lib.ConvBytes
namespace Go.Proofs.YtbagocghlijleaaGreat.Ht
set_option maxRecDepth 20000
open Go.RowKit
open Go.Proofs.YtbagocghlijleaaGreat.Mem Go.Proofs.YtbagocghlijleaaGreat.Crc Go.Proofs.YtbagocghlijleaaGreat.Rec Go.Proofs.YtbagocghlijleaaGreat.Reg Go.Proofs.YtbagocghlijleaaGreat.Lf
attribute [local go_sem ↓] ldE_eq stE_eq ldX_eq stX_eq

theorem run_stE_row (V : World) (g : Nat) (old : Array Value) (hs : old.size = 3) (h : V.heap[g]? = some (.cells old 68 (0, 0))) (x : Nm) :
    ∃ V', (stE (.pointer (some ⟨g, 0, none⟩)) (.agg (eC x))).run Tryz.prog V = .ok () V' ∧ VarE V' g x ∧ V.grownBy V' (some g) := by
  have hst := run_storeAt_mid (P := Tryz.prog) V g 0 68 (eC x) (fun i hi => by
    have hi' : i < 3 := hi
    exact ⟨by rw [cell_of_row _ _ _ _ _ _ h, Array.getElem?_eq_getElem (by omega)]; rfl, frozen_of_row _ _ _ _ _ h⟩) (by kernel_rfl) (by simp [eC, Value.oneCell'])
  refine ⟨_, hst, ?_, setCells_grown _ _ _ _⟩
  unfold VarE
  rw [setCells_heap g _ _ V _ _ h (by simp [eC]; omega)]
  have : old.toList.drop (0 + (eC x).toList.length) = [] := List.drop_eq_nil_of_le (by simp [eC]; omega)
  rw [this]
  simp

theorem below_drew {B : Nat} {a b : World} (h : Below B a b) : Below B a b.drew := ⟨h.os, h.tape, h.output, h.size, h.block⟩
def cvS (s : Value) : Sem Value := convert 9 34 s
theorem cvS_eq (s : Value) : convert 9 34 s = cvS s := rfl
theorem conv_any (S : ByteArray) (V : World) : ∃ c V', (cvS (.string S)).run Tryz.prog V = .ok (.slice (some ⟨V.heap.size, 0, none⟩) S.size c) V' ∧ Holds V' V'.heap.size (some ⟨V.heap.size, 0, none⟩) S.size S.data.toList ∧ Below V.heap.size V V' := by
  refine ⟨_, _, Lib.run_convert_string_bytes V _ _ 5 S Tryz.underlying9 Tryz.underlying34 Tryz.underlying5, ⟨by simp, fun hn => ⟨V.heap.size, 0, rfl, by rw [Lib.bytesWorld_size]; omega, fun j hj => ?_⟩⟩, ⟨rfl, rfl, rfl, by rw [Lib.bytesWorld_size]; omega, fun j hj => Lib.bytesWorld_at_old V _ S j hj⟩⟩
  have hj' : j < S.size := by simpa using hj
  rw [Nat.zero_add, Lib.bytesWorld_cell V _ S j hj']
  simp [List.getD, hj']
attribute [local go_sem ↓] cvS_eq
set_option maxHeartbeats 1000000 in
theorem entryOf_any (x : Nm) (hx : x.rep) (w : World) : Calls Tryz.prog 38 #[.agg x.c] w fun e w' => e = .returned (.agg (eC x)) ∧ Below w.heap.size w w' := by
  obtain ⟨X, hX⟩ : ∃ X, X = x.c := ⟨_, rfl⟩
  have hv0 : VarX (w.alloc (.cells x.c 48)) w.heap.size x := VarX.new w x
  obtain ⟨W, hW⟩ : ∃ W, W = (w.alloc (.cells x.c 48)).alloc (.cells zeroE 68) := ⟨_, rfl⟩
  have hv : VarX W w.heap.size x := by rw [hW]; exact hv0.alloc _
  have hz : W.heap[w.heap.size + 1]? = some (.cells zeroE 68 (0, 0)) := by
    have := heap_alloc_new (w.alloc (.cells x.c 48)) (.cells zeroE 68)
    rw [hW]; simpa using this
  have hsz : W.heap.size = w.heap.size + 2 := by rw [hW]; simp
  have hb0 : Below w.heap.size w W := by rw [hW]; exact ((Below.refl _ w).alloc (Nat.le_refl _) _).alloc (by simp) _
  have hsl : (⟨x.t.toArray⟩ : ByteArray).size = x.t.length := text_size x.t
  obtain ⟨S, hS⟩ : ∃ S : ByteArray, S = ⟨x.t.toArray⟩ := ⟨_, rfl⟩
  have hSd : S.data.toList = x.t := by rw [hS]
  have hcells : ∀ V, VarX V w.heap.size x → V.cell? ⟨w.heap.size, 0, none⟩ = some (.string S) ∧ V.cell? ⟨w.heap.size, 1, none⟩ = some (.int .i64 x.i) := fun V hV => by
    rw [hS]; exact hV.cells
  obtain ⟨c1, V1, hcv, hh1, hb1⟩ := conv_any S W.drew
  have hSz : S.size = x.t.length := by rw [hS]; exact hsl
  rw [hSd] at hh1
  have hb1w : Below W.heap.size W V1 := ⟨hb1.os, hb1.tape, hb1.output, hb1.size, hb1.block⟩
  have hb1' : Below w.heap.size w V1 := hb0.trans (hb1w.mono (by omega))
  have hz1 : V1.heap[w.heap.size + 1]? = some (.cells zeroE 68 (0, 0)) := (hb1.block _ (by show _ < W.heap.size; omega)).trans hz
  have hv1 : VarX V1 w.heap.size x := (hb1.block _ (by show _ < W.heap.size; omega)).trans hv
  have hsz1 : w.heap.size + 2 ≤ V1.heap.size := by have := hb1.size; have e : W.drew.heap.size = W.heap.size := rfl; omega
  have hWd : W.drew.heap.size = W.heap.size := rfl
  rw [hWd] at hcv hh1
  have hsum := sum_any (some ⟨W.heap.size, 0, none⟩) S.size c1 x.t V1 hh1 (by rw [hSz]; exact hx.t)
  have HSUM := Lib.hid hsum; clear hsum
  have HV := Lib.hid hv; clear hv
  have HV1 := Lib.hid hv1; clear hv1
  have HZ1 := Lib.hid hz1; clear hz1 hz hh1
  have HB1 := Lib.hid hb1'; clear hb1' hb1 hb1w
  have HB0 := Lib.hid hb0; clear hb0
  have HCE := Lib.hid hcells; clear hcells
  have HEC : Hid (eC x = #[.int .u32 (Crc.sum x.t : Int), .string S, .int .i64 x.i]) := Lib.hid (by unfold eC; rw [hS])
  unfold zeroE at hW
  rw [← hX] at hW ⊢
  have HW := Lib.hid hW; clear hW
  clear hsl hS hSd hX hv0
  go_enter Tryz.func38, Tryz.ntmps38
  go_wp2
  rw [← HW.out]
  refine wp_region_E (fun V => VarX V w.heap.size x ∧ Below w.heap.size w V) 99 rfl ?_
  have hS := (show VarX W.drew w.heap.size x ∧ Below w.heap.size w W.drew from ⟨HV.out, below_drew HB0.out⟩)
  refine wpE_takeF 0 ⟨some 3, _, _, _, _, _⟩ (v := ?_) (by decide) rfl (by kernel_rfl) (by kernel_rfl) (by kernel_rfl) (fun _ _ _ h => h) hS (Or.inl ⟨by kernel_rfl, ?_⟩) ?_
  rotate_left
  · (intro V hSw; obtain ⟨q0, q1⟩ := HCE.out V hSw.1; go_simp; try with_reducible rfl)
  try simp only [Act.put]
  refine wpE_takeF 1 ⟨some 4, _, _, _, _, _⟩ (v := ?_) (by decide) rfl (by kernel_rfl) (by kernel_rfl) (by kernel_rfl) (fun _ _ _ h => h) hS (Or.inl ⟨by kernel_rfl, ?_⟩) ?_
  rotate_left
  · (intro V hSw; obtain ⟨q0, q1⟩ := HCE.out V hSw.1; go_simp; try with_reducible rfl)
  try simp only [Act.put]
  refine wpE_takeF 4 ⟨some 7, _, _, _, _, _⟩ (v := ?_) (by decide) rfl (by kernel_rfl) (by kernel_rfl) (by kernel_rfl) (fun _ _ _ h => h) hS (Or.inl ⟨by kernel_rfl, ?_⟩) ?_
  rotate_left
  · (intro V hSw; obtain ⟨q0, q1⟩ := HCE.out V hSw.1; go_simp; try with_reducible rfl)
  try simp only [Act.put]
  refine wpE_takeF 5 ⟨some 8, _, _, _, _, _⟩ (v := ?_) (by decide) rfl (by kernel_rfl) (by kernel_rfl) (by kernel_rfl) (fun _ _ _ h => h) hS (Or.inl ⟨by kernel_rfl, ?_⟩) ?_
  rotate_left
  · (intro V hSw; obtain ⟨q0, q1⟩ := HCE.out V hSw.1; go_simp; try with_reducible rfl)
  try simp only [Act.put]
  refine wpE_takeF 6 ⟨some 9, _, _, _, _, _⟩ (v := ?_) (by decide) rfl (by kernel_rfl) (by kernel_rfl) (by kernel_rfl) (fun _ _ _ h => h) hS (Or.inl ⟨by kernel_rfl, ?_⟩) ?_
  rotate_left
  · (intro V hSw; obtain ⟨q0, q1⟩ := HCE.out V hSw.1; go_simp; try with_reducible rfl)
  try simp only [Act.put]
  refine wpE_takeF 7 ⟨some 10, _, _, _, _, _⟩ (v := ?_) (by decide) rfl (by kernel_rfl) (by kernel_rfl) (by kernel_rfl) (fun _ _ _ h => h) hS (Or.inl ⟨by kernel_rfl, ?_⟩) ?_
  rotate_left
  · (intro V hSw; obtain ⟨q0, q1⟩ := HCE.out V hSw.1; go_simp; try with_reducible rfl)
  try simp only [Act.put]
  refine wpE_one 2 (by kernel_rfl) rfl (fun K' hK' => ?_)
  go_simp
  refine hK'.out _ _ ⟨HV1.out, HB1.out⟩ (fun hS => ?_)
  clear hK' K'
  try simp only [Act.put]
  refine wpE_one 3 (o := ⟨some 6, _, _, _, _, _⟩) (by kernel_rfl) rfl (fun K' hK' => ?_)
  rw [if_pos (by kernel_rfl)]
  refine call_wp 63 _ _ _ _ rfl Tryz.func63 (by kernel_rfl) rfl _ ?hv _ HSUM.out ?_
  case hv => simp only [List.map_toArray, List.map_cons, List.map_nil]; go_simp
  rintro E V2 ⟨rfl, hb2⟩
  have hv2 : VarX V2 w.heap.size x := (hb2.block _ (by omega)).trans HV1.out
  have hb2w : Below w.heap.size w V2 := HB1.out.trans (hb2.mono (by omega))
  obtain ⟨V3, hst, hv3, hg3⟩ := run_stE_row V2 (w.heap.size + 1) zeroE rfl ((hb2.block _ (by omega)).trans HZ1.out) x
  have hb3 : Below w.heap.size w V3 := hb2w.grown hg3 hb2w.size (fun k hk => by injection hk with hk; omega)
  have hvx3 : VarX V3 w.heap.size x := (hg3.block _ (by have := hb2.size; omega) (fun e => by injection e with e; omega)).trans hv2
  rw [HEC.out] at hst
  refine ⟨_, rfl, hK'.out _ _ ⟨hv2, hb2w⟩ (fun hS => ?_)⟩
  clear hK' K'
  try simp only [Act.put]
  refine wpE_takeF 8 ⟨some 11, _, _, _, _, _⟩ (v := ?_) (by decide) rfl (by kernel_rfl) (by kernel_rfl) (by kernel_rfl) (fun _ _ _ h => h) hS (Or.inl ⟨by kernel_rfl, ?_⟩) ?_
  rotate_left
  · (intro V hSw; go_simp; try with_reducible rfl)
  try simp only [Act.put]
  refine wpE_one 9 (by kernel_rfl) rfl (fun K' hK' => ?_)
  go_simp
  refine hK'.out _ _ ⟨hvx3, hb3⟩ (fun hS => ?_)
  clear hK' K'
  try simp only [Act.put]
  refine wpE_done (by kernel_rfl) ?_ _
  try simp only [List.setIfInBounds_toArray, List.set_cons_succ, List.set_cons_zero]
  go_wp2
  exact bodyPost_ret (results_en rfl _ _ (w.heap.size + 1) x rfl hv3) rfl ⟨rfl, hb3⟩

/-- What leafOf answers of entries: the leaf of them by names, or that they don't fit. -/
def Leaf2 (w : World) (l : List Nm) (e : Ending) (w' : World) : Prop :=
  ∃ A c, e = .returned (.tuple #[.slice A (enc (sortR ordN l)).1.length c, .bool (decide ((enc (sortR ordN l)).2 = 0))]) ∧ Owned w' w.heap.size (.slice A (enc (sortR ordN l)).1.length c) (enc (sortR ordN l)).1 ∧ Below w.heap.size w w'
set_option maxRecDepth 100000 in
set_option maxHeartbeats 4000000 in
theorem leafOf_any (A : Option Addr) (n c B : Nat) (l : List Nm) (w : World) (h : HoldsC EN w B A n l) (hB : B ≤ w.heap.size) (hr : ∀ x ∈ l, x.rep) (hn : n ≤ 1048576) (hl : apart l) :
    Calls Tryz.prog 27 #[.slice A n c] w (Leaf2 w l) := by
  have hln := h.1
  have H := Lib.hid h; clear h
  have HR := Lib.hid hr; clear hr
  have HL := Lib.hid hl; clear hl
  obtain ⟨post, hpost⟩ : ∃ post, post = Leaf2 w l := ⟨_, rfl⟩
  rw [← hpost]
  have HP := Lib.hid hpost; clear hpost
  go_enter Tryz.func27, Tryz.ntmps27
  go_wp2
  go_loopw [4, 11] (fun s i wr => ∃ (k : Nat) (A4 : Option Addr) (c4 : Nat), k ≤ n ∧ s = .slice A4 k c4 ∧ i = .int .i64 (k : Int) ∧ OwnX wr w.heap.size (.slice A4 k c4) (l.take k) ∧ Below w.heap.size w wr) (fun _ i _ => n - (intOf i).toNat)
  case atStart => exact ⟨0, none, 0, Nat.zero_le _, rfl, rfl, OwnX.nil _ _, Below.refl _ _⟩
  case round =>
    obtain ⟨k, A4, c4, hk, rfl, rfl, hown, hb⟩ := hrel
    have HB := Lib.hid hb; clear hb
    rcases Nat.lt_or_ge k n with hlt | hge
    · obtain ⟨b, off, rfl, hbB⟩ := H.out.addr (by omega)
      have hkl : k < l.length := by omega
      have hld := run_ldE_at (H.out.below (HB.out.mono hB)) k hkl (off + k * 3) rfl
      have hst := run_stE_new wr l[k]
      obtain ⟨x, hx⟩ : ∃ x, x = l[k] := ⟨_, rfl⟩
      rw [← hx] at hld hst
      have hvar := VarE.new wr x
      have hl2 := hvar.load
      obtain ⟨W1, hW1⟩ : ∃ W1, W1 = wr.alloc (.cells (eC x) 68) := ⟨_, rfl⟩
      have hb1 : Below w.heap.size w W1 := by rw [hW1]; exact HB.out.alloc HB.out.size _
      have hown1 : OwnX W1 w.heap.size (.slice A4 k c4) (l.take k) := by rw [hW1]; exact hown.below ((Below.refl _ wr).alloc (Nat.le_refl _) _)
      rw [← hW1] at hl2 hst
      have htold := told_e x W1
      unfold Nm.c at htold
      obtain ⟨E, hE⟩ : ∃ E, E = eC x := ⟨_, rfl⟩
      rw [← hE] at hld hst hl2 htold hW1
      have hz : zeroE = #[.int .u32 0, .string ⟨#[]⟩, .int .i64 0] := rfl
      rw [hz] at hst
      have HW1 := Lib.hid hW1; clear hW1
      have HB1 := Lib.hid hb1; clear hb1
      have HO1 := Lib.hid hown1; clear hown1 hown hvar
      have HX := Lib.hid hx; clear hx
      have HT := Lib.hid htold; clear htold
      clear hz hE
      go_wp2_with fail
      with_reducible refine HT.out.mono ?_
      rintro E2 V2 ⟨rfl, hb2⟩
      have HB2 : Hid (Below w.heap.size w V2) := Lib.hid (HB1.out.trans (hb2.mono HB1.out.size))
      obtain ⟨v', V3, hrun, ho3, hg3⟩ := run_appX V2 w.heap.size (.slice A4 k c4) (l.take k) (HO1.out.below hb2) x 38 (by rw [List.length_take]; omega) HB2.out.size
      obtain ⟨A5, c5, rfl⟩ := ho3.shape
      have hlen5 : (l.take k ++ [x]).length = k + 1 := by rw [List.length_append, List.length_take]; simp; omega
      rw [hlen5] at ho3 hrun
      have HO3 := Lib.hid ho3; clear ho3
      have HB3 : Hid (Below w.heap.size w V3) := Lib.hid (HB2.out.trans (hg3.below HB2.out.size (fun k hk => (HO1.out.lt k hk).1)))
      clear hg3 hb2 hld hst hl2
      go_wp2_with (at_builtin; refine wpList_apprun rfl _ _ _ _ (by rfl) _ _ (by rfl) (by rfl) _ _ hrun ?_)
      clear hrun
      go_wp2
      go_roundw
      case rel =>
        refine ⟨k + 1, A5, c5, by omega, rfl, by go_num, ?_, HB3.out⟩
        have e : l.take (k + 1) = l.take k ++ [x] := by rw [List.take_succ_eq_append_getElem hkl, ← HX.out]
        rw [e]
        exact HO3.out
      case measure => simp [intOf]; omega
    · have hkn : k = n := by omega
      subst hkn
      have htk : l.take k = l := List.take_of_length_le (by omega)
      rw [htk] at hown
      have hsort := sortX_any w.heap.size A4 k c4 l wr hown (by omega) HL.out
      have HSORT := Lib.hid hsort; clear hsort
      have hbl : ∀ i, (Value.slice A4 k c4).ownBlock = some i → w.heap.size ≤ i := fun i hi => (hown.lt i hi).1
      have HBL := Lib.hid hbl; clear hbl hown htk
      have hkk : ¬ (k : Int) < (k : Int) := by omega
      go_wp2_with fail
      with_reducible refine HSORT.out.mono ?_
      rintro E5 W5 ⟨rfl, ho5, hg5⟩
      have HB5 : Hid (Below w.heap.size w W5) := Lib.hid (HB.out.grown hg5 HB.out.size HBL.out)
      have hrep : ∀ x ∈ sortR ordN l, x.rep := fun x hx => HR.out x ((sortR_mem _ _ _).1 hx)
      have henc := encode_any A4 k c4 W5.heap.size (sortR ordN l) W5 ho5.reads (Nat.le_refl _) hrep (by omega)
      obtain ⟨y, hy⟩ : ∃ y, y = enc (sortR ordN l) := ⟨_, rfl⟩
      rw [← hy] at henc
      have HY := Lib.hid hy; clear hy
      have HE := Lib.hid henc; clear henc hrep ho5 hg5
      go_wp2_with fail
      with_reducible refine HE.out.mono ?_
      rintro E6 W6 ⟨A6, c6, rfl, ho6, hb6⟩
      have HO6 : Hid (Owned W6 w.heap.size (.slice A6 y.1.length c6) y.1) := Lib.hid (Owned.mono ho6 HB5.out.size)
      have HB6 : Hid (Below w.heap.size w W6) := Lib.hid (HB5.out.trans (hb6.mono HB5.out.size))
      clear ho6 hb6
      go_wp2
      rw [HP.out]
      unfold Leaf2
      rw [← HY.out]
      have hd : (y.2 == 0) = decide (y.2 = 0) := rfl
      exact ⟨A6, c6, by rw [← hd]; rfl, HO6.out, HB6.out⟩
end Go.Proofs.YtbagocghlijleaaGreat.Ht
