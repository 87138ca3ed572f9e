/- The fixed fact of layer 6. -/
import Derived.Test.YtmlkhnglmjlfbaaGmEnc
import Derived.Test.YtmlkhnglmjlfbaaGmPart
namespace Go.Proofs.Ytmlkhnglmjlfbaa.Gm
set_option maxRecDepth 20000
open Go.RowKit
open Go.Proofs.Ytmlkhnglmjlfbaa.Mem Go.Proofs.Ytmlkhnglmjlfbaa.Crc Go.Proofs.Ytmlkhnglmjlfbaa.Rec
attribute [local go_sem ↓] ldG_eq stG_eq eqG_eq

/-- A variable of a geometry. -/
def VarG (w : World) (g : Nat) (h : Gm) : Prop := w.heap[g]? = some (.cells h.c 23 (0, 0))
theorem VarG.lt {w : World} {g : Nat} {h : Gm} (hv : VarG w g h) : g < w.heap.size := (Array.getElem?_eq_some_iff.1 hv).1
theorem VarG.keep {w w' : World} {g : Nat} {h : Gm} (hv : VarG w g h) (hb : Below w.heap.size w w') : VarG w' g h := (hb.block _ hv.lt).trans hv
theorem VarG.alloc {w : World} {g : Nat} {h : Gm} (hv : VarG w g h) (o : Obj) : VarG (w.alloc o) g h := (heap_alloc_old w o hv.lt).trans hv
theorem VarG.new (w : World) (h : Gm) : VarG (w.alloc (.cells h.c 23)) w.heap.size h := heap_alloc_new w _
theorem VarG.load {w : World} {g : Nat} {h : Gm} (hv : VarG w g h) : (ldG (.pointer (some ⟨g, 0, none⟩))).run Try.prog w = .ok (.agg h.c) w := run_ldG w g h hv
theorem VarG.cell {w : World} {g : Nat} {h : Gm} (hv : VarG w g h) (k : Nat) : w.cell? ⟨g, k, none⟩ = h.c[k]? := cell_of_row w g k _ _ _ hv

theorem sup_head (b : Nat) (h : 0 < (sup b).length) : (sup b)[0] = 85 := by simp [sup, pre, mark8]

set_option maxRecDepth 100000 in
theorem alive_any (w : World) :
    Calls Try.prog 8 #[] w fun e w' => e = .returned (.bool true) ∧ Below w.heap.size w w' := by
  go_enter Try.func8, Try.ntmps8
  go_wp2_with fail
  with_reducible refine (layout_ok 128 w (by omega) (by omega)).mono ?_
  rintro e w1 ⟨rfl, hb1⟩
  obtain ⟨w2, hw2⟩ : ∃ x, x = w1.alloc (.cells (lay 128).c 23) := ⟨_, rfl⟩
  have l0 := run_stG_new w1 (lay 128)
  rw [← hw2] at l0
  have hv2 : VarG w2 w1.heap.size (lay 128) := hw2 ▸ VarG.new w1 _
  have hb2 : Below w.heap.size w w2 := hw2 ▸ hb1.alloc hb1.size _
  have l1 := hv2.load
  have HV2 := Lib.hid hv2; clear hv2
  have HB2 := Lib.hid hb2; clear hb2 hb1 hw2
  have henc : Calls Try.prog 11 #[.agg (lay 128).c] w2 (Sup 128 w2) := encode_ok 128 w2 (by omega) (by omega)
  have HENC := Lib.hid henc; clear henc
  go_wp2_with fail
  with_reducible refine HENC.out.mono ?_
  rintro e w3 ⟨A, c, rfl, ho, hb3⟩
  obtain ⟨g, cap, hv, _, _, _, hcell⟩ := Owned.row ho (by rw [sup_len]; omega)
  have hc0 := (hcell 0 (by rw [sup_len]; omega)).1
  rw [sup_head] at hc0
  injection hv with e1 _ e3
  subst e1 e3
  have hv3 := HV2.out.keep hb3
  have HB3 : Hid (Below w.heap.size w w3) := Lib.hid (HB2.out.trans (hb3.mono HB2.out.size))
  have q5 : w3.cell? ⟨w1.heap.size, 5, none⟩ = some (.int .i64 19) := hv3.cell 5
  have q7 : w3.cell? ⟨w1.heap.size, 7, none⟩ = some (.int .i64 55) := hv3.cell 7
  have hc0' : w3.cell? ⟨g, 0, none⟩ = some (.int .u8 85) := hc0
  have l1 := hv3.load
  clear hcell hc0 ho hb3 HB2 HV2 l0
  go_wp2_with fail
  with_reducible refine (where_any (lay 128) 54 w3).mono ?_
  rintro e w4 ⟨rfl, hb4⟩
  have HB4 : Hid (Below w.heap.size w w4) := Lib.hid (HB3.out.trans (hb4.mono HB3.out.size))
  rw [show whereE (lay 128) 54 = 5 by decide]
  clear hb4
  go_wp2
  go_ret
  exact ⟨rfl, HB4.out⟩
end Go.Proofs.Ytmlkhnglmjlfbaa.Gm
