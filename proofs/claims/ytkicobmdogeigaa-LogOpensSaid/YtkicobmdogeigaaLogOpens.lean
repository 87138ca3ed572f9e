/- A log's opening answers as the document's, whatever lies in its head's block: proved for every head and area. -/
import Derived.Test.YtkicobmdogeigaaLgBeside
import Derived.Test.YtkicobmdogeigaaDeed
namespace Go.Proofs.Ytkicobmdogeigaa.LogOpens
set_option maxRecDepth 20000
open Go.ChangeShapes Go.WideShapes Go.ChangeAt Go.RowKit
open Go.Proofs.Ytkicobmdogeigaa.Mem Go.Proofs.Ytkicobmdogeigaa.Lift Go.Proofs.Ytkicobmdogeigaa.Disk Go.Proofs.Ytkicobmdogeigaa.Log

theorem area_by_value {H : Type} {enc : TypeId × Value → H} {W : World} {b0 : Nat} {v : Value} {d : DataW H} {p : List MemPlace} (hv : Value.okWide Try.prog W .any b0 50 v)
    (h : DataW.Trod enc Try.prog W 0 (fun _ => true) true 50 v d p) : ∃ B S L : Int, v = .agg #[.int .i64 B, .int .i64 S, .int .i64 L] := by
  obtain ⟨cs, rfl, _⟩ := okWide_struct Try.underlying50 hv
  obtain ⟨fuel, hf⟩ := h
  obtain ⟨hl, n, hf⟩ := fields_of Try.underlying50 (by kernel_rfl) (by kernel_rfl) hf
  obtain ⟨cs⟩ := cs
  simp only [Value.cells] at hl hf
  match cs, hl with
  | [v0, v1, v2], _ =>
    obtain ⟨y0, h0⟩ := hf 0 _ v0 rfl rfl
    obtain ⟨y1, h1⟩ := hf 1 _ v1 rfl rfl
    obtain ⟨y2, h2⟩ := hf 2 _ v2 rfl rfl
    obtain ⟨B, e0, _, w0⟩ := DataW.trod_int Try.underlying3 h0
    obtain ⟨S, e1, _, w1⟩ := DataW.trod_int Try.underlying3 h1
    obtain ⟨L, e2, _, w2⟩ := DataW.trod_int Try.underlying3 h2
    simp at e0 e1 e2
    subst e0 e1 e2
    exact ⟨B, S, L, rfl⟩

set_option maxRecDepth 100000 in
set_option maxHeartbeats 4000000 in
theorem walk_bad (A : Option Addr) (n0 c0 : Nat) (B S L : Int) (w : World) (hb : mayB B = false) :
    Calls Try.prog 6 #[.slice A n0 c0, .agg #[.int .i64 B, .int .i64 S, .int .i64 L]] w fun e w' => e = .returned (.bool true) ∧ Below w.heap.size w w' := by
  have hb1 : Below w.heap.size w (w.alloc (.cells #[.int .i64 B, .int .i64 S, .int .i64 L] 50)) := (Below.refl w.heap.size w).alloc (Nat.le_refl _) _
  have hx1 : (w.alloc (.cells #[.int .i64 B, .int .i64 S, .int .i64 L] 50)).heap[w.heap.size]? = some (.cells #[.int .i64 B, .int .i64 S, .int .i64 L] 50 (0, 0)) := heap_alloc_new w _
  have HB1 := Lib.hid hb1; clear hb1
  have HX1 := Lib.hid hx1; clear hx1
  have HM := Lib.hid hb; clear hb
  go_enter Try.func6, Try.ntmps6
  go_wp2_with fail
  generalize w.alloc (.cells #[.int .i64 B, .int .i64 S, .int .i64 L] 50) = W at HB1 HX1 ⊢
  refine (Go.Proofs.Ytkicobmdogeigaa.Log.alive_any _).mono ?_
  rintro e w1 ⟨rfl, hb⟩
  have hx2 := (hb.block _ (Array.getElem?_eq_some_iff.1 HX1.out).1).trans HX1.out
  have q0 : w1.cell? ⟨w.heap.size, 0, none⟩ = some (.int .i64 B) := cell_of_row w1 _ 0 _ _ _ hx2
  have HB2 : Hid (Below w.heap.size w w1) := Lib.hid (HB1.out.trans (hb.mono HB1.out.size))
  clear hb hx2 HX1 HB1
  go_wp2_with fail
  with_reducible refine (new_bad B w1 HM.out).mono ?_
  rintro e w2 ⟨rfl, rfl⟩
  go_wp2_with fail
  with_reducible refine (rnew_bad B w1 HM.out).mono ?_
  rintro e w2 ⟨rfl, rfl⟩
  go_wp2
  go_ret
  exact ⟨rfl, HB2.out⟩

set_option maxRecDepth 100000 in
set_option maxHeartbeats 4000000 in
theorem walk_good (A : Option Addr) (n0 c0 nb : Nat) (hd : List UInt8) (S L : Int) (w : World) (hhd : Holds w w.heap.size A n0 hd) (hn1 : 1 ≤ nb) (hn2 : nb ≤ 1024) :
    Calls Try.prog 6 #[.slice A n0 c0, .agg #[.int .i64 (nb : Int), .int .i64 S, .int .i64 L]] w fun e w' => e = .returned (.bool true) ∧ Below w.heap.size w w' := by
  obtain ⟨Z, hZ⟩ : ∃ Z, Z = List.replicate 256 (0 : UInt8) := ⟨_, rfl⟩
  have hmk : ∀ W, (Instr.makeSlice 33 (.int .i64 256) (.int .i64 256)).run Try.prog W = .ok (.slice (some ⟨W.heap.size, 0, none⟩) 256 256) (W.alloc (.cells (Z.map byteV).toArray 5)) := by
    rw [hZ]
    exact Go.Proofs.Ytkicobmdogeigaa.Rec.run_makeZ 256 (by omega)
  have hZl : Z.length = 256 := by rw [hZ, List.length_replicate]
  have HMK := Lib.hid hmk; clear hmk
  have HZL := Lib.hid hZl; clear hZl
  clear hZ
  have HHD := Lib.hid hhd; clear hhd
  have hb1 : Below w.heap.size w (w.alloc (.cells #[.int .i64 (nb : Int), .int .i64 S, .int .i64 L] 50)) := (Below.refl w.heap.size w).alloc (Nat.le_refl _) _
  have hx1 : (w.alloc (.cells #[.int .i64 (nb : Int), .int .i64 S, .int .i64 L] 50)).heap[w.heap.size]? = some (.cells #[.int .i64 (nb : Int), .int .i64 S, .int .i64 L] 50 (0, 0)) := heap_alloc_new w _
  have HB1 := Lib.hid hb1; clear hb1
  have HX1 := Lib.hid hx1; clear hx1
  go_enter Try.func6, Try.ntmps6
  go_wp2_with fail
  generalize w.alloc (.cells #[.int .i64 (nb : Int), .int .i64 S, .int .i64 L] 50) = W at HB1 HX1 ⊢
  refine (Go.Proofs.Ytkicobmdogeigaa.Log.alive_any _).mono ?_
  rintro e w1 ⟨rfl, hb⟩
  have hx2 := (hb.block _ (Array.getElem?_eq_some_iff.1 HX1.out).1).trans HX1.out
  have hz1 : w.heap.size < w1.heap.size := (Array.getElem?_eq_some_iff.1 hx2).1
  have q0 : w1.cell? ⟨w.heap.size, 0, none⟩ = some (.int .i64 (nb : Int)) := cell_of_row w1 _ 0 _ _ _ hx2
  have HB2 : Hid (Below w.heap.size w w1) := Lib.hid (HB1.out.trans (hb.mono HB1.out.size))
  have HX2 := Lib.hid hx2; clear hx2
  have HZ1 := Lib.hid hz1; clear hz1
  clear hb HX1 HB1
  go_wp2_with fail
  with_reducible refine (new_d (nb : Int) nb 0 w1 rfl hn1 hn2).mono ?_
  rintro e w2 ⟨p, F, rfl, hD, hF, hb2⟩
  unfold ptr
  have hx3 := (hb2.block _ HZ1.out).trans HX2.out
  have q0' : w2.cell? ⟨w.heap.size, 0, none⟩ = some (.int .i64 (nb : Int)) := cell_of_row w2 _ 0 _ _ _ hx3
  have HD2 := Lib.hid hD; clear hD
  have HF2 := Lib.hid hF; clear hF
  have HBB2 := Lib.hid hb2; clear hb2
  clear hx3 q0
  go_wp2_with fail
  with_reducible refine (rnew_d nb w2 hn1 hn2).mono ?_
  rintro e w3 ⟨r, G, rfl, hR, hG, hb3⟩
  unfold ptr
  have hduo := duo_new (w := w1) HD2.out HF2.out HBB2.out hR hG hb3
  have HDUO := Lib.hid hduo; clear hduo
  have HBB3 : Hid (Below w1.heap.size w1 w3) := Lib.hid HDUO.out.below
  clear hR hG hb3 HD2 HF2 HBB2 q0'
  go_wp2_with fail
  rw [HMK.out]
  simp only [Result.andThen]
  try rw [Oper.upon_value]
  clear HMK
  obtain ⟨X, k, w4, hrun, hXl, hXg, hb4⟩ := run_fill (w3.alloc (.cells (Z.map byteV).toArray 5)) A n0 c0 w.heap.size w3.heap.size hd Z ((HHD.out.below HB2.out).below ((HBB3.out.mono (by have := HZ1.out; omega)).trans ((Below.refl w.heap.size w3).alloc (by have := HZ1.out; have := HBB3.out.size; omega) _))) HZL.out (heap_alloc_new w3 _)
  have hb34 : Below w3.heap.size w3 w4 := ((Below.refl w3.heap.size w3).alloc (Nat.le_refl _) _).trans hb4
  have HRUN := Lib.hid hrun; clear hrun
  have hd4 := HDUO.out.below' hb34
  have hw2 := wrote_at p r 0 w3.heap.size w1.heap.size S L (Dk.Dk.new nb) F G w4 hd4.one hd4.two hd4.apart hd4.lowF hd4.lowG (by have := HBB3.out.size; have := hb34.size; omega) (by omega) X hXl hXg (fun e => by have := HDUO.out.one.lt _ e; omega)
  unfold Wrote2 at hw2
  have HW := Lib.hid hw2; clear hw2
  have HB4 : Hid (Below w1.heap.size w1 w4) := Lib.hid hd4.below
  have hx4 := (HB4.out.block _ HZ1.out).trans HX2.out
  have q1 : w4.cell? ⟨w.heap.size, 1, none⟩ = some (.int .i64 S) := cell_of_row w4 _ 1 _ _ _ hx4
  clear hXl hXg hb4 hb34 hd4 hx4 HDUO HBB3 HHD HZL
  go_wp2_with fail
  rw [HRUN.out]
  simp only [Result.andThen]
  rw [Oper.upon_value]
  clear HRUN
  go_wp2_with fail
  with_reducible refine HW.out.mono ?_
  rintro e w5 ⟨⟨u5, rfl⟩, hb5, hr5⟩
  have HR5 := Lib.hid hr5; clear hr5
  have HB5 : Hid (Below w1.heap.size w1 w5) := Lib.hid (HB4.out.trans hb5)
  have hx5 := (HB5.out.block _ HZ1.out).trans HX2.out
  have p1 : w5.cell? ⟨w.heap.size, 1, none⟩ = some (.int .i64 S) := cell_of_row w5 _ 1 _ _ _ hx5
  clear HW HB4 hb5 hx5 q1
  go_wp2_with fail
  with_reducible refine HR5.out.mono ?_
  rintro e w6 ⟨⟨u6, rfl⟩, hb6, ho6⟩
  have HB6 : Hid (Below w1.heap.size w1 w6) := Lib.hid (HB5.out.trans hb6)
  have hx6 := (HB6.out.block _ HZ1.out).trans HX2.out
  have q1 : w6.cell? ⟨w.heap.size, 1, none⟩ = some (.int .i64 S) := cell_of_row w6 _ 1 _ _ _ hx6
  have q2 : w6.cell? ⟨w.heap.size, 2, none⟩ = some (.int .i64 L) := cell_of_row w6 _ 2 _ _ _ hx6
  have HO6 := Lib.hid ho6
  clear HR5 HB5 hb6 hx6 p1 ho6
  go_wp2_with fail
  rcases HO6.out with ⟨code, rfl | rfl, ho⟩ | ⟨s, l, seq, pl, rfl, h8, hl, ho⟩
  · clear HO6
    have HO := Lib.hid ho; clear ho
    with_reducible refine HO.out.mono ?_
    rintro e w7 ⟨rfl, hb7, ho7⟩
    have HO7 := Lib.hid ho7; clear ho7
    have HB7 : Hid (Below w1.heap.size w1 w7) := Lib.hid (HB6.out.trans (hb7.mono HB6.out.size))
    have hx7 := (HB7.out.block _ HZ1.out).trans HX2.out
    have p1 : w7.cell? ⟨w.heap.size, 1, none⟩ = some (.int .i64 S) := cell_of_row w7 _ 1 _ _ _ hx7
    have p2 : w7.cell? ⟨w.heap.size, 2, none⟩ = some (.int .i64 L) := cell_of_row w7 _ 2 _ _ _ hx7
    clear HO HB6 hb7 hx7 q1 q2
    go_wp2_with fail
    with_reducible refine HO7.out.mono ?_
    rintro e w8 ⟨rfl, hb8⟩
    have HB8 : Hid (Below w1.heap.size w1 w8) := Lib.hid (HB7.out.trans (hb8.mono HB7.out.size))
    clear HO7 HB7 hb8 p1 p2
    go_wp2
    go_ret
    exact ⟨rfl, HB2.out.trans (HB8.out.mono HB2.out.size)⟩
  · clear HO6
    have HO := Lib.hid ho; clear ho
    with_reducible refine HO.out.mono ?_
    rintro e w7 ⟨rfl, hb7, ho7⟩
    have HO7 := Lib.hid ho7; clear ho7
    have HB7 : Hid (Below w1.heap.size w1 w7) := Lib.hid (HB6.out.trans (hb7.mono HB6.out.size))
    have hx7 := (HB7.out.block _ HZ1.out).trans HX2.out
    have p1 : w7.cell? ⟨w.heap.size, 1, none⟩ = some (.int .i64 S) := cell_of_row w7 _ 1 _ _ _ hx7
    have p2 : w7.cell? ⟨w.heap.size, 2, none⟩ = some (.int .i64 L) := cell_of_row w7 _ 2 _ _ _ hx7
    clear HO HB6 hb7 hx7 q1 q2
    go_wp2_with fail
    with_reducible refine HO7.out.mono ?_
    rintro e w8 ⟨rfl, hb8⟩
    have HB8 : Hid (Below w1.heap.size w1 w8) := Lib.hid (HB7.out.trans (hb8.mono HB7.out.size))
    clear HO7 HB7 hb8 p1 p2
    go_wp2
    go_ret
    exact ⟨rfl, HB2.out.trans (HB8.out.mono HB2.out.size)⟩
  · clear HO6
    have HO := Lib.hid ho; clear ho
    with_reducible refine HO.out.mono ?_
    rintro e w7 ⟨lp, rfl, hlog, hb7, ho7⟩
    have HO7 := Lib.hid ho7; clear ho7
    have HLOG := Lib.hid hlog; clear hlog
    have HB7 : Hid (Below w1.heap.size w1 w7) := Lib.hid (HB6.out.trans (hb7.mono HB6.out.size))
    have hx7 := (HB7.out.block _ HZ1.out).trans HX2.out
    have p1 : w7.cell? ⟨w.heap.size, 1, none⟩ = some (.int .i64 S) := cell_of_row w7 _ 1 _ _ _ hx7
    have p2 : w7.cell? ⟨w.heap.size, 2, none⟩ = some (.int .i64 (l : Int)) := cell_of_row w7 _ 2 _ _ _ hx7
    clear HO HB6 hb7 hx7 q1 q2
    go_wp2_with fail
    with_reducible refine HO7.out.mono ?_
    rintro e w8 ⟨m, rfl, hm, hb8⟩
    have hlog8 : LogAt w8 lp p (s : Int) ((l : Int) - 1) seq pl 0 (.slice none 0 0) := (hb8.block _ (Array.getElem?_eq_some_iff.1 HLOG.out).1).trans HLOG.out
    have hnx := next_any lp p seq pl 0 (s : Int) ((l : Int) - 1) (.slice none 0 0) w8 hlog8
    have hrm : ∀ V, Below w8.heap.size w8 V → Calls Try.prog 40 #[.pointer (some ⟨lp, 0, none⟩)] V fun e w' => e = .returned (.int .i64 ((l : Int) - 1)) ∧ Below V.heap.size V w' := fun V hV => by
      have := room_any lp p seq pl 0 (s : Int) ((l : Int) - 1) (.slice none 0 0) V ((hV.block _ (Array.getElem?_eq_some_iff.1 hlog8).1).trans hlog8) ⟨by omega, by omega⟩ (by omega)
      simpa using this
    have HB8 : Hid (Below w1.heap.size w1 w8) := Lib.hid (HB7.out.trans (hb8.mono HB7.out.size))
    have hx8 := (HB8.out.block _ HZ1.out).trans HX2.out
    have HX8 := Lib.hid hx8; clear hx8
    have HM := Lib.hid hm; clear hm
    have HNX := Lib.hid hnx; clear hnx
    have HRM := Lib.hid hrm; clear hrm
    clear HO7 HB7 HLOG hlog8 hb8 p1 p2 HX2
    go_wp2_with fail
    with_reducible refine HNX.out.mono ?_
    rintro e w9 ⟨rfl, hb9⟩
    have hkeep : ∀ V, Below w8.heap.size w8 V → (V.cell? ⟨m, 3, none⟩ = some (.int .u64 (seq : Int)) ∧ V.cell? ⟨m, 4, none⟩ = some (.int .i64 (pl : Int)) ∧ V.cell? ⟨w.heap.size, 2, none⟩ = some (.int .i64 (l : Int))) := fun V hV => by
      have hmV := (hV.block _ (Array.getElem?_eq_some_iff.1 HM.out).1).trans HM.out
      have hxV := (hV.block _ (Array.getElem?_eq_some_iff.1 HX8.out).1).trans HX8.out
      exact ⟨cell_of_row V m 3 _ _ _ hmV, cell_of_row V m 4 _ _ _ hmV, cell_of_row V _ 2 _ _ _ hxV⟩
    have hw : IntKind.i64.wrap ((l : Int) - 1) = (l : Int) - 1 := by rw [IntKind.wrap_i64]; omega
    have HKEEP := Lib.hid hkeep; clear hkeep
    have HB9 := Lib.hid hb9; clear hb9
    clear HNX HM HX8
    go_wp2_with fail
    have HV9 : Hid (Below w8.heap.size w8 w9.drew) := Lib.hid HB9.out.drew
    have hS := HKEEP.out w9.drew HV9.out
    go_region_held (fun V => V.cell? ⟨m, 3, none⟩ = some (.int .u64 (seq : Int)) ∧ V.cell? ⟨m, 4, none⟩ = some (.int .i64 (pl : Int)) ∧ V.cell? ⟨w.heap.size, 2, none⟩ = some (.int .i64 (l : Int))) (assumption)
      (first
        | (go_at_call 40
           have hcall := HRM.out _ HV9.out
           with_reducible refine hcall.mono ?_
           rintro e V1 ⟨rfl, hV1⟩
           clear hcall hS
           have HV1 := Lib.hid (HV9.out.trans (hV1.mono HV9.out.size))
           have hS1 := HKEEP.out V1 HV1.out
           clear hV1))
    all_goals
      go_wp2
      go_ret
      exact ⟨rfl, HB2.out.trans ((HB8.out.trans (HV1.out.mono HB8.out.size)).mono HB2.out.size)⟩

theorem walks : Walks 6 Try.f6 All := by
  intro H enc W base args ds p hval hA hsz _
  rw [Try.params6] at hA hval hsz
  obtain ⟨v0, vs0, d0, ds0, p0, q0, hargs, rfl, rfl, h0, r0⟩ := trodAll_cons hA
  obtain ⟨v1, vs1, d1, ds1, p1, q1, rfl, rfl, rfl, h1, r1⟩ := trodAll_cons r0
  obtain ⟨rfl, rfl, rfl⟩ := trodAll_nil r1
  obtain rfl : args = #[v0, v1] := by cases args; simp_all
  obtain ⟨A, n, c, bs, rfl, hb, hc, hn⟩ := open_bytes (hval 0 _ v0 rfl rfl) h0 _ (reach_bytes hsz (j := 0) rfl rfl)
  obtain ⟨B, S, L, rfl⟩ := area_by_value (hval 1 _ v1 rfl rfl) h1
  cases hm : mayB B
  · exact walk_bad A n c B S L W hm
  · simp [mayB] at hm
    obtain ⟨nb, rfl⟩ : ∃ nb : Nat, B = (nb : Int) := ⟨B.toNat, by omega⟩
    exact walk_good A n c nb bs S L W hb (by omega) (by omega)

set_option maxRecDepth 100000 in
theorem proved : Rows.LogOpensSaid :=
  OpenClaim.holds_of_wide 6 Try.f6 rfl rfl rfl rfl rfl rfl rfl ⟨rfl, rfl, rfl, rfl, rfl⟩ rfl rfl rfl rfl rfl (by kernel_rfl) Try.func6 (by kernel_rfl)
    (of_decide_eq_true (by kernel_rfl)) (by unfold Func.isWrapper; first | (rw [if_pos (by decide +kernel)]; kernel_rfl) | (rw [if_neg (by decide +kernel)]; exact ⟨rfl, rfl⟩))
    (fun os started H enc _ => lifted (s := Rows.logOpensSpec) walks (by kernel_rfl) rfl rfl (fun H ds hl => by match ds, hl with | [d1, d2], _ => rfl) (by kernel_rfl) Try.func6 os started H enc
      (ChangeSpec.witness6 (enc := enc) (C := Try.checked) false ⟨#[], #[.slice none 0 0, .agg #[.int .i64 0, .int .i64 0, .int .i64 0]], []⟩ 8 (by kernel_rfl) (by kernel_rfl) (by kernel_rfl) (by kernel_rfl)))
#print axioms proved
end Go.Proofs.Ytkicobmdogeigaa.LogOpens
