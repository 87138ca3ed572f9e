/- Data that looks like one of the log's own blocks does not look so in the log, and comes back as it was: proved for every record. -/
import Derived.Test.YthildbbfccipoaaRcOver
import Derived.Deep.RegionWith
namespace Go.Proofs.Ythildbbfccipoaa.RecordMarks
open Go.ChangeShapes Go.WideShapes Go.ChangeAt Go.RowKit
open Go.Proofs.Ythildbbfccipoaa.Mem Go.Proofs.Ythildbbfccipoaa.Rec Go.Proofs.Ythildbbfccipoaa.Lift

/-- A record of the call's own, in a box at block y. -/
structure Given (w wr : World) (y base seq : Nat) (ws : List Wt) (rs : List Int) (Bw : Option Addr) (nw dw : Nat) (Br : Option Addr) (nr dr : Nat) (vs : List Value) : Prop where
  own : OwnsT wr base ⟨seq, ws, rs⟩ Bw dw Br dr vs
  len : ws.length = nw
  rl : rs.length = nr
  iw : ∀ x ∈ ws, IsInt x.1
  box : wr.heap[y]? = some (.cells #[.int .u64 (seq : Int), .slice Bw nw dw, .slice Br nr dr] 52 (0, 0))
  below : Below w.heap.size w wr
  bb : w.heap.size ≤ base
theorem Given.over {w wr w6 : World} {y base seq nw dw nr dr k g L c2 : Nat} {ws : List Wt} {rs : List Int} {Bw Br : Option Addr} {vs : List Value} {x1 : Int} {x2 z : List UInt8}
    (h : Given w wr y base seq ws rs Bw nw dw Br nr dr vs) (hx : ws[k]? = some (x1, x2)) (hv : vs[k]? = some (.slice (some ⟨g, 0, none⟩) L c2)) (hy : Owned w6 base (.slice (some ⟨g, 0, none⟩) L c2) z) (hb : Below base wr w6) (hfr : ∀ q, q ≠ g → w6.heap[q]? = wr.heap[q]?)
    (ho : Owned wr base (.slice (some ⟨g, 0, none⟩) L c2) x2) : Given w w6 y base seq (ws.set k (x1, z)) rs Bw nw dw Br nr dr vs := by
  obtain ⟨cur, hg⟩ := row_type ho (k := g) rfl
  refine ⟨⟨?_, ?_⟩, by rw [List.length_set]; exact h.len, h.rl, fun u hu => ?_, ?_, h.below.trans (hb.mono h.bb), h.bb⟩
  · have := h.own.ws.over hx hv hy (fun q hq => hfr q (fun e => hq (by rw [e]; rfl)))
    rw [show (⟨seq, ws.set k (x1, z), rs⟩ : Tx).ws.length = (⟨seq, ws, rs⟩ : Tx).ws.length from List.length_set]
    exact this
  · obtain ⟨h1, h2⟩ := h.own.rs
    refine ⟨h1, ?_⟩
    rcases h2 with h2 | ⟨q, cap, cu, ev, hb', hh, r⟩
    · exact .inl h2
    · refine .inr ⟨q, cap, cu, ev, hb', (hfr q (fun e => ?_)).trans hh, r⟩
      subst e
      rw [hg] at hh
      injection hh with hh
      injection hh with _ hh
      exact absurd hh (by decide)
  · rcases List.mem_or_eq_of_mem_set hu with hm | rfl
    · exact h.iw u hm
    · exact (h.iw (x1, x2) (List.mem_of_getElem? hx) : IsInt x1)
  · rw [hfr y (fun e => ?_)]
    · exact h.box
    · subst e
      have := h.box
      rw [hg] at this
      injection this with this
      injection this with _ this
      exact absurd this (by decide)

set_option maxRecDepth 100000 in
set_option maxHeartbeats 4000000 in
theorem walk (t : Tx) (Aw Ar : Option Addr) (nw cw nr cr : Nat) (w : World) (ht : TxAt w w.heap.size t Aw nw cw Ar nr cr) (hW : Wide t) :
    Calls Try.prog 8 #[.agg #[.int .u64 (t.seq : Int), .slice Aw nw cw, .slice Ar nr cr]] w fun e w' => e = .returned (.bool true) ∧ Below w.heap.size w w' := by
  obtain ⟨seq, ws, rs⟩ := t
  obtain ⟨cur, hcur⟩ : ∃ c, c = #[Value.int .u64 (seq : Int), .slice Aw nw cw, .slice Ar nr cr] := ⟨_, rfl⟩
  obtain ⟨W, hWe⟩ : ∃ W, W = w.alloc (.cells cur 52) := ⟨_, rfl⟩
  have hb0 : Below w.heap.size w W := by rw [hWe]; exact (Below.refl w.heap.size w).alloc (Nat.le_refl _) _
  have hs0 : w.heap.size < W.heap.size := by rw [hWe]; simp
  have hbk : W.heap[w.heap.size]? = some (.cells cur 52) := by rw [hWe]; exact heap_alloc_new w _
  have HSQ := Lib.hid ht.seq
  have HT := Lib.hid ht; clear ht
  have HWI := Lib.hid hW; clear hW
  go_enter Try.func8, Try.ntmps8
  go_wp2_with fail
  rw [← hcur, ← hWe]
  have P0 : Hid (∀ v, Below W.heap.size W v → v.cell? ⟨w.heap.size, 0, none⟩ = some (.int .u64 (seq : Int)) ∧ v.cell? ⟨w.heap.size, 1, none⟩ = some (.slice Aw nw cw) ∧ v.cell? ⟨w.heap.size, 2, none⟩ = some (.slice Ar nr cr)) := Lib.hid (fun v hv => by
    have hh : v.heap[w.heap.size]? = some (.cells cur 52) := (hv.block _ hs0).trans hbk
    rw [hcur] at hh
    exact ⟨cell_of_row _ _ _ _ _ _ hh, cell_of_row _ _ _ _ _ _ hh, cell_of_row _ _ _ _ _ _ hh⟩)
  have HB0 := Lib.hid hb0; clear hb0 hs0
  clear hcur hWe hbk
  refine (alive_any W).mono ?_
  rintro e w1 ⟨rfl, hb1⟩
  have hc := copy_owns ⟨seq, ws, rs⟩ Aw Ar nw cw nr cr w.heap.size w1 (HT.out.below (HB0.out.trans (hb1.mono HB0.out.size))) HWI.out (Nat.le_trans HB0.out.size hb1.size)
  obtain ⟨p0, p1, p2⟩ := P0.out w1 hb1
  have HW1 := Lib.hid (HB0.out.trans (hb1.mono HB0.out.size)); clear hb1
  have HC := Lib.hid hc; clear hc
  go_wp2_with fail
  with_reducible refine HC.out.mono ?_
  clear HC p0 p1 p2 P0
  rintro e w2 ⟨Bw, dw, Br, dr, vs, rfl, ho, -, hb2⟩
  have hlw : ws.length = nw := HT.out.ws.1
  have hlr : rs.length = nr := HT.out.rs.1
  have hG : Given w (w2.alloc (.cells #[.int .u64 (seq : Int), .slice Bw nw dw, .slice Br nr dr] 52)) w2.heap.size w1.heap.size seq ws rs Bw nw dw Br nr dr vs := by
    have hbA := (Below.refl w2.heap.size w2).alloc (Nat.le_refl _) (.cells #[.int .u64 (seq : Int), .slice Bw nw dw, .slice Br nr dr] 52)
    exact ⟨ho.kept (Kept.of_below hbA (Nat.le_refl _)), hlw, hlr, HT.out.intW, heap_alloc_new w2 _, HW1.out.trans ((hb2.trans (hbA.mono hb2.size)).mono HW1.out.size), HW1.out.size⟩
  obtain ⟨y, hy⟩ : ∃ y, y = w2.heap.size := ⟨_, rfl⟩
  obtain ⟨base, hbase⟩ : ∃ b, b = w1.heap.size := ⟨_, rfl⟩
  have hwn : nw ≤ 4398046510976 := by rw [← hlw]; exact HWI.out.nw
  have hrn : nr ≤ 17592186043904 := by rw [← hlr]; exact HWI.out.nr
  rw [← hy, ← hbase] at hG
  have HG := Lib.hid hG; clear hG ho hb2 hlw hlr
  go_wp2_with fail
  rw [← hy]
  clear hy hbase
  go_loopw [4] (fun i wr => ∃ (k : Nat) (ws' : List Wt), k ≤ nw ∧ i = .int .i64 k ∧ Given w wr y base seq ws' rs Bw nw dw Br nr dr vs) (fun i _ => nw - (intOf i).toNat)
  case atStart => exact ⟨0, ws, by omega, rfl, HG.out⟩
  case round =>
    clear HG
    obtain ⟨k, ws', hk, rfl, hG⟩ := hrel
    have g1 : wr.cell? ⟨y, 1, none⟩ = some (.slice Bw nw dw) := cell_of_row _ _ _ _ _ _ hG.box
    have HG := Lib.hid hG; clear hG
    have hk0 : (0 : Int) ≤ (k : Int) := by omega
    by_cases hlt : k < nw
    · have hkn : (k : Int) < (nw : Int) := by omega
      obtain ⟨x, hx⟩ : ∃ x, ws'[k]? = some x := ⟨_, List.getElem?_eq_getElem (by rw [HG.out.len]; exact hlt)⟩
      obtain ⟨b, A2, c2, rfl, hv, e0, e1, ho, hbl, hbb⟩ := HG.out.own.ws.at hx
      obtain ⟨x1, x2⟩ := x
      dsimp only at hv e0 e1 ho
      obtain ⟨L, hL⟩ : ∃ L, L = x2.length := ⟨_, rfl⟩
      rw [← hL] at hv e1 ho
      have HL := Lib.hid hL; clear hL
      have HX := Lib.hid hx; clear hx
      have HV := Lib.hid hv; clear hv
      have HO := Lib.hid ho; clear ho e0
      obtain ⟨k2, hk2, hand2⟩ := and_bits (k : Int) 1 1 rfl (by omega)
      have hand : bits .and .i64 (k : Int) 1 = (k2 : Int) := hand2
      clear hand2
      by_cases he : k2 = 0
      · subst he
        by_cases h4 : 4 ≤ L
        · have h4i : (4 : Int) ≤ (L : Int) := by omega
          have hL4 : 0 < x2.length := by have := HL.out; omega
          obtain ⟨g, cap, cu, hv2, -⟩ := Owned.cut HO.out hL4
          rw [← HL.out] at hv2
          injection hv2 with a1 _ a3
          subst a1 a3
          obtain ⟨w6, hrun, ho6, hb6, hf6⟩ := copy_const_frame wr 3 base g L c2 x2 markL L c2 HO.out (by decide) h4 h4
          have hrun' : (Builtin.copy_ #[33, 9] 3 #[.slice (some ⟨g, 0, none⟩) L c2, .string ⟨#[85, 76, 79, 71]⟩]).run Try.prog wr = .ok (goInt 4) w6 := hrun
          have hG6 := HG.out.over HX.out HV.out ho6 hb6 hf6 HO.out
          have HG6 := Lib.hid hG6; clear hG6 hrun ho6 hb6 hf6 hL4
          go_wp2
          go_roundw
          case rel => exact ⟨k + 1, _, by omega, by go_num, HG6.out⟩
          case measure => simp [intOf]; omega
        · have h4i : ¬ (4 : Int) ≤ (L : Int) := by omega
          go_wp2
          go_roundw
          case rel => exact ⟨k + 1, _, by omega, by go_num, HG.out⟩
          case measure => simp [intOf]; omega
      · have he1 : k2 = 1 := by omega
        subst he1
        go_wp2
        go_roundw
        case rel => exact ⟨k + 1, _, by omega, by go_num, HG.out⟩
        case measure => simp [intOf]; omega
    · obtain rfl : k = nw := by omega
      have g0 : wr.cell? ⟨y, 0, none⟩ = some (.int .u64 (seq : Int)) := cell_of_row _ _ _ _ _ _ HG.out.box
      have g2 : wr.cell? ⟨y, 2, none⟩ = some (.slice Br nr dr) := cell_of_row _ _ _ _ _ _ HG.out.box
      obtain ⟨T, hT⟩ : ∃ T : Tx, T = ⟨seq, ws', rs⟩ := ⟨_, rfl⟩
      have hTA : TxAt wr wr.heap.size T Bw k dw Br nr dr := by
        rw [hT]
        have h := HG.out.own.txat HSQ.out (by show ws'.length ≤ _; rw [HG.out.len]; omega) (by show rs.length ≤ _; rw [HG.out.rl]; omega) HG.out.iw HT.out.intR
        rw [show (⟨seq, ws', rs⟩ : Tx).ws.length = k from HG.out.len, show (⟨seq, ws', rs⟩ : Tx).rs.length = nr from HG.out.rl] at h
        exact h
      have hTs : (T.seq : Int) = (seq : Int) := by rw [hT]
      have hTl : T.ws.length = k := by rw [hT]; exact HG.out.len
      have hTS : T.seq < 18446744073709551616 := by rw [hT]; exact HSQ.out
      have HTS := Lib.hid hTs; clear hTs
      have HTL := Lib.hid hTl; clear hTl
      have HTA := Lib.hid hTA; clear hTA hT
      have HTSS := Lib.hid hTS; clear hTS
      have HY : Hid (y < wr.heap.size) := Lib.hid (Array.getElem?_eq_some_iff.1 HG.out.box).1
      cases hm : T.mayB
      · have he := enc_unfit T Bw Br k dw nr dr wr.heap.size wr HTA.out (Nat.le_refl _) hm
        rw [HTS.out] at he
        have HE := Lib.hid he; clear he
        go_wp2_with fail
        with_reducible refine HE.out.mono ?_
        rintro e w3 ⟨rfl, hb3⟩
        have HB := Lib.hid (HG.out.below.trans (hb3.mono HG.out.below.size)); clear hb3 g0 g1 g2 hm
        go_wp2
        go_ret
        exact ⟨rfl, HB.out⟩
      · have he := enc_fits T Bw Br k dw nr dr wr.heap.size wr HTA.out (Nat.le_refl _) hm
        rw [HTS.out] at he
        have HE := Lib.hid he; clear he
        go_wp2_with fail
        with_reducible refine HE.out.mono ?_
        rintro e w3 ⟨bb, oo, cb, rfl, ho3, hcb, hcm, hb3⟩
        have hM := (mayB_iff T).1 hm
        have hlen := enc_len T hM
        rw [HTL.out] at hlen
        have hk58 : k ≤ 58 := by have := hM.hi; have := HTL.out; omega
        obtain ⟨E, hE⟩ : ∃ E, E = T.enc.length := ⟨_, rfl⟩
        rw [← hE] at ho3 hcb hlen ⊢
        have HR3 := Lib.hid (Owned.reads ho3)
        have HB3 := Lib.hid hb3
        have HM := Lib.hid hM; clear hM
        have HE2 := Lib.hid hE; clear hE
        have HLEN := Lib.hid hlen; clear hlen
        have hcm2 : cb ≤ 9223372036854775807 := hcm
        clear hcm
        have HBW : Hid (Below w.heap.size w w3) := Lib.hid (HG.out.below.trans (hb3.mono HG.out.below.size))
        clear ho3 hb3 g0 g1 g2 HE
        go_wp2
        go_loopw [7, 8] (fun i _ wr' => ∃ j : Nat, j ≤ k + 2 ∧ i = .int .i64 j ∧ w3 = wr') (fun i _ _ => k + 2 - (intOf i).toNat)
        case atStart => exact ⟨0, by omega, rfl, rfl⟩
        case round =>
          obtain ⟨j, hj, rfl, rfl⟩ := hrel
          by_cases hjl : j < k + 2
          · have hj0 : (0 : Int) ≤ (j : Int) := by omega
            have h1 : 256 * (j : Int) < (E : Int) := by have := HLEN.out; omega
            have hd := Go.Proofs.Ythildbbfccipoaa.Rec.Holds.drop (k := 256 * j) (m := 4) HR3.out (by have := HLEN.out; omega)
            have t1 := run_text w3 _ _ 4 (cb - 256 * j) _ hd
            have hmk := enc_marks T HM.out j (by rw [HTL.out]; exact hjl)
            rw [HTL.out] at hmk
            have hE4 : 256 * j + 4 ≤ E := by have := HLEN.out; omega
            have hc4 : 256 * j + 4 ≤ cb := by omega
            clear hd
            by_cases ho : j = 0 ∨ j = k + 1
            · rw [hmk.2 ho] at t1
              have t2 : (convert 33 9 (.slice (some ⟨bb, oo + 256 * j, none⟩) 4 (cb - 256 * j))).run Try.prog w3 = .ok (.string ⟨#[85, 76, 79, 71]⟩) w3 := t1
              clear t1 hmk
              rcases ho with rfl | rfl
              · have t3 : (convert 33 9 (.slice (some ⟨bb, oo, none⟩) 4 cb)).run Try.prog w3 = .ok (.string ⟨#[85, 76, 79, 71]⟩) w3 := t2
                clear t2
                go_wp2
                go_roundw
                case rel => exact ⟨1, by omega, by go_num, by trivial⟩
                case measure => simp [intOf]
              · have hz : ¬ (((k + 1 : Nat) : Int) = 0) := by omega
                have hz2 : 256 * (((k + 1 : Nat) : Int) + 1) = (E : Int) := by have := HLEN.out; omega
                obtain ⟨jj, hjj⟩ : ∃ jj, jj = k + 1 := ⟨_, rfl⟩
                rw [← hjj] at hz hz2 hj hj0 h1 t2 hc4 hE4 ⊢
                have HJ := Lib.hid hjj; clear hjj
                have hz3 : ((jj : Int) == 0) = false := beq_eq_false_iff_ne.2 hz
                go_wp2
                go_roundw
                case rel => exact ⟨jj + 1, by have := HJ.out; omega, by go_num, by trivial⟩
                case measure => have := HJ.out; simp [intOf]; omega
            · have hne0 : (T.enc.drop (256 * j)).take 4 ≠ [85, 76, 79, 71] := fun e => ho (hmk.1 e)
              generalize (T.enc.drop (256 * j)).take 4 = p4 at t1 hne0
              have hne : (p4 == [85, 76, 79, 71]) = false := beq_eq_false_iff_ne.2 hne0
              have hz : ¬ ((j : Int) = 0) := by omega
              have hz2 : ¬ (256 * ((j : Int) + 1) = (E : Int)) := by have := HLEN.out; omega
              have hz3 : ((j : Int) == 0) = false := beq_eq_false_iff_ne.2 hz
              have hz4 : (256 * ((j : Int) + 1) == (E : Int)) = false := beq_eq_false_iff_ne.2 hz2
              clear hmk
              go_wp2
              go_roundw
              case rel => exact ⟨j + 1, by omega, by go_num, by trivial⟩
              case measure => simp [intOf]; omega
          · obtain rfl : j = k + 2 := by omega
            have h1 : ¬ 256 * (((k + 2 : Nat) : Int)) < (E : Int) := by have := HLEN.out; omega
            obtain ⟨n2, hn2⟩ : ∃ n, n = k + 2 := ⟨_, rfl⟩
            rw [← hn2] at h1 hj ⊢
            have HN2 := Lib.hid hn2; clear hn2
            have hn60 : n2 ≤ 60 := by have := HN2.out; omega
            have h1n : ¬ 256 * n2 < E := by omega
            have h1d : decide (256 * (n2 : Int) < (E : Int)) = false := decide_eq_false h1
            have h1m : decide (256 * n2 < E) = false := decide_eq_false h1n
            have hbox3 := (HB3.out.block _ HY.out).trans HG.out.box
            have g0 : w3.cell? ⟨y, 0, none⟩ = some (.int .u64 (seq : Int)) := cell_of_row _ _ _ _ _ _ hbox3
            have hDD := dec_fits T [] (some ⟨bb, oo, none⟩) E cb w3.heap.size w3 (by rw [List.append_nil]; exact HR3.out) (Nat.le_refl _) hcb hcm2 HTSS.out hm
            rw [HTS.out, HTL.out] at hDD
            have HD := Lib.hid hDD; clear hDD
            have HBOX3 := Lib.hid hbox3; clear hbox3
            go_wp2_with fail
            with_reducible refine HD.out.mono ?_
            clear HD g0
            rintro e w4 ⟨Ax, cx, Ay, cy, rfl, hx4, hb4⟩
            have hbA := (Below.refl w4.heap.size w4).alloc (Nat.le_refl _) (.cells #[.int .u64 (seq : Int), .slice Ax k cx, .slice Ay T.rs.length cy] 52)
            have hxa := heap_alloc_new w4 (.cells #[.int .u64 (seq : Int), .slice Ax k cx, .slice Ay T.rs.length cy] 52)
            have hwA := hb4.trans (hbA.mono hb4.size)
            have hya : (w4.alloc (.cells #[.int .u64 (seq : Int), .slice Ax k cx, .slice Ay T.rs.length cy] 52)).heap[y]? = _ := (hwA.block _ (by have := HB3.out.size; have := HY.out; omega)).trans HBOX3.out
            have b0 : (w4.alloc (.cells #[.int .u64 (seq : Int), .slice Ax k cx, .slice Ay T.rs.length cy] 52)).cell? ⟨y, 0, none⟩ = some (.int .u64 (seq : Int)) := cell_of_row _ _ _ _ _ _ hya
            have b1 : (w4.alloc (.cells #[.int .u64 (seq : Int), .slice Ax k cx, .slice Ay T.rs.length cy] 52)).cell? ⟨y, 1, none⟩ = some (.slice Bw k dw) := cell_of_row _ _ _ _ _ _ hya
            have b2 : (w4.alloc (.cells #[.int .u64 (seq : Int), .slice Ax k cx, .slice Ay T.rs.length cy] 52)).cell? ⟨y, 2, none⟩ = some (.slice Br nr dr) := cell_of_row _ _ _ _ _ _ hya
            have hS := same_any T T Ax Ay k cx T.rs.length cy w4.heap.size Bw Br k dw nr dr wr.heap.size (w4.alloc (.cells #[.int .u64 (seq : Int), .slice Ax k cx, .slice Ay T.rs.length cy] 52)) (hx4.below hbA) hbA.size
              (HTA.out.below (HB3.out.trans (hwA.mono HB3.out.size))) (Nat.le_trans HB3.out.size hwA.size) (by omega) (by have := hx4.fits; omega)
            rw [(sameB_iff T T).2 rfl, HTS.out] at hS
            have hEw : 256 * ((k : Int) + 2) = (E : Int) := by have := HLEN.out; omega
            have HS := Lib.hid hS; clear hS
            have HWA := Lib.hid (HBW.out.trans (hwA.mono HBW.out.size)); clear hwA hbA hya hxa hx4 hb4
            clear h1 h1n h1d h1m
            go_wp2_with fail
            with_reducible refine HS.out.mono ?_
            rintro e V1 ⟨rfl, hv⟩
            have HV := Lib.hid (HWA.out.trans (hv.mono HWA.out.size)); clear hv b0 b1 b2
            go_wp2
            go_ret
            exact ⟨rfl, HV.out⟩

theorem walks : Walks 8 Try.f8 All := by
  intro H enc W base args ds p hval hA hsz _
  rw [Try.params8] at hA hval hsz
  obtain ⟨v0, vs0, d0, ds0, p0, q0, hargs, rfl, rfl, h0, r0⟩ := trodAll_cons hA
  obtain ⟨rfl, rfl, rfl⟩ := trodAll_nil r0
  obtain rfl : args = #[v0] := by cases args; simp_all
  obtain ⟨t, Aw, nw, cw, Ar, nr, cr, rfl, ht, hW⟩ := txn_open_wide (hval 0 _ v0 rfl rfl) h0 (txn_weights hsz (j := 0) rfl rfl)
  exact walk t Aw Ar nw cw nr cr W ht hW

set_option maxRecDepth 100000 in
theorem proved : Rows.RecordMarksSaid :=
  OpenClaim.holds_of_wide 8 Try.f8 rfl rfl rfl rfl rfl rfl rfl ⟨rfl, rfl, rfl, rfl, rfl⟩ rfl rfl rfl rfl rfl (by kernel_rfl) Try.func8 (by kernel_rfl)
    (of_decide_eq_true (by kernel_rfl)) (by unfold Func.isWrapper; first | (rw [if_pos (by decide +kernel)]; kernel_rfl) | (rw [if_neg (by decide +kernel)]; exact ⟨rfl, rfl⟩))
    (fun os started H enc _ => lifted (s := Rows.recordMarksSpec) walks (by kernel_rfl) rfl rfl (fun H ds hl => by match ds, hl with | [d1], _ => rfl) (by kernel_rfl) Try.func8 os started H enc
      (ChangeSpec.witness6 (enc := enc) (C := Try.checked) false ⟨#[], #[.agg #[.int .u64 0, .slice none 0 0, .slice none 0 0]], []⟩ 8 (by kernel_rfl) (by kernel_rfl) (by kernel_rfl) (by kernel_rfl)))
#print axioms proved
end Go.Proofs.Ythildbbfccipoaa.RecordMarks
