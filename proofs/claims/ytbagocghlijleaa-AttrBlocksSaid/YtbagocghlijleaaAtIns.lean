/- slices.Insert and slices.Delete of one attribute. -/
import Derived.Test.YtbagocghlijleaaAtRow
import Derived.Test.YtbagocghlijleaaRegF
import Derived.Deep.RegionHeldLaw
import Derived.Shelf.Spec.SlicesInsert
import Derived.Lib.AppendZerosOnto
import Derived.Laws.NewBlocks
namespace Go.Proofs.Ytbagocghlijleaa.At
set_option maxRecDepth 20000
set_option linter.unusedSimpArgs false
open Go.RowKit
open Go.Proofs.Ytbagocghlijleaa.Mem Go.Proofs.Ytbagocghlijleaa.Crc Go.Proofs.Ytbagocghlijleaa.Rec Go.Proofs.Ytbagocghlijleaa.Reg

theorem below_drew {B : Nat} {a b : World} (h : Below B a b) : Below B a b.drew := ⟨h.os, h.tape, h.output, h.size, h.block⟩
section
variable {α : Type} {R : Rk α}
theorem Rk.Ok.elem (ok : R.Ok) : Try.prog.elem R.S = R.T := by unfold Program.elem; rw [ok.und]
theorem Rk.Ok.sz (ok : R.Ok) (W : World) : (sizeOf (Try.prog.elem R.S)).run Try.prog W = .ok R.k W := by
  obtain ⟨i0, hi0, _, hz1, _⟩ := info_parts ok.info
  rw [ok.elem]
  simp [sizeOf, typeInfo, hi0, hz1]
theorem run_sl_from (ok : R.Ok) (W : World) (a off N c l : Nat) (hl : l ≤ N) (h0 : l < c) :
    (Instr.slice R.S (.slice (some ⟨a, off, none⟩) N c) (some (.int .i64 (l : Int))) none none).run Try.prog W = .ok (.slice (some ⟨a, off + l * R.k, none⟩) (N - l) (c - l)) W := by
  have h := run_slice_l (P := Try.prog) W R.S (some ⟨a, off, none⟩) N c (by rw [ok.elem]; exact ok.und) .i64 (l : Int) (by omega) (by omega)
  rw [h, ok.sz]
  simp only [Result.andThen, sliced, Int.toNat_natCast]
  rw [if_neg (by omega)]
  simp [Addr.add_mid]
theorem run_sl_any (ok : R.Ok) (A : Option Addr) (N c l : Nat) (hl : l ≤ N) :
    ∃ A', ∀ W, (Instr.slice R.S (.slice A N c) (some (.int .i64 (l : Int))) none none).run Try.prog W = .ok (.slice A' (N - l) (c - l)) W := by
  refine ⟨(match sliced A l N c R.k with | .slice a _ _ => a | _ => none), fun W => ?_⟩
  have h := run_slice_l (P := Try.prog) W R.S A N c (by rw [ok.elem]; exact ok.und) .i64 (l : Int) (by omega) (by omega)
  rw [h, ok.sz]
  simp only [Result.andThen, sliced, Int.toNat_natCast]
theorem run_sl_to (ok : R.Ok) (W : World) (a off N c m : Nat) (hl : m ≤ c) (h0 : 0 < c) :
    (Instr.slice R.S (.slice (some ⟨a, off, none⟩) N c) none (some (.int .i64 (m : Int))) none).run Try.prog W = .ok (.slice (some ⟨a, off, none⟩) m c) W := by
  have h := run_slice_h (P := Try.prog) W R.S (some ⟨a, off, none⟩) N c (by rw [ok.elem]; exact ok.und) .i64 (m : Int) (by omega) (by omega)
  rw [h, ok.sz]
  simp only [Result.andThen, sliced, Int.toNat_natCast]
  rw [if_neg (by omega)]
  simp [Addr.add_mid]
/-- All is read ahead of the writing. -/
theorem run_copyK (ok : R.Ok) (w : World) (ty : TypeId) (g o dLen dCap : Nat) (a : Addr) (sLen sCap : Nat) (l : List α) (hn : l.length = Nat.min sLen dLen)
    (hsrc : ∀ j v, (R.cells l)[j]? = some v → w.cell? (a.add j) = some v) (hc : ∀ j, j < l.length * R.k → (w.cell? ⟨g, o + j, none⟩).isSome = true) (hf : ∀ j, j < l.length * R.k → w.frozen? ⟨g, o + j, none⟩ = false) :
    (Builtin.copy_ #[R.S, R.S] ty #[.slice (some ⟨g, o, none⟩) dLen dCap, .slice (some a) sLen sCap]).run Try.prog w = .ok (goInt l.length) (w.setCells g o (R.cells l)) := by
  have hl := run_loadCells_list (P := Try.prog) w a (R.cells l) hsrc
  have hst := run_storeCells_cells (P := Try.prog) g o (R.cells l) 0 w (by rw [ok.clen]; simpa using hc) (by rw [ok.clen]; simpa using hf) (ok.ones l)
  obtain ⟨i0, hi0, _, hz1, _⟩ := info_parts ok.info
  have hcl := ok.clen l
  rw [hcl] at hl
  simp [Builtin.copy_, run_underlying ok.und, Builtin.lenOf, Builtin.firstCells, sizeOf, typeInfo, hi0, hz1, ← hn, hl, hst]
theorem lists_grow {β : Type} (C1 X C2 Z : List β) (p q r : Nat) (hp : p = C1.length) (hq : q = C1.length + X.length) (hr : r = C1.length + X.length + C2.length) :
    ((((C1 ++ Z).take p ++ (X ++ (C1 ++ Z).drop (p + X.length))).take q ++ (C2 ++ ((C1 ++ Z).take p ++ (X ++ (C1 ++ Z).drop (p + X.length))).drop (q + C2.length)))).take r = C1 ++ (X ++ C2) := by
  subst hp hq hr
  have e1 : (C1 ++ Z).take C1.length = C1 := List.take_left
  rw [e1]
  obtain ⟨Y, hY⟩ : ∃ Y, Y = (C1 ++ Z).drop (C1.length + X.length) := ⟨_, rfl⟩
  rw [← hY, ← List.append_assoc C1 X Y]
  have e2 : ((C1 ++ X) ++ Y).take (C1.length + X.length) = C1 ++ X := List.take_left' (by simp)
  rw [e2, ← List.append_assoc (C1 ++ X)]
  rw [List.take_left' (by simp; omega), List.append_assoc]
theorem lists_shift {β : Type} (cur C1 X C2 : List β) (p q r : Nat) (hcur : cur.take (C1.length + C2.length) = C1 ++ C2) (hp : p = C1.length) (hq : q = C1.length + X.length) (hr : r = C1.length + X.length + C2.length) (hlen : r ≤ cur.length) :
    (((cur.take q ++ (C2 ++ cur.drop (q + C2.length))).take p) ++ (X ++ (cur.take q ++ (C2 ++ cur.drop (q + C2.length))).drop (p + X.length))).take r = C1 ++ (X ++ C2) := by
  subst hp hq hr
  obtain ⟨rest, hrest⟩ : ∃ rest, cur = C1 ++ C2 ++ rest := ⟨cur.drop (C1.length + C2.length), by rw [← hcur, List.take_append_drop]⟩
  have hl : (cur.take (C1.length + X.length)).length = C1.length + X.length := by rw [List.length_take]; omega
  have e1 : (cur.take (C1.length + X.length) ++ (C2 ++ cur.drop (C1.length + X.length + C2.length))).take C1.length = C1 := by
    rw [List.take_append_of_le_length (by omega), List.take_take, Nat.min_eq_left (by omega), hrest, List.append_assoc]
    exact List.take_left
  have e2 : (cur.take (C1.length + X.length) ++ (C2 ++ cur.drop (C1.length + X.length + C2.length))).drop (C1.length + X.length) = C2 ++ cur.drop (C1.length + X.length + C2.length) := List.drop_left' hl
  rw [e1, e2, ← List.append_assoc X, ← List.append_assoc, ← List.append_assoc C1]
  rw [List.take_left' (by simp; omega)]
theorem cells_put (l : List α) (i : Nat) (x : α) : R.cells (l.take i ++ x :: l.drop i) = R.cells (l.take i) ++ (R.enc x ++ R.cells (l.drop i)) := by
  rw [R.cells_append, show x :: l.drop i = [x] ++ l.drop i from rfl, R.cells_append, R.cells_one]
/-- A row that has been made anew. -/
theorem ins_grow (ok : R.Ok) (w : World) (base : Nat) (hbase : base ≤ w.heap.size) (l : List α) (x : α) (i n G : Nat) (hn : l.length = n) (hi : i ≤ n) (hG : n + 1 ≤ G) (hGm : G ≤ maxLen) (Z : List Value) (hZ : Z.length = (G - i) * R.k) (v : Value) :
    OwnC R (((w.alloc (.cells (R.cells (l.take i) ++ Z).toArray R.T)).setCells w.heap.size (i * R.k) (R.enc x)).setCells w.heap.size ((i + 1) * R.k) (R.cells (l.drop i))) base (.slice (some ⟨w.heap.size, 0, none⟩) (n + 1) G) (l.take i ++ x :: l.drop i) ∧
    Grows w (((w.alloc (.cells (R.cells (l.take i) ++ Z).toArray R.T)).setCells w.heap.size (i * R.k) (R.enc x)).setCells w.heap.size ((i + 1) * R.k) (R.cells (l.drop i))) v (.slice (some ⟨w.heap.size, 0, none⟩) (n + 1) G) := by
  have hl1 : (l.take i).length = i := by rw [List.length_take]; omega
  have hl2 : (l.drop i).length = n - i := by rw [List.length_drop]; omega
  have hc1 : (R.cells (l.take i)).length = i * R.k := by rw [ok.clen, hl1]
  have hc2 : (R.cells (l.drop i)).length = (n - i) * R.k := by rw [ok.clen, hl2]
  have hx : (R.enc x).length = R.k := ok.len x
  have hm1 : (i + 1) * R.k = i * R.k + R.k := by rw [Nat.add_mul, Nat.one_mul]
  have hm2 : (n + 1) * R.k = i * R.k + R.k + (n - i) * R.k := by rw [← hm1, ← Nat.add_mul]; congr 1; omega
  have hm3 : i * R.k + (G - i) * R.k = G * R.k := by rw [← Nat.add_mul]; congr 1; omega
  have hm4 : (n + 1) * R.k ≤ G * R.k := Nat.mul_le_mul_right _ hG
  have hnew : (l.take i ++ x :: l.drop i).length = n + 1 := by rw [List.length_append, List.length_cons, hl1, hl2]; omega
  have h0 := heap_alloc_new w (.cells (R.cells (l.take i) ++ Z).toArray R.T)
  have hs0 : ((R.cells (l.take i) ++ Z).toArray).size = G * R.k := by simp only [List.size_toArray, List.length_append, hc1, hZ]; exact hm3
  have h1 := setCells_heap w.heap.size (R.enc x) (i * R.k) _ _ _ h0 (by rw [hs0, hx]; omega)
  have h2 := setCells_heap w.heap.size (R.cells (l.drop i)) ((i + 1) * R.k) _ _ _ h1 (by
    simp only [List.size_toArray, List.length_append, List.length_take, List.length_drop, List.toList_toArray, hc1, hZ, hx, hc2]
    omega)
  refine ⟨⟨ok.clen _, .inr ⟨w.heap.size, G, _, by rw [hnew], hbase, h2, by rw [hnew]; exact hG, hGm, ?_, ?_⟩⟩, ?_, fun k hk => ?_⟩
  · simp only [List.size_toArray, List.length_append, List.length_take, List.length_drop, List.toList_toArray, hc1, hZ, hx, hc2]
    omega
  · rw [hnew, cells_put]
    simp only [List.toList_toArray]
    exact lists_grow (R.cells (l.take i)) (R.enc x) (R.cells (l.drop i)) Z _ _ _ hc1.symm (by rw [hc1, hx, hm1]) (by rw [hc1, hx, hc2, hm2])
  · have hg := grown_trans (setCells_grown w.heap.size (R.enc x) (i * R.k) (w.alloc (.cells (R.cells (l.take i) ++ Z).toArray R.T))) (setCells_grown w.heap.size (R.cells (l.drop i)) ((i + 1) * R.k) _)
    have hb := (Below.refl w.heap.size w).alloc (Nat.le_refl _) (.cells (R.cells (l.take i) ++ Z).toArray R.T)
    exact ⟨hg.os.trans hb.os, hg.tape.trans hb.tape, hg.output.trans hb.output, Nat.le_trans hb.size hg.size, fun k hk _ => (hg.block k (by have := hb.size; omega) (fun e => by injection e with e; omega)).trans (hb.block k hk)⟩
  · injection hk with hk
    exact .inr (by simp at hk; omega)
/-- A row with room, in which what stands behind is moved on. -/
theorem ins_shift (ok : R.Ok) (w : World) (base g n c : Nat) (l : List α) (x : α) (i : Nat) (h : OwnC R w base (.slice (some ⟨g, 0, none⟩) n c) l) (hi : i ≤ n) (hc : n + 1 ≤ c) :
    OwnC R ((w.setCells g ((i + 1) * R.k) (R.cells (l.drop i))).setCells g (i * R.k) (R.enc x)) base (.slice (some ⟨g, 0, none⟩) (n + 1) c) (l.take i ++ x :: l.drop i) ∧
    Grows w ((w.setCells g ((i + 1) * R.k) (R.cells (l.drop i))).setCells g (i * R.k) (R.enc x)) (.slice (some ⟨g, 0, none⟩) n c) (.slice (some ⟨g, 0, none⟩) (n + 1) c) := by
  have hn := h.fits.1
  subst hn
  rcases h.2 with ⟨e, _⟩ | ⟨g1, cap1, cur, e, h1, h2, h3, h4, h5, h6⟩
  · cases e
  · injection e with e1 e2 e3
    injection e1 with e1
    injection e1 with e1
    subst e1 e3
    have hl1 : (l.take i).length = i := by rw [List.length_take]; omega
    have hl2 : (l.drop i).length = l.length - i := by rw [List.length_drop]
    have hc1 : (R.cells (l.take i)).length = i * R.k := by rw [ok.clen, hl1]
    have hc2 : (R.cells (l.drop i)).length = (l.length - i) * R.k := by rw [ok.clen, hl2]
    have hx : (R.enc x).length = R.k := ok.len x
    have hm1 : (i + 1) * R.k = i * R.k + R.k := by rw [Nat.add_mul, Nat.one_mul]
    have hm2 : (l.length + 1) * R.k = i * R.k + R.k + (l.length - i) * R.k := by rw [← hm1, ← Nat.add_mul]; congr 1; omega
    have hm5 : l.length * R.k = i * R.k + (l.length - i) * R.k := by rw [← Nat.add_mul]; congr 1; omega
    have hm4 : (l.length + 1) * R.k ≤ c * R.k := Nat.mul_le_mul_right _ hc
    have hnew : (l.take i ++ x :: l.drop i).length = l.length + 1 := by rw [List.length_append, List.length_cons, hl1, hl2]; omega
    have hcl : cur.toList.length = c * R.k := by simpa using h5
    have g1 := setCells_heap g (R.cells (l.drop i)) ((i + 1) * R.k) _ _ _ h2 (by rw [hc2]; omega)
    have g2 := setCells_heap g (R.enc x) (i * R.k) _ _ _ g1 (by
      simp only [List.size_toArray, List.length_append, List.length_take, List.length_drop, hcl, hc1, hx, hc2]
      omega)
    refine ⟨⟨ok.clen _, .inr ⟨g, c, _, by rw [hnew], h1, g2, by rw [hnew]; exact hc, h4, ?_, ?_⟩⟩, grown_trans (setCells_grown g _ _ w) (setCells_grown g _ _ _), fun k hk => .inl hk⟩
    · simp only [List.size_toArray, List.length_append, List.length_take, List.length_drop, List.toList_toArray, hcl, hc1, hx, hc2]
      omega
    · rw [hnew, cells_put]
      simp only [List.toList_toArray]
      exact lists_shift cur.toList (R.cells (l.take i)) (R.enc x) (R.cells (l.drop i)) _ _ _ (by rw [hc1, hc2, ← hm5, h6, ← R.cells_append, List.take_append_drop]) hc1.symm (by rw [hc1, hx, hm1]) (by rw [hc1, hx, hc2, hm2]) (by rw [hcl]; exact hm4)
/-- One element more, read from any block. -/
theorem run_appK (ok : R.Ok) (W : World) (base : Nat) (v : Value) (l : List α) (hown : OwnC R W base v l) (x : α) (ty : TypeId) (vb : Nat) (hv : W.heap[vb]? = some (.cells (R.enc x).toArray R.T (0, 0))) (hlen : (l.length + 1) * R.by_ ≤ 140737488355328) (hlen2 : l.length + 1 ≤ 140737488355328) (hbase : base ≤ W.heap.size) :
    ∃ v' W', (Builtin.append_ #[R.S, R.S] ty #[v, .slice (some ⟨vb, 0, none⟩) 1 1]).run Try.prog W = .ok v' W' ∧ OwnC R W' base v' (l ++ [x]) ∧ Grows W W' v v' := by
  obtain ⟨i0, hi0, hz0, hz1, hz2⟩ := info_parts ok.info
  obtain ⟨v', W', hrun, h2, h3, _, h5⟩ := run_append_own_at (P := Try.prog) (w := W) base R.S ty R.T i0 _ R.k R.by_ ok.und hi0 hz0 hz1 hz2 ok.zs ok.pos
    v l.length (R.cells l) hown ⟨vb, 0, none⟩ 1 1 (R.enc x) (by rw [ok.len]; omega) (fun j u hu => by
      have hadd : (⟨vb, 0, none⟩ : Addr).add j = ⟨vb, j, none⟩ := by unfold Addr.add; split <;> simp_all
      rw [hadd, cell_of_row _ _ j _ _ _ hv]
      rw [← hu]; simp) (ok.one x) (by unfold maxLen; omega) hlen hbase
  refine ⟨v', W', hrun, ?_, h3, fun k hk => ?_⟩
  · unfold OwnC
    rw [R.cells_append, List.length_append, R.cells_one]
    exact h2
  · rcases h5 with e | e
    · rw [e] at hk; exact .inl hk
    · rw [e] at hk
      injection hk with hk
      exact .inr (by omega)
end

set_option maxRecDepth 100000 in
set_option maxHeartbeats 8000000 in
theorem insP_any (W : World) (base : Nat) (hbase : base ≤ W.heap.size) (A : Option Addr) (n c : Nat) (l : List Pr) (hown : OwnC PK W base (.slice A n c) l) (i : Nat) (hi : i ≤ n) (x : Pr) (vb : Nat) (hv : W.heap[vb]? = some (.cells (PK.enc x).toArray PK.T (0, 0))) (hvb : ∀ k, (Value.slice A n c).ownBlock = some k → k ≠ vb) (hlen : n + 1 ≤ 4398046511104) :
    Calls Try.prog 24 #[.slice A n c, .int .i64 (i : Int), .slice (some ⟨vb, 0, none⟩) 1 1] W fun e W' => ∃ v', e = .returned v' ∧ OwnC PK W' base v' (l.take i ++ x :: l.drop i) ∧ Grows W W' (.slice A n c) v' := by
  have hn := hown.fits
  have hnc : n ≤ c := hn.2.1
  obtain rfl : n = l.length := hn.1
  have hcm : c ≤ 9223372036854775807 := by have := hn.2.2; unfold maxLen at this; omega
  have hcm2 : c ≤ maxLen := hn.2.2
  rcases Nat.lt_or_ge i l.length with hin | hin
  · obtain ⟨g, rfl, hg1, hg2, hfz⟩ := hown.form (by omega)
    have hgv : g ≠ vb := hvb g rfl
    have mixed : Try.prog.follows Departure.mixedOrders = true := by kernel_rfl
    have hz2 : ¬ ((i : Int) = (l.length : Int)) := by omega
    have hw1 : IntKind.i64.wrap ((i : Int) + 1) = (i : Int) + 1 := by rw [IntKind.wrap_i64]; omega
    have hw2 : IntKind.i64.wrap ((l.length : Int) + 1) = (l.length : Int) + 1 := by rw [IntKind.wrap_i64]; omega
    have hx1 : (PK.cells [x]) = PK.enc x := PK.cells_one x
    have hsrcx : ∀ (V : World), V.heap[vb]? = some (.cells (PK.enc x).toArray PK.T (0, 0)) → ∀ j v, (PK.cells [x])[j]? = some v → V.cell? ((⟨vb, 0, none⟩ : Addr).add j) = some v := fun V hV j u hu => by
      have hadd : (⟨vb, 0, none⟩ : Addr).add j = ⟨vb, j, none⟩ := by unfold Addr.add; split <;> simp_all
      rw [hadd, cell_of_row _ _ j _ _ _ hV, ← hu, hx1]; simp
    have hdl : (l.drop i).length = l.length - i := by rw [List.length_drop]
    have hgb : ∃ cur, W.heap[g]? = some (.cells cur PK.T (0, 0)) ∧ cur.size = c * 2 := by
      rcases hown.2 with ⟨e, _⟩ | ⟨g1, cap1, cur, e, h1, h2, h3, h4, h5, h6⟩
      · cases e
      · injection e with e1 e2 e3
        injection e1 with e1
        injection e1 with e1
        subst e1 e3
        exact ⟨cur, h2, h5⟩
    obtain ⟨cur, hcur, hcsz⟩ := hgb
    have hrng : ∀ (m : Nat), ∀ j v, (PK.cells (l.drop m))[j]? = some v → W.cell? ⟨g, m * 2 + j, none⟩ = some v := fun m j v hj => by
      have h5 : W.ownsRow base PK.T PK.k (.slice (some ⟨g, 0, none⟩) l.length c) l.length (PK.cells l) := by have h := hown; unfold OwnC at h; exact h
      rw [← (PK_ok).drop, List.getElem?_drop] at hj
      have hlt : m * 2 + j < l.length * 2 := by
        have := (List.getElem?_eq_some_iff.1 hj).1
        rw [(PK_ok).clen] at this
        exact this
      rw [World.ownsRow.cellAt h5 (m * 2 + j) hlt]
      exact hj
    have hsA : ∀ V, (Instr.slice 22 (.slice (some ⟨g, 0, none⟩) l.length c) (some (.int .i64 (i : Int))) none none).run Try.prog V = .ok (.slice (some ⟨g, i * 2, none⟩) (l.length - i) (c - i)) V := fun V => by
      have h := run_sl_from PK_ok V g 0 l.length c i (by omega) (by omega)
      rw [Nat.zero_add] at h; exact h
    have hcpx : ∀ (V : World) (g1 d dc : Nat), V.heap[vb]? = some (.cells (PK.enc x).toArray PK.T (0, 0)) → 0 < d → (∀ j, j < 2 → (V.cell? ⟨g1, i * 2 + j, none⟩).isSome = true) → (∀ j, V.frozen? ⟨g1, j, none⟩ = false) → ∀ ty,
        (Builtin.copy_ #[22, 22] ty #[.slice (some ⟨g1, i * 2, none⟩) d dc, .slice (some ⟨vb, 0, none⟩) 1 1]).run Try.prog V = .ok (goInt 1) (V.setCells g1 (i * 2) (PK.enc x)) := fun V g1 d dc hV hd hs hf ty => by
      have h := run_copyK PK_ok V ty g1 (i * 2) d dc ⟨vb, 0, none⟩ 1 1 [x] (by simp only [List.length_singleton, Nat.min_def]; split <;> omega) (hsrcx V hV) (fun j hj => hs j (by rw [List.length_singleton, Nat.one_mul] at hj; exact hj)) (fun j _ => hf _)
      rw [hx1] at h
      exact h
    by_cases hroom : l.length + 1 ≤ c
    · have hz3 : ¬ ((c : Int) < (l.length : Int) + 1) := by omega
      have e1 : ((l.length + 1 : Nat) : Int) = (l.length : Int) + 1 := by omega
      have e2 : ((i + 1 : Nat) : Int) = (i : Int) + 1 := by omega
      have hsB : ∀ V, (Instr.slice 22 (.slice (some ⟨g, 0, none⟩) l.length c) none (some (.int .i64 ((l.length : Int) + 1))) none).run Try.prog V = .ok (.slice (some ⟨g, 0, none⟩) (l.length + 1) c) V := fun V => by
        have h := run_sl_to PK_ok V g 0 l.length c (l.length + 1) hroom (by omega)
        rw [e1] at h; exact h
      have hsC : ∀ V, (Instr.slice 22 (.slice (some ⟨g, 0, none⟩) (l.length + 1) c) (some (.int .i64 ((i : Int) + 1))) none none).run Try.prog V = .ok (.slice (some ⟨g, (i + 1) * 2, none⟩) (l.length - i) (c - (i + 1))) V := fun V => by
        have h := run_sl_from PK_ok V g 0 (l.length + 1) c (i + 1) (by omega) (by omega)
        rw [Nat.zero_add, e2, show l.length + 1 - (i + 1) = l.length - i by omega] at h; exact h
      have hsD : ∀ V, (Instr.slice 22 (.slice (some ⟨g, 0, none⟩) (l.length + 1) c) (some (.int .i64 (i : Int))) none none).run Try.prog V = .ok (.slice (some ⟨g, i * 2, none⟩) (l.length + 1 - i) (c - i)) V := fun V => by
        have h := run_sl_from PK_ok V g 0 (l.length + 1) c i (by omega) (by omega)
        rw [Nat.zero_add] at h; exact h
      have hov : ∀ V, V.heap = W.heap → (callFunc 41 #[.slice (some ⟨vb, 0, none⟩) 1 1, .slice (some ⟨g, (i + 1) * 2, none⟩) (l.length - i) (c - (i + 1))]).run Try.prog V = .ok (.value (.bool false)) V := fun V hV => by
        have q1 : V.shape? vb = some (PK.T, 2) := by unfold World.shape?; rw [hV, hv]; rfl
        have q2 : V.shape? g = some (PK.T, c * 2) := by unfold World.shape?; rw [hV, hcur, ← hcsz]
        rw [run_callFunc_extern Try.func41 (by kernel_rfl) (by kernel_rfl) (by kernel_rfl) (e := Extern.SlicesOverlaps.overlaps #[22, 22] #[4]) (by kernel_rfl),
          Lib.run_overlaps_apart V 22 4 PK.T (PK_ok).und 2 (fun W => by have h := (PK_ok).sz W; rw [(PK_ok).elem] at h; exact h) ⟨vb, 0, none⟩ ⟨g, (i + 1) * 2, none⟩ 1 1 (l.length - i) (c - (i + 1)) (fun e => hgv e.symm) PK.T PK.T 2 (c * 2) q1 q2 (by omega)
            (frozen_of_row _ _ _ _ _ (hV ▸ hv)) (frozen_of_row _ _ _ _ _ (hV ▸ hv))]
        rfl
      obtain ⟨W1, hW1⟩ : ∃ W1, W1 = W.setCells g ((i + 1) * 2) (PK.cells (l.drop i)) := ⟨_, rfl⟩
      have hcl2 : (PK.cells (l.drop i)).length = (l.length - i) * 2 := by rw [(PK_ok).clen, hdl]; rfl
      have hsome : ∀ j, j < (l.length + 1) * 2 → (W.cell? ⟨g, j, none⟩).isSome = true := fun j hj => by
        have : j < cur.size := by rw [hcsz]; have := Nat.mul_le_mul_right 2 hroom; omega
        rw [cell_of_row _ _ j _ _ _ hcur, Array.getElem?_eq_getElem this]; rfl
      have hcp1 : ∀ ty, (Builtin.copy_ #[22, 22] ty #[.slice (some ⟨g, (i + 1) * 2, none⟩) (l.length - i) (c - (i + 1)), .slice (some ⟨g, i * 2, none⟩) (l.length + 1 - i) (c - i)]).run Try.prog W.drew = .ok (goInt (l.drop i).length) W1.drew := fun ty => by
        have h := run_copyK PK_ok W.drew ty g ((i + 1) * 2) (l.length - i) (c - (i + 1)) ⟨g, i * 2, none⟩ (l.length + 1 - i) (c - i) (l.drop i) (by rw [hdl]; simp only [Nat.min_def]; split <;> omega)
          (fun j v hj => by rw [Addr.add_lit]; exact hrng i j v hj) (fun j hj => hsome _ (by rw [hdl] at hj; have : PK.k = 2 := rfl; rw [this] at hj; omega)) (fun j _ => hfz _)
        rw [hW1, drew_setCells]
        exact h
      have hst := ins_shift PK_ok W base g l.length c l x i hown (by omega) hroom
      have hg1' : W.grownBy W1 (some g) := by rw [hW1]; exact setCells_grown _ _ _ _
      have hsz1 : W1.heap.size = W.heap.size := by rw [hW1]; exact setCells_size _ _ _ _
      have hvlt : vb < W.heap.size := (Array.getElem?_eq_some_iff.1 hv).1
      have hv1 : W1.heap[vb]? = some (.cells (PK.enc x).toArray PK.T (0, 0)) := (hg1'.block vb hvlt (fun e => by injection e with e; exact hgv e.symm)).trans hv
      have hsome1 : ∀ j, j < (l.length + 1) * 2 → (W1.cell? ⟨g, j, none⟩).isSome = true := fun j hj => by
        rw [hW1]
        exact isSome_setCells g _ _ _ (fun t ht => hsome _ (by rw [hcl2] at ht; omega)) _ (hsome j hj)
      have hcp2 : ∀ V, V.heap = W1.heap → ∀ ty, (Builtin.copy_ #[22, 22] ty #[.slice (some ⟨g, i * 2, none⟩) (l.length + 1 - i) (c - i), .slice (some ⟨vb, 0, none⟩) 1 1]).run Try.prog V = .ok (goInt 1) (V.setCells g (i * 2) (PK.enc x)) := fun V hV ty =>
        hcpx V g _ _ (by rw [hV]; exact hv1) (by omega) (fun j hj => by
          have := hsome1 (i * 2 + j) (by omega)
          unfold World.cell? at this ⊢
          simpa only [hV] using this) (fun j => by
          have := World.frozen?_setCells g (PK.cells (l.drop i)) ((i + 1) * 2) W ⟨g, j, none⟩
          rw [← hW1, hfz] at this
          unfold World.frozen? at this ⊢
          simpa only [hV] using this) ty
      have hO := hst.1
      have hG := hst.2
      have hHv := hv
      have HV := Lib.hid hv
      have HST := Lib.hid hst
      have HCP2 := Lib.hid hcp2
      clear hcp2 hst hO hG hHv hown hv hcur hrng hcpx hsome hsome1 hsrcx hg1' hv1 hsz1 hvb
      have hov1 := hov W rfl
      have hov2 := hov W.drew rfl
      have HOV := Lib.hid hov; clear hov
      obtain ⟨post, hpost⟩ : ∃ post : Ending → World → Prop, post = fun e W' => ∃ v', e = .returned v' ∧ OwnC PK W' base v' (l.take i ++ x :: l.drop i) ∧ Grows W W' (.slice (some ⟨g, 0, none⟩) l.length c) v' := ⟨_, rfl⟩
      rw [← hpost]
      have HP := Lib.hid hpost; clear hpost
      have HW1 := Lib.hid hW1; clear hW1
      go_enter Try.func24, Try.ntmps24
      go_wp2_with (simp only [hov1])
      go_region_law_o (refine step_copy_runI rfl _ _ 22 22 rfl (.slice (some ⟨g, (i + 1) * 2, none⟩) (l.length - i) (c - (i + 1))) (.slice (some ⟨g, i * 2, none⟩) (l.length + 1 - i) (c - i)) (by simp [Act.eval, Act.put]) (by simp [Act.eval, Act.put]) (hcp1 _) ?_)
      obtain ⟨W2, hW2⟩ : ∃ W2, W2 = W1.setCells g (i * 2) (PK.enc x) := ⟨_, rfl⟩
      have hcpz : (Builtin.copy_ #[22, 22] 3 #[.slice (some ⟨g, i * 2, none⟩) (l.length + 1 - i) (c - i), .slice (some ⟨vb, 0, none⟩) 1 1]).run Try.prog W1.drew = .ok (goInt 1) W2.drew := by
        rw [hW2, drew_setCells]; exact HCP2.out W1.drew rfl _
      have hst2 : OwnC PK W2 base (.slice (some ⟨g, 0, none⟩) (l.length + 1) c) (l.take i ++ x :: l.drop i) ∧ Grows W W2 (.slice (some ⟨g, 0, none⟩) l.length c) (.slice (some ⟨g, 0, none⟩) (l.length + 1) c) := by
        rw [hW2, HW1.out]; exact HST.out
      have HST2 := Lib.hid hst2
      clear hst2 hW2
      go_wp2_with fail
      rw [HP.out]
      exact ⟨_, rfl, HST2.out.1, ⟨HST2.out.2.1.os, HST2.out.2.1.tape, HST2.out.2.1.output, HST2.out.2.1.size, HST2.out.2.1.block⟩, HST2.out.2.2⟩
    · have hz3 : (c : Int) < (l.length : Int) + 1 := by omega
      have e2 : ((i + 1 : Nat) : Int) = (i : Int) + 1 := by omega
      have hcn : c = l.length := by omega
      subst hcn
      have hw3 : IntKind.i64.wrap ((l.length : Int) + 1 - (i : Int)) = (l.length : Int) + 1 - (i : Int) := by rw [IntKind.wrap_i64]; omega
      have hkk : (l.length : Int) + 1 - (i : Int) = ((l.length + 1 - i : Nat) : Int) := by omega
      have hik : i + (l.length + 1 - i) = l.length + 1 := by omega
      have hl1 : (l.take i).length = i := by rw [List.length_take]; omega
      obtain ⟨i0, hi0, hz0, hzs, hzb⟩ := info_parts (PK_ok).info
      have hold : (Builtin.firstCells i0.size i (.slice (some ⟨g, 0, none⟩) i l.length)).run Try.prog W.drew = .ok (PK.cells (l.take i)).toArray W.drew :=
        run_firstCells_some W.drew i0.size i ⟨g, 0, none⟩ i l.length (PK.cells (l.take i)) (by rw [(PK_ok).clen, hl1, hzs]) (fun j v hj => by
          rw [Addr.add_lit, Nat.zero_add]
          have h0 := hrng 0 j v
          rw [List.drop_zero, Nat.zero_mul, Nat.zero_add] at h0
          refine h0 ?_
          rw [← (PK_ok).take, List.getElem?_take] at hj
          split at hj
          · exact hj
          · cases hj)
      obtain ⟨G, hG⟩ : ∃ G, G = grownCap W (l.length + 1) l.length PK.T := ⟨_, rfl⟩
      obtain ⟨Z, hZ⟩ : ∃ Z : Array Value, Z = Builtin.zeroCells PK.zero.cells (l.length + 1 - i) ++ Builtin.zeroCells PK.zero.cells (G - (l.length + 1)) := ⟨_, rfl⟩
      have hGn : l.length + 1 ≤ G := by rw [hG]; exact grownCap_ge W _ _ _
      have hGm : G ≤ maxLen := by rw [hG]; exact grownCap_le_maxLen W (l.length + 1) l.length PK.T (by unfold maxLen; omega)
      have hZl : Z.toList.length = (G - i) * PK.k := by
        rw [hZ, Array.length_toList, Array.size_append, size_zeroCells, size_zeroCells, (PK_ok).zs, ← Nat.add_mul]
        congr 1
        omega
      obtain ⟨A0, hA0⟩ : ∃ A0, A0 = W.drew.alloc (.cells (PK.cells (l.take i) ++ Z.toList).toArray PK.T) := ⟨_, rfl⟩
      have hrz : ∀ ty, (Builtin.append_ #[22, 3] ty #[.slice (some ⟨g, 0, none⟩) i l.length, .int .i64 ((l.length : Int) + 1 - (i : Int))]).run Try.prog W = .ok (.slice (some ⟨W.heap.size, 0, none⟩) (l.length + 1) G) A0 := fun ty => by
        have h := Lib.run_append_grow_zeros W 22 3 ty PK.T i0 _ .i64 .i64 (PK_ok).und Try.underlying3 hi0 hz0 (some ⟨g, 0, none⟩) i l.length (PK.cells (l.take i)) hold (l.length + 1 - i) (by omega) (by rw [hzs]; exact (PK_ok).pos) (by omega) (by omega)
          (by rw [hzb]; have : PK.by_ ≤ 64 := (PK_ok).bound; calc (l.length + 1 - i) * PK.by_ ≤ (l.length + 1 - i) * 64 := Nat.mul_le_mul_left _ this
                _ ≤ 281474976710656 := by omega)
          (by rw [hzb, hik]; exact growslice_fits (by omega) (by have : PK.by_ = 32 := rfl; rw [this]; omega))
        rw [hik, ← hG] at h
        rw [hkk, h, hA0, show (PK.cells (l.take i) ++ Z.toList).toArray = (PK.cells (l.take i)).toArray ++ Z by simp, hZ, Array.append_assoc]
      obtain ⟨gn, hgn⟩ : ∃ gn, gn = W.heap.size := ⟨_, rfl⟩
      have hggn : g ≠ gn := by omega
      have hvlt : vb < W.heap.size := (Array.getElem?_eq_some_iff.1 hv).1
      have hb0 : Below W.heap.size W A0 := by rw [hA0]; exact below_drew ((Below.refl _ W).alloc (Nat.le_refl _) _)
      have hnew0 : A0.heap[gn]? = some (.cells (PK.cells (l.take i) ++ Z.toList).toArray PK.T (0, 0)) := by rw [hA0, hgn]; exact heap_alloc_new W.drew _
      have hs0 : ((PK.cells (l.take i) ++ Z.toList).toArray).size = G * 2 := by
        simp only [List.size_toArray, List.length_append, (PK_ok).clen, hl1, hZl]
        rw [← Nat.add_mul]
        show (i + (G - i)) * 2 = _
        congr 1
        omega
      have hv0 : A0.heap[vb]? = some (.cells (PK.enc x).toArray PK.T (0, 0)) := (hb0.block vb hvlt).trans hv
      have hcpa := hcpx A0 gn (l.length + 1 - i) (G - i) hv0 (by omega) (fun j hj => by
        rw [cell_of_row _ _ _ _ _ _ hnew0, Array.getElem?_eq_getElem (by rw [hs0]; omega)]; rfl) (fun j => frozen_of_row _ _ _ _ _ hnew0)
      obtain ⟨A1, hA1⟩ : ∃ A1, A1 = A0.setCells gn (i * 2) (PK.enc x) := ⟨_, rfl⟩
      rw [← hA1] at hcpa
      have hg1' : A0.grownBy A1 (some gn) := by rw [hA1]; exact setCells_grown _ _ _ _
      obtain ⟨cur1, hnew1⟩ : ∃ cur1, A1.heap[gn]? = some (.cells cur1 PK.T (0, 0)) := by
        rw [hA1]
        exact ⟨_, setCells_heap gn (PK.enc x) (i * 2) A0 _ _ hnew0 (by rw [hs0, (PK_ok).len x]; show i * 2 + 2 ≤ _; omega)⟩
      have hkeep1 : A1.heap[g]? = W.heap[g]? := (hg1'.block g (by have := hb0.size; omega) (fun e => by injection e with e; exact hggn e)).trans (hb0.block g hg2)
      have hsome1 : ∀ j, j < G * 2 → (A1.cell? ⟨gn, j, none⟩).isSome = true := fun j hj => by
        rw [hA1]
        exact isSome_setCells gn _ _ _ (fun t ht => by
          rw [cell_of_row _ _ _ _ _ _ hnew0, Array.getElem?_eq_getElem (by rw [hs0]; rw [(PK_ok).len x] at ht; have : PK.k = 2 := rfl; omega)]; rfl) _ (by
          rw [cell_of_row _ _ _ _ _ _ hnew0, Array.getElem?_eq_getElem (by rw [hs0]; exact hj)]; rfl)
      obtain ⟨A2, hA2⟩ : ∃ A2, A2 = A1.setCells gn ((i + 1) * 2) (PK.cells (l.drop i)) := ⟨_, rfl⟩
      have hcpb : ∀ ty, (Builtin.copy_ #[22, 22] ty #[.slice (some ⟨gn, (i + 1) * 2, none⟩) (l.length - i) (G - (i + 1)), .slice (some ⟨g, i * 2, none⟩) (l.length - i) (l.length - i)]).run Try.prog A1.drew = .ok (goInt (l.drop i).length) A2.drew := fun ty => by
        have h := run_copyK PK_ok A1.drew ty gn ((i + 1) * 2) (l.length - i) (G - (i + 1)) ⟨g, i * 2, none⟩ (l.length - i) (l.length - i) (l.drop i) (by rw [hdl]; simp only [Nat.min_def]; split <;> omega)
          (fun j v hj => by
            rw [Addr.add_lit]
            exact (World.cell?_of_block (w := W) (w' := A1.drew) (a := ⟨g, i * 2 + j, none⟩) hkeep1).trans (hrng i j v hj)) (fun j hj => hsome1 _ (by rw [hdl] at hj; have : PK.k = 2 := rfl; rw [this] at hj; omega)) (fun j _ => frozen_of_row _ _ _ _ _ hnew1)
        rw [hA2, drew_setCells]
        exact h
      have hfin := ins_grow PK_ok W base hbase l x i l.length G rfl (by omega) hGn hGm Z.toList hZl (.slice (some ⟨g, 0, none⟩) l.length l.length)
      have hfin2 : OwnC PK A2 base (.slice (some ⟨gn, 0, none⟩) (l.length + 1) G) (l.take i ++ x :: l.drop i) ∧ Grows W A2 (.slice (some ⟨g, 0, none⟩) l.length l.length) (.slice (some ⟨gn, 0, none⟩) (l.length + 1) G) := by
        have e : A2 = (((W.alloc (.cells (PK.cells (l.take i) ++ Z.toList).toArray PK.T)).setCells W.heap.size (i * PK.k) (PK.enc x)).setCells W.heap.size ((i + 1) * PK.k) (PK.cells (l.drop i))).drew := by
          rw [drew_setCells, drew_setCells, hA2, hA1, hA0, hgn]; rfl
        rw [e, hgn]
        exact ⟨hfin.1, ⟨hfin.2.1.os, hfin.2.1.tape, hfin.2.1.output, hfin.2.1.size, hfin.2.1.block⟩, hfin.2.2⟩
      have hsE : ∀ V, (Instr.slice 22 (.slice (some ⟨g, 0, none⟩) l.length l.length) none (some (.int .i64 (i : Int))) none).run Try.prog V = .ok (.slice (some ⟨g, 0, none⟩) i l.length) V := fun V => run_sl_to PK_ok V g 0 l.length l.length i (by omega) (by omega)
      have hsF : ∀ V, (Instr.slice 22 (.slice (some ⟨gn, 0, none⟩) (l.length + 1) G) (some (.int .i64 (i : Int))) none none).run Try.prog V = .ok (.slice (some ⟨gn, i * 2, none⟩) (l.length + 1 - i) (G - i)) V := fun V => by
        have h := run_sl_from PK_ok V gn 0 (l.length + 1) G i (by omega) (by omega)
        rw [Nat.zero_add] at h; exact h
      have hsG : ∀ V, (Instr.slice 22 (.slice (some ⟨gn, 0, none⟩) (l.length + 1) G) (some (.int .i64 ((i : Int) + 1))) none none).run Try.prog V = .ok (.slice (some ⟨gn, (i + 1) * 2, none⟩) (l.length - i) (G - (i + 1))) V := fun V => by
        have h := run_sl_from PK_ok V gn 0 (l.length + 1) G (i + 1) (by omega) (by omega)
        rw [Nat.zero_add, e2, show l.length + 1 - (i + 1) = l.length - i by omega] at h; exact h
      rw [← hgn] at hrz
      have hrz1 := hrz 22
      have hcpa1 := hcpa 3
      have hcpb1 := hcpb 3
      obtain ⟨post, hpost⟩ : ∃ post : Ending → World → Prop, post = fun e W' => ∃ v', e = .returned v' ∧ OwnC PK W' base v' (l.take i ++ x :: l.drop i) ∧ Grows W W' (.slice (some ⟨g, 0, none⟩) l.length l.length) v' := ⟨_, rfl⟩
      rw [← hpost]
      have HP := Lib.hid hpost
      have HF := Lib.hid hfin2
      clear hgn hpost hfin2 hfin hcpx hrng hsrcx hown hv hvb hn hcur hold hA0 hA1 hA2 hnew0 hnew1 hsome1 hkeep1 hg1' hv0 hb0 hs0 hZl hZ hG hi0 hz0 hzs hzb hkk hik hl1 hdl hx1 hfz hrz hcpa hcpb
      go_enter Try.func24, Try.ntmps24
      go_wp2_with (at_builtin; refine Lib.wpList_append_run _ rfl _ _ _ _ rfl _ _ rfl rfl _ _ hrz1 ?_)
      go_region_law_o (refine step_copy_runI rfl _ _ 22 22 rfl (.slice (some ⟨gn, (i + 1) * 2, none⟩) (l.length - i) (G - (i + 1))) (.slice (some ⟨g, i * 2, none⟩) (l.length - i) (l.length - i)) (by simp [Act.eval, Act.put]) (by simp [Act.eval, Act.put]) hcpb1 ?_)
      go_wp2
      rw [HP.out]
      exact ⟨_, rfl, HF.out.1, ⟨HF.out.2.1.os, HF.out.2.1.tape, HF.out.2.1.output, HF.out.2.1.size, HF.out.2.1.block⟩, HF.out.2.2⟩
  · obtain rfl : i = l.length := by omega
    obtain ⟨A', hsl⟩ := run_sl_any PK_ok A l.length c l.length (Nat.le_refl _)
    have hsl' : ∀ V, (Instr.slice 22 (.slice A l.length c) (some (.int .i64 (l.length : Int))) none none).run Try.prog V = .ok (.slice A' (l.length - l.length) (c - l.length)) V := hsl
    obtain ⟨v', W', hrun, ho, hgr⟩ := run_appK PK_ok W base _ l hown x 22 vb hv (by have : PK.by_ = 32 := rfl; rw [this]; omega) (by omega) hbase
    have hrun' : (Builtin.append_ #[22, 22] 22 #[.slice A l.length c, .slice (some ⟨vb, 0, none⟩) 1 1]).run Try.prog W = .ok v' W' := hrun
    have hfin : l.take l.length ++ x :: l.drop l.length = l ++ [x] := by rw [List.take_of_length_le (by omega), List.drop_of_length_le (by omega)]
    rw [hfin]
    have HO := Lib.hid ho
    have HG := Lib.hid hgr
    clear ho hgr hsl hrun hown hv hvb hfin hn
    obtain ⟨post, hpost⟩ : ∃ post : Ending → World → Prop, post = fun e W' => ∃ v', e = .returned v' ∧ OwnC PK W' base v' (l ++ [x]) ∧ Grows W W' (.slice A l.length c) v' := ⟨_, rfl⟩
    rw [← hpost]
    have HP := Lib.hid hpost; clear hpost
    go_enter Try.func24, Try.ntmps24
    go_wp2_with (at_builtin; refine Lib.wpList_append_run _ rfl _ _ _ _ rfl _ _ rfl rfl _ _ hrun' ?_)
    all_goals (rw [HP.out]; exact ⟨v', rfl, HO.out, HG.out⟩)

open Go.RowKit
open Go.Proofs.Ytbagocghlijleaa.Mem Go.Proofs.Ytbagocghlijleaa.Crc Go.Proofs.Ytbagocghlijleaa.Rec Go.Proofs.Ytbagocghlijleaa.Reg

theorem step_append_runI {P : Program} {ops : Array Oper} {o : Oper} {a : Act} {w : World} {K : Act → World → Prop} {Q : Exit → Act → World → Prop} {E : Prop}
    (hg : o.guard = none) (d x : Operand) (dT sT : TypeId) (hop : o.op = Op.call { callee := Callee.builtin Builtin.append, args := #[d, x], argTypes := #[dT, sT] })
    (v u : Value) (hd : a.eval d = v) (hx : a.eval x = u) {v' : Value} {w' : World} (hr : (Builtin.append_ #[dT, sT] o.type #[v, u]).run P w = .ok v' w') (hK : K (a.put o.dst v') w') :
    if Region.wanted o (yielded ops a.tmps) = true then Oper.wp P o a w K Q else E := by
  have hw : Region.wanted o (yielded ops a.tmps) = true := by simp [Region.wanted, hg]
  rw [if_pos hw]
  unfold Oper.wp
  simp [execOp, hop, resolve, invoke, builtin, hd, hx, hr, Result.andThen]
  exact hK
section
variable {α : Type} {R : Rk α}
/-- An element taken out of a row of one's own. -/
theorem del_row (ok : R.Ok) (w : World) (base g m c : Nat) (l : List α) (i : Nat) (z : List Value) (hz : z.length = R.k) (h : OwnC R w base (.slice (some ⟨g, 0, none⟩) (m + 1) c) l) (hi : i ≤ m) :
    OwnC R ((w.setCells g (i * R.k) (R.cells (l.drop (i + 1)))).setCells g (m * R.k) z) base (.slice (some ⟨g, 0, none⟩) m c) (l.take i ++ l.drop (i + 1)) ∧
    Grows w ((w.setCells g (i * R.k) (R.cells (l.drop (i + 1)))).setCells g (m * R.k) z) (.slice (some ⟨g, 0, none⟩) (m + 1) c) (.slice (some ⟨g, 0, none⟩) m c) := by
  have hn := h.fits.1
  rcases h.2 with ⟨e, _⟩ | ⟨g1, cap1, cur, e, h1, h2, h3, h4, h5, h6⟩
  · cases e
  · injection e with e1 e2 e3
    injection e1 with e1
    injection e1 with e1
    subst e1 e3
    have hl1 : (l.take i).length = i := by rw [List.length_take]; omega
    have hl2 : (l.drop (i + 1)).length = m - i := by rw [List.length_drop]; omega
    have hc1 : (R.cells (l.take i)).length = i * R.k := by rw [ok.clen, hl1]
    have hc2 : (R.cells (l.drop (i + 1))).length = (m - i) * R.k := by rw [ok.clen, hl2]
    have hm1 : (m + 1) * R.k = m * R.k + R.k := by rw [Nat.add_mul, Nat.one_mul]
    have hm2 : m * R.k = i * R.k + (m - i) * R.k := by rw [← Nat.add_mul]; congr 1; omega
    have hm4 : (m + 1) * R.k ≤ c * R.k := Nat.mul_le_mul_right _ (by omega)
    have hnew : (l.take i ++ l.drop (i + 1)).length = m := by rw [List.length_append, hl1, hl2]; omega
    have hcl : cur.toList.length = c * R.k := by simpa using h5
    have g1 := setCells_heap g (R.cells (l.drop (i + 1))) (i * R.k) _ _ _ h2 (by rw [hc2, h5]; omega)
    have g2 := setCells_heap g z (m * R.k) _ _ _ g1 (by
      simp only [List.size_toArray, List.length_append, List.length_take, List.length_drop, hcl, hc2, hz]
      omega)
    refine ⟨⟨ok.clen _, .inr ⟨g, c, _, by rw [hnew], h1, g2, by rw [hnew]; omega, h4, ?_, ?_⟩⟩, grown_trans (setCells_grown g _ _ w) (setCells_grown g _ _ _), fun k hk => .inl hk⟩
    · simp only [List.size_toArray, List.length_append, List.length_take, List.length_drop, List.toList_toArray, hcl, hc2, hz]
      omega
    · rw [hnew, R.cells_append]
      simp only [List.toList_toArray]
      have h7 : cur.toList.take (i * R.k) = R.cells (l.take i) := by
        rw [← ok.take, ← h6, List.take_take, Nat.min_eq_left (by rw [← hn]; omega)]
      rw [h7]
      have h8 : (R.cells (l.take i) ++ (R.cells (l.drop (i + 1)) ++ cur.toList.drop (i * R.k + (R.cells (l.drop (i + 1))).length))).take (m * R.k) = R.cells (l.take i) ++ R.cells (l.drop (i + 1)) := by
        rw [← List.append_assoc]
        exact List.take_left' (by rw [List.length_append, hc1, hc2, hm2])
      rw [h8]
      exact List.take_left' (by rw [List.length_append, hc1, hc2, hm2])
end

set_option maxRecDepth 100000 in
set_option maxHeartbeats 8000000 in
theorem delP_any (W : World) (base : Nat) (A : Option Addr) (n c : Nat) (l : List Pr) (hown : OwnC PK W base (.slice A n c) l) (i : Nat) (hi : i < n) (hlen : n ≤ 4398046511104) :
    Calls Try.prog 31 #[.slice A n c, .int .i64 (i : Int), .int .i64 ((i : Int) + 1)] W fun e W' => ∃ v', e = .returned v' ∧ OwnC PK W' base v' (l.take i ++ l.drop (i + 1)) ∧ Grows W W' (.slice A n c) v' := by
  have hn := hown.fits
  have hnc : n ≤ c := hn.2.1
  have hnl : n = l.length := hn.1
  have hcm : c ≤ 9223372036854775807 := by have := hn.2.2; unfold maxLen at this; omega
  obtain ⟨g, rfl, hg1, hg2, hfz⟩ := hown.form (by omega)
  have mixed : Try.prog.follows Departure.mixedOrders = true := by kernel_rfl
  obtain ⟨m, rfl⟩ : ∃ m, n = m + 1 := ⟨n - 1, by omega⟩
  have hgb : ∃ cur, W.heap[g]? = some (.cells cur PK.T (0, 0)) ∧ cur.size = c * 2 := by
    rcases hown.2 with ⟨e, _⟩ | ⟨g1, cap1, cur, e, h1, h2, h3, h4, h5, h6⟩
    · cases e
    · injection e with e1 e2 e3
      injection e1 with e1
      injection e1 with e1
      subst e1 e3
      exact ⟨cur, h2, h5⟩
  obtain ⟨cur, hcur, hcsz⟩ := hgb
  have hrng : ∀ (p : Nat), ∀ j v, (PK.cells (l.drop p))[j]? = some v → W.cell? ⟨g, p * 2 + j, none⟩ = some v := fun p j v hj => by
    have h5 : W.ownsRow base PK.T PK.k (.slice (some ⟨g, 0, none⟩) l.length c) l.length (PK.cells l) := by have h := hown; unfold OwnC at h; rw [hnl] at h; exact h
    rw [← PK_ok.drop, List.getElem?_drop] at hj
    have hlt : p * 2 + j < l.length * 2 := by
      have := (List.getElem?_eq_some_iff.1 hj).1
      rw [PK_ok.clen] at this
      exact this
    rw [World.ownsRow.cellAt h5 (p * 2 + j) hlt]
    exact hj
  have hdl : (l.drop (i + 1)).length = m - i := by rw [List.length_drop]; omega
  have e2 : ((i + 1 : Nat) : Int) = (i : Int) + 1 := by omega
  have e3 : ((m + 1 : Nat) : Int) = (m : Int) + 1 := by omega
  -- what stands behind
  obtain ⟨a, hsj, hsrc⟩ : ∃ a : Addr, (∀ V, (Instr.slice 22 (.slice (some ⟨g, 0, none⟩) (m + 1) c) (some (.int .i64 ((i : Int) + 1))) none none).run Try.prog V = .ok (.slice (some a) (m - i) (c - (i + 1))) V) ∧ ∀ j v, (PK.cells (l.drop (i + 1)))[j]? = some v → W.cell? (a.add j) = some v := by
    by_cases hc : c = i + 1
    · refine ⟨⟨g, 0, none⟩, fun V => ?_, fun j v hj => ?_⟩
      · have h := run_slice_l (P := Try.prog) V PK.S (some ⟨g, 0, none⟩) (m + 1) c (by rw [PK_ok.elem]; exact PK_ok.und) .i64 ((i + 1 : Nat) : Int) (by omega) (by omega)
        rw [PK_ok.sz] at h
        simp only [Result.andThen, sliced, Int.toNat_natCast] at h
        rw [if_pos (by omega), e2, show m + 1 - (i + 1) = m - i by omega] at h
        exact h
      · have h0 : PK.cells (l.drop (i + 1)) = [] := List.length_eq_zero_iff.1 (by rw [PK_ok.clen, hdl, show m - i = 0 by omega, Nat.zero_mul])
        rw [h0] at hj
        simp at hj
    · refine ⟨⟨g, (i + 1) * 2, none⟩, fun V => ?_, fun j v hj => by rw [Addr.add_lit]; exact hrng (i + 1) j v hj⟩
      have h := run_sl_from PK_ok V g 0 (m + 1) c (i + 1) (by omega) (by omega)
      rw [Nat.zero_add, e2, show m + 1 - (i + 1) = m - i by omega] at h
      exact h
  have hsi : ∀ V, (Instr.slice 22 (.slice (some ⟨g, 0, none⟩) (m + 1) c) none (some (.int .i64 (i : Int))) none).run Try.prog V = .ok (.slice (some ⟨g, 0, none⟩) i c) V := fun V => run_sl_to PK_ok V g 0 (m + 1) c i (by omega) (by omega)
  obtain ⟨i0, hi0, hz0, hzs, hzb⟩ := info_parts PK_ok.info
  have hsrcS : Src Try.prog i0.size 22 (.slice (some a) (m - i) (c - (i + 1))) (m - i) (PK.cells (l.drop (i + 1))) W.drew := by
    rw [hzs]
    exact Src.ofSlice W.drew PK_ok.und a (m - i) (c - (i + 1)) (PK.cells (l.drop (i + 1))) (by rw [PK_ok.clen, hdl]) hsrc (PK_ok.ones _)
  obtain ⟨W1, hW1⟩ : ∃ W1, W1 = W.setCells g (i * 2) (PK.cells (l.drop (i + 1))) := ⟨_, rfl⟩
  have hcellW : ∀ j, j < (m + 1) * 2 → (W.cell? ⟨g, j, none⟩).isSome = true := fun j hj => by
    have : j < cur.size := by rw [hcsz]; have := Nat.mul_le_mul_right 2 hnc; omega
    rw [cell_of_row _ _ j _ _ _ hcur, Array.getElem?_eq_getElem this]; rfl
  have hap : (Builtin.append_ #[22, 22] 22 #[.slice (some ⟨g, 0, none⟩) i c, .slice (some a) (m - i) (c - (i + 1))]).run Try.prog W.drew = .ok (.slice (some ⟨g, 0, none⟩) m c) W1.drew := by
    have h := run_append_room_src (P := Try.prog) (w := W.drew) 22 22 22 PK.T i0 PK_ok.und hi0 g 0 i c _ (m - i) _ hsrcS (by omega)
      (fun j hj => by
        rw [PK_ok.clen, hdl] at hj
        rw [hzs, Nat.zero_add]
        exact hcellW _ (by have : PK.k = 2 := rfl; rw [this] at hj ⊢; omega)) (fun j _ => hfz _)
    rw [hzs, Nat.zero_add, show i + (m - i) = m by omega] at h
    rw [hW1, drew_setCells]
    exact h
  have hcell1 : ∀ j, j < (m + 1) * 2 → (W1.cell? ⟨g, j, none⟩).isSome = true := fun j hj => by
    rw [hW1]
    exact isSome_setCells g _ _ _ (fun t ht => hcellW _ (by rw [PK_ok.clen, hdl] at ht; have : PK.k = 2 := rfl; rw [this] at ht; omega)) _ (hcellW j hj)
  have hzv : ∀ V, (zeroValue 24).run Try.prog V = .ok (.agg #[.string ⟨#[]⟩, .string ⟨#[]⟩]) V := fun V => by
    have : i0.zero = some (.agg #[.string ⟨#[]⟩, .string ⟨#[]⟩]) := hz0
    have hi0' : Try.prog.info? 24 = some i0 := hi0
    simp [zeroValue, typeInfo, hi0', this]
  obtain ⟨W2, hW2⟩ : ∃ W2, W2 = W1.setCells g (m * 2) [.string ⟨#[]⟩, .string ⟨#[]⟩] := ⟨_, rfl⟩
  have hcl : ∀ ty, (Builtin.clear_ #[22] ty #[.slice (some ⟨g, m * 2, none⟩) 1 (c - m)]).run Try.prog W1.drew = .ok (.tuple #[]) W2.drew := fun ty => by
    have hst := run_storeCells_cells (P := Try.prog) g (m * 2) [.string ⟨#[]⟩, .string ⟨#[]⟩] 0 W1.drew (fun j hj => hcell1 _ (by have : j < 2 := hj; omega)) (fun j _ => by
      have := World.frozen?_setCells g (PK.cells (l.drop (i + 1))) (i * 2) W ⟨g, m * 2 + (0 + j), none⟩
      rw [← hW1, hfz] at this
      simpa using this) (by intro u hu; simp at hu; subst hu; rfl)
    rw [hW2, drew_setCells]
    have hu := run_underlying (P := Try.prog) Try.underlying22
    have hzc : (Builtin.zeroCells #[.string ⟨#[]⟩, .string ⟨#[]⟩] 1).toList = [Value.string ⟨#[]⟩, .string ⟨#[]⟩] := by simp [Builtin.zeroCells, Array.toList_range, List.range, List.range.loop]
    simp [Builtin.clear_, hu, hzv, Value.cells, hzc, hst]
  have hst := del_row PK_ok W base g m c l i [.string ⟨#[]⟩, .string ⟨#[]⟩] rfl hown (by omega)
  have hst2 : OwnC PK W2 base (.slice (some ⟨g, 0, none⟩) m c) (l.take i ++ l.drop (i + 1)) ∧ Grows W W2 (.slice (some ⟨g, 0, none⟩) (m + 1) c) (.slice (some ⟨g, 0, none⟩) m c) := by
    rw [hW2, hW1]; exact hst
  have hs6 : ∀ V, (Instr.slice 22 (.slice (some ⟨g, 0, none⟩) m c) (some (.int .i64 (m : Int))) (some (.int .i64 ((m : Int) + 1))) none).run Try.prog V = .ok (.slice (some ⟨g, m * 2, none⟩) 1 (c - m)) V := fun V => by
    have h := run_slice_lh (P := Try.prog) V PK.S (some ⟨g, 0, none⟩) m c (by rw [PK_ok.elem]; exact PK_ok.und) .i64 .i64 (m : Int) ((m + 1 : Nat) : Int) (by omega) (by omega) (by omega)
    rw [PK_ok.sz] at h
    simp only [Result.andThen, sliced, Int.toNat_natCast] at h
    rw [if_neg (by omega), e3, show m + 1 - m = 1 by omega] at h
    rw [show (Instr.slice 22 (.slice (some ⟨g, 0, none⟩) m c) (some (.int .i64 (m : Int))) (some (.int .i64 ((m : Int) + 1))) none).run Try.prog V = _ from h]
    simp [Addr.add_mid]
    rfl
  obtain ⟨post, hpost⟩ : ∃ post : Ending → World → Prop, post = fun e W' => ∃ v', e = .returned v' ∧ OwnC PK W' base v' (l.take i ++ l.drop (i + 1)) ∧ Grows W W' (.slice (some ⟨g, 0, none⟩) (m + 1) c) v' := ⟨_, rfl⟩
  rw [← hpost]
  have HP := Lib.hid hpost
  have HST := Lib.hid hst2
  have hcl1 := hcl 0
  have hi1 : ¬ ((i : Int) = (i : Int) + 1) := by omega
  have hi2 : (i : Int) ≤ (m : Int) := by omega
  have hi3 : (i : Int) + 1 ≤ (m : Int) + 1 := by omega
  have hi4 : (m : Int) + 1 ≤ (c : Int) := by omega
  have hi5 : i ≤ m := by omega
  have hi6 : m + 1 ≤ c := by omega
  clear hpost hst2 hst hW2 hW1 hcl hzv hcell1 hcellW hsrcS hsrc hrng hcur hown hnl hn hfz hi0 hz0 hzs hzb hdl e2 e3
  go_enter Try.func31, Try.ntmps31
  go_wp2_with fail
  go_region_law_o (refine step_append_runI rfl _ _ 22 22 rfl (.slice (some ⟨g, 0, none⟩) i c) (.slice (some a) (m - i) (c - (i + 1))) (by simp [Act.eval, Act.put]) (by simp [Act.eval, Act.put]) hap ?_)
  go_wp2_with fail
  rw [HP.out]
  exact ⟨_, rfl, HST.out.1, ⟨HST.out.2.1.os, HST.out.2.1.tape, HST.out.2.1.output, HST.out.2.1.size, HST.out.2.1.block⟩, HST.out.2.2⟩
end Go.Proofs.Ytbagocghlijleaa.At