/- Blocks taken one behind the other, and given back: the map holds just the spans that are out. In plain words; a list of spans in memory. -/
import Derived.Test.YtnkiblifnknbkaaBdFill
import Derived.Maps.AppendAt
import Derived.Deep.MidRow
namespace Go.Proofs.Ytnkiblifnknbkaa.Buddy
set_option maxRecDepth 20000
open Go Go.RowKit
open Go.Proofs.Ytnkiblifnknbkaa.Mem Go.Proofs.Ytnkiblifnknbkaa.Bt Go.Proofs.Ytnkiblifnknbkaa.Rec Go.Proofs.Ytnkiblifnknbkaa.Bits Go.Proofs.Ytnkiblifnknbkaa.Bd Go.Proofs.Ytnkiblifnknbkaa.Reg

def tot : List (Nat × Nat) → Nat
  | [] => 0
  | x :: l => x.2 + tot l
theorem tot_append : ∀ l m, tot (l ++ m) = tot l + tot m
  | [], m => by simp [tot]
  | x :: l, m => by simp [tot, tot_append l m, Nat.add_assoc]
/-- In the map just these spans are taken. -/
structure Inv (n len : Nat) (cur : List UInt8) (sp : List (Nat × Nat)) : Prop where
  len : cur.length = len
  bits : ∀ i, bt cur i = true ↔ ∃ x ∈ sp, x.1 ≤ i ∧ i < x.1 + x.2
  disj : sp.Pairwise (fun x y => x.1 + x.2 ≤ y.1 ∨ y.1 + y.2 ≤ x.1)
  ok : ∀ x ∈ sp, 1 ≤ x.2 ∧ x.1 + x.2 ≤ n
  cnt : cnt (bt cur) 0 n = tot sp
theorem inv_nil (n len : Nat) : Inv n len (List.replicate len 0) [] := by
  have h0 : ∀ i, bt (List.replicate len 0) i = false := fun i => by
    unfold bt
    have : (List.replicate len (0 : UInt8)).getD (i / 8) 0 = 0 := by
      simp only [List.getD, List.getElem?_replicate]
      split <;> rfl
    rw [this]
    simp
  exact ⟨by simp, fun i => ⟨(fun h => by rw [h0] at h; cases h), (fun ⟨_, h, _⟩ => by cases h)⟩, List.Pairwise.nil, (fun _ h => by cases h), cnt_none fun j _ => h0 _⟩
theorem inv_take {n len a L : Nat} {cur : List UInt8} {sp : List (Nat × Nat)} (h : Inv n len cur sp) (hf : ∀ i, a ≤ i → i < a + L → bt cur i = false ∧ i < n) (h1 : 1 ≤ L) (h2 : a + L ≤ n) (hn : n ≤ 8 * len) :
    Inv n len (fillL cur (a : Int) ((a + L : Nat) : Int) true) (sp ++ [(a, L)]) := by
  have hl := h.len
  have hfil := fillL_nat cur a (a + L) true (by omega)
  refine ⟨hfil.1.trans hl, fun i => ?_, ?_, fun x hx => ?_, ?_⟩
  · by_cases hi : a ≤ i ∧ i < a + L
    · rw [filled_in hfil (by omega) hi.1 hi.2]
      exact ⟨fun _ => ⟨(a, L), by simp, hi.1, hi.2⟩, fun _ => rfl⟩
    · rw [filled_out hfil hi, h.bits i]
      refine ⟨fun ⟨x, hx, e⟩ => ⟨x, List.mem_append.2 (.inl hx), e⟩, fun ⟨x, hx, e⟩ => ?_⟩
      rcases List.mem_append.1 hx with e1 | e1
      · exact ⟨x, e1, e⟩
      · rw [List.mem_singleton.1 e1] at e; exact absurd e hi
  · refine List.pairwise_append.2 ⟨h.disj, List.pairwise_singleton _ _, fun x hx y hy => ?_⟩
    rw [List.mem_singleton.1 hy]
    have hxo := h.ok x hx
    rcases Nat.lt_or_ge a (x.1 + x.2) with k1 | k1
    · rcases Nat.lt_or_ge x.1 (a + L) with k2 | k2
      · exfalso
        have ht := (h.bits (max a x.1)).2 ⟨x, hx, by omega, by omega⟩
        rw [(hf (max a x.1) (by omega) (by omega)).1] at ht
        cases ht
      · exact .inr k2
    · exact .inl k1
  · rcases List.mem_append.1 hx with e | e
    · exact h.ok x e
    · rw [List.mem_singleton.1 e]; exact ⟨h1, h2⟩
  · have := filled_cnt hfil h2 (by omega)
    rw [cnt_free hf, h.cnt] at this
    rw [tot_append]
    simpa [tot] using this
theorem inv_give {n len a L : Nat} {cur : List UInt8} {sp : List (Nat × Nat)} (h : Inv n len cur ((a, L) :: sp)) (hn : n ≤ 8 * len) :
    cnt (bt cur) a L = L ∧ 1 ≤ L ∧ a + L ≤ n ∧ Inv n len (fillL cur (a : Int) ((a + L : Nat) : Int) false) sp := by
  have hl := h.len
  obtain ⟨ho1, ho2⟩ := h.ok (a, L) List.mem_cons_self
  dsimp only at ho1 ho2
  have hall : cnt (bt cur) a L = L := cnt_all1 fun j hj => (h.bits _).2 ⟨(a, L), List.mem_cons_self, by dsimp only; omega, by dsimp only; omega⟩
  have hfil := fillL_nat cur a (a + L) false (by omega)
  obtain ⟨hd1, hd2⟩ := List.pairwise_cons.1 h.disj
  refine ⟨hall, ho1, ho2, hfil.1.trans hl, fun i => ?_, hd2, fun x hx => h.ok x (List.mem_cons_of_mem _ hx), ?_⟩
  · by_cases hi : a ≤ i ∧ i < a + L
    · rw [filled_in hfil (by omega) hi.1 hi.2]
      refine ⟨(fun e => by cases e), fun ⟨x, hx, e1, e2⟩ => ?_⟩
      have := hd1 x hx
      dsimp only at this
      omega
    · rw [filled_out hfil hi, h.bits i]
      refine ⟨fun ⟨x, hx, e⟩ => ?_, fun ⟨x, hx, e⟩ => ⟨x, List.mem_cons_of_mem _ hx, e⟩⟩
      rcases List.mem_cons.1 hx with e1 | e1
      · rw [e1] at e; exact absurd e hi
      · exact ⟨x, e1, e⟩
  · have e1 := filled_cnt hfil ho2 (by omega)
    have e2 := h.cnt
    rw [hall, e2] at e1
    have e3 : tot ((a, L) :: sp) = L + tot sp := rfl
    rw [e3, if_neg (by simp)] at e1
    omega

/-! ### Spans in memory -/
def spC : List (Nat × Nat) → List Value
  | [] => []
  | x :: l => .int .i64 (x.1 : Int) :: .int .i64 (x.2 : Int) :: spC l
theorem spC_append : ∀ l m, spC (l ++ m) = spC l ++ spC m
  | [], _ => rfl
  | x :: l, m => by simp [spC, spC_append l m]
theorem spC_len : ∀ l, (spC l).length = l.length * 2
  | [] => rfl
  | x :: l => by simp [spC, spC_len l]; omega
theorem spC_get : ∀ (l : List (Nat × Nat)) (j : Nat) (x : Nat × Nat), l[j]? = some x → (spC l)[j * 2]? = some (.int .i64 (x.1 : Int)) ∧ (spC l)[j * 2 + 1]? = some (.int .i64 (x.2 : Int))
  | y :: l, 0, x, h => by simp at h; subst h; exact ⟨rfl, rfl⟩
  | y :: l, j + 1, x, h => by
    have := spC_get l j x (by simpa using h)
    rw [show (j + 1) * 2 = j * 2 + 2 by omega, show j * 2 + 2 + 1 = j * 2 + 1 + 2 by omega]
    simpa [spC] using this
theorem info_span : (Try.prog.info? 27).map (fun i => (i.zero, i.size, i.bytes)) = some (some (.agg #[.int .i64 0, .int .i64 0]), 2, 16) := by kernel_rfl
/-- One of the spans, read whole. -/
theorem run_ldS_mid (V : World) (base g cap k : Nat) (sp : List (Nat × Nat)) (x : Nat × Nat) (h : V.ownsRow base 27 2 (.slice (some ⟨g, 0, none⟩) sp.length cap) sp.length (spC sp)) (hx : sp[k]? = some x) :
    (ldS (.pointer (some ⟨g, k * 2, none⟩))).run Try.prog V = .ok (.agg (spanV (x.1 : Int) (x.2 : Int))) V := by
  have hk : k < sp.length := (List.getElem?_eq_some_iff.1 hx).1
  obtain ⟨g1, g2⟩ := spC_get sp k x hx
  have hr : V.rangeAt g (k * 2) [.int .i64 (x.1 : Int), .int .i64 (x.2 : Int)] := fun j v hj => by
    match j, hj with
    | 0, hj => simp at hj; subst hj; rw [h.cellAt (k * 2 + 0) (by omega)]; exact g1
    | 1, hj => simp at hj; subst hj; rw [h.cellAt (k * 2 + 1) (by omega)]; exact g2
  exact run_loadAt_mid V g (k * 2) 27 [.int .i64 (x.1 : Int), .int .i64 (x.2 : Int)] _ hr Try.underlying27 rfl (by kernel_rfl)
/-- A map in memory that is no part of the list. -/
def MapAt (W : World) (A : Option Addr) (len : Nat) (cur : List UInt8) (g : Option Nat) : Prop := Holds W W.heap.size A len cur ∧ ∀ b off, A = some ⟨b, off, none⟩ → g ≠ some b
theorem MapAt.grown {W W' : World} {A : Option Addr} {len : Nat} {cur : List UInt8} {g : Option Nat} (h : MapAt W A len cur g) (hg : W.grownBy W' g) : Holds W' W'.heap.size A len cur :=
  ⟨h.1.1, fun hn => by
    obtain ⟨b, off, e, hl, hc⟩ := h.1.2 hn
    exact ⟨b, off, e, Nat.lt_of_lt_of_le hl hg.size, fun j hj => (World.cell?_of_block (a := ⟨b, off + j, none⟩) (hg.block b hl (fun e' => h.2 b off e e'.symm))).trans (hc j hj)⟩⟩

theorem Row.below {V V' : World} {base : Nat} {e : TypeId} {size : Nat} {v : Value} {n : Nat} {xs : List Value} (h : V.ownsRow base e size v n xs) (hb : Below V.heap.size V V') : V'.ownsRow base e size v n xs := by
  refine ⟨h.1, h.2.imp id ?_⟩
  rintro ⟨g, cap, cur, e, h1, h2, h3⟩
  exact ⟨g, cap, cur, e, h1, (hb.block g (Array.getElem?_eq_some_iff.1 h2).1).trans h2, h3⟩
theorem Row.is_slice {V : World} {base : Nat} {e : TypeId} {size : Nat} {v : Value} {n : Nat} {xs : List Value} (h : V.ownsRow base e size v n xs) : ∃ X c, v = .slice X n c := by
  rcases h.2 with ⟨rfl, rfl⟩ | ⟨g, cap, _, rfl, _⟩
  · exact ⟨_, _, rfl⟩
  · exact ⟨_, _, rfl⟩
theorem Row.form {V : World} {base : Nat} {e : TypeId} {size : Nat} {v : Value} {n : Nat} {xs : List Value} (h : V.ownsRow base e size v n xs) (hn : 0 < n) : ∃ g cap, v = .slice (some ⟨g, 0, none⟩) n cap := by
  rcases h.2 with ⟨rfl, h0⟩ | ⟨g, cap, _, rfl, _⟩
  · omega
  · exact ⟨_, _, rfl⟩
theorem run_and63 (x : Nat) (hx : x < 256) (W : World) : (andB (.int .u8 (x : Int)) (.int .u8 63)).run Try.prog W = .ok (.int .u8 ((x % 64 : Nat) : Int)) W := by
  have h := run_andB x 63 hx (by omega) W
  rw [show x &&& 63 = x % 64 from Nat.and_two_pow_sub_one_eq_mod x 6] at h
  exact h
theorem TakeOut.below {len : Nat} {bs : List UInt8} {w : World} {nn want : Nat} {r : Option (Nat × Nat)} {e : Ending} {w' : World} (h : TakeOut len bs w nn want r e w') : Below w.heap.size w w' := by
  rcases r with _ | ⟨a, o⟩
  · exact h.2
  · obtain ⟨_, _, _, _, hb, _⟩ := h
    exact hb
/-- Behind some rounds of taking. -/
structure At (w : World) (n N : Nat) (V : World) (A : Option Addr) (cur : List UInt8) (gv : Value) (sp : List (Nat × Nat)) : Prop where
  inv : Inv n N cur sp
  map : MapAt V A N cur gv.ownBlock
  row : V.ownsRow w.heap.size 27 2 gv sp.length (spC sp)
  bel : Below w.heap.size w V
theorem At.keep {w V V' : World} {n N : Nat} {A : Option Addr} {cur : List UInt8} {gv : Value} {sp : List (Nat × Nat)} (h : At w n N V A cur gv sp) (hb : Below V.heap.size V V') : At w n N V' A cur gv sp :=
  ⟨h.inv, ⟨(h.map.1.below hb).more hb.size, h.map.2⟩, Row.below h.row hb, h.bel.trans (hb.mono h.bel.size)⟩
theorem At.left {w V : World} {n N : Nat} {A : Option Addr} {cur : List UInt8} {gv : Value} {sp : List (Nat × Nat)} (h : At w n N V A cur gv sp) : freeN cur n + tot sp = n := by
  have h1 := h.inv.cnt
  have h2 := cnt_le (bt cur) 0 n
  unfold freeN
  omega
theorem At.append {w V W : World} {n N a L g c' : Nat} {A A' : Option Addr} {cur ys : List UInt8} {gv : Value} {sp : List (Nat × Nat)} (h : At w n N V A cur gv sp) (hb : Below V.heap.size V W) (ho : Owned W V.heap.size (.slice A' N c') ys)
    (hi : Inv n N ys (sp ++ [(a, L)])) (hg : W.heap[g]? = some (.cells (spanV (a : Int) (L : Int)) 27 (0, 0))) (hVg : V.heap.size ≤ g) (h60 : sp.length < 60) :
    ∃ gv' V', (Builtin.append_ #[42, 42] 42 #[gv, .slice (some ⟨W.heap.size, 0, none⟩) 1 1]).run Try.prog (W.alloc (.cells #[.int .i64 (a : Int), .int .i64 (L : Int)] 27)) = .ok gv' V' ∧
      At w n N V' A' ys gv' (sp ++ [(a, L)]) ∧ V'.heap[g]? = some (.cells (spanV (a : Int) (L : Int)) 27 (0, 0)) := by
  obtain ⟨i0, hi0, hz0, hz1, hz2⟩ := info_parts info_span
  have hrow := Row.below h.row hb
  have hlt := World.ownsRow.lt h.row
  have hwW : w.heap.size ≤ W.heap.size := Nat.le_trans h.bel.size hb.size
  obtain ⟨gv', V', hrun, h2, h3, _, h5⟩ := run_append_own_at (P := Try.prog) (w := W.alloc (.cells #[.int .i64 (a : Int), .int .i64 (L : Int)] 27)) w.heap.size 42 42 27 i0 (.agg #[.int .i64 0, .int .i64 0]) 2 16 Try.underlying42 hi0 hz0 hz1 hz2 rfl (by decide)
    gv sp.length (spC sp) (World.ownsRow.alloc hrow _) ⟨W.heap.size, 0, none⟩ 1 1 [.int .i64 (a : Int), .int .i64 (L : Int)] rfl (fun j u hu => by
      have hadd : (⟨W.heap.size, 0, none⟩ : Addr).add j = ⟨W.heap.size, j, none⟩ := by unfold Addr.add; split <;> simp_all
      rw [hadd, cell_of_row _ _ j _ _ _ (heap_alloc_new W _)]
      simpa using hu) (by intro u hu; simp at hu; rcases hu with rfl | rfl <;> rfl) (by unfold maxLen; omega) (by omega) (by simp; omega)
  refine ⟨gv', V', hrun, ⟨hi, ?_, ?_, ?_⟩, ?_⟩
  · have ho1 : Owned (W.alloc (.cells #[.int .i64 (a : Int), .int .i64 (L : Int)] 27)) V.heap.size (.slice A' N c') ys := World.ownsRow.alloc ho _
    have hol := World.ownsRow.lt ho
    have ho2 : Owned V' V.heap.size (.slice A' N c') ys := World.ownsRow.kept ho1 h3 (by
      rcases A' with _ | ad
      · exact .inl rfl
      · refine .inr fun e => ?_
        have e1 := hol ad.block rfl
        have e2 := hlt ad.block e.symm
        omega)
    refine ⟨Owned.reads ho2, fun b off e k => ?_⟩
    · subst e
      have e1 := hol b rfl
      rcases h5 with h5 | h5
      · rw [h5] at k
        have e2 := hlt b k
        omega
      · rw [h5] at k
        injection k with k
        simp at k
        omega
  · have e : spC (sp ++ [(a, L)]) = spC sp ++ [.int .i64 (a : Int), .int .i64 (L : Int)] := spC_append _ _
    rw [e, List.length_append]
    exact h2
  · have hb1 : Below w.heap.size w (W.alloc (.cells #[.int .i64 (a : Int), .int .i64 (L : Int)] 27)) := (h.bel.trans (hb.mono h.bel.size)).alloc hwW _
    exact hb1.grown h3 (by simp; omega) (fun k hk => (hlt k hk).1)
  · have hgW : g < W.heap.size := (Array.getElem?_eq_some_iff.1 hg).1
    exact (h3.block g (by simp; omega) (fun e => by have := hlt g e.symm; omega)).trans ((Below.heap_alloc W _ g hgW).trans hg)
/-- Behind some rounds of giving back. -/
structure Back (w : World) (n N : Nat) (V : World) (A : Option Addr) (cur : List UInt8) (gv : Value) (sp : List (Nat × Nat)) (k : Nat) : Prop where
  inv : Inv n N cur (sp.drop k)
  map : Holds V V.heap.size A N cur
  row : V.ownsRow w.heap.size 27 2 gv sp.length (spC sp)
  bel : Below w.heap.size w V
theorem At.back {w V V' : World} {n N : Nat} {A : Option Addr} {cur : List UInt8} {gv : Value} {sp : List (Nat × Nat)} (h : At w n N V A cur gv sp) (hb : Below V.heap.size V V') : Back w n N V' A cur gv sp 0 :=
  ⟨h.inv, (h.map.1.below hb).more hb.size, Row.below h.row hb, h.bel.trans (hb.mono h.bel.size)⟩
theorem Back.step {w V V' : World} {n N k c' : Nat} {A A' : Option Addr} {cur ys : List UInt8} {gv : Value} {sp : List (Nat × Nat)} (h : Back w n N V A cur gv sp k) (hb : Below V.heap.size V V') (ho : Owned V' V.heap.size (.slice A' N c') ys) (hi : Inv n N ys (sp.drop (k + 1))) :
    Back w n N V' A' ys gv sp (k + 1) := ⟨hi, Owned.reads ho, Row.below h.row hb, h.bel.trans (hb.mono h.bel.size)⟩
theorem Back.next {w V : World} {n N a L k : Nat} {A : Option Addr} {cur : List UInt8} {gv : Value} {sp : List (Nat × Nat)} (h : Back w n N V A cur gv sp k) (hx : sp[k]? = some (a, L)) (hn : n ≤ 8 * N) :
    cnt (bt cur) a L = L ∧ 1 ≤ L ∧ a + L ≤ n ∧ Inv n N (fillL cur (a : Int) ((a + L : Nat) : Int) false) (sp.drop (k + 1)) := by
  obtain ⟨hk, e⟩ := List.getElem?_eq_some_iff.1 hx
  have h1 := h.inv
  rw [List.drop_eq_getElem_cons hk, e] at h1
  exact inv_give h1 hn
theorem Back.all {w V : World} {n N : Nat} {A : Option Addr} {cur : List UInt8} {gv : Value} {sp : List (Nat × Nat)} (h : Back w n N V A cur gv sp sp.length) : freeN cur n = n := by
  have h1 := h.inv.cnt
  rw [List.drop_length] at h1
  unfold freeN
  simp only [tot] at h1
  omega
theorem At.free {w V : World} {n N k goal a o want L : Nat} {A : Option Addr} {cur : List UInt8} {gv : Value} {sp : List (Nat × Nat)} (h : At w n N V A cur gv sp) (ht : IsTake (bt cur) n k goal (some (a, o))) (hw : 1 ≤ want) (hL : L = min want (2 ^ o)) (hs : a + L ≤ n) (hn : n ≤ 8 * N) :
    1 ≤ L ∧ Inv n N (fillL cur (a : Int) ((a + L : Nat) : Int) true) (sp ++ [(a, L)]) ∧ L ≤ freeN cur n := by
  have h1 : 1 ≤ L := by have := Nat.two_pow_pos o; omega
  have hf := take_free (want := want) ht
  rw [← hL] at hf
  have hi := inv_take h.inv hf h1 hs hn
  have e1 := hi.cnt
  have e2 := cnt_le (bt (fillL cur (a : Int) ((a + L : Nat) : Int) true)) 0 n
  rw [tot_append] at e1
  have e3 := h.left
  have e4 : tot [(a, L)] = L := rfl
  exact ⟨h1, hi, by omega⟩

section
variable {P : Program} {ops : Array Oper} {Q : Exit → Act → World → Prop} {md : Region.Mode} {S : World → Prop} {st : Nat}
/-- Two numbers may come up. -/
theorem wpE_two (i j : Nat) {o o' : Oper} {fuel : Nat} {listed : Array Bool} {a : Act} {w : World} (hr : Region.ready md ops listed = [i, j]) (ho : ops[i]? = some o) (ho' : ops[j]? = some o')
    (h : ∀ K' : Act → World → Prop, Shut (∀ a w, S w → (S w → wpAnyE P md ops Q S st fuel (listed.setIfInBounds i true) a w) → K' a w) → if Region.wanted o (yielded ops a.tmps) = true then Oper.wp P o a w K' Q else K' (a.put o.dst undef) w)
    (h' : ∀ K' : Act → World → Prop, Shut (∀ a w, S w → (S w → wpAnyE P md ops Q S st fuel (listed.setIfInBounds j true) a w) → K' a w) → if Region.wanted o' (yielded ops a.tmps) = true then Oper.wp P o' a w K' Q else K' (a.put o'.dst undef) w) :
    wpAnyE P md ops Q S st (fuel + 1) listed a w :=
  ⟨fun e => (by rw [hr] at e; cases e), fun t ht => by
    rw [hr] at ht
    rcases List.mem_cons.1 ht with e | e
    · subst e
      exact wpOp_step ho (fun K' hK => h K' (fun a w hS hW => hK a w ⟨.inr hS, hW hS⟩))
    · obtain rfl : t = j := by simpa using e
      exact wpOp_step ho' (fun K' hK => h' K' (fun a w hS hW => hK a w ⟨.inr hS, hW hS⟩))⟩
end
/-- 'append' of one span, its answer known. -/
theorem wpList_appendS {w : World} {ops : Array Oper} {rest : List Oper} {o : Oper} {a : Act} {Q : Exit → Act → World → Prop} (hgd : o.guard = none) (s x : Operand)
    (ho : o.op = .call { callee := .builtin .append, args := #[s, x], argTypes := #[42, 42] }) (hty : o.type = 42)
    (v u v' : Value) (w' : World) (hs : a.eval s = v) (hx : a.eval x = u) (hrun : (Builtin.append_ #[42, 42] 42 #[v, u]).run Try.prog w = .ok v' w')
    (h : wpList Try.prog ops Q rest (a.put o.dst v') w') : wpList Try.prog ops Q (o :: rest) a w := by
  refine wpList_plain hgd fun K hK => ?_
  unfold Oper.wp execOp
  simp only [ho, hty, resolve, invoke, builtin, Sem.run_bind, Sem.run_pure, Result.andThen_ok, List.map_toArray, List.map_cons, List.map_nil, hs, hx, hrun]
  exact hK _ _ h
end Go.Proofs.Ytnkiblifnknbkaa.Buddy
