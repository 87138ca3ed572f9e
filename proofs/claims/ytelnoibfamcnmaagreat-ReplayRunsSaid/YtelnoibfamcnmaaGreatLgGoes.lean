/- A log that goes on, with its live records: what each call of it does to its Seq, its Room and its disk. -/
import Derived.Test.YtelnoibfamcnmaaGreatLgLive
import Derived.Lib.MinMax
import Derived.Test.YtelnoibfamcnmaaGreatLgGo
namespace Go.Proofs.YtelnoibfamcnmaaGreat.Log
set_option maxRecDepth 20000
open Go.RowKit
open Go.Proofs.YtelnoibfamcnmaaGreat.Mem Go.Proofs.YtelnoibfamcnmaaGreat.Crc Go.Proofs.YtelnoibfamcnmaaGreat.Disk Go.Proofs.YtelnoibfamcnmaaGreat.Reg
open Go.Proofs.YtelnoibfamcnmaaGreat.Rec (Tx Wt TxAt HoldsW HoldsI IsInt mayB_iff keyI keyI_inj intLitI)

/-- Of pairs of a block and a Seq: the greatest Seq of a block, 0 if there is none. -/
def greatest (ps : List (Int × Nat)) (b : Int) : Nat := ps.foldl (fun o x => if x.1 = b then max o x.2 else o) 0
theorem greatest_snoc (ps : List (Int × Nat)) (x : Int × Nat) (b : Int) : greatest (ps ++ [x]) b = if x.1 = b then max (greatest ps b) x.2 else greatest ps b := by
  simp [greatest, List.foldl_append]
def revsOf (ts : List Tx) : List (Int × Nat) := ts.flatMap fun t => t.rs.map fun x => (x, t.seq)

/-- The table in memory. -/
def Revs (w : World) (m n : Nat) (ps : List (Int × Nat)) : Prop :=
  ∃ D : DataW Unit, w.ownsMap Tryz.prog 3 (plainElem Tryz.prog 51) m n D ∧ Maps.IsMap D ∧ ∀ b : Int, D.atKey (keyI b) (.lit (.int .u64 0)) = .lit (.int .u64 (greatest ps b : Int))

theorem Revs.none (w : World) : Revs (w.alloc (.map #[] 0)) w.heap.size 0 [] :=
  ⟨_, World.ownsMap_made w Tryz.prog 3 (plainElem (H := Unit) Tryz.prog 51), ⟨[], rfl⟩, fun _ => rfl⟩
theorem Revs.alloc {w : World} {m n : Nat} {ps : List (Int × Nat)} (h : Revs w m n ps) (o : Obj) : Revs (w.alloc o) m n ps := by
  obtain ⟨D, h1, h2⟩ := h
  exact ⟨D, h1.alloc o, h2⟩

set_option maxRecDepth 100000 in
theorem revs_look (W : World) (m n : Nat) (ps : List (Int × Nat)) (b : Int) (hb : IsInt b) (h : Revs W m n ps) :
    (Instr.lookup 110 (.map (some m)) (.int .i64 b) false).run Tryz.prog W = .ok (.int .u64 (greatest ps b : Int)) W ∧ greatest ps b < 18446744073709551616 := by
  obtain ⟨D, h1, -, h3⟩ := h
  have hz : (zeroValue 51).run Tryz.prog W = .ok (.int .u64 0) W := by rfl
  obtain ⟨c, hrun, hat, hwf⟩ := h1.lookup_int Go.Proofs.YtelnoibfamcnmaaGreat.Rec.intKey Tryz.underlying110 Tryz.underlying51 hz (Maps.keyOf_int_mk Tryz.underlying3 (intLitI hb))
  have h4 := h3 b
  unfold keyI at h4
  rw [h4] at hat
  injection hat with hat
  injection hat with _ hat
  rw [← hat] at hrun hwf
  refine ⟨hrun, ?_⟩
  simp [Lit.wf, show IntKind.u64.min = 0 from rfl, show IntKind.u64.max = 18446744073709551615 from rfl] at hwf
  omega

set_option maxRecDepth 100000 in
theorem revs_put (W : World) (m n : Nat) (ps : List (Int × Nat)) (b : Int) (s : Nat) (hb : IsInt b) (hs : s < 18446744073709551616) (hn : n < maxLen) (h : Revs W m n ps) :
    ∃ w', (Instr.mapUpdate 110 (.map (some m)) (.int .i64 b) (.int .u64 (max (greatest ps b : Int) (s : Int)))).run Tryz.prog W = .ok () w' ∧ Revs w' m (n + 1) (ps ++ [(b, s)]) ∧ W.grownBy w' (some m) := by
  have hg := (revs_look W m n ps b hb h).2
  obtain ⟨D, h1, h2, h3⟩ := h
  have hkey : keyOf Tryz.prog 3 (.int .i64 b) = some (keyI b) := Maps.keyOf_int_mk Tryz.underlying3 (intLitI hb)
  have hmx : max (greatest ps b : Int) (s : Int) = ((max (greatest ps b) s : Nat) : Int) := by omega
  have hv : plainElem (H := Unit) Tryz.prog 51 (.int .u64 (max (greatest ps b : Int) (s : Int))) = some (.lit (.int .u64 (max (greatest ps b) s : Nat)), []) := by
    rw [hmx]
    exact plainElem_int (H := Unit) (P := Tryz.prog) (a := ((max (greatest ps b) s : Nat) : Int)) Tryz.underlying51 (by
      simp [Lit.wf, show IntKind.u64.min = 0 from rfl, show IntKind.u64.max = 18446744073709551615 from rfl]
      omega)
  obtain ⟨w2, hrun, hM2, hg2⟩ := h1.update (t := 110) Go.Proofs.YtelnoibfamcnmaaGreat.Rec.intKey Tryz.underlying110 hn hkey hv
  refine ⟨w2, hrun, ⟨_, hM2, h2.put _ _, fun c => ?_⟩, hg2⟩
  rw [greatest_snoc]
  by_cases h : b = c
  · subst h
    rw [if_pos rfl, Maps.atKey_put_same h2 (by unfold keyI; trivial)]
  · rw [if_neg h, Maps.atKey_put_other (by rw [Ne, keyI_inj]; exact fun e => h e.symm), h3]

/-- The records of a list: where each lies. -/
theorem Row.cells3 {w : World} {e : TypeId} {v : Value} {n : Nat} {L : List LiveRec} (h : Row w e 3 v n (L.flatMap LiveRec.cells)) {k : Nat} {x : LiveRec} (hx : L[k]? = some x) :
    ∃ g cap, v = .slice (some ⟨g, 0, none⟩) n cap ∧ g < w.heap.size ∧ w.cell? ⟨g, k * 3, none⟩ = some (.int .u64 (x.t.seq : Int)) ∧ w.cell? ⟨g, k * 3 + 1, none⟩ = some (.slice x.Aw x.t.ws.length x.cw) ∧ w.cell? ⟨g, k * 3 + 2, none⟩ = some (.slice x.Ar x.t.rs.length x.cr) := by
  have hget : ∀ (L : List LiveRec) (k : Nat) (x : LiveRec), L[k]? = some x → ∀ j, j < 3 → (L.flatMap LiveRec.cells)[k * 3 + j]? = x.cells[j]? := by
    intro L
    induction L with
    | nil => intro k x hx; simp at hx
    | cons y r ih =>
      intro k x hx j hj
      rw [List.flatMap_cons]
      cases k with
      | zero => simp at hx; subst hx; rw [Nat.zero_mul, Nat.zero_add, List.getElem?_append_left (by simp [LiveRec.cells]; omega)]
      | succ k =>
        rw [List.getElem?_append_right (by simp [LiveRec.cells]; omega), show (k + 1) * 3 + j - y.cells.length = k * 3 + j by simp [LiveRec.cells]; omega]
        exact ih k x (by simpa using hx) j hj
  have hl := h.1
  have h0 := hget L k x hx 0 (by omega)
  have h1 := hget L k x hx 1 (by omega)
  have h2 := hget L k x hx 2 (by omega)
  rcases h.2 with ⟨_, hn⟩ | ⟨g, cap, cur, e, _, hh, _, _, _, ht⟩
  · have := (List.getElem?_eq_some_iff.1 h0).1
    exfalso
    subst hn
    rw [hl] at this
    omega
  · have hc : ∀ j u, (L.flatMap LiveRec.cells)[j]? = some u → w.cell? ⟨g, j, none⟩ = some u := fun j u hu => by
      rw [cell_of_row _ _ _ _ _ _ hh]
      have hj := (List.getElem?_eq_some_iff.1 hu).1
      rw [← ht, List.getElem?_take, if_pos (by omega)] at hu
      simpa using hu
    exact ⟨g, cap, e, (Array.getElem?_eq_some_iff.1 hh).1, hc _ _ h0, hc _ _ h1, hc _ _ h2⟩

/-- While it is filled. -/
structure Filling (w wr : World) (ps : List (Int × Nat)) (k : Nat) : Prop where
  table : ∃ n, n ≤ k ∧ Revs wr w.heap.size n ps
  below : Below w.heap.size w wr
  size : w.heap.size < wr.heap.size

theorem Filling.put {w wr : World} {ps : List (Int × Nat)} {k s : Nat} {b : Int} (h : Filling w wr ps k) (hb : IsInt b) (hs : s < 18446744073709551616) (hk : k < maxLen) :
    (Instr.lookup 110 (.map (some w.heap.size)) (.int .i64 b) false).run Tryz.prog wr = .ok (.int .u64 (greatest ps b : Int)) wr ∧
    ∃ w', (Instr.mapUpdate 110 (.map (some w.heap.size)) (.int .i64 b) (.int .u64 (max (greatest ps b : Int) (s : Int)))).run Tryz.prog wr = .ok () w' ∧ Filling w w' (ps ++ [(b, s)]) (k + 1) ∧ wr.heap.size ≤ w'.heap.size ∧ ∀ q, q ≠ w.heap.size → q < wr.heap.size → w'.heap[q]? = wr.heap[q]? := by
  obtain ⟨n, hn, hR⟩ := h.table
  have hl := (revs_look wr w.heap.size n ps b hb hR).1
  obtain ⟨w2, hrun, hR2, hg2⟩ := revs_put wr w.heap.size n ps b s hb hs (by omega) hR
  exact ⟨hl, w2, hrun, ⟨⟨n + 1, by omega, hR2⟩, h.below.grown hg2 h.below.size (by intro q hq; injection hq with hq; omega), by have := hg2.size; have := h.size; omega⟩, hg2.size, fun q h1 h2 => hg2.block q h2 (by intro e; injection e with e; exact h1 e)⟩
theorem Filling.alloc {w wr : World} {ps : List (Int × Nat)} {k : Nat} (h : Filling w wr ps k) (o : Obj) : Filling w (wr.alloc o) ps k := by
  obtain ⟨n, hn, hR⟩ := h.table
  exact ⟨⟨n, hn, hR.alloc o⟩, h.below.alloc h.below.size _, by have := h.size; simp; omega⟩

set_option maxRecDepth 100000 in
set_option maxHeartbeats 2000000 in
theorem revoked_any (w : World) (A : Option Addr) (nl c n s r : Nat) (G : Nat → Prop) (L : List LiveRec) (h : Live w G n s r (.slice A nl c) nl L) (hnl : nl ≤ 1048576) :
    Calls Tryz.prog 61 #[.slice A nl c] w fun e w' => e = .returned (.map (some w.heap.size)) ∧ Filling w w' (revsOf (L.map (·.t))) (58 * nl) := by
  have hF0 : Filling w (w.alloc (.map #[] 0)) [] 0 := ⟨⟨0, Nat.le_refl _, Revs.none w⟩, (Below.refl w.heap.size w).alloc (Nat.le_refl _) _, by simp⟩
  have hcnt := h.cnt
  have H := Lib.hid h; clear h
  have HF0 := Lib.hid hF0; clear hF0
  have HCNT := Lib.hid hcnt; clear hcnt
  have hmm := @run_makeMap Tryz.prog
  go_enter Tryz.func61, Tryz.ntmps61
  go_wp2_with fail
  clear hmm
  generalize w.alloc (.map #[] 0) = W at HF0 ⊢
  go_loopw [11] (fun i wr => ∃ k : Nat, k ≤ nl ∧ i = .int .i64 (k : Int) ∧ Filling w wr (revsOf ((L.take k).map (·.t))) (58 * k)) (fun i _ => nl - (intOf i).toNat)
  case atStart => exact ⟨0, by omega, rfl, HF0.out⟩
  case round =>
    obtain ⟨k, hk, rfl, hF⟩ := hrel
    have HF := Lib.hid hF; clear hF
    by_cases hlt : k < nl
    · obtain ⟨x, hx⟩ : ∃ x, L[k]? = some x := ⟨_, List.getElem?_eq_getElem (by have := HCNT.out; omega)⟩
      have hT : Turns G w wr := Turns.of_below HF.out.below
      have hrow := H.out.row.turns (Turns.of_below (F := fun _ => False) HF.out.below) (fun _ _ e => e)
      obtain ⟨g, cap, hv, hgl, e0, e1, e2⟩ := Row.cells3 hrow hx
      injection hv with hv1 _ hv3
      subst hv1 hv3
      have hxm := List.mem_of_getElem? hx
      have hat := H.out.stays x hxm wr hT
      have hmay := (mayB_iff x.t).1 (H.out.fair x hxm).1
      have hr58 : x.t.rs.length ≤ 58 := by have := hmay.hi; omega
      have HAT := Lib.hid hat; clear hat
      have hk0 : (0 : Int) ≤ (k : Int) := by omega
      have hkn : (k : Int) < (nl : Int) := by omega
      have HX := Lib.hid hx; clear hx
      have HM := Lib.hid hmay; clear hmay
      clear hrow hT
      generalize hNR : x.t.rs.length = nr at e2 hr58
      have HNR := Lib.hid hNR; clear hNR
      generalize hNW : x.t.ws.length = nw at e1
      clear hNW
      generalize hSQ : x.t.seq = sq at e0
      have HSQ := Lib.hid hSQ; clear hSQ
      generalize hAR : x.Ar = Ar at e2
      have HAR := Lib.hid hAR; clear hAR
      generalize hAW : x.Aw = Aw at e1
      clear hAW
      generalize hCR : x.cr = cr at e2
      clear hCR
      generalize hCW : x.cw = cw at e1
      clear hCW
      have hbox : (wr.alloc (.cells #[.int .u64 (sq : Int), .slice Aw nw cw, .slice Ar nr cr] 63)).heap[wr.heap.size]? = some (.cells #[.int .u64 (sq : Int), .slice Aw nw cw, .slice Ar nr cr] 63 (0, 0)) := heap_alloc_new wr _
      have b2 := cell_of_row _ wr.heap.size 2 _ _ _ hbox
      have HBOX := Lib.hid hbox; clear hbox
      have HFA := Lib.hid (HF.out.alloc (.cells #[.int .u64 (sq : Int), .slice Aw nw cw, .slice Ar nr cr] 63))
      have HSA : Hid ((wr.alloc (.cells #[.int .u64 (sq : Int), .slice Aw nw cw, .slice Ar nr cr] 63)).heap.size = wr.heap.size + 1) := Lib.hid (by simp)
      obtain ⟨wk, hwk⟩ : ∃ wk, wk = wr := ⟨_, rfl⟩
      subst hwk
      go_wp2_with fail
      generalize wk.alloc (.cells #[.int .u64 (sq : Int), .slice Aw nw cw, .slice Ar nr cr] 63) = WA at HBOX HFA HSA ⊢
      have HPB : Hid (wk.heap.size ≠ w.heap.size ∧ wk.heap.size < WA.heap.size) := Lib.hid ⟨by have := HF.out.size; omega, by have := HSA.out; omega⟩
      clear e0 e1 e2 b2 HF
      generalize wk.heap.size = pb at HBOX HPB hgl ⊢
      clear HSA HAT hgl
      go_loopw [18] (fun i wr => ∃ j : Nat, j ≤ nr ∧ i = .int .i64 (j : Int) ∧ Filling w wr (revsOf ((L.take k).map (·.t)) ++ (x.t.rs.take j).map (fun y => (y, sq))) (58 * k + j) ∧ wr.heap[pb]? = some (.cells #[.int .u64 (sq : Int), .slice Aw nw cw, .slice Ar nr cr] 63 (0, 0))) (fun i _ => nr - (intOf i).toNat)
      case atStart => exact ⟨0, by omega, rfl, by rw [List.take_zero, List.map_nil, List.append_nil]; exact HFA.out, HBOX.out⟩
      case round =>
        clear HFA HBOX
        obtain ⟨j, hj, rfl, hF, hB⟩ := hrel
        by_cases hlj : j < nr
        · have hat := H.out.stays x hxm wr (Turns.of_below hF.below)
          obtain ⟨b, off, hA, hbl, hc⟩ := hat.rs.2 (by rw [HNR.out]; omega)
          rw [HAR.out] at hA
          subst hA
          obtain ⟨y, hy⟩ : ∃ y, x.t.rs[j]? = some y := ⟨_, List.getElem?_eq_getElem (by rw [HNR.out]; exact hlj)⟩
          have e0 := hc j y hy
          have hiy := hat.intR y (List.mem_of_getElem? hy)
          have hsq : sq < 18446744073709551616 := by rw [← HSQ.out]; exact hat.seq
          obtain ⟨hlook, w2, hupd, hF2, hz2, hk2⟩ := hF.put (s := sq) hiy hsq (by unfold maxLen; omega)
          have b0 : wr.cell? ⟨pb, 0, none⟩ = some (.int .u64 (sq : Int)) := cell_of_row wr pb 0 _ _ _ hB
          have hB2 := (hk2 pb HPB.out.1 (Array.getElem?_eq_some_iff.1 hB).1).trans hB
          have hF3 : Filling w w2 (revsOf ((L.take k).map (·.t)) ++ (x.t.rs.take (j + 1)).map (fun y => (y, sq))) (58 * k + (j + 1)) := by
            have e : x.t.rs.take (j + 1) = x.t.rs.take j ++ [y] := by
              obtain ⟨hl, rfl⟩ := List.getElem?_eq_some_iff.1 hy
              exact List.take_succ_eq_append_getElem hl
            rw [e, List.map_append, ← List.append_assoc]
            exact hF2
          have HF3 := Lib.hid hF3; clear hF3 hF2 hF
          have HB2 := Lib.hid hB2; clear hB2 hB
          generalize greatest (revsOf ((L.take k).map (·.t)) ++ (x.t.rs.take j).map (fun y => (y, sq))) y = gr at hlook hupd
          have hj0 : (0 : Int) ≤ (j : Int) := by omega
          have hjn : (j : Int) < (nr : Int) := by omega
          clear hat hc hy hiy hsq hk2 hz2 hbl
          go_wp2
          go_roundw
          case rel => exact ⟨j + 1, by omega, by go_num, HF3.out, HB2.out⟩
          case measure => simp [intOf]; omega
        · obtain rfl : j = nr := by omega
          have hF3 : Filling w wr (revsOf ((L.take (k + 1)).map (·.t))) (58 * (k + 1)) := by
            obtain ⟨⟨n, hn, hR⟩, h2, h3⟩ := hF
            refine ⟨⟨n, by omega, ?_⟩, h2, h3⟩
            have e : L.take (k + 1) = L.take k ++ [x] := by
              obtain ⟨hl, rfl⟩ := List.getElem?_eq_some_iff.1 HX.out
              exact List.take_succ_eq_append_getElem hl
            rw [List.take_of_length_le (l := x.t.rs) (by rw [HNR.out]; exact Nat.le_refl _)] at hR
            rw [e, List.map_append]
            unfold revsOf at hR ⊢
            rw [List.flatMap_append, List.map_cons, List.map_nil, List.flatMap_cons, List.flatMap_nil, List.append_nil, HSQ.out]
            exact hR
          have HF3 := Lib.hid hF3; clear hF3 hF hB
          go_wp2
          go_roundw
          case rel => exact ⟨k + 1, by omega, by go_num, HF3.out⟩
          case measure => simp [intOf]; omega
    · obtain rfl : k = nl := by omega
      go_wp2
      go_ret
      refine ⟨rfl, ?_⟩
      have := HF.out
      rw [List.take_of_length_le (by have := HCNT.out; omega)] at this
      exact this
end Go.Proofs.YtelnoibfamcnmaaGreat.Log

namespace Go.Proofs.YtelnoibfamcnmaaGreat.Log
set_option maxRecDepth 20000
open Go.RowKit
open Go.Proofs.YtelnoibfamcnmaaGreat.Mem Go.Proofs.YtelnoibfamcnmaaGreat.Crc Go.Proofs.YtelnoibfamcnmaaGreat.Disk Go.Proofs.YtelnoibfamcnmaaGreat.Reg
open Go.Proofs.YtelnoibfamcnmaaGreat.Rec (Tx Wt TxAt HoldsW HoldsI IsInt mayB_iff keyI keyI_inj intLitI)

/-- In plain words. -/
def homeW (ps : List (Int × Nat)) (sq : Nat) (d : Dk.Dk) (x : Wt) : Dk.Dk := if greatest ps x.1 ≤ sq then d.write x.1.toNat x.2 else d
def homeT (ps : List (Int × Nat)) (d : Dk.Dk) (t : Tx) : Dk.Dk := t.ws.foldl (homeW ps t.seq) d
def homeL (ps : List (Int × Nat)) (d : Dk.Dk) (ts : List Tx) : Dk.Dk := ts.foldl (homeT ps) d

theorem homeW_size (ps : List (Int × Nat)) (sq : Nat) (d : Dk.Dk) (x : Wt) : (homeW ps sq d x).stable.length = d.stable.length := by
  unfold homeW; split
  · exact write_size _ _ _
  · rfl
theorem homeT_size (ps : List (Int × Nat)) (t : Tx) (d : Dk.Dk) : (homeT ps d t).stable.length = d.stable.length := by
  unfold homeT
  generalize t.ws = l
  induction l generalizing d with
  | nil => rfl
  | cons x r ih => rw [List.foldl_cons, ih, homeW_size]
theorem homeL_size (ps : List (Int × Nat)) (ts : List Tx) (d : Dk.Dk) : (homeL ps d ts).stable.length = d.stable.length := by
  unfold homeL
  induction ts generalizing d with
  | nil => rfl
  | cons x r ih => rw [List.foldl_cons, ih, homeT_size]
theorem homeW_take (ps : List (Int × Nat)) (sq : Nat) (d : Dk.Dk) (l : List Wt) (k : Nat) (x : Wt) (hx : l[k]? = some x) : (l.take (k + 1)).foldl (homeW ps sq) d = homeW ps sq ((l.take k).foldl (homeW ps sq) d) x := by
  obtain ⟨hl, rfl⟩ := List.getElem?_eq_some_iff.1 hx
  rw [List.take_succ_eq_append_getElem hl, List.foldl_append]; rfl
theorem homeW_take_size (ps : List (Int × Nat)) (sq : Nat) (l : List Wt) (d : Dk.Dk) : (l.foldl (homeW ps sq) d).stable.length = d.stable.length := by
  induction l generalizing d with
  | nil => rfl
  | cons x r ih => rw [List.foldl_cons, ih, homeW_size]

/-- The disk while it goes home: since the world W only its own blocks have turned. -/
def Homing (W : World) (p : Nat) (F : Nat → Prop) (wr : World) (d : Dk.Dk) (c : Nat) : Prop :=
  ∃ F', DiskAt wr p d c F' ∧ (∀ k, F' k → F k ∨ W.heap.size ≤ k) ∧ Turns F W wr
theorem Homing.start {W : World} {p c : Nat} {F : Nat → Prop} {d : Dk.Dk} (h : DiskAt W p d c F) : Homing W p F W d c := ⟨F, h, fun _ => .inl, Turns.refl _ _⟩
theorem Homing.more {W wr : World} {p c c' : Nat} {F : Nat → Prop} {d : Dk.Dk} (h : Homing W p F wr d c) (hc : c ≤ c') : Homing W p F wr d c' := by
  obtain ⟨F', h1, h2⟩ := h
  exact ⟨F', h1.more hc, h2⟩
theorem Homing.later {W wr w' : World} {p c : Nat} {F : Nat → Prop} {d : Dk.Dk} (h : Homing W p F wr d c) (hb : Below wr.heap.size wr w') : Homing W p F w' d c := by
  obtain ⟨F', h1, h2, h3⟩ := h
  exact ⟨F', h1.turns (Turns.of_below (F := fun _ => False) hb) (fun _ _ e => e), h2, h3.trans (Turns.of_below (F := F) hb) (fun _ _ e => e)⟩
theorem Homing.turns {W wr : World} {p c : Nat} {F : Nat → Prop} {d : Dk.Dk} (h : Homing W p F wr d c) : Turns F W wr := by
  obtain ⟨F', h1, h2, h3⟩ := h
  exact h3
/-- A write on the way. -/
theorem Homing.write {W wr : World} {p c : Nat} {F : Nat → Prop} {d : Dk.Dk} (h : Homing W p F wr d c) (ii : Int) (i : Nat) (hii : ii = (i : Int)) (A : Option Addr) (cb B : Nat) (data : List UInt8) (hi : i < d.stable.length) (hd : Holds wr B A 256 data) (hc : c < 1048576) :
    Calls Tryz.prog 62 #[.pointer (some ⟨p, 0, none⟩), .int .i64 ii, .slice A 256 cb] wr fun e w' => e = .returned (.int .i64 0) ∧ Homing W p F w' (d.write i data) (c + 1) := by
  obtain ⟨F', h1, h2, h3⟩ := h
  refine (writeH_d ii i hii A cb B data d p c F' wr h1 hi hd (by omega)).mono ?_
  rintro e w' ⟨F2, rfl, hD, hF2, hT⟩
  refine ⟨rfl, F2, hD, fun k hk => ?_, h3.trans hT (fun i hi e => ?_)⟩
  · rcases hF2 k hk with e | e
    · exact h2 k e
    · have := h3.size; exact .inr (by omega)
  · rcases h2 i e with e | e
    · exact e
    · omega
theorem Revs.turns {w w' : World} {m n : Nat} {ps : List (Int × Nat)} {F : Nat → Prop} (h : Revs w m n ps) (hT : Turns F w w') (hm : ¬ F m) : Revs w' m n ps := by
  obtain ⟨D, h1, h2⟩ := h
  have hlt := h1.lt
  obtain ⟨es, clock, hb, r⟩ := h1
  exact ⟨D, ⟨es, clock, (hT.block m hlt hm).trans hb, r⟩, h2⟩

theorem outB_in {n s r : Nat} {t : Tx} (h : takesB n s r t = true) {x : Wt} (hx : x ∈ t.ws) : 0 ≤ x.1 ∧ x.1 < (n : Int) := by
  unfold takesB at h
  rw [Bool.and_eq_true] at h
  have h1 := List.all_eq_true.1 h.1 x hx
  unfold outB at h1
  simp only [Bool.and_eq_true, decide_eq_true_eq] at h1
  exact h1.1

set_option maxRecDepth 100000 in
set_option maxHeartbeats 2000000 in
theorem areahome_any (w : World) (A : Option Addr) (nl c0 n s r p c : Nat) (G F : Nat → Prop) (d : Dk.Dk) (L : List LiveRec) (h : Live w G n s r (.slice A nl c0) nl L) (hD : DiskAt w p d c F) (hn : d.stable.length = n) (hFG : ∀ q, F q → G q)
    (hFv : ∀ q, (Value.slice A nl c0).ownBlock = some q → ¬ F q) (hnl : nl ≤ 1048576) (hc : c + 58 * nl < 1048576) :
    Calls Tryz.prog 30 #[.agg #[.pointer (some ⟨p, 0, none⟩), .int .i64 (s : Int), .int .i64 (r : Int)], .slice A nl c0] w fun e w' => e = .returned (.tuple #[]) ∧ Homing w p F w' (homeL (revsOf (L.map (·.t))) d (L.map (·.t))) (c + 58 * nl) := by
  obtain ⟨ps, hps⟩ : ∃ ps, ps = revsOf (L.map (·.t)) := ⟨_, rfl⟩
  rw [← hps]
  have hb1 : Below w.heap.size w (w.alloc (.cells #[.pointer (some ⟨p, 0, none⟩), .int .i64 (s : Int), .int .i64 (r : Int)] 66)) := (Below.refl _ w).alloc (Nat.le_refl _) _
  have hx1 : (w.alloc (.cells #[.pointer (some ⟨p, 0, none⟩), .int .i64 (s : Int), .int .i64 (r : Int)] 66)).heap[w.heap.size]? = some (.cells #[.pointer (some ⟨p, 0, none⟩), .int .i64 (s : Int), .int .i64 (r : Int)] 66 (0, 0)) := heap_alloc_new w _
  have hcnt := h.cnt
  have HCNT := Lib.hid hcnt; clear hcnt
  have H := Lib.hid h; clear h
  have HD := Lib.hid hD; clear hD
  have HPS := Lib.hid hps; clear hps
  have HN := Lib.hid hn; clear hn
  have HFG := Lib.hid hFG; clear hFG
  have HFV := Lib.hid hFv; clear hFv
  have HB1 := Lib.hid hb1; clear hb1
  have HX1 := Lib.hid hx1; clear hx1
  go_enter Tryz.func30, Tryz.ntmps30
  go_wp2_with fail
  generalize w.alloc (.cells #[.pointer (some ⟨p, 0, none⟩), .int .i64 (s : Int), .int .i64 (r : Int)] 66) = W1 at HB1 HX1 ⊢
  have hL1 : Live W1 G n s r (.slice A nl c0) nl L := H.out.turns (Turns.of_below HB1.out) (fun _ _ e => e)
  with_reducible refine (revoked_any W1 A nl c0 n s r G L hL1 hnl).mono ?_
  rintro e W2 ⟨rfl, hF⟩
  have hxA := (hF.below.block _ (Array.getElem?_eq_some_iff.1 HX1.out).1).trans HX1.out
  have hB2 : Below w.heap.size w W2 := HB1.out.trans (hF.below.mono HB1.out.size)
  obtain ⟨n2, -, hR⟩ := hF.table
  have hm1 : w.heap.size ≤ W1.heap.size := HB1.out.size
  rw [← HPS.out] at hR
  have hLV : Live W2 G n s r (.slice A nl c0) nl L := H.out.turns (Turns.of_below hB2) (fun _ _ e => e)
  have hD2 : DiskAt W2 p d c F := HD.out.turns (Turns.of_below (F := fun _ => False) hB2) (fun _ _ e => e)
  have hFm : ¬ F W1.heap.size := fun e => by have := HD.out.lt _ e; omega
  have hFa : ¬ F w.heap.size := fun e => by have := HD.out.lt _ e; omega
  generalize hmm : W1.heap.size = m at hR hFm ⊢
  clear hmm hm1 hF hL1 HX1
  have hH0 : Homing W2 p F W2 d c := Homing.start hD2
  have HB2 := Lib.hid hB2; clear hB2
  have HR := Lib.hid hR; clear hR
  have HLV := Lib.hid hLV; clear hLV
  have HFM := Lib.hid hFm; clear hFm
  have HFA := Lib.hid hFa; clear hFa
  have HH0 := Lib.hid hH0; clear hH0 hD2
  have HXA := Lib.hid hxA; clear hxA
  clear HB1
  go_wp2_with fail
  go_loopw [13] (fun i wr => ∃ k : Nat, k ≤ nl ∧ i = .int .i64 (k : Int) ∧ Homing W2 p F wr (homeL ps d ((L.take k).map (·.t))) (c + 58 * k)) (fun i _ => nl - (intOf i).toNat)
  case atStart => exact ⟨0, by omega, rfl, HH0.out⟩
  case round =>
    obtain ⟨k, hk, rfl, hH⟩ := hrel
    by_cases hlt : k < nl
    · obtain ⟨x, hx⟩ : ∃ x, L[k]? = some x := ⟨_, List.getElem?_eq_getElem (by have := HCNT.out; omega)⟩
      obtain ⟨F', hD', hF', hT'⟩ := hH
      have hrow := HLV.out.row.turns hT' (fun q hq => HFV.out q hq)
      obtain ⟨g, cap, hv, hgl, e0, e1, e2⟩ := Row.cells3 hrow hx
      injection hv with hv1 _ hv3
      subst hv1 hv3
      have hxm := List.mem_of_getElem? hx
      have hfair := HLV.out.fair x hxm
      have hmay := (mayB_iff x.t).1 hfair.1
      have hw58 : x.t.ws.length ≤ 58 := by have := hmay.hi; omega
      have HFAIR := Lib.hid hfair; clear hfair
      have hk0 : (0 : Int) ≤ (k : Int) := by omega
      have hkn : (k : Int) < (nl : Int) := by omega
      have HX := Lib.hid hx; clear hx
      have HM := Lib.hid hmay; clear hmay
      clear hrow
      have HAT := Lib.hid (HLV.out.stays x hxm wr (hT'.mono (fun q _ e => HFG.out q e)))
      obtain ⟨D, hDD⟩ : ∃ D, D = homeL ps d ((L.take k).map (·.t)) := ⟨_, rfl⟩
      rw [← hDD] at hD'
      have hDn : D.stable.length = n := by rw [hDD, homeL_size]; exact HN.out
      have HDD := Lib.hid hDD; clear hDD
      have HDN := Lib.hid hDn; clear hDn
      generalize hNR : x.t.rs.length = nr at e2
      clear hNR
      generalize hNW : x.t.ws.length = nw at e1 hw58
      have HNW := Lib.hid hNW; clear hNW
      generalize hSQ : x.t.seq = sq at e0
      have HSQ := Lib.hid hSQ; clear hSQ
      generalize hAR : x.Ar = Ar at e2
      clear hAR
      generalize hAW : x.Aw = Aw at e1
      have HAW := Lib.hid hAW; clear hAW
      generalize hCR : x.cr = cr at e2
      clear hCR
      generalize hCW : x.cw = cw at e1
      clear hCW
      have hbox : (wr.alloc (.cells #[.int .u64 (sq : Int), .slice Aw nw cw, .slice Ar nr cr] 63)).heap[wr.heap.size]? = some (.cells #[.int .u64 (sq : Int), .slice Aw nw cw, .slice Ar nr cr] 63 (0, 0)) := heap_alloc_new wr _
      have b1 := cell_of_row _ wr.heap.size 1 _ _ _ hbox
      have HBOX := Lib.hid hbox; clear hbox
      have hbA : Below wr.heap.size wr (wr.alloc (.cells #[.int .u64 (sq : Int), .slice Aw nw cw, .slice Ar nr cr] 63)) := (Below.refl _ wr).alloc (Nat.le_refl _) _
      have hDA := hD'.turns (Turns.of_below (F := fun _ => False) hbA) (fun _ _ e => e)
      have hTA : Turns F W2 (wr.alloc (.cells #[.int .u64 (sq : Int), .slice Aw nw cw, .slice Ar nr cr] 63)) := hT'.trans (Turns.of_below (F := F) hbA) (fun _ _ e => e)
      have hpb : ¬ F' wr.heap.size := fun e => by have := hD'.lt _ e; omega
      have hsq : sq < 18446744073709551616 := by rw [← HSQ.out]; exact HAT.out.seq
      have HDA := Lib.hid hDA; clear hDA
      have HTA := Lib.hid hTA; clear hTA
      have HPB := Lib.hid hpb; clear hpb
      have HF' := Lib.hid hF'; clear hF'
      clear HAT
      obtain ⟨wk, hwk⟩ : ∃ wk, wk = wr := ⟨_, rfl⟩
      subst hwk
      go_wp2_with fail
      generalize wk.alloc (.cells #[.int .u64 (sq : Int), .slice Aw nw cw, .slice Ar nr cr] 63) = WA at HBOX HDA HTA ⊢
      clear e0 e1 e2 b1 hD' hT' hbA
      generalize wk.heap.size = pb at HBOX HPB hgl ⊢
      clear hgl
      go_loopw [20] (fun i wr => ∃ j : Nat, j ≤ nw ∧ i = .int .i64 (j : Int) ∧ Homing WA p F' wr ((x.t.ws.take j).foldl (homeW ps sq) D) (c + 58 * k + j)) (fun i _ => nw - (intOf i).toNat)
      case atStart => exact ⟨0, by omega, rfl, Homing.start HDA.out⟩
      case round =>
        obtain ⟨j, hj, rfl, hH⟩ := hrel
        have hT2 : Turns F W2 wr := HTA.out.trans hH.turns (fun i hi e => by
          rcases HF'.out i e with e | e
          · exact e
          · omega)
        by_cases hlj : j < nw
        · have hat := HLV.out.stays x hxm wr (hT2.mono (fun q _ e => HFG.out q e))
          obtain ⟨b, off, hA, hbl, hc⟩ := hat.ws.2 (by rw [HNW.out]; omega)
          rw [HAW.out] at hA
          subst hA
          obtain ⟨y, hy⟩ : ∃ y, x.t.ws[j]? = some y := ⟨_, List.getElem?_eq_getElem (by rw [HNW.out]; exact hlj)⟩
          have hym := List.mem_of_getElem? hy
          obtain ⟨e0, A2, c2, e1, hh, -⟩ := hc j y hy
          have hiy := hat.intW y hym
          have hin := outB_in HFAIR.out.2 hym
          have hdl := HM.out.data y hym
          have hstep := homeW_take ps sq D x.t.ws j y hy
          obtain ⟨y1, y2⟩ := y
          dsimp only at e0 e1 hh hiy hin hdl
          rw [hdl] at e1 hh
          obtain ⟨DJ, hDJ⟩ : ∃ DJ, DJ = (x.t.ws.take j).foldl (homeW ps sq) D := ⟨_, rfl⟩
          rw [← hDJ] at hstep hH
          have hDJn : DJ.stable.length = n := by rw [hDJ, homeW_take_size]; exact HDN.out
          have hbt := (hH.turns.block pb (Array.getElem?_eq_some_iff.1 HBOX.out).1 HPB.out).trans HBOX.out
          have hba := (hT2.block _ (Array.getElem?_eq_some_iff.1 HXA.out).1 HFA.out).trans HXA.out
          have hwb : Below wr.heap.size wr (wr.alloc (.cells #[.int .i64 y1, .slice A2 256 c2] 56)) := (Below.refl _ wr).alloc (Nat.le_refl _) _
          have hbx : (wr.alloc (.cells #[.int .i64 y1, .slice A2 256 c2] 56)).heap[wr.heap.size]? = some (.cells #[.int .i64 y1, .slice A2 256 c2] 56 (0, 0)) := heap_alloc_new wr _
          have q0 := cell_of_row _ wr.heap.size 0 _ _ _ hbx
          have q1 := cell_of_row _ wr.heap.size 1 _ _ _ hbx
          have a0 := cell_of_row _ w.heap.size 0 _ _ _ ((hwb.block _ (Array.getElem?_eq_some_iff.1 hba).1).trans hba)
          have t0 := cell_of_row _ pb 0 _ _ _ ((hwb.block _ (Array.getElem?_eq_some_iff.1 hbt).1).trans hbt)
          have hlook := (revs_look _ m n2 ps y1 hiy ((HR.out.turns hT2 HFM.out).alloc (.cells #[.int .i64 y1, .slice A2 256 c2] 56))).1
          have hcall := (hH.later hwb).write y1 y1.toNat (by omega) A2 c2 wr.heap.size y2 (by rw [hDJn]; omega) (hh.below hwb) (by omega)
          have hskip := hH.later hwb
          have HC := Lib.hid hcall; clear hcall
          have HK := Lib.hid hskip; clear hskip
          have HST := Lib.hid hstep; clear hstep
          have hj0 : (0 : Int) ≤ (j : Int) := by omega
          have hjn : (j : Int) < (nw : Int) := by omega
          clear hH hT2 hat hc hy hym hh hin hdl hwb hbx hba hbt hbl hDJn hiy
          by_cases hle : greatest ps y1 ≤ sq
          · have hs : homeW ps sq DJ (y1, y2) = DJ.write y1.toNat y2 := by unfold homeW; rw [if_pos hle]
            have HS := Lib.hid hs; clear hs
            generalize greatest ps y1 = gr at hlook hle
            have hle2 : (gr : Int) ≤ (sq : Int) := by omega
            clear HK
            go_wp2_with fail
            with_reducible refine HC.out.mono ?_
            rintro e w5 ⟨rfl, hH5⟩
            have HH5 := Lib.hid hH5; clear hH5 HC hlook
            clear e0 e1 q0 q1 a0 t0
            go_wp2
            go_roundw
            case rel => exact ⟨j + 1, by omega, by go_num, by rw [HST.out, HS.out]; exact HH5.out⟩
            case measure => simp [intOf]; omega
          · have hs : homeW ps sq DJ (y1, y2) = DJ := by unfold homeW; rw [if_neg hle]
            have HS := Lib.hid hs; clear hs
            generalize greatest ps y1 = gr at hlook hle
            have hle2 : ¬ (gr : Int) ≤ (sq : Int) := by omega
            clear HC
            go_wp2
            go_roundw
            case rel => exact ⟨j + 1, by omega, by go_num, by rw [HST.out, HS.out]; exact HK.out.more (by omega)⟩
            case measure => simp [intOf]; omega
        · obtain rfl : j = nw := by omega
          have hend : Homing W2 p F wr (homeL ps d ((L.take (k + 1)).map (·.t))) (c + 58 * (k + 1)) := by
            obtain ⟨F2, h1, h2, h3⟩ := hH
            have e : L.take (k + 1) = L.take k ++ [x] := by
              obtain ⟨hl, rfl⟩ := List.getElem?_eq_some_iff.1 HX.out
              exact List.take_succ_eq_append_getElem hl
            rw [List.take_of_length_le (l := x.t.ws) (by rw [HNW.out]; exact Nat.le_refl _)] at h1
            have e2 : homeL ps d ((L.take (k + 1)).map (·.t)) = x.t.ws.foldl (homeW ps sq) D := by
              rw [e, List.map_append, List.map_cons, List.map_nil, ← HSQ.out, HDD.out]
              unfold homeL
              rw [List.foldl_append]
              rfl
            rw [e2]
            refine ⟨F2, h1.more (by omega), fun q hq => ?_, hT2⟩
            rcases h2 q hq with e | e
            · exact HF'.out q e
            · have := HTA.out.size; exact .inr (by omega)
          have HE := Lib.hid hend; clear hend hH hT2
          go_wp2
          go_roundw
          case rel => exact ⟨k + 1, by omega, by go_num, HE.out⟩
          case measure => simp [intOf]; omega
    · obtain rfl : k = nl := by omega
      have HE := Lib.hid hH; clear hH
      go_wp2
      refine bodyPost_end (results_none rfl _ _ _) rfl ?_
      refine ⟨rfl, ?_⟩
      obtain ⟨F2, h1, h2, h3⟩ := HE.out
      rw [List.take_of_length_le (by have := HCNT.out; omega)] at h1
      refine ⟨F2, h1, fun q hq => ?_, (Turns.of_below (F := F) HB2.out).trans h3 (fun _ _ e => e)⟩
      rcases h2 q hq with e | e
      · exact .inl e
      · have := HB2.out.size; exact .inr (by omega)
end Go.Proofs.YtelnoibfamcnmaaGreat.Log

namespace Go.Proofs.YtelnoibfamcnmaaGreat.Log
set_option maxRecDepth 20000
open Go.RowKit
open Go.Proofs.YtelnoibfamcnmaaGreat.Mem Go.Proofs.YtelnoibfamcnmaaGreat.Crc Go.Proofs.YtelnoibfamcnmaaGreat.Disk Go.Proofs.YtelnoibfamcnmaaGreat.Reg
open Go.Proofs.YtelnoibfamcnmaaGreat.Rec (Tx Wt TxAt HoldsW HoldsI IsInt mayB_iff)

theorem Homing.drew {W wr : World} {p c : Nat} {F : Nat → Prop} {d : Dk.Dk} (h : Homing W p F wr d c) : Homing W p F wr.drew d c := h.later (Below.refl _ wr).drew
theorem Homing.comp {W wr w' : World} {p c' : Nat} {F F' : Nat → Prop} {d' : Dk.Dk} (hf : ∀ k, F' k → F k ∨ W.heap.size ≤ k) (hT : Turns F W wr) (h : Homing wr p F' w' d' c') : Homing W p F w' d' c' := by
  obtain ⟨F2, hD, hF2, hT2⟩ := h
  refine ⟨F2, hD, fun k hk => ?_, hT.trans hT2 (fun i hi e => ?_)⟩
  · rcases hF2 k hk with e | e
    · exact hf k e
    · have := hT.size; exact .inr (by omega)
  · rcases hf i e with e | e
    · exact e
    · omega
theorem Homing.now {W wr w' : World} {p c' : Nat} {F F' : Nat → Prop} {d' : Dk.Dk} {e : Ending} {v : Value} (hf : ∀ k, F' k → F k ∨ W.heap.size ≤ k) (hT : Turns F W wr) (h : Now wr p d' c' F' v e w') : e = .returned v ∧ Homing W p F w' d' c' := by
  obtain ⟨F2, rfl, hD, hF2, hT2⟩ := h
  exact ⟨rfl, Homing.comp hf hT ⟨F2, hD, hF2, hT2⟩⟩
theorem Homing.flush {W wr : World} {p c : Nat} {F : Nat → Prop} {d : Dk.Dk} (h : Homing W p F wr d c) (hc : c ≤ 1048576) :
    Calls Tryz.prog 22 #[.pointer (some ⟨p, 0, none⟩)] wr fun e w' => e = .returned (.tuple #[]) ∧ Homing W p F w' d.flush c := by
  obtain ⟨F', h1, h2, h3⟩ := h
  exact (flush_d d p c F' wr h1 hc).mono fun e w' hN => Homing.now h2 h3 hN
theorem Homing.puthead {W wr : World} {p c s r seq pl : Nat} {F : Nat → Prop} {d : Dk.Dk} (h : Homing W p F wr d c) (hc : c < 1048576) (hs : s < d.stable.length) (hp : pl < 1048576) :
    Calls Tryz.prog 33 #[.agg #[.pointer (some ⟨p, 0, none⟩), .int .i64 (s : Int), .int .i64 (r : Int)], .int .u64 (seq : Int), .int .i64 (pl : Int)] wr fun e w' => e = .returned (.tuple #[]) ∧ Homing W p F w' (d.write s (headH seq pl)) (c + 1) := by
  obtain ⟨F', h1, h2, h3⟩ := h
  exact (puthead_d s seq pl r d p c F' wr h1 hc hs hp).mono fun e w' hN => Homing.now h2 h3 hN
theorem Homing.area {W wr : World} {A : Option Addr} {nl c0 n s r p c : Nat} {G F : Nat → Prop} {d : Dk.Dk} {L : List LiveRec} (hL : Live W G n s r (.slice A nl c0) nl L) (h : Homing W p F wr d c) (hn : d.stable.length = n) (hFG : ∀ q, F q → G q)
    (hFv : ∀ q, (Value.slice A nl c0).ownBlock = some q → ¬ F q) (hnl : nl ≤ 1048576) (hc : c + 58 * nl < 1048576) :
    Calls Tryz.prog 30 #[.agg #[.pointer (some ⟨p, 0, none⟩), .int .i64 (s : Int), .int .i64 (r : Int)], .slice A nl c0] wr fun e w' => e = .returned (.tuple #[]) ∧ Homing W p F w' (homeL (revsOf (L.map (·.t))) d (L.map (·.t))) (c + 58 * nl) := by
  obtain ⟨F', h1, h2, h3⟩ := h
  have hL2 : Live wr (fun q => G q ∨ F' q) n s r (.slice A nl c0) nl L := hL.turns (h3.mono (fun q _ e => ⟨hFG q e, fun e2 => hFv q e2 e⟩)) (fun i hi e => by
    rcases e with e | e
    · exact e
    · rcases h2 i e with e | e
      · exact hFG i e
      · omega)
  refine (areahome_any wr A nl c0 n s r p c _ F' d L hL2 h1 hn (fun q e => .inr e) (fun q e e2 => ?_) hnl hc).mono fun e w' hN => ⟨hN.1, Homing.comp h2 h3 hN.2⟩
  rcases h2 q e2 with e3 | e3
  · exact hFv q e e3
  · have := hL.row.lt e; omega

set_option maxRecDepth 100000 in
set_option maxHeartbeats 2000000 in
/-- No live record: Home does nothing. -/
theorem home_none (lp p s r seq pl used m c : Nat) (A : Option Addr) (c0 : Nat) (d : Dk.Dk) (F : Nat → Prop) (w : World) (h : LogOn w lp p s r seq pl used (.slice A 0 c0) 0 d c F m) :
    Calls Tryz.prog 26 #[.pointer (some ⟨lp, 0, none⟩)] w fun e w' => e = .returned (.tuple #[]) ∧ Below w.heap.size w w' := by
  have c6 : w.cell? ⟨lp, 6, none⟩ = some (.slice A 0 c0) := by have := h.log; unfold LogAt logCells at this; exact cell_of_row w lp 6 _ _ _ this
  clear h
  go_enter Tryz.func26, Tryz.ntmps26
  go_wp2
  refine bodyPost_ret (results_none rfl _ _ _) rfl ?_
  exact ⟨rfl, Below.refl _ w⟩

/-- What a disk is behind the way home. -/
def homeD (s seq pl : Nat) (d : Dk.Dk) (ts : List Tx) : Dk.Dk := ((homeL (revsOf ts) d.flush ts).flush.write s (headH seq pl)).flush

set_option maxRecDepth 100000 in
set_option maxHeartbeats 4000000 in
theorem home_some (lp p s r seq pl used nl m c : Nat) (v : Value) (d : Dk.Dk) (F : Nat → Prop) (w : World) (h : LogOn w lp p s r seq pl used v nl d c F m) (L : List LiveRec) (hlive : Live w (fun q => F q ∨ q = lp ∨ v.ownBlock = some q) d.stable.length s r v nl L)
    (hpos : 0 < nl) (hnl : nl ≤ 1048576) (hc : c + 58 * nl + 1 < 1048576) :
    Calls Tryz.prog 26 #[.pointer (some ⟨lp, 0, none⟩)] w fun e w' => e = .returned (.tuple #[]) ∧
      ∃ F' m', LogOn w' lp p s r seq pl 0 (.slice none 0 0) 0 (homeD s seq pl d (L.map (·.t))) (c + 58 * nl + 1) F' m' ∧ (∀ q, F' q → F q ∨ w.heap.size ≤ q) ∧ Turns (fun q => F q ∨ q = lp) w w' := by
  obtain ⟨A, c0, rfl⟩ : ∃ A c0, v = .slice A nl c0 := by
    rcases hlive.row.2 with ⟨e, h0⟩ | ⟨g, cap, cur, e, _⟩
    · exact ⟨none, 0, by rw [e, h0]⟩
    · exact ⟨_, _, e⟩
  obtain ⟨hg7, hg1, hgp, hgd, hgu⟩ := h.ring
  have hlw : lp < w.heap.size := (Array.getElem?_eq_some_iff.1 h.log).1
  have hl0 := h.log
  have hap := h.apartL
  have hkeep : ∀ V d' c', Homing w p F V d' c' → V.cell? ⟨lp, 0, none⟩ = some (.pointer (some ⟨p, 0, none⟩)) ∧ V.cell? ⟨lp, 1, none⟩ = some (.pointer (some ⟨p, 0, none⟩)) ∧ V.cell? ⟨lp, 2, none⟩ = some (.int .i64 (s : Int)) ∧ V.cell? ⟨lp, 3, none⟩ = some (.int .i64 (r : Int)) ∧
      V.cell? ⟨lp, 4, none⟩ = some (.int .u64 (seq : Int)) ∧ V.cell? ⟨lp, 5, none⟩ = some (.int .i64 (pl : Int)) ∧ V.cell? ⟨lp, 6, none⟩ = some (.slice A nl c0) := fun V d' c' hV => by
    have hl : V.heap[lp]? = _ := (hV.turns.block lp hlw hap).trans hl0
    unfold logCells at hl
    exact ⟨cell_of_row V lp 0 _ _ _ hl, cell_of_row V lp 1 _ _ _ hl, cell_of_row V lp 2 _ _ _ hl, cell_of_row V lp 3 _ _ _ hl, cell_of_row V lp 4 _ _ _ hl, cell_of_row V lp 5 _ _ _ hl, cell_of_row V lp 6 _ _ _ hl⟩
  have hH0 : Homing w p F w d c := Homing.start h.disk.at
  obtain ⟨k0, k1, k2, k3, k4, k5, k6⟩ := hkeep w d c hH0
  have hareaC : ∀ V, Homing w p F V d.flush c → Calls Tryz.prog 30 #[.agg #[.pointer (some ⟨p, 0, none⟩), .int .i64 (s : Int), .int .i64 (r : Int)], .slice A nl c0] V fun e w' => e = .returned (.tuple #[]) ∧ Homing w p F w' (homeL (revsOf (L.map (·.t))) d.flush (L.map (·.t))) (c + 58 * nl) := fun V hV =>
    Homing.area hlive hV (Dk.size_flush d) (fun q e => .inl e) (fun q e => (h.apartV q e).1) hnl (by omega)
  have HAREA := Lib.hid hareaC; clear hareaC
  have HKEEP := Lib.hid hkeep; clear hkeep
  have HL0 := Lib.hid hl0; clear hl0
  have HAP := Lib.hid hap; clear hap
  have H := Lib.hid h; clear h
  have HLIVE := Lib.hid hlive; clear hlive
  have hf1 := hH0.flush (by omega)
  have HF1 := Lib.hid hf1; clear hf1 hH0
  have hn0 : ¬ (nl : Int) = 0 := by omega
  have hn1 : ((nl : Int) == 0) = false := by simpa using hn0
  clear k1 k2 k3 k4 k5
  go_enter Tryz.func26, Tryz.ntmps26
  go_wp2_with fail
  with_reducible refine HF1.out.mono ?_
  rintro e w1 ⟨rfl, h1⟩
  have hS := HKEEP.out w1.drew _ _ h1.drew
  have HC2 := Lib.hid (HAREA.out w1.drew h1.drew)
  have HH1 := Lib.hid h1; clear h1 HF1 HAREA k0 k6
  go_wp2_with fail
  go_region_held (fun V : World => V.cell? ⟨lp, 0, none⟩ = some (.pointer (some ⟨p, 0, none⟩)) ∧ V.cell? ⟨lp, 1, none⟩ = some (.pointer (some ⟨p, 0, none⟩)) ∧ V.cell? ⟨lp, 2, none⟩ = some (.int .i64 (s : Int)) ∧ V.cell? ⟨lp, 3, none⟩ = some (.int .i64 (r : Int)) ∧ V.cell? ⟨lp, 4, none⟩ = some (.int .u64 (seq : Int)) ∧ V.cell? ⟨lp, 5, none⟩ = some (.int .i64 (pl : Int)) ∧ V.cell? ⟨lp, 6, none⟩ = some (.slice A nl c0)) (assumption)
    (first
      | (go_at_call 30
         have hcall := HC2.out
         with_reducible refine hcall.mono ?_
         rintro e V5 ⟨rfl, h2⟩
         clear hcall hS
         have hS1 := HKEEP.out V5 _ _ h2
         have HH2 := Lib.hid h2
         clear h2))
  all_goals
    have hDn : (homeL (revsOf (L.map (·.t))) d.flush (L.map (·.t))).flush.stable.length = d.stable.length := by rw [Dk.size_flush, homeL_size, Dk.size_flush]
    obtain ⟨D2, hD2⟩ : ∃ D2, D2 = homeL (revsOf (L.map (·.t))) d.flush (L.map (·.t)) := ⟨_, rfl⟩
    rw [← hD2] at hDn HH2
    have HD2 := Lib.hid hD2; clear hD2 HC2 HH1
    have HDN := Lib.hid hDn; clear hDn
    have HF3 := Lib.hid (HH2.out.flush (by omega))
    obtain ⟨k0, -⟩ := hS1
    go_wp2_with fail
    with_reducible refine HF3.out.mono ?_
    rintro e w3 ⟨rfl, h3⟩
    have hS := HKEEP.out w3.drew _ _ h3.drew
    have HC4 := Lib.hid (h3.drew.puthead (s := s) (r := r) (seq := seq) (pl := pl) (by omega) (by rw [HDN.out]; omega) (by omega))
    have HH3 := Lib.hid h3; clear h3 HF3 HH2 k0
    go_wp2_with fail
    go_region_held (fun V : World => V.cell? ⟨lp, 0, none⟩ = some (.pointer (some ⟨p, 0, none⟩)) ∧ V.cell? ⟨lp, 1, none⟩ = some (.pointer (some ⟨p, 0, none⟩)) ∧ V.cell? ⟨lp, 2, none⟩ = some (.int .i64 (s : Int)) ∧ V.cell? ⟨lp, 3, none⟩ = some (.int .i64 (r : Int)) ∧ V.cell? ⟨lp, 4, none⟩ = some (.int .u64 (seq : Int)) ∧ V.cell? ⟨lp, 5, none⟩ = some (.int .i64 (pl : Int)) ∧ V.cell? ⟨lp, 6, none⟩ = some (.slice A nl c0)) (assumption)
      (first
        | (go_at_call 33
           have hcall := HC4.out
           with_reducible refine hcall.mono ?_
           rintro e V7 ⟨rfl, h4⟩
           clear hcall hS
           have hS1 := HKEEP.out V7 _ _ h4
           have HH4 := Lib.hid h4
           clear h4))
    all_goals
      clear HC4 HH3
      have HF5 := Lib.hid (HH4.out.flush (by omega))
      obtain ⟨k0, -⟩ := hS1
      go_wp2_with fail
      with_reducible refine HF5.out.mono ?_
      rintro e w5 ⟨rfl, h5⟩
      clear HF5 HH4 k0
      have hl5 : w5.heap[lp]? = _ := (h5.turns.block lp hlw HAP.out).trans HL0.out
      have f6 := frozen_of_row w5 lp 6 _ _ hl5
      have f7 := frozen_of_row w5 lp 7 _ _ hl5
      have g6 := cell_of_row w5 lp 6 _ _ _ hl5
      have g7 := cell_of_row w5 lp 7 _ _ _ hl5
      unfold logCells at g6 g7
      have HH5 := Lib.hid h5; clear h5
      have HL5 := Lib.hid hl5; clear hl5
      go_wp2
      refine bodyPost_end (results_none rfl _ _ _) rfl ?_
      obtain ⟨F5, h1, h2, h3⟩ := HH5.out
      obtain ⟨m', hDm, -⟩ := DiskAt.named h1
      have hnF : ¬ F5 lp := fun e => by
        rcases h2 lp e with e | e
        · exact HAP.out e
        · omega
      have hT6 : Turns (fun q => q = lp) w5 ((w5.setCell ⟨lp, 6, none⟩ (.slice none 0 0)).setCell ⟨lp, 7, none⟩ (.int .i64 0)) := ((Turns.refl (fun q => q = lp) w5).setCell (p := ⟨lp, 6, none⟩) (fun _ => rfl) _).setCell (p := ⟨lp, 7, none⟩) (fun _ => rfl) _
      have hl6 := heap_setCell_same _ lp 7 _ _ (.int .i64 0) (heap_setCell_same w5 lp 6 _ _ (.slice none 0 0) HL5.out)
      refine ⟨rfl, F5, m', ⟨?_, hl6, ⟨[], World.ownsRow_nil _ _ _ _, by simp⟩, hnF, (fun k hk => by cases hk), ⟨hg7, hg1, hgp, ?_, Nat.zero_le _⟩⟩, h2, (h3.mono (F := fun q => F q ∨ q = lp) (fun _ _ e => .inl e)).trans hT6 (fun _ _ e => .inr e)⟩
      · unfold homeD
        rw [← HD2.out]
        exact hDm.turns hT6 (fun k hk e => hnF (e ▸ hk))
      · unfold homeD
        rw [Dk.size_flush, write_size, ← HD2.out, HDN.out]
        exact hgd
end Go.Proofs.YtelnoibfamcnmaaGreat.Log

namespace Go.Proofs.YtelnoibfamcnmaaGreat.Log
set_option maxRecDepth 20000
open Go.RowKit
open Go.Proofs.YtelnoibfamcnmaaGreat.Mem Go.Proofs.YtelnoibfamcnmaaGreat.Crc Go.Proofs.YtelnoibfamcnmaaGreat.Disk
open Go.Proofs.YtelnoibfamcnmaaGreat.Rec (Tx Wt TxAt HoldsW HoldsI IsInt enc_any Told enc_len mayB_iff)

/-- A log at lp on the disk at p of n blocks, its next Seq, the blocks of its live records; at most nb of these, at most cb writes; outside of the log's own blocks the world is as W0 was. -/
def Living (W0 wr : World) (lp p s r n : Nat) (F0 : Nat → Prop) (seq used nb cb : Nat) : Prop :=
  ∃ pl v nl d c F m L, LogOn wr lp p s r seq pl used v nl d c F m ∧ d.stable.length = n ∧ Live wr (fun q => F q ∨ q = lp ∨ v.ownBlock = some q) n s r v nl L ∧ (nl = 0 → used = 0) ∧ c ≤ cb ∧ nl ≤ nb ∧
    (∀ q, F q → F0 q ∨ W0.heap.size ≤ q) ∧ (∀ q, v.ownBlock = some q → W0.heap.size ≤ q) ∧ Turns (fun q => F0 q ∨ q = lp) W0 wr

theorem Living.more {W0 wr : World} {lp p s r n seq used nb cb nb' cb' : Nat} {F0 : Nat → Prop} (h : Living W0 wr lp p s r n F0 seq used nb cb) (h1 : nb ≤ nb') (h2 : cb ≤ cb') : Living W0 wr lp p s r n F0 seq used nb' cb' := by
  obtain ⟨pl, v, nl, d, c, F, m, L, a1, a2, a3, a4, a5, a6, a7⟩ := h
  exact ⟨pl, v, nl, d, c, F, m, L, a1, a2, a3, a4, by omega, by omega, a7⟩
theorem Living.later {W0 wr w' : World} {lp p s r n seq used nb cb : Nat} {F0 : Nat → Prop} (h : Living W0 wr lp p s r n F0 seq used nb cb) (hb : Below wr.heap.size wr w') : Living W0 w' lp p s r n F0 seq used nb cb := by
  obtain ⟨pl, v, nl, d, c, F, m, L, a1, a2, a3, a4, a5, a6, a7, a8, a9⟩ := h
  exact ⟨pl, v, nl, d, c, F, m, L, a1.later hb, a2, a3.turns (Turns.of_below hb) (fun _ _ e => e), a4, a5, a6, a7, a8, a9.trans (Turns.of_below (F := fun q => F0 q ∨ q = lp) hb) (fun _ _ e => e)⟩
theorem Living.turns {W0 wr : World} {lp p s r n seq used nb cb : Nat} {F0 : Nat → Prop} (h : Living W0 wr lp p s r n F0 seq used nb cb) : Turns (fun q => F0 q ∨ q = lp) W0 wr := by
  obtain ⟨pl, v, nl, d, c, F, m, L, a1, a2, a3, a4, a5, a6, a7, a8, a9⟩ := h
  exact a9

/-- What an append says, and what the log is behind it. -/
def Appended (W0 w' : World) (lp p s r n : Nat) (F0 : Nat → Prop) (seq used nb cb nw : Nat) (e : Ending) : Prop :=
  (e = .returned (.tuple #[.int .u64 (seq : Int), .int .i64 0]) ∧ used + (nw + 2) ≤ r ∧ Living W0 w' lp p s r n F0 (seq + 1) (used + (nw + 2)) (nb + 1) (cb + 60)) ∨
  (e = .returned (.tuple #[.int .u64 0, .int .i64 17]) ∧ Living W0 w' lp p s r n F0 seq used nb cb) ∨
  (e = .returned (.tuple #[.int .u64 0, .int .i64 9]) ∧ ¬ used + (nw + 2) ≤ r ∧ Living W0 w' lp p s r n F0 seq used nb cb)

end Go.Proofs.YtelnoibfamcnmaaGreat.Log
