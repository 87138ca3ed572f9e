/- The log with what its live records hold: Append, once more. -/
import Derived.Test.YtelnoibfamcnmaaGreatLgKept
namespace Go.Proofs.YtelnoibfamcnmaaGreat.Log
set_option maxRecDepth 20000
open Go.RowKit
open Go.Proofs.YtelnoibfamcnmaaGreat.Mem Go.Proofs.YtelnoibfamcnmaaGreat.Crc Go.Proofs.YtelnoibfamcnmaaGreat.Disk Go.Proofs.YtelnoibfamcnmaaGreat.Reg
open Go.Proofs.YtelnoibfamcnmaaGreat.Rec (Tx Wt TxAt HoldsW HoldsI IsInt enc_any Told enc_len mayB_iff OwnsT OwnsW row_ints)

theorem own_cap {w : World} {base : Nat} {e : TypeId} {size n c : Nat} {A : Option Addr} {xs : List Value} (h : w.ownsRow base e size (.slice A n c) n xs) : n ≤ c := by
  rcases h.2 with ⟨hv, h0⟩ | ⟨g, cap, cur, hv, _, _, hc, _⟩
  · omega
  · injection hv with _ _ e3; omega
theorem owns_txat {w : World} {base : Nat} {t : Tx} {Aw Ar : Option Addr} {cw cr : Nat} {vs : List Value} (h : OwnsT w base t Aw cw Ar cr vs) (hs : t.seq < 18446744073709551616) (hw : t.ws.length ≤ 140737488355328) (hr : t.rs.length ≤ 140737488355328)
    (iw : ∀ x ∈ t.ws, IsInt x.1) (ir : ∀ x ∈ t.rs, IsInt x) : TxAt w w.heap.size t Aw t.ws.length cw Ar t.rs.length cr :=
  ⟨h.ws.holds, row_ints h.rs rfl, hs, ⟨own_cap h.ws.row, hw, own_cap h.rs, hr⟩, iw, ir⟩

/-- A live record and where it lies. -/
structure LiveRec where
  t : Tx
  Aw : Option Addr
  cw : Nat
  Ar : Option Addr
  cr : Nat
def LiveRec.cells (x : LiveRec) : List Value := [.int .u64 (x.t.seq : Int), .slice x.Aw x.t.ws.length x.cw, .slice x.Ar x.t.rs.length x.cr]
def LiveRec.At (x : LiveRec) (w : World) : Prop := TxAt w w.heap.size x.t x.Aw x.t.ws.length x.cw x.Ar x.t.rs.length x.cr
theorem live_one : ∀ (L : List LiveRec), ∀ u ∈ L.flatMap LiveRec.cells, u.oneCell' = true := by
  intro L u hu
  obtain ⟨x, -, hx⟩ := List.mem_flatMap.1 hu
  simp only [LiveRec.cells, List.mem_cons, List.not_mem_nil, or_false] at hx
  rcases hx with rfl | rfl | rfl <;> rfl

/-- The live records of a log: in a row of the log's own, each one that may be, and that stays as it is while nothing but the blocks G turns. -/
structure Live (w : World) (G : Nat → Prop) (n s r : Nat) (v : Value) (nl : Nat) (L : List LiveRec) : Prop where
  cnt : L.length = nl
  row : Row w 63 3 v nl (L.flatMap LiveRec.cells)
  fair : ∀ x ∈ L, x.t.mayB = true ∧ takesB n s r x.t = true
  stays : ∀ x ∈ L, ∀ W, Turns G w W → x.At W
theorem Live.more {w w' : World} {G G' : Nat → Prop} {n s r nl : Nat} {v v' : Value} {L : List LiveRec} {x : LiveRec} (h : Live w G n s r v nl L) (hT : Turns G w w') (hG : ∀ i, i < w.heap.size → G' i → G i)
    (hrow : Row w' 63 3 v' (nl + 1) (L.flatMap LiveRec.cells ++ x.cells)) (hf : x.t.mayB = true ∧ takesB n s r x.t = true) (hx : ∀ W, Turns G' w' W → x.At W) : Live w' G' n s r v' (nl + 1) (L ++ [x]) :=
  ⟨by rw [List.length_append, h.cnt]; rfl, by rw [List.flatMap_append, List.flatMap_cons, List.flatMap_nil, List.append_nil]; exact hrow,
    fun y hy => by
      rcases List.mem_append.1 hy with hy | hy
      · exact h.fair y hy
      · simp at hy; subst hy; exact hf,
    fun y hy W hW => by
      rcases List.mem_append.1 hy with hy | hy
      · exact h.stays y hy W (hT.trans hW hG)
      · simp at hy; subst hy; exact hx W hW⟩
theorem Live.none (w : World) (G : Nat → Prop) (n s r : Nat) : Live w G n s r (.slice none 0 0) 0 [] :=
  ⟨rfl, World.ownsRow_nil _ _ _ _, (fun _ h => by cases h), (fun _ h => by cases h)⟩
/-- The log goes on: its live records stay as they are. -/
theorem Live.turns {w w' : World} {G G' : Nat → Prop} {n s r nl : Nat} {v : Value} {L : List LiveRec} (h : Live w G n s r v nl L) (hT : Turns (fun q => G q ∧ v.ownBlock ≠ some q) w w') (hG : ∀ i, i < w.heap.size → G' i → G i) : Live w' G' n s r v nl L :=
  ⟨h.cnt, h.row.turns hT (fun _ hk e => e.2 hk), h.fair, fun x hx W hW => h.stays x hx W ((hT.mono (F := G) (fun _ _ e => e.1)).trans hW hG)⟩

set_option maxRecDepth 100000 in
set_option maxHeartbeats 4000000 in
theorem append_livx (lp p s r seq pl used nl m c : Nat) (v : Value) (d : Dk.Dk) (F : Nat → Prop) (w : World) (h : LogOn w lp p s r seq pl used v nl d c F m) (t : Tx) (Aw Ar : Option Addr) (nw cw nr cr : Nat) (ht : ∀ W, Turns (fun q => F q ∨ q = lp) w W → TxAt W w.heap.size t Aw nw cw Ar nr cr)
    (hsq : t.seq = seq) (hsq1 : seq + 1 < 18446744073709551616) (hmay : t.mayB = true) (htk : takesB d.stable.length s r t = true) (hroom : used + (nw + 2) ≤ r) (hc : c + 60 < 1048576) (hnl : nl + 1 ≤ 1048576) (L : List LiveRec) (X : Nat → Prop) (hX : ∀ q, X q → q < w.heap.size) (hlive : Live w (fun q => F q ∨ q = lp ∨ v.ownBlock = some q ∨ X q) d.stable.length s r v nl L) :
    Calls Tryz.prog 20 #[.pointer (some ⟨lp, 0, none⟩), .slice Aw nw cw, .slice Ar nr cr] w fun e w' => e = .returned (.tuple #[.int .u64 (seq : Int), .int .i64 0]) ∧
      ∃ v' F', LogOn w' lp p s r (seq + 1) (putL s r d pl (chunksOf t.enc (nw + 2))).2 (used + (nw + 2)) v' (nl + 1) (putL s r d pl (chunksOf t.enc (nw + 2))).1 (c + (nw + 2)) F' m ∧ (∀ q, F' q → F q ∨ w.heap.size ≤ q) ∧ (∀ k, v'.ownBlock = some k → v.ownBlock = some k ∨ w.heap.size ≤ k) ∧ Turns (fun q => F q ∨ q = lp ∨ v.ownBlock = some q) w w' ∧ ∃ x : LiveRec, x.t = t ∧ Live w' (fun q => F' q ∨ q = lp ∨ v'.ownBlock = some q ∨ X q) d.stable.length s r v' (nl + 1) (L ++ [x]) := by
  have hmayT := (mayB_iff t).1 hmay
  have hel := enc_len t hmayT
  have hw0 := ht w (Turns.refl _ _)
  have hnw : t.ws.length = nw := hw0.ws.1
  have hnr : t.rs.length = nr := hw0.rs.1
  have hhi := hmayT.hi
  obtain ⟨hg7, hg1, hgp, hgd, hgu⟩ := h.ring
  have hlw : lp < w.heap.size := (Array.getElem?_eq_some_iff.1 h.log).1
  have HT := Lib.hid ht; clear ht
  have HM := Lib.hid hmayT; clear hmayT
  have H := Lib.hid h; clear h
  have HXX := Lib.hid hX; clear hX
  have HLV := Lib.hid hlive; clear hlive
  have c4 : w.cell? ⟨lp, 4, none⟩ = some (.int .u64 (seq : Int)) := by have := H.out.log; unfold LogAt logCells at this; exact cell_of_row w lp 4 _ _ _ this
  have hb1 : Below w.heap.size w (w.alloc (.cells #[.int .u64 (seq : Int), .slice Aw nw cw, .slice Ar nr cr] 63)) := (Below.refl _ w).alloc (Nat.le_refl _) _
  have hx1 : (w.alloc (.cells #[.int .u64 (seq : Int), .slice Aw nw cw, .slice Ar nr cr] 63)).heap[w.heap.size]? = some (.cells #[.int .u64 (seq : Int), .slice Aw nw cw, .slice Ar nr cr] 63 (0, 0)) := heap_alloc_new w _
  have henc := enc_any t Aw Ar nw cw nr cr w.heap.size _ (HT.out _ (Turns.of_below hb1)) hb1.size
  rw [hsq] at henc
  have HENC := Lib.hid henc; clear henc
  have HB1 := Lib.hid hb1; clear hb1
  have HX1 := Lib.hid hx1; clear hx1
  go_enter Tryz.func20, Tryz.ntmps20
  go_wp2_with fail
  generalize w.alloc (.cells #[.int .u64 (seq : Int), .slice Aw nw cw, .slice Ar nr cr] 63) = W1 at HB1 HX1 HENC ⊢
  refine HENC.out.mono ?_
  rintro e W2 (⟨hn, _⟩ | ⟨-, A, cp, rfl, ho, hb2⟩)
  · rw [hmay] at hn; cases hn
  obtain ⟨N, hN⟩ : ∃ N, N = t.enc.length := ⟨_, rfl⟩
  rw [← hN] at ho
  have hNn : N = 256 * (nw + 2) := by rw [hN, hel, hnw]
  obtain ⟨g, cap, cur, hv, hgb, hgl, -, hcap, hcapm, -, -⟩ := Go.Proofs.YtelnoibfamcnmaaGreat.Rec.Owned.cut ho (by rw [← hN]; omega)
  rw [← hN] at hv hcap ⊢
  injection hv with e1 _ e3
  subst e1 e3
  have hHo := Go.Proofs.YtelnoibfamcnmaaGreat.Rec.Owned.reads ho
  have HHO := Lib.hid hHo; clear hHo ho
  have hB2 : Below w.heap.size w W2 := HB1.out.trans (hb2.mono HB1.out.size)
  have HX2 : Hid (W2.heap[w.heap.size]? = some (.cells #[.int .u64 (seq : Int), .slice Aw nw cw, .slice Ar nr cr] 63 (0, 0))) := Lib.hid ((hb2.block _ (Array.getElem?_eq_some_iff.1 HX1.out).1).trans HX1.out)
  have hgw : w.heap.size < g := by have := (Array.getElem?_eq_some_iff.1 HX1.out).1; omega
  have H2 := Lib.hid (H.out.later hB2)
  have HB2 := Lib.hid hB2; clear hB2
  have htake : ∀ V, Below W2.heap.size W2 V → Calls Tryz.prog 52 #[.agg #[.pointer (some ⟨p, 0, none⟩), .int .i64 (s : Int), .int .i64 (r : Int)], .agg #[.int .u64 (seq : Int), .slice Aw nw cw, .slice Ar nr cr]] V fun e w' => e = .returned (.bool true) ∧ Below V.heap.size V w' := fun V hV => by
    have hwV : Below w.heap.size w V := HB2.out.trans (hV.mono HB2.out.size)
    have := takes_d s r d p c F V (H2.out.later hV).disk.at (by omega) t Aw Ar nw cw nr cr w.heap.size (HT.out V (Turns.of_below hwV)) hwV.size
    rw [htk, hsq] at this
    exact this
  have HTK := Lib.hid htake; clear htake
  have hkeep : ∀ V, Below W2.heap.size W2 V → (V.cell? ⟨lp, 1, none⟩ = some (.pointer (some ⟨p, 0, none⟩)) ∧ V.cell? ⟨lp, 2, none⟩ = some (.int .i64 (s : Int)) ∧ V.cell? ⟨lp, 3, none⟩ = some (.int .i64 (r : Int)) ∧ V.cell? ⟨w.heap.size, 0, none⟩ = some (.int .u64 (seq : Int)) ∧ V.cell? ⟨w.heap.size, 1, none⟩ = some (.slice Aw nw cw) ∧ V.cell? ⟨w.heap.size, 2, none⟩ = some (.slice Ar nr cr)) := fun V hV => by
    have hl := (H2.out.later hV).log
    unfold LogAt logCells at hl
    have hx := (hV.block _ (Array.getElem?_eq_some_iff.1 HX2.out).1).trans HX2.out
    exact ⟨cell_of_row V lp 1 _ _ _ hl, cell_of_row V lp 2 _ _ _ hl, cell_of_row V lp 3 _ _ _ hl, cell_of_row V _ 0 _ _ _ hx, cell_of_row V _ 1 _ _ _ hx, cell_of_row V _ 2 _ _ _ hx⟩
  have HKEEP := Lib.hid hkeep; clear hkeep
  have HNn := Lib.hid hNn; clear hNn
  clear hN hel hb2 HENC c4
  have hS := HKEEP.out W2.drew (Below.refl _ W2).drew
  go_wp2_with fail
  go_region_held (fun V => V.cell? ⟨lp, 1, none⟩ = some (.pointer (some ⟨p, 0, none⟩)) ∧ V.cell? ⟨lp, 2, none⟩ = some (.int .i64 (s : Int)) ∧ V.cell? ⟨lp, 3, none⟩ = some (.int .i64 (r : Int)) ∧ V.cell? ⟨w.heap.size, 0, none⟩ = some (.int .u64 (seq : Int)) ∧ V.cell? ⟨w.heap.size, 1, none⟩ = some (.slice Aw nw cw) ∧ V.cell? ⟨w.heap.size, 2, none⟩ = some (.slice Ar nr cr)) (assumption)
    (first
      | (go_at_call 52
         have hcall := HTK.out _ (Below.refl _ W2).drew
         with_reducible refine hcall.mono ?_
         rintro e V5 ⟨rfl, hb5⟩
         clear hcall hS
         have hB5 : Below W2.heap.size W2 V5 := (Below.refl _ W2).drew.trans hb5
         have hS1 := HKEEP.out V5 hB5
         have HB5 := Lib.hid hB5
         clear hb5 hB5))
  all_goals
    clear hS1 HTK HKEEP
    have H5 := Lib.hid (H2.out.later HB5.out)
    have hroomc := room_any lp p seq pl used (s : Int) (r : Int) v V5 H5.out.log (by omega) (by omega)
    have HRC := Lib.hid hroomc; clear hroomc
    have hq1 : (N : Int) / 256 = (nw : Int) + 2 := by have := HNn.out; omega
    have hn58 : nw ≤ 58 := by omega
    have hq2 : ¬ (r : Int) - (used : Int) < (nw : Int) + 2 := by omega
    go_wp2_with fail
    with_reducible refine HRC.out.mono ?_
    rintro e V6 ⟨rfl, hb6⟩
    clear HRC
    have H6 := Lib.hid (H5.out.later hb6)
    have hB26 : Below W2.heap.size W2 V6 := HB5.out.trans (hb6.mono HB5.out.size)
    have hB6 : Below w.heap.size w V6 := HB2.out.trans (hB26.mono HB2.out.size)
    have HX6 : Hid (V6.heap[w.heap.size]? = some (.cells #[.int .u64 (seq : Int), .slice Aw nw cw, .slice Ar nr cr] 63 (0, 0))) := Lib.hid ((hB26.block _ (Array.getElem?_eq_some_iff.1 HX2.out).1).trans HX2.out)
    have hFw : ∀ q, F q → q < w.heap.size := fun q hq => H.out.disk.lt q hq
    have hwr := write_any lp p s r seq c used pl (nw + 2) N cp g 0 m v d t.enc F V6 H6.out.disk H6.out.log ((HHO.out.below hB26).more hB26.size) HNn.out hcap (fun e => by have := hFw g e; omega) (by omega) H6.out.apartL (by omega) hgp hgd (by omega) (by omega) (by omega) (by omega)
    have HB6 := Lib.hid hB6; clear hB6 hB26
    have HWR := Lib.hid hwr; clear hwr hb6
    go_wp2_with fail
    with_reducible refine HWR.out.mono ?_
    rintro e V7 ⟨rfl, F', hD7, hF7, hL7, hT7⟩
    clear HWR
    have hnF : ∀ q, q ≤ w.heap.size → ¬ F q → ¬ F' q := fun q hq hn e => by
      rcases hF7 q e with e | e
      · exact hn e
      · have : w.heap.size < V6.heap.size := (Array.getElem?_eq_some_iff.1 HX6.out).1
        omega
    have hlF' : ¬ F' lp := hnF lp (by omega) H6.out.apartL
    have hx7 : V7.heap[w.heap.size]? = some (.cells #[.int .u64 (seq : Int), .slice Aw nw cw, .slice Ar nr cr] 63 (0, 0)) := (hT7.block _ (Array.getElem?_eq_some_iff.1 HX6.out).1 (fun e => by
      rcases e with e | e
      · have := hFw _ e; omega
      · omega)).trans HX6.out
    have hTw : Turns (fun q => F q ∨ q = lp) w V7 := (Turns.of_below (F := fun q => F q ∨ q = lp) HB6.out).trans hT7 (fun _ _ e => e)
    have htx := HT.out V7.drew hTw.drew
    have hkc := kept_own t Aw Ar nw cw nr cr w.heap.size V7.drew htx (by show w.heap.size ≤ V7.heap.size; have := hTw.size; omega) (by omega) (by omega) (fun x hx => by have := HM.out.data x hx; omega)
    rw [hsq] at hkc
    have HKC := Lib.hid hkc; clear hkc htx
    have hsz := putL_size s r d pl (chunksOf t.enc (nw + 2)) (by omega) hgp
    have hchunks : (List.finRange (nw + 2)).map (cutB t.enc (nw + 2)) = chunksOf t.enc (nw + 2) := rfl
    rw [hchunks] at hD7 hL7
    obtain ⟨st, hst⟩ : ∃ st, st = putL s r d pl (chunksOf t.enc (nw + 2)) := ⟨_, rfl⟩
    rw [← hst] at hD7 hL7 hsz
    have HST := Lib.hid hst; clear hst
    obtain ⟨cs, hcs⟩ : ∃ cs, cs = L.flatMap LiveRec.cells := ⟨_, rfl⟩
    have hrow : Row V6 63 3 v nl cs := by rw [hcs]; exact HLV.out.row.turns (Turns.of_below (F := fun _ => False) HB6.out) (fun _ _ e => e)
    have hone : ∀ u ∈ cs, u.oneCell' = true := by rw [hcs]; exact live_one L
    have HCS := Lib.hid hcs; clear hcs
    have hvw : ∀ k, v.ownBlock = some k → k < w.heap.size := fun k hk => by
      obtain ⟨cs0, hr0, _⟩ := H.out.live
      exact hr0.lt hk
    have hrow7 := hrow.turns hT7 (fun k hk e => by
      rcases e with e | e
      · exact (H6.out.apartV k hk).1 e
      · exact (H6.out.apartV k hk).2 e)
    have HROW := Lib.hid hrow7; clear hrow7 hrow
    have hS : (fun V : World => V.cell? ⟨lp, 6, none⟩ = some v ∧ V.cell? ⟨w.heap.size, 0, none⟩ = some (.int .u64 (seq : Int)) ∧ V.cell? ⟨w.heap.size, 1, none⟩ = some (.slice Aw nw cw) ∧ V.cell? ⟨w.heap.size, 2, none⟩ = some (.slice Ar nr cr)) V7.drew := by
      have hl := hL7
      unfold LogAt logCells at hl
      exact ⟨cell_of_row V7 lp 6 _ _ _ hl, cell_of_row V7 _ 0 _ _ _ hx7, cell_of_row V7 _ 1 _ _ _ hx7, cell_of_row V7 _ 2 _ _ _ hx7⟩
    have HL7 := Lib.hid hL7; clear hL7
    have HX7 := Lib.hid hx7; clear hx7
    have HD7 := Lib.hid hD7; clear hD7
    have HF7 := Lib.hid hF7; clear hF7
    have HTW := Lib.hid hTw; clear hTw hT7
    have hlv7 : lp < V7.heap.size := (Array.getElem?_eq_some_iff.1 HL7.out).1
    have htv7 : w.heap.size < V7.heap.size := (Array.getElem?_eq_some_iff.1 HX7.out).1
    go_wp2_with fail
    refine wp_region_E (fun V : World => V.cell? ⟨lp, 6, none⟩ = some v ∧ V.cell? ⟨w.heap.size, 0, none⟩ = some (.int .u64 (seq : Int)) ∧ V.cell? ⟨w.heap.size, 1, none⟩ = some (.slice Aw nw cw) ∧ V.cell? ⟨w.heap.size, 2, none⟩ = some (.slice Ar nr cr)) 11 (by kernel_rfl) ?_
    refine wpE_take 0 ⟨some 45, _, _, _, _, _⟩ (v := ?_) [9, 10, 11] rfl (by kernel_rfl) (by kernel_rfl) (by kernel_rfl) (by kernel_rfl) (fun _ _ _ h => h) hS (Or.inl ⟨by rfl, ?_⟩) ?_
    rotate_left
    · (intro V hSw; obtain ⟨s0, s1, s2, s3⟩ := hSw; go_simp; try with_reducible rfl)
    simp only [Act.put]
    refine wpE_take 1 ⟨some 46, _, _, _, _, _⟩ (v := ?_) [2, 3, 4, 8, 9, 10, 11] rfl (by kernel_rfl) (by kernel_rfl) (by kernel_rfl) (by kernel_rfl) (fun _ _ _ h => h) hS (Or.inl ⟨by rfl, ?_⟩) ?_
    rotate_left
    · (intro V hSw; obtain ⟨s0, s1, s2, s3⟩ := hSw; go_simp; try with_reducible rfl)
    simp only [Act.put]
    refine wpE_take 2 ⟨some 47, _, _, _, _, _⟩ (v := ?_) [3, 4, 8, 9, 10, 11] rfl (by kernel_rfl) (by kernel_rfl) (by kernel_rfl) (by kernel_rfl) (fun _ _ _ h => h) hS (Or.inl ⟨by rfl, ?_⟩) ?_
    rotate_left
    · (intro V hSw; obtain ⟨s0, s1, s2, s3⟩ := hSw; go_simp; try with_reducible rfl)
    simp only [Act.put]
    refine wpE_take 3 ⟨some 48, _, _, _, _, _⟩ (v := ?_) [4, 8, 9, 10, 11] rfl (by kernel_rfl) (by kernel_rfl) (by kernel_rfl) (by kernel_rfl) (fun _ _ _ h => h) hS (Or.inl ⟨by rfl, ?_⟩) ?_
    rotate_left
    · (intro V hSw; obtain ⟨s0, s1, s2, s3⟩ := hSw; go_simp; try with_reducible rfl)
    simp only [Act.put]
    refine wpE_take 4 ⟨some 49, _, _, _, _, _⟩ (v := ?_) [8, 9, 10, 11] rfl (by kernel_rfl) (by kernel_rfl) (by kernel_rfl) (by kernel_rfl) (fun _ _ _ h => h) hS (Or.inl ⟨by rfl, ?_⟩) ?_
    rotate_left
    · (intro V hSw; obtain ⟨s0, s1, s2, s3⟩ := hSw; go_simp; try with_reducible rfl)
    simp only [Act.put]
    refine wpE_take 5 ⟨some 50, _, _, _, _, _⟩ (v := ?_) [6, 7, 8, 9, 10, 11] rfl (by kernel_rfl) (by kernel_rfl) (by kernel_rfl) (by kernel_rfl) (fun _ _ _ h => h) hS (Or.inl ⟨by rfl, ?_⟩) ?_
    rotate_left
    · (intro V hSw; obtain ⟨s0, s1, s2, s3⟩ := hSw; go_simp; try with_reducible rfl)
    simp only [Act.put]
    refine wpE_one 6 (o := ⟨some 51, _, _, _, _, _⟩) (by kernel_rfl) rfl (fun K hK => ?_)
    rw [if_pos (by kernel_rfl)]
    refine call_wp 54 _ _ _ _ rfl Tryz.func54 (by kernel_rfl) rfl _ ?hv _ HKC.out ?_
    case hv => simp only [List.map_toArray, List.map_cons, List.map_nil]; go_simp
    rintro e V8 ⟨Bw, dw, Br, dr, us, rfl, hown8, hb8⟩
    have HO8 : Hid (OwnsT V8 V7.heap.size t Bw dw Br dr us) := Lib.hid hown8
    clear hown8
    have hB8 : Below V7.heap.size V7 V8 := (Below.refl _ V7).drew.trans hb8
    have hkS : ∀ V, Below V7.heap.size V7 V → (fun V : World => V.cell? ⟨lp, 6, none⟩ = some v ∧ V.cell? ⟨w.heap.size, 0, none⟩ = some (.int .u64 (seq : Int)) ∧ V.cell? ⟨w.heap.size, 1, none⟩ = some (.slice Aw nw cw) ∧ V.cell? ⟨w.heap.size, 2, none⟩ = some (.slice Ar nr cr)) V := fun V hV => by
      have hl : LogAt V lp p (s : Int) (r : Int) seq st.2 (used + (nw + 2)) v := (hV.block lp hlv7).trans HL7.out
      have hx := (hV.block _ htv7).trans HX7.out
      unfold LogAt logCells at hl
      exact ⟨cell_of_row V lp 6 _ _ _ hl, cell_of_row V _ 0 _ _ _ hx, cell_of_row V _ 1 _ _ _ hx, cell_of_row V _ 2 _ _ _ hx⟩
    refine ⟨_, rfl, hK.out _ _ (hkS V8 hB8) (fun hS => ?_)⟩
    clear hK K HKC
    simp only [Act.put]
    have hB9 : Below V7.heap.size V7 (V8.alloc (.cells #[.int .u64 (seq : Int), .slice Bw nw dw, .slice Br nr dr] 63)) := hB8.alloc hB8.size _
    have HKS := Lib.hid hkS; clear hkS
    refine wpE_one 7 (o := ⟨some 52, _, _, _, _, _⟩) (by kernel_rfl) rfl (fun K hK => ?_)
    go_simp
    refine hK.out _ _ (HKS.out _ hB9) (fun hS => ?_)
    clear hK K
    have hnew : (V8.alloc (.cells #[.int .u64 (seq : Int), .slice Bw nw dw, .slice Br nr dr] 63)).heap[V8.heap.size]? = some (.cells #[.int .u64 (seq : Int), .slice Bw nw dw, .slice Br nr dr] 63 (0, 0)) := heap_alloc_new V8 _
    have hz8 := hB8.size
    have hT89 : Below V8.heap.size V8 (V8.alloc (.cells #[.int .u64 (seq : Int), .slice Bw nw dw, .slice Br nr dr] 63)) := (Below.refl _ V8).alloc (Nat.le_refl _) _
    have hz9 : (V8.alloc (.cells #[.int .u64 (seq : Int), .slice Bw nw dw, .slice Br nr dr] 63)).heap.size = V8.heap.size + 1 := by simp
    generalize V8.alloc (.cells #[.int .u64 (seq : Int), .slice Bw nw dw, .slice Br nr dr] 63) = V9 at hB9 hnew hz9 hT89 ⊢
    have HT89 := Lib.hid hT89; clear hT89
    have hrow9 := HROW.out.turns (Turns.of_below (F := fun _ => False) hB9) (fun _ _ e => e)
    obtain ⟨i0, hi, hz0, hz1, hz2⟩ := info_parts info_txn
    obtain ⟨v9, V10, hrun, hown, hgrow, -, hob⟩ := run_append_own_at (P := Tryz.prog) (w := V9) 0 24 24 63 i0 (.agg #[.int .u64 0, .slice none 0 0, .slice none 0 0]) 3 56 Tryz.underlying24 hi hz0 hz1 hz2 rfl (by decide) v nl cs hrow9 ⟨V8.heap.size, 0, none⟩ 1 1 [.int .u64 (seq : Int), .slice Bw nw dw, .slice Br nr dr] rfl (fun j u hu => by
      have hadd : (⟨V8.heap.size, 0, none⟩ : Addr).add j = ⟨V8.heap.size, j, none⟩ := by unfold Addr.add; split <;> simp_all
      rw [hadd, cell_of_row _ _ _ _ _ _ hnew]
      simpa using hu) (by intro u hu; simp at hu; rcases hu with rfl | rfl | rfl <;> rfl) (by unfold maxLen; omega) (by omega) (Nat.zero_le _)
    refine wpE_one 8 (o := ⟨some 53, _, _, _, _, _⟩) (by kernel_rfl) rfl (fun K hK => ?_)
    refine step_apprun rfl (.tmp 49) (.tmp 52) 24 24 rfl _ _ (by go_simp) (by go_simp) v9 V10 hrun ?_
    have hvl : v.ownBlock ≠ some lp := fun e => (H6.out.apartV _ e).2 rfl
    have hl9 : LogAt V9 lp p (s : Int) (r : Int) seq st.2 (used + (nw + 2)) v := (hB9.block lp hlv7).trans HL7.out
    have hx9 := (hB9.block _ htv7).trans HX7.out
    have hl10 : LogAt V10 lp p (s : Int) (r : Int) seq st.2 (used + (nw + 2)) v := (hgrow.block lp (Array.getElem?_eq_some_iff.1 hl9).1 (fun e => hvl e.symm)).trans hl9
    have hx10 := (hgrow.block _ (Array.getElem?_eq_some_iff.1 hx9).1 (fun e => by have := hvw _ e.symm; omega)).trans hx9
    have hS10 : (fun V : World => V.cell? ⟨lp, 6, none⟩ = some v ∧ V.cell? ⟨w.heap.size, 0, none⟩ = some (.int .u64 (seq : Int)) ∧ V.cell? ⟨w.heap.size, 1, none⟩ = some (.slice Aw nw cw) ∧ V.cell? ⟨w.heap.size, 2, none⟩ = some (.slice Ar nr cr)) V10 := by
      have hl := hl10
      unfold LogAt logCells at hl
      exact ⟨cell_of_row V10 lp 6 _ _ _ hl, cell_of_row V10 _ 0 _ _ _ hx10, cell_of_row V10 _ 1 _ _ _ hx10, cell_of_row V10 _ 2 _ _ _ hx10⟩
    refine hK.out _ _ hS10 (fun hS => ?_)
    clear hK K hS10 hrun
    have f6 : V10.frozen? ⟨lp, 6, none⟩ = false := frozen_of_row V10 lp 6 _ _ hl10
    have s6 : V10.cell? ⟨lp, 6, none⟩ = some v := hS.1
    have HOWN := Lib.hid hown; clear hown
    have HGROW := Lib.hid hgrow; clear hgrow
    have HL10 := Lib.hid hl10; clear hl10
    have HX10 := Lib.hid hx10; clear hx10
    have HOB := Lib.hid hob; clear hob
    have HNEW := Lib.hid hnew; clear hnew
    have HROW9 := Lib.hid hrow9; clear hrow9
    have HB9 := Lib.hid hB9; clear hB9
    clear hl9 hx9 hi hz0 hz1 hz2
    simp only [Act.put]
    refine wpE_take 9 ⟨some 54, _, _, _, _, _⟩ (v := ?_) [10, 11] rfl (by kernel_rfl) (by kernel_rfl) (by kernel_rfl) (by kernel_rfl) (fun _ _ _ h => h) hS (Or.inl ⟨by rfl, ?_⟩) ?_
    rotate_left
    · (intro V hSw; obtain ⟨s0, s1, s2, s3⟩ := hSw; go_simp; try with_reducible rfl)
    simp only [Act.put]
    refine wpE_take 10 ⟨some 55, _, _, _, _, _⟩ (v := ?_) [11] rfl (by kernel_rfl) (by kernel_rfl) (by kernel_rfl) (by kernel_rfl) (fun _ _ _ h => h) hS (Or.inl ⟨by rfl, ?_⟩) ?_
    rotate_left
    · (intro V hSw; obtain ⟨s0, s1, s2, s3⟩ := hSw; go_simp; try with_reducible rfl)
    simp only [Act.put]
    refine wpE_last (by kernel_rfl) rfl (fun K hK => ?_)
    have h91 : ∃ A9 n9 c9, v9 = .slice A9 n9 c9 := by
      rcases HOWN.out.2 with ⟨e, _⟩ | ⟨g', cap', cur', e, _⟩
      · exact ⟨_, _, _, e⟩
      · exact ⟨_, _, _, e⟩
    obtain ⟨A9, n9, c9, rfl⟩ := h91
    go_simp
    refine hK.out _ _ ?_
    clear hK K hS f6 s6
    refine wpE_done (by kernel_rfl) ?_ _
    have hL11 : LogAt (V10.setCell ⟨lp, 6, none⟩ (.slice A9 n9 c9)) lp p (s : Int) (r : Int) seq st.2 (used + (nw + 2)) (.slice A9 n9 c9) := heap_setCell_same V10 lp 6 _ _ _ HL10.out
    have hx11 : (V10.setCell ⟨lp, 6, none⟩ (.slice A9 n9 c9)).heap[w.heap.size]? = some (.cells #[.int .u64 (seq : Int), .slice Aw nw cw, .slice Ar nr cr] 63 (0, 0)) := (Below.heap_setCell _ _ _ _ (by show w.heap.size ≠ lp; omega)).trans HX10.out
    have hrow11 : Row (V10.setCell ⟨lp, 6, none⟩ (.slice A9 n9 c9)) 63 3 (.slice A9 n9 c9) (nl + 1) (cs ++ [.int .u64 (seq : Int), .slice Bw nw dw, .slice Br nr dr]) := Row.turns HOWN.out ((Turns.refl (fun q => q = lp) V10).setCell (p := ⟨lp, 6, none⟩) (fun _ => rfl) _) (fun k hk e => by
      subst e
      rcases HOB.out with e | e
      · exact hvl (e ▸ hk)
      · rw [e] at hk; injection hk with hk; have := HB9.out.size; omega)
    have hT11 : Turns (fun q => q = lp ∨ v.ownBlock = some q) V7 (V10.setCell ⟨lp, 6, none⟩ (.slice A9 n9 c9)) := ((Turns.of_below (F := fun q => q = lp ∨ v.ownBlock = some q) HB9.out).grown HGROW.out (fun k hk _ => .inr hk)).setCell (p := ⟨lp, 6, none⟩) (fun _ => .inl rfl) _
    have hN11 : Turns (fun q => q < V7.heap.size) V8 (V10.setCell ⟨lp, 6, none⟩ (.slice A9 n9 c9)) := ((Turns.of_below (F := fun q => q < V7.heap.size) HT89.out).grown HGROW.out (fun k hk _ => by show k < V7.heap.size; have := hvw k hk; omega)).setCell (p := ⟨lp, 6, none⟩) (fun _ => hlv7) _
    have HOB8 : Hid (∀ k, (Value.slice A9 n9 c9).ownBlock = some k → v.ownBlock = some k ∨ V8.heap.size ≤ k) := Lib.hid (fun k hk => by
      rcases HOB.out with e | e
      · exact .inl (e ▸ hk)
      · rw [e] at hk; injection hk with hk; exact .inr (by omega))
    have HOB9 : Hid (∀ k, (Value.slice A9 n9 c9).ownBlock = some k → v.ownBlock = some k ∨ V7.heap.size ≤ k) := Lib.hid (fun k hk => by
      rcases HOB.out with e | e
      · exact .inl (e ▸ hk)
      · rw [e] at hk; injection hk with hk; have := HB9.out.size; exact .inr (by omega))
    clear HOWN HGROW HL10 HX10 HOB HNEW HROW9 HB9
    generalize V10.setCell ⟨lp, 6, none⟩ (.slice A9 n9 c9) = V11 at hL11 hx11 hrow11 hT11 hN11 ⊢
    have HN11 := Lib.hid hN11; clear hN11
    have c4 : V11.cell? ⟨lp, 4, none⟩ = some (.int .u64 (seq : Int)) := by have := hL11; unfold LogAt logCells at this; exact cell_of_row V11 lp 4 _ _ _ this
    have f4 : V11.frozen? ⟨lp, 4, none⟩ = false := frozen_of_row V11 lp 4 _ _ hL11
    have hx12 : (V11.setCell ⟨lp, 4, none⟩ (.int .u64 ((seq : Int) + 1))).heap[w.heap.size]? = some (.cells #[.int .u64 (seq : Int), .slice Aw nw cw, .slice Ar nr cr] 63 (0, 0)) := (Below.heap_setCell _ _ _ _ (by show w.heap.size ≠ lp; omega)).trans hx11
    have r0 : (V11.setCell ⟨lp, 4, none⟩ (.int .u64 ((seq : Int) + 1))).cell? ⟨w.heap.size, 0, none⟩ = some (.int .u64 (seq : Int)) := cell_of_row _ w.heap.size 0 _ _ _ hx12
    have HL11 := Lib.hid hL11; clear hL11
    have HROW11 := Lib.hid hrow11; clear hrow11
    have HT11 := Lib.hid hT11; clear hT11
    clear hx11 hx12
    go_wp2
    go_ret2
    have hL12 : LogAt (V11.setCell ⟨lp, 4, none⟩ (.int .u64 ((seq : Int) + 1))) lp p (s : Int) (r : Int) (seq + 1) st.2 (used + (nw + 2)) (.slice A9 n9 c9) := by
      have := heap_setCell_same V11 lp 4 _ _ (.int .u64 ((seq : Int) + 1)) HL11.out
      have e : ((seq + 1 : Nat) : Int) = (seq : Int) + 1 := by omega
      unfold LogAt logCells
      rw [e]
      exact this
    have hT12 : Turns (fun q => q = lp ∨ v.ownBlock = some q) V7 (V11.setCell ⟨lp, 4, none⟩ (.int .u64 ((seq : Int) + 1))) := HT11.out.setCell (p := ⟨lp, 4, none⟩) (fun _ => .inl rfl) _
    have hvF' : ∀ k, v.ownBlock = some k → ¬ F' k := fun k hk => hnF k (by have := hvw k hk; omega) (H6.out.apartV k hk).1
    rw [← HST.out]
    refine ⟨rfl, _, F', ⟨HD7.out.turns hT12 (fun q hq e => ?_), hL12, ⟨_, HROW11.out.turns ((Turns.refl (fun q => q = lp) V11).setCell (p := ⟨lp, 4, none⟩) (fun _ => rfl) _) (fun k hk e => ?_), ?_⟩, hlF', fun k hk => ?_, ⟨hg7, hg1, hsz.2, by rw [hsz.1]; exact hgd, hroom⟩⟩, fun q hq => (HF7.out q hq).imp id (fun e => by have := HB6.out.size; omega), fun k hk => (HOB9.out k hk).imp id (fun e => by have := HTW.out.size; omega), (HTW.out.mono (F := fun q => F q ∨ q = lp ∨ v.ownBlock = some q) (fun _ _ e => e.imp id .inl)).trans hT12 (fun _ _ e => .inr e), ⟨t, Bw, dw, Br, dr⟩, rfl, ?_⟩
    · rcases e with e | e
      · exact hlF' (e ▸ hq)
      · exact hvF' q e hq
    · subst e
      rcases HOB9.out _ hk with e | e
      · exact hvl e
      · omega
    · intro u hu
      rcases List.mem_append.1 hu with hu | hu
      · exact hone u hu
      · simp at hu
        rcases hu with rfl | rfl | rfl <;> rfl
    · rcases HOB9.out k hk with e | e
      · exact ⟨hvF' k e, fun e' => hvl (e' ▸ e)⟩
      · exact ⟨fun e' => by have := HD7.out.lt k e'; omega, by omega⟩
    · have hT0 : Turns (fun q => F q ∨ q = lp ∨ v.ownBlock = some q ∨ X q) w (V11.setCell ⟨lp, 4, none⟩ (.int .u64 ((seq : Int) + 1))) := (HTW.out.mono (F := fun q => F q ∨ q = lp ∨ v.ownBlock = some q ∨ X q) (fun _ _ e => e.imp id .inl)).trans hT12 (fun _ _ e => .inr (e.imp id .inl))
      refine HLV.out.more hT0 (fun i hi e => ?_) ?_ ⟨hmay, htk⟩ (fun W hW => ?_)
      · rcases e with e | e | e | e
        · rcases HF7.out i e with e | e
          · exact .inl e
          · have := HB6.out.size; omega
        · exact .inr (.inl e)
        · rcases HOB9.out i e with e | e
          · exact .inr (.inr (.inl e))
          · have := HTW.out.size; omega
        · exact .inr (.inr (.inr e))
      · show Row _ _ 3 _ _ (_ ++ [Value.int .u64 (t.seq : Int), .slice Bw t.ws.length dw, .slice Br t.rs.length dr])
        rw [hsq, hnw, hnr, ← HCS.out]
        refine HROW11.out.turns ((Turns.refl (fun q => q = lp) V11).setCell (p := ⟨lp, 4, none⟩) (fun _ => rfl) _) (fun k hk e => ?_)
        subst e
        rcases HOB9.out _ hk with e | e
        · exact hvl e
        · omega
      · have hN12 : Turns (fun q => q < V7.heap.size) V8 W := (HN11.out.setCell (p := ⟨lp, 4, none⟩) (fun _ => hlv7) _).trans hW (fun i hi e => by
          show i < V7.heap.size
          rcases e with e | e | e | e
          · exact HD7.out.lt i e
          · rw [e]; exact hlv7
          · rcases HOB8.out i e with e | e
            · have := hvw i e; omega
            · omega
          · have := HXX.out i e; omega)
        have h0 := HT.out w (Turns.refl _ _)
        have l1 : t.ws.length ≤ 140737488355328 := by omega
        have l2 : t.rs.length ≤ 140737488355328 := by omega
        exact owns_txat (HO8.out.kept (fun q h1 h2 => hN12.block q h2 (by omega))) h0.seq l1 l2 h0.intW h0.intR
theorem Live.mono {w : World} {G G' : Nat → Prop} {n s r nl : Nat} {v : Value} {L : List LiveRec} (h : Live w G n s r v nl L) (hG : ∀ q, q < w.heap.size → G' q → G q) : Live w G' n s r v nl L :=
  ⟨h.cnt, h.row, h.fair, fun x hx W hW => h.stays x hx W (hW.mono hG)⟩
end Go.Proofs.YtelnoibfamcnmaaGreat.Log
