/- What layer 5's statements are handed; lists of records as they are read; the log of 'filled' as its disk goes on. -/
import Derived.Test.YtelnoibfamcnmaaGreatRpAlive
import Derived.Test.YtelnoibfamcnmaaGreatLgList
import Derived.Deep.RegionHeld
import Derived.Test.YtelnoibfamcnmaaGreatLift
import Derived.Test.YtelnoibfamcnmaaGreatRfSame
namespace Go.Proofs.YtelnoibfamcnmaaGreat.Rp
set_option maxRecDepth 20000
open Go.RowKit
open Go.Proofs.YtelnoibfamcnmaaGreat.Mem Go.Proofs.YtelnoibfamcnmaaGreat.Crc Go.Proofs.YtelnoibfamcnmaaGreat.Disk Go.Proofs.YtelnoibfamcnmaaGreat.Log
open Go.Proofs.YtelnoibfamcnmaaGreat.Rec (Tx Wt TxAt OwnsT copy_any)

/-! ### A slice of records, all below block B -/
structure TxL where
  t : Tx
  Aw : Option Addr
  nw : Nat
  cw : Nat
  Ar : Option Addr
  nr : Nat
  cr : Nat
def TxL.cells (x : TxL) : List Value := [.int .u64 (x.t.seq : Int), .slice x.Aw x.nw x.cw, .slice x.Ar x.nr x.cr]
def TxsL (w : World) (B : Nat) (A : Option Addr) (n : Nat) (xs : List TxL) : Prop :=
  xs.length = n ∧ (0 < n → ∃ b off, A = some ⟨b, off, none⟩ ∧ b < B ∧ ∀ j, (h : j < xs.length) → ∀ k, k < 3 → w.cell? ⟨b, off + j * 3 + k, none⟩ = xs[j].cells[k]?) ∧ ∀ x ∈ xs, TxAt w B x.t x.Aw x.nw x.cw x.Ar x.nr x.cr
theorem TxsL.below {w w' : World} {B : Nat} {A : Option Addr} {n : Nat} {xs : List TxL} (h : TxsL w B A n xs) (hb : Below B w w') : TxsL w' B A n xs :=
  ⟨h.1, fun hn => by
    obtain ⟨b, off, e, hl, hc⟩ := h.2.1 hn
    exact ⟨b, off, e, hl, fun j hj k hk => (hb.cell (p := ⟨b, off + j * 3 + k, none⟩) hl).trans (hc j hj k hk)⟩, fun x hx => (h.2.2 x hx).below hb⟩
theorem TxsL.take {w : World} {B : Nat} {A : Option Addr} {n k : Nat} {xs : List TxL} (h : TxsL w B A n xs) (hk : k ≤ n) : TxsL w B A k (xs.take k) :=
  ⟨by rw [List.length_take, h.1]; omega, fun h0 => by
    obtain ⟨b, off, e, hl, hc⟩ := h.2.1 (by omega)
    refine ⟨b, off, e, hl, fun j hj q hq => ?_⟩
    rw [List.length_take] at hj
    rw [List.getElem_take]
    exact hc j (by omega) q hq, fun x hx => h.2.2 x (List.mem_of_mem_take hx)⟩
theorem TxsL.more {w : World} {B B' : Nat} {A : Option Addr} {n : Nat} {xs : List TxL} (h : TxsL w B A n xs) (hB : B ≤ B') : TxsL w B' A n xs :=
  ⟨h.1, fun hn => by
    obtain ⟨b, off, e, hl, hc⟩ := h.2.1 hn
    exact ⟨b, off, e, by omega, hc⟩, fun x hx => (h.2.2 x hx).more hB⟩
theorem TxsL.cells_at {w : World} {B b off n : Nat} {xs : List TxL} (h : TxsL w B (some ⟨b, off, none⟩) n xs) {k : Nat} {x : TxL} (hx : xs[k]? = some x) :
    b < B ∧ w.cell? ⟨b, off + k * 3, none⟩ = some (.int .u64 (x.t.seq : Int)) ∧ w.cell? ⟨b, off + k * 3 + 1, none⟩ = some (.slice x.Aw x.nw x.cw) ∧ w.cell? ⟨b, off + k * 3 + 2, none⟩ = some (.slice x.Ar x.nr x.cr) := by
  obtain ⟨hk, he⟩ := List.getElem?_eq_some_iff.1 hx
  obtain ⟨b2, off2, e, hl, hc⟩ := h.2.1 (by rw [← h.1]; omega)
  injection e with e
  injection e with e1 e2
  subst e1 e2
  have g0 := hc k hk 0 (by omega)
  have g1 := hc k hk 1 (by omega)
  have g2 := hc k hk 2 (by omega)
  rw [he] at g0 g1 g2
  exact ⟨hl, g0, g1, g2⟩

def few16 (n : Nat) : Nat := if n > 16 then 16 else n
theorem few_any (A : Option Addr) (n c : Nat) (w : World) (hc : n ≤ c) (hm : c ≤ maxLen) (hA : 0 < n → ∃ b off, A = some ⟨b, off, none⟩) :
    Calls Tryz.prog 24 #[.slice A n c] w fun e w' => e = .returned (.slice A (few16 n) c) ∧ w = w' := by
  unfold maxLen at hm
  unfold few16
  by_cases h : n > 16
  · rw [if_pos h]
    have q : (Instr.slice 24 (.slice A n c) none (some (.int .i64 16)) none).run Tryz.prog w = .ok (.slice A 16 c) w := by
      have h := run_slice_h (P := Tryz.prog) w 24 A n c (by rw [Tryz.underlying24]; rfl) .i64 16 (by omega) (by omega)
      rw [h]
      have hs : (sizeOf (Tryz.prog.elem 24)).run Tryz.prog w = .ok 3 w := by rfl
      rw [hs]
      obtain ⟨b, off, rfl⟩ := hA (by omega)
      simp [Result.andThen, sliced, Addr.add_mid]
    have q2 : (Instr.sliceAt 24 (.slice A n c) none (some (.int .i64 16)) none).run Tryz.prog w = .ok (.slice A 16 c) w := by
      rw [run_sliceAt_slice (P := Tryz.prog) w 24 _ _ _ _ (by rw [Tryz.underlying24]; rfl)]
      exact q
    go_enter Tryz.func24, Tryz.ntmps24
    go_wp2
    go_ret
    exact ⟨rfl, rfl⟩
  · rw [if_neg h]
    go_enter Tryz.func24, Tryz.ntmps24
    go_wp2
    go_ret
    exact ⟨rfl, rfl⟩

theorem results_tmp4 {fn : Func} {t u v x : Tmp} (h : fn.results = #[.tmp t, .tmp u, .tmp v, .tmp x]) (tmps : Array Value) (P : Program) (w : World) :
    (results fn tmps).run P w = .ok (.tuple #[tmps.getD t undef, tmps.getD u undef, tmps.getD v undef, tmps.getD x undef]) w := by
  simp [results, h]
def Unfilled (w : World) (e : Ending) (w' : World) : Prop := e = .returned (.tuple #[.pointer none, .pointer none, .slice none 0 0, .bool false]) ∧ Below w.heap.size w w'

set_option maxHeartbeats 1000000 in
theorem filled_none (B S L : Int) (v : Value) (w : World) (hb : mayB B = false) :
    Calls Tryz.prog 5 #[.agg #[.int .i64 B, .int .i64 S, .int .i64 L], v] w (Unfilled w) := by
  have hx0 : Hid ((w.alloc (.cells #[.int .i64 B, .int .i64 S, .int .i64 L] 23)).heap[w.heap.size]? = some (.cells #[.int .i64 B, .int .i64 S, .int .i64 L] 23 (0, 0))) := Lib.hid (heap_alloc_new w _)
  have hb0 : Hid (Below w.heap.size w (w.alloc (.cells #[.int .i64 B, .int .i64 S, .int .i64 L] 23))) := Lib.hid ((Below.refl _ _).alloc (Nat.le_refl _) _)
  have HM := Lib.hid hb; clear hb
  have q0 := cell_of_row _ _ 0 _ _ _ hx0.out
  have q1 := cell_of_row _ _ 1 _ _ _ hx0.out
  have q2 := cell_of_row _ _ 2 _ _ _ hx0.out
  go_enter Tryz.func5, Tryz.ntmps5
  go_wp2_with fail
  generalize w.alloc (.cells #[.int .i64 B, .int .i64 S, .int .i64 L] 23) = W at hx0 hb0 q0 q1 q2 ⊢
  with_reducible refine (new_bad B W HM.out).mono ?_
  rintro e w2 ⟨rfl, rfl⟩
  go_wp2
  refine bodyPost_ret (results_tmp4 rfl _ _ _) rfl ?_
  exact ⟨rfl, hb0.out⟩

set_option maxHeartbeats 1000000 in
theorem filled_not (nb : Nat) (S L : Int) (v : Value) (w : World) (h1 : 1 ≤ nb) (h2 : nb ≤ 1024) (ha : okArea nb S L = false) :
    Calls Tryz.prog 5 #[.agg #[.int .i64 (nb : Int), .int .i64 S, .int .i64 L], v] w (Unfilled w) := by
  have hx0 : Hid ((w.alloc (.cells #[.int .i64 (nb : Int), .int .i64 S, .int .i64 L] 23)).heap[w.heap.size]? = some (.cells #[.int .i64 (nb : Int), .int .i64 S, .int .i64 L] 23 (0, 0))) := Lib.hid (heap_alloc_new w _)
  have hb0 : Hid (Below w.heap.size w (w.alloc (.cells #[.int .i64 (nb : Int), .int .i64 S, .int .i64 L] 23))) := Lib.hid ((Below.refl _ _).alloc (Nat.le_refl _) _)
  have q0 := cell_of_row _ _ 0 _ _ _ hx0.out
  have q1 := cell_of_row _ _ 1 _ _ _ hx0.out
  have q2 := cell_of_row _ _ 2 _ _ _ hx0.out
  have HA := Lib.hid ha; clear ha
  go_enter Tryz.func5, Tryz.ntmps5
  go_wp2_with fail
  generalize w.alloc (.cells #[.int .i64 (nb : Int), .int .i64 S, .int .i64 L] 23) = W at hx0 hb0 q0 q1 q2 ⊢
  have hnew := new_d (nb : Int) nb 0 W rfl h1 h2
  have HN := Lib.hid hnew; clear hnew
  with_reducible refine HN.out.mono ?_
  rintro e w2 ⟨p, F, rfl, hD, hF, hb2⟩
  unfold ptr
  clear q0 q1 q2 HN
  have hx2 := (hb2.block _ (Array.getElem?_eq_some_iff.1 hx0.out).1).trans hx0.out
  have q1 := cell_of_row w2 _ 1 _ _ _ hx2
  have q2 := cell_of_row w2 _ 2 _ _ _ hx2
  have hfm := format_not S L (Dk.Dk.new nb) p 0 F w2 hD (by rw [show (Dk.Dk.new nb).stable.length = nb by simp [Dk.Dk.new]]; exact HA.out)
  unfold ptr at hfm
  have HFM := Lib.hid hfm; clear hfm hD hF
  have HB2 := Lib.hid (hb0.out.trans (hb2.mono hb0.out.size)); clear hb2 hx2
  go_wp2_with fail
  with_reducible refine HFM.out.mono ?_
  rintro e w3 ⟨rfl, hb3⟩
  have HB3 := Lib.hid (HB2.out.trans (Below.mono hb3 HB2.out.size)); clear hb3
  go_wp2
  refine bodyPost_ret (results_tmp4 rfl _ _ _) rfl ?_
  exact ⟨rfl, HB3.out⟩
end Go.Proofs.YtelnoibfamcnmaaGreat.Rp

namespace Go.Proofs.YtelnoibfamcnmaaGreat.Rp
set_option maxRecDepth 20000
open Go.RowKit
open Go.Proofs.YtelnoibfamcnmaaGreat.Mem Go.Proofs.YtelnoibfamcnmaaGreat.Crc Go.Proofs.YtelnoibfamcnmaaGreat.Disk Go.Proofs.YtelnoibfamcnmaaGreat.Log
open Go.Proofs.YtelnoibfamcnmaaGreat.Rec (Tx Wt TxAt OwnsT copy_any)

def roomG (r : Nat) (s : Nat) (g : Lg) (t : Tx) : Lg := if r < g.used + (t.ws.length + 2) then g.home s else g
def stepG (n s r : Nat) (g : Lg) (t : Tx) : Lg := ((roomG r s g t).app n s r t).2.2
def fillG (n s r : Nat) (ts : List Tx) : Lg := ts.foldl (stepG n s r) (Lg.fresh n s)
theorem fillG_snoc (n s r : Nat) (ts : List Tx) (t : Tx) : fillG n s r (ts ++ [t]) = stepG n s r (fillG n s r ts) t := by simp [fillG]
theorem roomG_seq (r s : Nat) (g : Lg) (t : Tx) : (roomG r s g t).seq = g.seq := by
  unfold roomG; split
  · exact (Lg.home_seq s g).1
  · rfl
theorem fillG_inv (n s r : Nat) (hroom : s + r < n ∧ 7 ≤ r ∧ r ≤ 1023) (ts : List Tx) (hl : ts.length ≤ 65536) : (∃ s0 p0, Inv n s r (fillG n s r ts) s0 p0) ∧ (fillG n s r ts).seq ≤ ts.length + 1 := by
  induction ts using rev_ind with
  | h0 => exact ⟨⟨1, 0, inv_fresh n s r hroom⟩, Nat.le_refl _⟩
  | h1 l t ih =>
    rw [List.length_append, List.length_singleton] at hl ⊢
    obtain ⟨⟨s0, p0, hi⟩, hq⟩ := ih (by omega)
    rw [fillG_snoc]
    have h2 : ∃ s1 p1, Inv n s r (roomG r s (fillG n s r l) t) s1 p1 := by
      unfold roomG; split
      · exact inv_home hi
      · exact ⟨_, _, hi⟩
    obtain ⟨s1, p1, hi2⟩ := h2
    have hsq := roomG_seq r s (fillG n s r l) t
    have h3 := Lg.app_seq n s r (roomG r s (fillG n s r l) t) t
    unfold stepG
    exact ⟨⟨_, _, inv_app hi2 t (by omega)⟩, by omega⟩

/-- The log and its live list, a base of memory w ahead of it. -/
structure Filled (w wr : World) (p lp s r n : Nat) (g : Lg) (v : Value) (L : List LiveRec) : Prop where
  run : ∃ w3 F0, HomeRun w3 wr F0 lp p s r n g 16 16100 v L ∧ (∀ q, F0 q → w.heap.size ≤ q) ∧ w.heap.size ≤ w3.heap.size
  low : w.heap.size ≤ lp
  below : Below w.heap.size w wr
  map : L.map (·.t) = g.ts

theorem wrap_i64 (z : Int) (h : -9223372036854775808 ≤ z ∧ z ≤ 9223372036854775807) : IntKind.i64.wrap z = z := by
  unfold IntKind.wrap
  simp [IntKind.signed, IntKind.bits]
  omega
/-- The law's list is begun anew. -/
theorem HomeRun.anew {w3 wr : World} {F0 : Nat → Prop} {lp p s r n k cb : Nat} {g : Lg} {v : Value} {L : List LiveRec} (h : HomeRun w3 wr F0 lp p s r n g k cb v L) : HomeRun w3 wr F0 lp p s r n g k cb (.slice none 0 0) [] := by
  obtain ⟨F1, hK, hF, hlt, hlp, hown, hL⟩ := h.log
  have hX := hK.aside (X' := fun q => (Value.slice none 0 0).ownBlock = some q) (Turns.refl _ wr) (fun q e e' => (hown q e').1 e) (fun e' => (hown _ e').2 rfl) (fun q e => by cases e)
  exact ⟨h.turns, (fun q e => by cases e), F1, hX, hF, hlt, hlp, (fun q e => by cases e), Live.none _ _ _ _ _⟩

set_option maxRecDepth 100000 in
set_option maxHeartbeats 4000000 in
theorem filled_ok (nb s l : Nat) (A : Option Addr) (n c : Nat) (xs : List TxL) (w : World) (hx : TxsL w w.heap.size A n xs) (hnc : n ≤ c) (hcm : c ≤ maxLen) (hn2 : nb ≤ 1024) (h8 : 8 ≤ l) (hl2 : l ≤ 1024) (hs : s + l ≤ nb) :
    Calls Tryz.prog 5 #[.agg #[.int .i64 (nb : Int), .int .i64 (s : Int), .int .i64 (l : Int)], .slice A n c] w fun e w' =>
      ∃ p lp v L, e = .returned (.tuple #[.pointer (some ⟨p, 0, none⟩), .pointer (some ⟨lp, 0, none⟩), v, .bool true]) ∧ Filled w w' p lp s (l - 1) nb (fillG nb s (l - 1) ((xs.take (few16 n)).map (·.t))) v L := by
  have hx0 : Hid ((w.alloc (.cells #[.int .i64 (nb : Int), .int .i64 (s : Int), .int .i64 (l : Int)] 23)).heap[w.heap.size]? = some (.cells #[.int .i64 (nb : Int), .int .i64 (s : Int), .int .i64 (l : Int)] 23 (0, 0))) := Lib.hid (heap_alloc_new w _)
  have hb0 : Hid (Below w.heap.size w (w.alloc (.cells #[.int .i64 (nb : Int), .int .i64 (s : Int), .int .i64 (l : Int)] 23))) := Lib.hid ((Below.refl _ _).alloc (Nat.le_refl _) _)
  obtain ⟨R, hR⟩ : ∃ R, R = l - 1 := ⟨_, rfl⟩
  obtain ⟨N, hN⟩ : ∃ N, N = few16 n := ⟨_, rfl⟩
  obtain ⟨ys, hys⟩ : ∃ ys, ys = xs.take N := ⟨_, rfl⟩
  have hN16 : N ≤ 16 := by rw [hN]; unfold few16; split <;> omega
  rw [← hR, ← hN, ← hys]
  have HR := Lib.hid hR; clear hR
  have HN' := Lib.hid hN; clear hN
  have HYS := Lib.hid hys; clear hys
  have HS := Lib.hid hs; clear hs
  have HL2 := Lib.hid hl2; clear hl2
  have HX := Lib.hid hx; clear hx
  have H8 := Lib.hid h8; clear h8
  have HN2 := Lib.hid hn2; clear hn2
  have q0 := cell_of_row _ _ 0 _ _ _ hx0.out
  have q1 := cell_of_row _ _ 1 _ _ _ hx0.out
  have q2 := cell_of_row _ _ 2 _ _ _ hx0.out
  go_enter Tryz.func5, Tryz.ntmps5
  go_wp2_with fail
  generalize w.alloc (.cells #[.int .i64 (nb : Int), .int .i64 (s : Int), .int .i64 (l : Int)] 23) = W at hx0 hb0 q0 q1 q2 ⊢
  have hwW : w.heap.size < W.heap.size := (Array.getElem?_eq_some_iff.1 hx0.out).1
  have hnew := new_d (nb : Int) nb 0 W rfl (by have := H8.out; have := HS.out; omega) HN2.out
  have HN := Lib.hid hnew; clear hnew
  with_reducible refine HN.out.mono ?_
  rintro e w1 ⟨p, F, rfl, hD, hF, hb1⟩
  unfold ptr
  clear q0 q1 q2 HN
  have hx1 := (hb1.block _ hwW).trans hx0.out
  have hzW1 := hb1.size
  have q1 := cell_of_row w1 _ 1 _ _ _ hx1
  have q2 := cell_of_row w1 _ 2 _ _ _ hx1
  have hfm : Calls Tryz.prog 18 #[.pointer (some ⟨p, 0, none⟩), .int .i64 (s : Int), .int .i64 (l : Int)] w1 (Now w1 p (freshD nb s) 1 F (.int .i64 0)) := format_d s l _ _ rfl rfl (Dk.Dk.new nb) p 0 F w1 hD (by omega) H8.out (by rw [show (Dk.Dk.new nb).stable.length = nb by simp [Dk.Dk.new]]; exact HS.out)
  have HFM := Lib.hid hfm; clear hfm hD
  have HF := Lib.hid hF; clear hF
  have HX1 := Lib.hid hx1; clear hx1
  have HB1 := Lib.hid (hb0.out.trans (hb1.mono hb0.out.size)); clear hb1
  go_wp2_with fail
  with_reducible refine HFM.out.mono ?_
  rintro e w2 ⟨F2, rfl, hD2, hF2, hT2⟩
  clear HFM q1 q2
  have hrd := freshD_read nb s (by have := H8.out; have := HS.out; omega)
  have hsz := freshD_size nb s
  have hF2w : ∀ q, F2 q → W.heap.size ≤ q := fun k hk => by
    rcases hF2 k hk with e | e
    · exact HF.out k e
    · omega
  have hop : Calls Tryz.prog 19 #[.pointer (some ⟨p, 0, none⟩), .int .i64 (s : Int), .int .i64 (l : Int)] w2 fun e w' => ∃ lp, e = .returned (.tuple #[.pointer (some ⟨lp, 0, none⟩), .int .i64 0]) ∧ LogAt w' lp p (s : Int) ((l - 1 : Nat) : Int) 1 0 0 (.slice none 0 0) ∧ w2.heap.size ≤ lp ∧ Below w2.heap.size w2 w' := by
    have := open_d s l _ _ rfl rfl (freshD nb s) p 1 F2 w2 hD2 (by omega) H8.out (by rw [hsz]; exact HS.out) (by rw [hrd]; exact okH_head 1 0 (l - 1) (by omega) (by have := H8.out; omega) (by have := HL2.out; omega))
    rw [hrd, seqH_head 1 0 (by omega), plH_head 1 0 (by omega), show (l : Int) - 1 = ((l - 1 : Nat) : Int) by have := H8.out; omega] at this
    exact this
  have HOP := Lib.hid hop; clear hop
  have hx2 := (hT2.block _ (Array.getElem?_eq_some_iff.1 HX1.out).1 (fun e => by have := HF.out _ e; omega)).trans HX1.out
  have q1 := cell_of_row w2 _ 1 _ _ _ hx2
  have q2 := cell_of_row w2 _ 2 _ _ _ hx2
  have hBw2 : Below w.heap.size w w2 := HB1.out.trans (hT2.below (fun k hk => by have := HF.out k hk; omega) HB1.out.size)
  have HBW2 := Lib.hid hBw2; clear hBw2
  have HD2 := Lib.hid hD2; clear hD2 hF2 hT2
  have HF2W := Lib.hid hF2w; clear hF2w
  have HX2 := Lib.hid hx2; clear hx2 HX1 HB1 HF
  go_wp2_with fail
  with_reducible refine HOP.out.mono ?_
  rintro e w3 ⟨lp, rfl, hL3, hlp, hb3⟩
  clear HOP q1 q2
  rw [← HR.out] at hL3
  have hR7 : 7 ≤ R ∧ R ≤ 1023 ∧ s + R < nb := by have := H8.out; have := HL2.out; have := HS.out; have := HR.out; omega
  have hkn : Known w3 w3 lp p s R nb F2 NoX (Lg.fresh nb s) 0 1 := opened_known (HD2.out.turns (Turns.of_below (F := fun _ => False) hb3) (fun _ _ e => e)) hL3 (fun e => by have := HD2.out.lt _ e; omega) hsz ⟨hR7.1, hR7.2.1⟩ hR7.2.2 (by omega)
  have HKN := Lib.hid hkn; clear hkn
  have HBW : Hid (Below w.heap.size w w3) := Lib.hid (HBW2.out.trans (hb3.mono HBW2.out.size))
  have HLPL : Hid (w.heap.size ≤ lp) := Lib.hid (by have := HBW2.out.size; omega)
  have HFL : Hid (∀ q, F2 q → w.heap.size ≤ q) := Lib.hid (fun q hq => by have := HF2W.out q hq; omega)
  have hfw := few_any A n c w3 hnc hcm (fun h => by obtain ⟨b, off, e, _⟩ := HX.out.2.1 h; exact ⟨b, off, e⟩)
  have hx3 := (HX.out.below HBW.out).take (k := N) (by rw [HN'.out]; unfold few16; split <;> omega)
  rw [← HN'.out] at hfw
  rw [← HYS.out] at hx3
  have HFEW := Lib.hid hfw; clear hfw
  have HX3 := Lib.hid hx3; clear hx3
  clear hL3 hlp hb3 HBW2 HD2 HX2 hrd hsz hnc hcm HX hzW1 hx0 hb0
  obtain ⟨hR1, hR2, hR3⟩ := hR7
  go_wp2_with fail
  with_reducible refine HFEW.out.mono ?_
  rintro e w5 ⟨rfl, rfl⟩
  clear HFEW
  go_wp2_with fail
  go_loopw [11, 13] (fun lv iv wr => ∃ (k : Nat) (g : Lg) (L : List LiveRec) (v0 : Value), v0 = lv ∧ k ≤ N ∧ iv = .int .i64 (k : Int) ∧ g = fillG nb s R ((ys.take k).map (·.t)) ∧ g.seq ≤ k + 1 ∧ L.map (·.t) = g.ts ∧ L.length ≤ k ∧ HomeRun w3 wr F2 lp p s R nb g k (1 + 1000 * k) v0 L) (fun _ iv _ => N - (intOf iv).toNat)
  case atStart => exact ⟨0, Lg.fresh nb s, [], _, rfl, Nat.zero_le _, rfl, rfl, by simp [Lg.fresh], rfl, Nat.le_refl _, HomeRun.start HKN.out⟩
  case round =>
    obtain ⟨k, g, L, lv, rfl, hk, rfl, hgf, hsq, hmap, hLk, hg⟩ := hrel
    have HMAP := Lib.hid hmap; clear hmap
    have HGF := Lib.hid hgf; clear hgf
    rcases Nat.lt_or_ge k N with hlt | hge
    · obtain ⟨b, off, rfl, hbl, -⟩ := HX3.out.2.1 (by omega)
      obtain ⟨x, hx⟩ : ∃ x, ys[k]? = some x := ⟨_, List.getElem?_eq_getElem (by rw [HX3.out.1]; exact hlt)⟩
      have hxi := HX3.out.2.2 x (List.mem_of_getElem? hx)
      have hnw0 : x.t.ws.length = x.nw := hxi.ws.1
      have hS : ∀ V, Turns (fun q => F2 q ∨ q = lp) w3 V → V.cell? ⟨b, off + k * 3, none⟩ = some (.int .u64 (x.t.seq : Int)) ∧ V.cell? ⟨b, off + k * 3 + 1, none⟩ = some (.slice x.Aw x.nw x.cw) ∧ V.cell? ⟨b, off + k * 3 + 2, none⟩ = some (.slice x.Ar x.nr x.cr) := fun V hV => by
        have hbV : Below w.heap.size w3 V := hV.below (fun q e => by
          rcases e with e | e
          · exact HFL.out q e
          · have := HLPL.out; omega) HBW.out.size
        exact ((HX3.out.below hbV).cells_at hx).2
      have HSS := Lib.hid hS; clear hS
      have hkN : (k : Int) < (N : Int) := by omega
      have HIT := Lib.hid hxi; clear hxi
      have HXK := Lib.hid hx; clear hx
      have hrm := room_hr w3 wr.drew F2 lp p s R nb k (1 + 1000 * k) g lv L (hg.later (Below.refl _ wr).drew)
      have hrs := hg.at
      have hur : g.used ≤ R := by
        obtain ⟨F1, hK, -⟩ := hg.call
        exact hK.ring.2.2.2.2
      have h0 := HSS.out wr.drew (hg.later (Below.refl _ wr).drew).turns
      have HRM := Lib.hid hrm; clear hrm hrs
      have HGR := Lib.hid hg; clear hg
      have hfew : x.nw ≤ 140737488355328 := HIT.out.fits.2.1
      have HNW0 := Lib.hid hnw0; clear hnw0
      have hwrap : IntKind.i64.wrap ((x.nw : Int) + 2) = (x.nw : Int) + 2 := wrap_i64 _ (by omega)
      go_wp2_with fail
      go_region_held (fun V => V.cell? ⟨b, off + k * 3, none⟩ = some (.int .u64 (x.t.seq : Int)) ∧ V.cell? ⟨b, off + k * 3 + 1, none⟩ = some (.slice x.Aw x.nw x.cw) ∧ V.cell? ⟨b, off + k * 3 + 2, none⟩ = some (.slice x.Ar x.nr x.cr)) (assumption)
        (first
          | (go_at_call 25
             with_reducible refine HRM.out.mono ?_
             rintro e w4 ⟨rfl, hb4⟩
             have hb4' : Below wr.heap.size wr w4 := (Below.refl _ wr).drew.trans hb4
             have h4 := HSS.out w4 (HGR.out.later hb4').turns
             have HG4 := Lib.hid (HGR.out.later hb4')
             clear hb4 hb4'))
      all_goals
        clear h0 HRM HGR
        obtain ⟨z0, z1, z2⟩ := h4
        by_cases hfit : R < g.used + (x.nw + 2)
        case' pos =>
          have hcmp : (R : Int) - (g.used : Int) < (x.nw : Int) + 2 := by omega
          have hrg : roomG R s g x.t = g.home s := by unfold roomG; rw [HNW0.out, if_pos hfit]
          have hhm := home_hr w3 w4 F2 lp p s R nb k (1 + 1000 * k) g lv L HG4.out (by omega)
          have hgs := (Lg.home_seq s g).1
          have hem := Lg.home_none s g
          obtain ⟨g1, hg1⟩ : ∃ g1, g1 = g.home s := ⟨_, rfl⟩
          rw [← hg1] at hrg hhm hgs hem
          have HHM := Lib.hid hhm; clear hhm hg1
          have HRG := Lib.hid hrg; clear hrg
          have HEM := Lib.hid hem; clear hem
          clear z0 z1 z2 HG4
          go_wp2_with fail
          with_reducible refine HHM.out.mono ?_
          rintro e w5 ⟨rfl, hg5⟩
          clear HHM hcmp
          have hg5 := HomeRun.anew hg5
          have hmap : ([] : List LiveRec).map (·.t) = g1.ts := by rw [HEM.out]; rfl
          have hLk : ([] : List LiveRec).length ≤ k := Nat.zero_le _
          have HMP := Lib.hid hmap; clear hmap HEM HMAP
          have hsq1 : g1.seq ≤ k + 1 := by omega
          clear hgs
        case' neg =>
          have hcmp : ¬ (R : Int) - (g.used : Int) < (x.nw : Int) + 2 := by omega
          obtain ⟨g1, hg1⟩ : ∃ g1, g1 = g := ⟨_, rfl⟩
          have hrg : roomG R s g x.t = g1 := by unfold roomG; rw [HNW0.out, if_neg hfit, hg1]
          rw [← hg1] at HG4 HMAP hsq
          have HRG := Lib.hid hrg; clear hrg
          have hg5 := HG4.out.more (Nat.le_refl _) (show 1 + 1000 * k ≤ 1 + 1000 * k + 58 * k + 1 by omega)
          have HMP := Lib.hid HMAP.out; clear HMAP
          have hsq1 : g1.seq ≤ k + 1 := hsq
          clear HG4
          have HG1 := Lib.hid hg1; clear hg1
          obtain ⟨w5, rfl⟩ : ∃ w5, w5 = w4 := ⟨_, rfl⟩
          go_wp2_with fail
        all_goals
          have h5 := HSS.out w5.drew (hg5.later (Below.refl _ w5).drew).turns
          have hap := append_hr w3 w5.drew F2 lp p s R nb k (1 + 1000 * k + 58 * k + 1) g1 _ _ (hg5.later (Below.refl _ w5).drew) x.t x.Aw x.Ar x.nw x.cw x.nr x.cr w.heap.size HIT.out HBW.out.size HFL.out HLPL.out (by omega) (by omega) (by omega)
          have hsq2 := Lg.app_seq nb s R g1 x.t
          have hnext : stepG nb s R g x.t = (g1.app nb s R x.t).2.2 := by unfold stepG; rw [HRG.out]
          have HG5 := Lib.hid hg5; clear hg5
          rcases Lg.app_cases nb s R g1 x.t with ⟨hans, hfair⟩ | ⟨b0, hb0, hans⟩
          · rw [hans] at hap hsq2 hnext
            simp only at hap hsq2 hnext
            have HAP := Lib.hid hap; clear hap hans
            have HNX := Lib.hid hnext; clear hnext
            go_wp2_with fail
            go_region_held (fun V => V.cell? ⟨b, off + k * 3, none⟩ = some (.int .u64 (x.t.seq : Int)) ∧ V.cell? ⟨b, off + k * 3 + 1, none⟩ = some (.slice x.Aw x.nw x.cw) ∧ V.cell? ⟨b, off + k * 3 + 2, none⟩ = some (.slice x.Ar x.nr x.cr)) (assumption)
              (first
                | (go_at_call 20
                   with_reducible refine HAP.out.mono ?_
                   rintro e w6 ⟨rfl, hk6⟩
                   have h6 := HSS.out w6 hk6.turns
                   have HK6 := Lib.hid hk6
                   clear hk6))
            all_goals
              clear h5 HAP
              obtain ⟨y0, y1, y2⟩ := h6
              have hBw6 : Below w.heap.size w3 w6 := (HK6.out.turns).below (fun q e => by
                rcases e with e | e
                · exact HFL.out q e
                · have := HLPL.out; omega) HBW.out.size
              have htx6 := HIT.out.below hBw6
              have hcp := copy_any x.t x.Aw x.Ar x.nw x.cw x.nr x.cr w.heap.size w6 htx6 (fair_wide hfair).1 (Nat.le_trans HBW.out.size hBw6.size)
              have HCP := Lib.hid hcp; clear hcp
              have HTX6 := Lib.hid htx6; clear htx6 hBw6
              go_wp2_with fail
              with_reducible refine HCP.out.mono ?_
              rintro e w7 ⟨Bw, dw, Br, dr, vs, rfl, ho7, hb7⟩
              have HO7 := Lib.hid ho7; clear ho7
              have HB7 := Lib.hid hb7; clear hb7 HCP y0 y1 y2
              obtain ⟨bx, hbx⟩ : ∃ bx, bx = Obj.cells #[.int .u64 (g1.seq : Int), .slice Bw x.nw dw, .slice Br x.nr dr] 63 (0, 0) := ⟨_, rfl⟩
              have hbV : Below w7.heap.size w7 ((w7.alloc bx).alloc bx) := ((Below.refl _ w7).alloc (Nat.le_refl _) bx).alloc (by simp) bx
              have hnew : ((w7.alloc bx).alloc bx).heap[w7.heap.size + 1]? = some bx := by
                have := heap_alloc_new (w7.alloc bx) bx
                simpa using this
              have hnw : x.t.ws.length = x.nw := HTX6.out.ws.1
              have hnr : x.t.rs.length = x.nr := HTX6.out.rs.1
              obtain ⟨A9, c9, V9, hrun, hg9⟩ := list_append (q0 := w7.heap.size + 1) (V := (w7.alloc bx).alloc bx) ⟨g1.txn x.t, Bw, dw, Br, dr⟩ 24 HK6.out (HB7.out.trans (hbV.mono HB7.out.size))
                (by rw [hnew, hbx]; show _ = some (Obj.cells #[.int .u64 (g1.seq : Int), .slice Bw x.t.ws.length dw, .slice Br x.t.rs.length dr] _ _); rw [hnw, hnr]) (copied_steady HTX6.out hfair (by omega) HO7.out hbV) ⟨(fair_wide hfair).2.1, (fair_wide hfair).2.2.1⟩ (by omega)
              rw [hbx] at hrun
              have HG9 := Lib.hid hg9; clear hg9 hbV hnew hbx bx hnw hnr
              go_wp2_with (at_builtin; refine wpList_apprun rfl _ _ 24 24 rfl _ _ rfl rfl _ V9 hrun ?_)
              clear hrun
              go_wp2
              have hgn : g1.add s R x.t = fillG nb s R ((ys.take (k + 1)).map (·.t)) := by
                rw [List.take_add_one, HXK.out, List.map_append, Option.toList_some, List.map_cons, List.map_nil, fillG_snoc, ← HGF.out, HNX.out]
              go_roundw
              case rel => exact ⟨k + 1, g1.add s R x.t, _ ++ [⟨g1.txn x.t, Bw, dw, Br, dr⟩], _, rfl, by omega, by go_num, hgn, by omega, by rw [List.map_append, HMP.out]; rfl, by rw [List.length_append, List.length_singleton]; omega, HG9.out.more (Nat.le_refl _) (by omega)⟩
              case measure => simp [intOf]; omega
          · rw [hans] at hap hnext
            simp only at hap hnext
            have HAP := Lib.hid hap; clear hap hsq2 hans
            have HNX := Lib.hid hnext; clear hnext
            have hne0 : ¬ (b0 : Int) = 0 := by omega
            go_wp2_with fail
            go_region_held (fun V => V.cell? ⟨b, off + k * 3, none⟩ = some (.int .u64 (x.t.seq : Int)) ∧ V.cell? ⟨b, off + k * 3 + 1, none⟩ = some (.slice x.Aw x.nw x.cw) ∧ V.cell? ⟨b, off + k * 3 + 2, none⟩ = some (.slice x.Ar x.nr x.cr)) (assumption)
              (first
                | (go_at_call 20
                   with_reducible refine HAP.out.mono ?_
                   rintro e w6 ⟨rfl, hk6⟩
                   have h6 := HSS.out w6 hk6.turns
                   have HK6 := Lib.hid hk6
                   clear hk6))
            all_goals
              clear h5 HAP h6
              go_wp2
              have hgn : g1 = fillG nb s R ((ys.take (k + 1)).map (·.t)) := by
                rw [List.take_add_one, HXK.out, List.map_append, Option.toList_some, List.map_cons, List.map_nil, fillG_snoc, ← HGF.out, HNX.out]
              go_roundw
              case rel => exact ⟨k + 1, g1, _, _, rfl, by omega, by go_num, hgn, by omega, HMP.out, by omega, HK6.out.more (Nat.le_refl _) (by omega)⟩
              case measure => simp [intOf]; omega
    · obtain rfl : k = N := by omega
      have HG := Lib.hid hg; clear hg
      go_wp2
      refine bodyPost_ret (results_tmp4 rfl _ _ _) rfl ?_
      have hgN : g = fillG nb s R (ys.map (·.t)) := by rw [HGF.out, List.take_of_length_le (by rw [HX3.out.1]; exact Nat.le_refl _)]
      refine ⟨p, lp, lv, L, rfl, ?_⟩
      rw [← hgN]
      exact ⟨⟨w3, F2, HG.out.more (by omega) (by omega), HFL.out, HBW.out.size⟩, HLPL.out, HBW.out.trans (HG.out.turns.below (fun q e => by
        rcases e with e | e
        · exact HFL.out q e
        · have := HLPL.out; omega) HBW.out.size), HMAP.out⟩
end Go.Proofs.YtelnoibfamcnmaaGreat.Rp

namespace Go.Proofs.YtelnoibfamcnmaaGreat.Rp
set_option maxRecDepth 20000
open Go.ChangeShapes Go.WideShapes Go.ChangeAt Go.RowKit Go.Deep
open Go.Proofs.YtelnoibfamcnmaaGreat.Mem Go.Proofs.YtelnoibfamcnmaaGreat.Crc Go.Proofs.YtelnoibfamcnmaaGreat.Disk Go.Proofs.YtelnoibfamcnmaaGreat.Log Go.Proofs.YtelnoibfamcnmaaGreat.Lift
open Go.Proofs.YtelnoibfamcnmaaGreat.Rec (Tx Wt TxAt IsInt txn_part bytes_part exists_list sameB sameB_iff sameB_false same_any)

theorem area5_by_value {H : Type} {enc : TypeId × Value → H} {W : World} {b0 : Nat} {v : Value} {d : DataW H} {p : List MemPlace} (hv : Value.okWide Tryz.prog W .any b0 23 v)
    (h : DataW.Trod enc Tryz.prog W 0 (fun _ => true) true 23 v d p) : ∃ B S L : Int, v = .agg #[.int .i64 B, .int .i64 S, .int .i64 L] := by
  obtain ⟨cs, rfl, _⟩ := okWide_struct Tryz.underlying23 hv
  obtain ⟨fuel, hf⟩ := h
  obtain ⟨hl, n, hf⟩ := fields_of Tryz.underlying23 (by kernel_rfl) (by kernel_rfl) hf
  obtain ⟨cs⟩ := cs
  simp only [Value.cells] at hl hf
  match cs, hl with
  | [v0, v1, v2], _ =>
    obtain ⟨y0, h0⟩ := hf 0 _ v0 rfl rfl
    obtain ⟨y1, h1⟩ := hf 1 _ v1 rfl rfl
    obtain ⟨y2, h2⟩ := hf 2 _ v2 rfl rfl
    obtain ⟨z0, e0, _, _⟩ := DataW.trod_int Tryz.underlying3 h0
    obtain ⟨z1, e1, _, _⟩ := DataW.trod_int Tryz.underlying3 h1
    obtain ⟨z2, e2, _, _⟩ := DataW.trod_int Tryz.underlying3 h2
    simp at e0 e1 e2
    subst e0 e1 e2
    exact ⟨z0, z1, z2, rfl⟩
theorem txs_part {H : Type} {enc : TypeId × Value → H} {W : World} {v : Value} {d : DataW H} {p : List MemPlace} {fuel : Nat}
    (hf : DataW.trod enc Tryz.prog W 0 (fun _ => true) true fuel 24 [v] = some (d, p)) (hw : (d.weights Tryz.prog 24).all (· ≤ reachBytes) = true) :
    ∃ A n c xs, v = .slice A n c ∧ TxsL W W.heap.size A n xs ∧ n ≤ c ∧ c ≤ maxLen := by
  rcases open_slice Tryz.underlying24 hf with ⟨hcs, _⟩ | ⟨a, len, cap, m, k, D, Pl, hcs, _, hl, hm, hmm, hx, hel⟩
  · simp at hcs
    subst hcs
    exact ⟨none, 0, 0, [], rfl, ⟨rfl, fun h => absurd h (by omega), fun x hx => by cases hx⟩, Nat.le_refl _, Nat.zero_le _⟩
  · simp at hcs
    subst hcs
    injection hx with hd _
    have hwa : (DataW.weightsAll Tryz.prog 63 ((List.range len).map D)).all (· ≤ reachBytes) = true := by
      rw [hd] at hw
      simp only [DataW.weights, Tryz.underlying24, List.all_cons, List.all_append, Bool.and_eq_true] at hw
      exact hw.2.1
    have hC : Tryz.prog.cellsOf 63 = 3 := by kernel_rfl
    rw [hC] at hel
    rw [if_pos rfl] at hmm
    obtain rfl : cap = m := hmm.symm
    obtain ⟨xs, hxl, hxs⟩ := exists_list (p := fun i (x : TxL) => TxAt W W.heap.size x.t x.Aw x.nw x.cw x.Ar x.nr x.cr ∧ ∀ q, q < 3 → W.cell? ((a.add (i * 3)).add q) = x.cells[q]?) len (fun i hi => by
      obtain ⟨cs', hc, ht⟩ := hel i (by omega)
      obtain ⟨_, hcl, hat⟩ := World.cells?_some hc
      obtain ⟨t, Aw, nw, cw, Ar, nr, cr, hxc, hd⟩ := txn_part (d := D i) (p := Pl i) ht (weights_elem _ _ (List.mem_map.2 ⟨i, List.mem_range.2 hi, rfl⟩) hwa)
      refine ⟨⟨t, Aw, nw, cw, Ar, nr, cr⟩, hd, fun q hq => ?_⟩
      rw [hat q hq, hxc]
      rfl)
    obtain ⟨b, off, spot⟩ := a
    by_cases h0 : 0 < len
    · have h00 := (hxs 0 (by omega)).2 0 (by omega)
      have hspot : spot = none := by
        have := World.cell?_spot (h00.trans (show (xs[0]'(by omega)).cells[0]? = some _ from rfl))
        simpa [Addr.add] using this
      subst hspot
      have hbl := block_lt_of_cell (h00.trans (show (xs[0]'(by omega)).cells[0]? = some _ from rfl))
      rw [Addr.add_mid, Addr.add_mid] at hbl
      refine ⟨_, len, cap, xs, rfl, ⟨hxl, fun _ => ⟨b, off, rfl, hbl, fun j hj q hq => ?_⟩, fun x hx => ?_⟩, hl, hm⟩
      · have := (hxs j hj).2 q hq
        rwa [Addr.add_mid, Addr.add_mid] at this
      · obtain ⟨j, hj, rfl⟩ := List.getElem_of_mem hx
        exact (hxs j hj).1
    · have hn : len = 0 := by omega
      subst hn
      have : xs = [] := List.eq_nil_of_length_eq_zero hxl
      subst this
      exact ⟨_, 0, cap, [], rfl, ⟨rfl, fun h => absurd h (by omega), fun x hx => by cases hx⟩, Nat.zero_le _, hm⟩
theorem txs_of {H : Type} {enc : TypeId × Value → H} {W : World} {base : Nat} {v : Value} {d : DataW H} {p : List MemPlace} (hv : Value.okWide Tryz.prog W .any base 24 v)
    (h : DataW.Trod enc Tryz.prog W 0 (fun _ => true) true 24 v d p) (hw : (d.weights Tryz.prog 24).all (· ≤ reachBytes) = true) :
    ∃ A n c xs, v = .slice A n c ∧ TxsL W W.heap.size A n xs ∧ n ≤ c ∧ c ≤ maxLen := by
  obtain ⟨A, n, c, rfl⟩ := okWide_slice Tryz.underlying24 hv
  obtain ⟨fuel, hf⟩ := h
  exact txs_part hf hw
theorem bits_of {H : Type} {enc : TypeId × Value → H} {W : World} {base : Nat} {v : Value} {d : DataW H} {p : List MemPlace} (hv : Value.okWide Tryz.prog W .any base 25 v)
    (h : DataW.Trod enc Tryz.prog W 0 (fun _ => true) true 25 v d p) : ∃ A n c bs, v = .slice A n c ∧ Holds W W.heap.size A n bs ∧ n ≤ c ∧ c ≤ maxLen := by
  obtain ⟨A, n, c, rfl⟩ := okWide_slice Tryz.underlying25 hv
  obtain ⟨fuel, hf⟩ := h
  exact bytes_part hf

/-! ### Lists of records, as they are read in any later world -/
def ListAt (w : World) (A : Option Addr) (L : List LiveRec) : Prop := ∀ V, Below w.heap.size w V → ∀ q x, L[q]? = some x → ∃ gb, A = some ⟨gb, 0, none⟩ ∧ V.cell? ⟨gb, q * 3, none⟩ = some (.int .u64 (x.t.seq : Int)) ∧ V.cell? ⟨gb, q * 3 + 1, none⟩ = some (.slice x.Aw x.t.ws.length x.cw) ∧ V.cell? ⟨gb, q * 3 + 2, none⟩ = some (.slice x.Ar x.t.rs.length x.cr) ∧
  TxAt V V.heap.size x.t x.Aw x.t.ws.length x.cw x.Ar x.t.rs.length x.cr
theorem ListAt.later {w w' : World} {A : Option Addr} {L : List LiveRec} (h : ListAt w A L) (hb : Below w.heap.size w w') : ListAt w' A L := fun V hV => h V (hb.trans (hV.mono hb.size))
theorem ListAt.of {w : World} {G : Nat → Prop} {n s r nl c : Nat} {A : Option Addr} {L : List LiveRec} (h : Live w G n s r (.slice A nl c) nl L) : ListAt w A L := fun V hV q x hx => by
  have hr := h.row.turns (Turns.of_below (F := fun _ => False) hV) (fun _ _ e => e)
  obtain ⟨g, cap, hv, -, e0, e1, e2⟩ := Row.cells3 hr hx
  injection hv with hv1 _ _
  exact ⟨g, hv1, e0, e1, e2, h.stays x (List.mem_of_getElem? hx) V (Turns.of_below hV)⟩
set_option maxHeartbeats 2000000 in
theorem sameall_eq (w : World) (A A' : Option Addr) (nl c c' : Nat) (L L' : List LiveRec) (h : ListAt w A L) (h' : ListAt w A' L') (hl : L.length = nl) (hm : L.map (·.t) = L'.map (·.t)) (hn : nl ≤ 1048576) :
    Calls Tryz.prog 12 #[.slice A nl c, .slice A' nl c'] w fun e w' => e = .returned (.bool true) ∧ Below w.heap.size w w' := by
  have hl' : L'.length = nl := by have := congrArg List.length hm; rw [List.length_map, List.length_map] at this; omega
  have HL := Lib.hid hl; clear hl
  have HL' := Lib.hid hl'; clear hl'
  have H := Lib.hid h; clear h
  have H' := Lib.hid h'; clear h'
  have HM := Lib.hid hm; clear hm
  go_enter Tryz.func12, Tryz.ntmps12
  go_wp2_with fail
  go_loopw [5] (fun iv wr => ∃ k : Nat, k ≤ nl ∧ iv = .int .i64 (k : Int) ∧ Below w.heap.size w wr) (fun iv _ => nl - (intOf iv).toNat)
  case atStart => exact ⟨0, Nat.zero_le _, rfl, Below.refl _ _⟩
  case round =>
    obtain ⟨k, hk, rfl, hb⟩ := hrel
    rcases Nat.lt_or_ge k nl with hlt | hge
    · obtain ⟨x, hx⟩ : ∃ x, L[k]? = some x := ⟨_, List.getElem?_eq_getElem (by rw [HL.out]; exact hlt)⟩
      obtain ⟨y, hy⟩ : ∃ y, L'[k]? = some y := ⟨_, List.getElem?_eq_getElem (by rw [HL'.out]; exact hlt)⟩
      have hxy : x.t = y.t := by
        have := congrArg (fun l => l[k]?) HM.out
        simp only [List.getElem?_map, hx, hy] at this
        simpa using this
      have hbd : Below w.heap.size w wr.drew := hb.trans ((Below.refl _ wr).drew.mono hb.size)
      obtain ⟨g, rfl, a0, a1, a2, at1⟩ := H.out wr.drew hbd k x hx
      obtain ⟨g', rfl, b0, b1, b2, bt1⟩ := H'.out wr.drew hbd k y hy
      have hsm := same_any x.t y.t x.Aw x.Ar _ x.cw _ x.cr _ y.Aw y.Ar _ y.cw _ y.cr _ wr.drew at1 (Nat.le_refl _) bt1 (Nat.le_refl _) (by have := at1.fits.2.1; omega) (by have := at1.fits.2.2.2; omega)
      rw [(sameB_iff x.t y.t).2 hxy] at hsm
      have HSM := Lib.hid hsm; clear hsm
      have hkk : (k : Int) < (nl : Int) := by omega
      have HB := Lib.hid hb; clear hb hbd
      have hS : (wr.drew.cell? ⟨g, k * 3, none⟩ = some (.int .u64 (x.t.seq : Int)) ∧ wr.drew.cell? ⟨g, k * 3 + 1, none⟩ = some (.slice x.Aw x.t.ws.length x.cw) ∧ wr.drew.cell? ⟨g, k * 3 + 2, none⟩ = some (.slice x.Ar x.t.rs.length x.cr)) ∧
          wr.drew.cell? ⟨g', k * 3, none⟩ = some (.int .u64 (y.t.seq : Int)) ∧ wr.drew.cell? ⟨g', k * 3 + 1, none⟩ = some (.slice y.Aw y.t.ws.length y.cw) ∧ wr.drew.cell? ⟨g', k * 3 + 2, none⟩ = some (.slice y.Ar y.t.rs.length y.cr) := ⟨⟨a0, a1, a2⟩, b0, b1, b2⟩
      have h2 : ∀ V, Below wr.drew.heap.size wr.drew V → (V.cell? ⟨g, k * 3, none⟩ = some (.int .u64 (x.t.seq : Int)) ∧ V.cell? ⟨g, k * 3 + 1, none⟩ = some (.slice x.Aw x.t.ws.length x.cw) ∧ V.cell? ⟨g, k * 3 + 2, none⟩ = some (.slice x.Ar x.t.rs.length x.cr)) ∧
          V.cell? ⟨g', k * 3, none⟩ = some (.int .u64 (y.t.seq : Int)) ∧ V.cell? ⟨g', k * 3 + 1, none⟩ = some (.slice y.Aw y.t.ws.length y.cw) ∧ V.cell? ⟨g', k * 3 + 2, none⟩ = some (.slice y.Ar y.t.rs.length y.cr) := fun V hV =>
        ⟨⟨(hV.cell (p := ⟨g, k * 3, none⟩) (block_lt_of_cell a0)).trans a0, (hV.cell (p := ⟨g, k * 3 + 1, none⟩) (block_lt_of_cell a1)).trans a1, (hV.cell (p := ⟨g, k * 3 + 2, none⟩) (block_lt_of_cell a2)).trans a2⟩,
          (hV.cell (p := ⟨g', k * 3, none⟩) (block_lt_of_cell b0)).trans b0, (hV.cell (p := ⟨g', k * 3 + 1, none⟩) (block_lt_of_cell b1)).trans b1, (hV.cell (p := ⟨g', k * 3 + 2, none⟩) (block_lt_of_cell b2)).trans b2⟩
      have H2 := Lib.hid h2; clear h2
      clear a0 a1 a2 b0 b1 b2 at1 bt1 hxy hx hy
      go_wp2_with fail
      go_region_held (fun V => (V.cell? ⟨g, k * 3, none⟩ = some (.int .u64 (x.t.seq : Int)) ∧ V.cell? ⟨g, k * 3 + 1, none⟩ = some (.slice x.Aw x.t.ws.length x.cw) ∧ V.cell? ⟨g, k * 3 + 2, none⟩ = some (.slice x.Ar x.t.rs.length x.cr)) ∧
          V.cell? ⟨g', k * 3, none⟩ = some (.int .u64 (y.t.seq : Int)) ∧ V.cell? ⟨g', k * 3 + 1, none⟩ = some (.slice y.Aw y.t.ws.length y.cw) ∧ V.cell? ⟨g', k * 3 + 2, none⟩ = some (.slice y.Ar y.t.rs.length y.cr)) (assumption)
        (first
          | (go_at_call 40
             with_reducible refine HSM.out.mono ?_
             rintro e w4 ⟨rfl, hb4⟩
             have hS4 := H2.out w4 hb4
             have HB4 := Lib.hid (HB.out.trans (((Below.refl _ wr).drew.trans hb4).mono HB.out.size))
             clear hb4))
      all_goals
        clear hS hS4
        go_wp2
        go_roundw
        case rel => exact ⟨k + 1, by omega, by go_num, HB4.out⟩
        case measure => simp [intOf]; omega
    · obtain rfl : k = nl := by omega
      have HB := Lib.hid hb; clear hb
      go_wp2
      go_ret
      exact ⟨rfl, HB.out⟩

/-! ### The disk of a filled log, as it goes on -/
theorem Homing.crash {W wr : World} {p c : Nat} {F : Nat → Prop} {d : Dk.Dk} (h : Homing W p F wr d c) (hc : c ≤ 1048576) (A : Option Addr) (nb cb B : Nat) (bits : List UInt8) (hbits : ∀ V, Below B wr V → Holds V B A nb bits) (hF : ∀ q, F q → B ≤ q) (hB : B ≤ W.heap.size) (hnb : nb ≤ maxLen) :
    Calls Tryz.prog 8 #[.pointer (some ⟨p, 0, none⟩), .slice A nb cb] wr fun e w' => e = .returned (.tuple #[]) ∧ Homing W p F w' (d.crash bits) 0 := by
  obtain ⟨F', hD, hF', hT⟩ := h
  have hs := hT.size
  exact (crash_d A nb cb B bits d p c F' wr hD hc (fun V hV => hbits V (hV.below (fun q e => by
    rcases hF' q e with e | e
    · exact hF q e
    · omega) (by omega))) hnb).mono fun e w' h2 => Homing.now hF' hT h2
theorem Filled.parts {w wr : World} {p lp s r n : Nat} {g : Lg} {v : Value} {L : List LiveRec} (h : Filled w wr p lp s r n g v L) :
    ∃ c F A cc, DiskAt wr p g.d c F ∧ c ≤ 16100 ∧ (∀ q, F q → w.heap.size ≤ q) ∧ (∃ u, LogAt wr lp p (s : Int) (r : Int) g.seq g.pl g.used u) ∧ ¬ F lp ∧ lp < wr.heap.size ∧ v = .slice A L.length cc ∧ Live wr (fun q => F q ∨ q = lp) n s r v L.length L ∧ (∀ q, v.ownBlock = some q → ¬ F q ∧ q ≠ lp) := by
  obtain ⟨w3, F0, hr, hF0, hz⟩ := h.run
  obtain ⟨F1, hK, hF1, hlt, hlp, hown, hL⟩ := hr.log
  obtain ⟨c, F, u, hD, hc, hF, hlog, hnl⟩ := hK.disk
  have hFF : ∀ q, F q → F1 q := fun q e => by
    rcases hF q e with e' | e'
    · exact e'
    · have := hD.lt q e; omega
  obtain ⟨A, cc, rfl⟩ := Row.shape hL.row
  refine ⟨c, F, A, cc, hD, hc, fun q e => ?_, ⟨u, hlog⟩, hnl, hlp, rfl, hL.mono (fun q _ e => e.imp (hFF q) .inl), fun q e => ⟨fun e' => (hown q e).1 (hFF q e'), (hown q e).2⟩⟩
  rcases hF1 q (hFF q e) with e | e
  · exact hF0 q e
  · omega
end Go.Proofs.YtelnoibfamcnmaaGreat.Rp
