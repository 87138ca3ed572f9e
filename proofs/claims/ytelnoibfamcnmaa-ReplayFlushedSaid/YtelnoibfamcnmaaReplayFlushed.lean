/- ReplayFlushed: for every area, records and bits, what was flushed into the log comes home through a crash just as it would have come without one. -/
import Derived.Test.YtelnoibfamcnmaaRpArg
namespace Go.Proofs.Ytelnoibfamcnmaa.ReplayFlushed
set_option maxRecDepth 20000
open Go.ChangeShapes Go.WideShapes Go.ChangeAt Go.RowKit
open Go.Proofs.Ytelnoibfamcnmaa.Mem Go.Proofs.Ytelnoibfamcnmaa.Lift Go.Proofs.Ytelnoibfamcnmaa.Crc Go.Proofs.Ytelnoibfamcnmaa.Disk Go.Proofs.Ytelnoibfamcnmaa.Log Go.Proofs.Ytelnoibfamcnmaa.Rp
open Go.Proofs.Ytelnoibfamcnmaa.Rec (Tx Wt TxAt)

theorem flushed_plain {n s r : Nat} {g : Lg} {s0 p0 : Nat} (h : Inv n s r g s0 p0) (hq : g.seq ≤ 1048576) (bits : List UInt8) :
    (g.d.flush.crash bits).Ok ∧ (g.d.flush.crash bits).stable.length = n ∧ okH ((g.d.flush.crash bits).read s) r = true ∧ chainD (g.d.flush.crash bits) s r = g.ts ∧ seqD (g.d.flush.crash bits) s r = g.seq + (r + 1) ∧
      (∀ i, i < n → ¬ (s ≤ i ∧ i ≤ s + r) → (recD (g.d.flush.crash bits) s r).read i = (g.home s).d.read i) := by
  have hroom := h.room
  have hsq := h.seq
  have hok := Dk.crash_ok _ (Dk.flush_ok g.d h.ok) bits
  have hsz : (g.d.flush.crash bits).stable.length = n := by rw [Dk.size_crash, Dk.size_flush]; exact h.size
  have hrd : ∀ i, i < n → (g.d.flush.crash bits).read i = g.d.read i := fun i hi => by
    have hp := (flush_pend g.d h.free).1
    rw [crash_read, hp]
    show g.d.flush.stable.getD i [] = _
    rw [flush_stable h.ok h.free (by rw [h.size]; exact hi)]
  have hhd : (g.d.flush.crash bits).read s = headH s0 p0 := by rw [hrd s (by omega), head_read h.ok h.free h.calm, h.head]
  have hch : chainD (g.d.flush.crash bits) s r = g.ts := chain_whole h (by omega) _ hsz (fun i h1 h2 => hrd i (by omega))
  have hlen : g.ts.length ≤ r := Nat.le_trans (len_sum g.ts) h.place.2.2.2
  refine ⟨hok, hsz, by rw [hhd]; exact head_good h (by omega), hch, ?_, fun i hi ho => ?_⟩
  · unfold seqD
    rw [hch, hhd, seqH_head _ _ (by omega), Nat.mod_eq_of_lt (by omega), hsq]
  · have hfit : ∀ t ∈ g.ts, FitT n t := fun t ht => fit_fair (h.fair t ht)
    have hb := (recD_parts _ hok s r (by omega) (by rw [hsz]; omega)).2.2.2
    rw [recD_read _ hok s r (by omega) (by rw [hsz]; omega), if_neg (by omega), if_neg (by omega), hch]
    unfold Lg.home
    split
    · rename_i h0
      rw [h0]
      exact hrd i hi
    · show _ = (homeD s g.seq g.pl g.d g.ts).read i
      rw [homeD_read s g.seq g.pl g.d g.ts h.ok (by rw [h.size]; exact hfit) (by rw [h.size]; omega), if_neg (by omega)]
      exact homeL_congr _ i g.ts _ _ hok (Dk.flush_ok g.d h.ok) (by rw [hsz, Dk.size_flush, h.size]) (by rw [hsz]; exact hfit) (by rw [hrd i hi, Dk.read_flush g.d h.ok])

set_option maxRecDepth 100000 in
set_option maxHeartbeats 4000000 in
theorem walk_bad (B S L : Int) (v u : Value) (w : World) (h : ∀ w1, Calls Try.prog 48 #[.agg #[.int .i64 B, .int .i64 S, .int .i64 L], v] w1 (Unfilled w1)) :
    Calls Try.prog 12 #[.agg #[.int .i64 B, .int .i64 S, .int .i64 L], v, u] w fun e w' => e = .returned (.bool true) ∧ Below w.heap.size w w' := by
  have hx0 : Hid ((w.alloc (.cells #[.int .i64 B, .int .i64 S, .int .i64 L] 85)).heap[w.heap.size]? = some (.cells #[.int .i64 B, .int .i64 S, .int .i64 L] 85 (0, 0))) := Lib.hid (heap_alloc_new w _)
  have hb0 : Hid (Below w.heap.size w (w.alloc (.cells #[.int .i64 B, .int .i64 S, .int .i64 L] 85))) := Lib.hid ((Below.refl _ _).alloc (Nat.le_refl _) _)
  have HOP := Lib.hid h; clear h
  go_enter Try.func12, Try.ntmps12
  go_wp2_with fail
  generalize w.alloc (.cells #[.int .i64 B, .int .i64 S, .int .i64 L] 85) = W at hx0 hb0 ⊢
  with_reducible refine (Rp.alive_any W).mono ?_
  rintro e w1 ⟨rfl, hb1⟩
  have hx1 := (hb1.block _ (Array.getElem?_eq_some_iff.1 hx0.out).1).trans hx0.out
  have q0 : w1.cell? ⟨w.heap.size, 0, none⟩ = some (.int .i64 B) := cell_of_row w1 _ 0 _ _ _ hx1
  have q1 : w1.cell? ⟨w.heap.size, 1, none⟩ = some (.int .i64 S) := cell_of_row w1 _ 1 _ _ _ hx1
  have q2 : w1.cell? ⟨w.heap.size, 2, none⟩ = some (.int .i64 L) := cell_of_row w1 _ 2 _ _ _ hx1
  have HB1 : Hid (Below w.heap.size w w1) := Lib.hid (hb0.out.trans (hb1.mono hb0.out.size))
  clear hx1 hb1 hx0 hb0
  have hop := HOP.out w1
  have HOP1 := Lib.hid hop; clear hop HOP
  go_wp2_with fail
  with_reducible refine HOP1.out.mono ?_
  rintro e w2 ⟨rfl, hb2⟩
  have HB2 : Hid (Below w.heap.size w w2) := Lib.hid (HB1.out.trans (hb2.mono HB1.out.size))
  clear hb2 HOP1 q0 q1 q2 HB1
  go_wp2
  go_ret
  exact ⟨rfl, HB2.out⟩

set_option maxRecDepth 100000 in
set_option maxHeartbeats 4000000 in
theorem walk_good (nb s l : Nat) (A : Option Addr) (n c : Nat) (xs : List TxL) (Ab : Option Addr) (bn bc : Nat) (bits : List UInt8) (w : World) (hx : TxsL w w.heap.size A n xs) (hnc : n ≤ c) (hcm : c ≤ maxLen) (hbt : Holds w w.heap.size Ab bn bits) (hbn : bn ≤ maxLen) (hn2 : nb ≤ 1024) (h8 : 8 ≤ l) (hl2 : l ≤ 1024) (hs : s + l ≤ nb) :
    Calls Try.prog 12 #[.agg #[.int .i64 (nb : Int), .int .i64 (s : Int), .int .i64 (l : Int)], .slice A n c, .slice Ab bn bc] w fun e w' => e = .returned (.bool true) ∧ Below w.heap.size w w' := by
  have hx0 : Hid ((w.alloc (.cells #[.int .i64 (nb : Int), .int .i64 (s : Int), .int .i64 (l : Int)] 85)).heap[w.heap.size]? = some (.cells #[.int .i64 (nb : Int), .int .i64 (s : Int), .int .i64 (l : Int)] 85 (0, 0))) := Lib.hid (heap_alloc_new w _)
  have hb0 : Hid (Below w.heap.size w (w.alloc (.cells #[.int .i64 (nb : Int), .int .i64 (s : Int), .int .i64 (l : Int)] 85))) := Lib.hid ((Below.refl _ _).alloc (Nat.le_refl _) _)
  have HX := Lib.hid hx; clear hx
  have HBT := Lib.hid hbt; clear hbt
  go_enter Try.func12, Try.ntmps12
  go_wp2_with fail
  generalize w.alloc (.cells #[.int .i64 (nb : Int), .int .i64 (s : Int), .int .i64 (l : Int)] 85) = W at hx0 hb0 ⊢
  with_reducible refine (Rp.alive_any W).mono ?_
  rintro e w1 ⟨rfl, hb1⟩
  have hwW : w.heap.size < W.heap.size := (Array.getElem?_eq_some_iff.1 hx0.out).1
  have hz1 : w.heap.size < w1.heap.size := by have := hb1.size; omega
  have hx1 := (hb1.block _ hwW).trans hx0.out
  have hbox : ∀ V, Below w1.heap.size w1 V → V.cell? ⟨w.heap.size, 0, none⟩ = some (.int .i64 (nb : Int)) ∧ V.cell? ⟨w.heap.size, 1, none⟩ = some (.int .i64 (s : Int)) ∧ V.cell? ⟨w.heap.size, 2, none⟩ = some (.int .i64 (l : Int)) := fun V hV => by
    have e0 := (hV.block _ hz1).trans hx1
    exact ⟨cell_of_row V _ 0 _ _ _ e0, cell_of_row V _ 1 _ _ _ e0, cell_of_row V _ 2 _ _ _ e0⟩
  obtain ⟨q0, q1, q2⟩ := hbox w1 (Below.refl _ _)
  have HBOX := Lib.hid hbox; clear hbox
  have hb1w := hb0.out.trans (hb1.mono hb0.out.size)
  have hfi := fun w1' (hw1' : Below w.heap.size w w1') => filled_ok nb s l A n c xs w1' ((HX.out.below hw1').more hw1'.size) hnc hcm hn2 h8 hl2 hs
  obtain ⟨g, hg⟩ : ∃ g, g = fillG nb s (l - 1) ((xs.take (few16 n)).map (·.t)) := ⟨_, rfl⟩
  have hlen : ((xs.take (few16 n)).map (·.t)).length ≤ 16 := by rw [List.length_map, List.length_take]; unfold few16; split <;> omega
  obtain ⟨⟨s0, p0, hinv⟩, hsq⟩ := fillG_inv nb s (l - 1) (by omega) ((xs.take (few16 n)).map (·.t)) (by omega)
  rw [← hg] at hfi hinv hsq
  have hsq : g.seq ≤ 17 := by omega
  clear hg hlen
  obtain ⟨r, hr⟩ : ∃ r, r = l - 1 := ⟨_, rfl⟩
  rw [← hr] at hfi hinv
  obtain ⟨k1, k2, k3, k4, k5, k6⟩ := flushed_plain hinv (by omega) bits
  have hroom := hinv.room
  have HFI := Lib.hid hfi; clear hfi
  have HB1 := Lib.hid hb1w; clear hb1w hb1 hx0 hb0 hx1
  have HINV := Lib.hid hinv; clear hinv
  have hrl : r + 1 = l := by omega
  have HR := Lib.hid hr; clear hr
  rw [hrl] at k5
  have HRL := Lib.hid hrl; clear hrl
  obtain ⟨d1, hd1⟩ : ∃ d1, d1 = g.d.flush.crash bits := ⟨_, rfl⟩
  rw [← hd1] at k1 k2 k3 k4 k5 k6
  have HD1 := Lib.hid hd1; clear hd1
  have K3 := Lib.hid k3; clear k3
  have K4 := Lib.hid k4; clear k4
  have K5 := Lib.hid k5; clear k5
  have K6 := Lib.hid k6; clear k6
  have hfi1 := HFI.out w1 HB1.out
  have HFI1 := Lib.hid hfi1; clear hfi1
  go_wp2_with fail
  with_reducible refine HFI1.out.mono ?_
  rintro e w2 ⟨p, lp, v, L, rfl, hfd⟩
  clear HFI1 q0 q1 q2
  obtain ⟨cd, F, A2, c2, hD, hcd, hF, ⟨u2, hlog⟩, hnl, hlpl, rfl, hlive, hown⟩ := hfd.parts
  have hmap := hfd.map
  have hz2 := hfd.below.size
  have hkeep : ∀ V, Turns F w2 V → Below w1.heap.size w1 V ∧ LogAt V lp p (s : Int) (r : Int) g.seq g.pl g.used u2 := fun V hV =>
    ⟨hfd.below.trans (hV.below hF hz2), (hV.block lp hlpl hnl).trans hlog⟩
  have hfl := (Homing.start hD).flush (by omega)
  have hnlen : L.length = g.ts.length := by rw [← hmap, List.length_map]
  obtain ⟨nl, hnl2⟩ : ∃ nl, nl = L.length := ⟨_, rfl⟩
  rw [← hnl2] at hnlen ⊢
  have HFL := Lib.hid hfl; clear hfl hD hlive hown hfd hmap hnl2
  have HKEEP := Lib.hid hkeep; clear hkeep hlog
  have HF := Lib.hid hF; clear hF
  have HNL := Lib.hid hnlen; clear hnlen
  go_wp2_with fail
  with_reducible refine HFL.out.mono ?_
  rintro e w3 ⟨rfl, hh3⟩
  clear HFL
  have hB3 := (HKEEP.out w3 hh3.turns).1
  have hcr := Rp.Homing.crash hh3 (by omega) Ab bn bc w.heap.size bits (fun V hV => HBT.out.below ((HB1.out.trans (hB3.mono HB1.out.size)).trans hV)) (fun q e => by have := HF.out q e; omega) (by omega) hbn
  rw [← HD1.out] at hcr
  have HCR := Lib.hid hcr; clear hcr hh3 hB3
  go_wp2_with fail
  with_reducible refine HCR.out.mono ?_
  rintro e w4 ⟨rfl, hh4⟩
  clear HCR
  obtain ⟨-, q1, q2⟩ := HBOX.out w4 (HKEEP.out w4 hh4.turns).1
  have hrc : Calls Try.prog 54 #[.pointer (some ⟨p, 0, none⟩), .int .i64 (s : Int), .int .i64 (l : Int)] w4 fun e w' => e = .returned (.tuple #[.int .i64 (nl : Int), .int .i64 0]) ∧ Homing w2 p F w' (recD d1 s r) (0 + 62464) := by
    obtain ⟨F4, hD4, hF4, hT4⟩ := hh4
    have := recover_ok s l d1 p 0 F4 w4 hD4 (by omega) h8 hl2 (by omega) (HR.out ▸ K3.out)
    rw [← HR.out, K4.out, ← HNL.out] at this
    exact this.mono fun e w' h => ⟨h.1, h.2.comp hF4 hT4⟩
  have HRC := Lib.hid hrc; clear hrc hh4
  go_wp2_with fail
  with_reducible refine HRC.out.mono ?_
  rintro e w5 ⟨rfl, hh5⟩
  clear HRC q1 q2
  obtain ⟨-, q1, q2⟩ := HBOX.out w5 (HKEEP.out w5 hh5.turns).1
  obtain ⟨sq2, hsq2⟩ : ∃ sq2, sq2 = seqD d1 s r := ⟨_, rfl⟩
  obtain ⟨bk2, hbk2⟩ : ∃ bk2, bk2 = backD d1 s r := ⟨_, rfl⟩
  have hrh := recD_head d1 k1 s r (by omega) (by omega) (by omega)
  rw [← hsq2, ← hbk2] at hrh
  have hop : Calls Try.prog 33 #[.pointer (some ⟨p, 0, none⟩), .int .i64 (s : Int), .int .i64 (l : Int)] w5 fun e w' => ∃ lp2, e = .returned (.tuple #[.pointer (some ⟨lp2, 0, none⟩), .int .i64 0]) ∧ LogAt w' lp2 p (s : Int) (r : Int) sq2 bk2 0 (.slice none 0 0) ∧ w5.heap.size ≤ lp2 ∧ Below w5.heap.size w5 w' := by
    obtain ⟨F5, hD5, hF5, hT5⟩ := hh5
    have := open_d s l _ _ rfl rfl (recD d1 s r) p _ F5 w5 hD5 (by omega) h8 (by rw [recD_size, k2]; exact hs) (by rw [← HR.out]; exact hrh.1)
    rw [hrh.2.1, hrh.2.2, show (l : Int) - 1 = (r : Int) by have := HRL.out; omega] at this
    exact this
  have HOP := Lib.hid hop; clear hop
  have HH5 := Lib.hid hh5; clear hh5 hrh
  have HSQ2 : Hid (sq2 = g.seq + l) := Lib.hid (hsq2.trans K5.out); clear hsq2 hbk2
  go_wp2_with fail
  with_reducible refine HOP.out.mono ?_
  rintro e w6 ⟨l2, rfl, hlog6, -, hb6⟩
  clear HOP q1 q2
  have hh6 := HH5.out.later hb6
  have hk6 := HKEEP.out w6 hh6.turns
  have hlw6 : lp < w6.heap.size := (Array.getElem?_eq_some_iff.1 hk6.2).1
  obtain ⟨q0, q1, q2⟩ := HBOX.out w6 hk6.1
  have hB6 := HB1.out.trans (hk6.1.mono HB1.out.size)
  obtain ⟨F6, hD6, -, -⟩ := hh6
  have hfi2 := HFI.out w6 hB6
  have HFI2 := Lib.hid hfi2; clear hfi2 HFI
  have HD6 := Lib.hid hD6; clear hD6 HH5
  have HL6 := Lib.hid hlog6; clear hlog6
  have HLP6 := Lib.hid hk6.2
  have HB16 := Lib.hid hk6.1; clear hk6 HKEEP
  have HB6 := Lib.hid hB6; clear hB6 hb6
  go_wp2_with fail
  with_reducible refine HFI2.out.mono ?_
  rintro e w7 ⟨p7, lp7, v7, L7, rfl, hfd7⟩
  clear HFI2 q0 q1 q2
  obtain ⟨w73, F70, hr7, hF70, hz73⟩ := hfd7.run
  obtain ⟨F71, hK7, hF71, -⟩ := hr7.call
  have hlo7 := hfd7.low
  have hb67 := hfd7.below
  have hF71w : ∀ q, F71 q → w6.heap.size ≤ q := fun q e => by
    rcases hF71 q e with e | e
    · exact hF70 q e
    · omega
  have hhm := home_kn w7 w7 lp7 p7 s r nb 16 16100 F71 _ g hK7 (by omega)
  have HHM := Lib.hid hhm; clear hhm hr7 hK7 hF71 hfd7
  go_wp2_with fail
  with_reducible refine HHM.out.mono ?_
  rintro e w8 ⟨rfl, hk8⟩
  clear HHM
  have hb68 : Below w6.heap.size w6 w8 := hb67.trans (hk8.turns.below (fun q e => by
    rcases e with e | e
    · exact hF71w q e
    · omega) hb67.size)
  obtain ⟨c8, F8, u8, hD8, hc8, -, -, -⟩ := hk8.disk
  have hnx1 := next_any lp p g.seq g.pl g.used (s : Int) (r : Int) u2 w8 ((hb68.block lp hlw6).trans HLP6.out)
  have HNX1 := Lib.hid hnx1; clear hnx1 hk8 hb67
  have HD8 := Lib.hid hD8; clear hD8
  have HB68 := Lib.hid hb68; clear hb68
  go_wp2_with fail
  with_reducible refine HNX1.out.mono ?_
  rintro e w9 ⟨rfl, hb9⟩
  clear HNX1
  have hb69 := HB68.out.trans (hb9.mono HB68.out.size)
  have hnx2 := next_any l2 p sq2 bk2 0 (s : Int) (r : Int) _ w9 ((hb69.block l2 (Array.getElem?_eq_some_iff.1 HL6.out).1).trans HL6.out)
  have HNX2 := Lib.hid hnx2; clear hnx2
  have HB89 := Lib.hid hb9; clear hb9
  have HB69 := Lib.hid hb69; clear hb69
  go_wp2_with fail
  with_reducible refine HNX2.out.mono ?_
  rintro e wc ⟨rfl, hbc⟩
  clear HNX2
  have hb8c := HB89.out.trans (hbc.mono HB89.out.size)
  have hb6c := HB69.out.trans (hbc.mono HB69.out.size)
  have hd1 : ∀ V, Below wc.heap.size wc V → DiskAt V p (recD d1 s r) (0 + 62464) F6 := fun V hV => HD6.out.turns (Turns.of_below (F := fun _ => False) (hb6c.trans (hV.mono hb6c.size))) (fun _ _ e => e)
  have hd2 : ∀ V, Below wc.heap.size wc V → DiskAt V p7 (g.home s).d c8 F8 := fun V hV => HD8.out.turns (Turns.of_below (F := fun _ => False) (hb8c.trans (hV.mono hb8c.size))) (fun _ _ e => e)
  have hbx : ∀ V, Below wc.heap.size wc V → V.cell? ⟨w.heap.size, 0, none⟩ = some (.int .i64 (nb : Int)) ∧ V.cell? ⟨w.heap.size, 1, none⟩ = some (.int .i64 (s : Int)) ∧ V.cell? ⟨w.heap.size, 2, none⟩ = some (.int .i64 (l : Int)) := fun V hV => HBOX.out V (HB16.out.trans ((hb6c.trans (hV.mono hb6c.size)).mono HB16.out.size))
  have hwc := HB6.out.trans (hb6c.mono HB6.out.size)
  have HWC := Lib.hid hwc; clear hwc hb8c hb6c hbc
  have DA := Lib.hid hd1; clear hd1
  have DB := Lib.hid hd2; clear hd2
  have HBX := Lib.hid hbx; clear hbx
  have hszh : (g.home s).d.stable.length = nb := by
    obtain ⟨s1, p1, hi⟩ := inv_home HINV.out
    exact hi.size
  have HSZH := Lib.hid hszh; clear hszh
  have hwl : IntKind.u64.wrap (l : Int) = (l : Int) := wrap_is l (by omega)
  have hws : IntKind.u64.wrap ((g.seq : Int) + (l : Int)) = (sq2 : Int) := by rw [wrap_add, HSQ2.out, Nat.mod_eq_of_lt (by omega)]
  have hsl : IntKind.i64.wrap ((s : Int) + (l : Int)) = (s : Int) + (l : Int) := wrap_i64 _ (by omega)
  clear HB16 HB6 HD6 HD8 HL6 HLP6 HB68 HB69 HB89 hF71w HF HBOX
  go_wp2_with fail
  go_loopw [23] (fun iv wv => ∃ k : Nat, k ≤ nb ∧ iv = .int .i64 (k : Int) ∧ Below wc.heap.size wc wv) (fun iv _ => nb - (intOf iv).toNat)
  case atStart => exact ⟨0, Nat.zero_le _, rfl, Below.refl _ _⟩
  case round =>
    obtain ⟨k, hk, rfl, hb⟩ := hrel
    obtain ⟨q0, q1, q2⟩ := HBX.out wr hb
    rcases Nat.lt_or_ge k nb with hlt | hge
    · have hkk : (k : Int) < (nb : Int) := by omega
      by_cases hin : s ≤ k ∧ k < s + l
      · have c1 : (s : Int) ≤ (k : Int) := by omega
        have c2 : (k : Int) < (s : Int) + (l : Int) := by omega
        have HB := Lib.hid hb; clear hb
        go_wp2
        first
          | (exact ⟨⟨k + 1, by omega, by simp, HB.out⟩, by simp [intOf]; omega⟩)
          | (go_roundw
             case rel => exact ⟨k + 1, by omega, by go_num, HB.out⟩
             case measure => simp [intOf]; omega)
      · have heq := K6.out k hlt (by have := HRL.out; omega)
        have r1 := readB_d k (recD d1 s r) p _ F6 wr (DA.out wr hb) (by omega) (by rw [recD_size]; omega)
        have HB := Lib.hid hb; clear hb
        have R1 := Lib.hid r1; clear r1
        have HEQ := Lib.hid heq; clear heq
        obtain ⟨bb, hbb⟩ : ∃ bb, bb = decide (s ≤ k) := ⟨_, rfl⟩
        have e1 : decide ((s : Int) ≤ (k : Int)) = bb := by rw [hbb]; exact decide_eq_decide.2 (by omega)
        have e2 : decide (s ≤ k) = bb := hbb.symm
        have e3 : bb = true → decide ((k : Int) < (s : Int) + (l : Int)) = false := fun h => decide_eq_false (by rw [hbb] at h; have := of_decide_eq_true h; omega)
        have e4 : bb = true → decide (k < s + l) = false := fun h => decide_eq_false (by rw [hbb] at h; have := of_decide_eq_true h; omega)
        have E3 := Lib.hid e3; clear e3
        have E4 := Lib.hid e4; clear e4 hbb hin
        cases bb
        case' false =>
          have m1 : (k : Int) < (s : Int) := by have := of_decide_eq_false e1; omega
          go_wp2_with fail
        case' true =>
          have m1 : (s : Int) ≤ (k : Int) := of_decide_eq_true e1
          have m2 : (s : Int) + (l : Int) ≤ (k : Int) := by have := of_decide_eq_false (E3.out rfl); omega
          have m3 := E3.out rfl
          have m4 := E4.out rfl
          go_wp2_with fail
        all_goals
          with_reducible refine R1.out.mono ?_
          rintro e wd ⟨b1, rfl, hh1, hbd⟩
          have hbrd := HB.out.trans (hbd.mono HB.out.size)
          have r2 := readB_d k (g.home s).d p7 c8 F8 wd (DB.out wd hbrd) (by omega) (by rw [HSZH.out]; omega)
          have R2 := Lib.hid r2; clear r2
          have HH1 := Lib.hid hh1; clear hh1
          have HBD := Lib.hid hbrd; clear hbrd hbd
          go_wp2_with fail
          with_reducible refine R2.out.mono ?_
          rintro e we ⟨b2, rfl, hh2, hbe⟩
          have u1 := run_text we _ _ 256 256 _ (HH1.out.below hbe)
          rw [HEQ.out] at u1
          have u2 := run_text we _ _ 256 256 _ hh2
          have HBE := Lib.hid (HBD.out.trans (hbe.mono HBD.out.size)); clear hbe hh2
          go_wp2
          first
            | (exact ⟨⟨k + 1, by omega, by simp, HBE.out⟩, by simp [intOf]; omega⟩)
            | (go_roundw
               case rel => exact ⟨k + 1, by omega, by go_num, HBE.out⟩
               case measure => simp [intOf]; omega)
    · obtain rfl : k = nb := by omega
      have HB := Lib.hid hb; clear hb
      go_wp2
      go_ret
      exact ⟨by simp, HWC.out.trans (HB.out.mono HWC.out.size)⟩

theorem walks : Walks 12 Try.f12 All := by
  intro H enc W base args ds p hval hA hsz _
  rw [Try.params12] at hA hval hsz
  obtain ⟨v0, vs0, d0, ds0, p0, q0, hargs, rfl, rfl, h0, r0⟩ := trodAll_cons hA
  obtain ⟨v1, vs1, d1, ds1, p1, q1, rfl, rfl, rfl, h1, r1⟩ := trodAll_cons r0
  obtain ⟨v2, vs2, d2, ds2, p2, q2, rfl, rfl, rfl, h2, r2⟩ := trodAll_cons r1
  obtain ⟨rfl, rfl, rfl⟩ := trodAll_nil r2
  obtain rfl : args = #[v0, v1, v2] := by cases args; simp_all
  obtain ⟨B, S, L, rfl⟩ := area5_by_value (hval 0 _ v0 rfl rfl) h0
  have hw : (d1.weights Try.prog 70).all (· ≤ reachBytes) = true := List.all_eq_true.2 fun x hx => List.all_eq_true.1 hsz _ (DataW.weights_mem_each (j := 1) rfl rfl x hx)
  obtain ⟨A, n, c, xs, rfl, hx, hn, hc⟩ := txs_of (hval 1 _ v1 rfl rfl) h1 hw
  obtain ⟨Ab, bn, bc, bits, rfl, hb, hbn, hbc⟩ := bits_of (hval 2 _ v2 rfl rfl) h2
  cases hm : mayB B
  · exact walk_bad B S L _ _ W (fun w1 => filled_none B S L _ w1 hm)
  · simp [mayB] at hm
    obtain ⟨nb, rfl⟩ : ∃ nb : Nat, B = (nb : Int) := ⟨B.toNat, by omega⟩
    cases ha : okArea nb S L
    · exact walk_bad _ S L _ _ W (fun w1 => filled_not nb S L _ w1 (by omega) (by omega) ha)
    · simp [okArea] at ha
      obtain ⟨s, rfl⟩ : ∃ s : Nat, S = (s : Int) := ⟨S.toNat, by omega⟩
      obtain ⟨l, rfl⟩ : ∃ l : Nat, L = (l : Int) := ⟨L.toNat, by omega⟩
      exact walk_good nb s l A n c xs Ab bn bc bits W hx hn hc hb (by omega) (by omega) (by omega) (by omega) (by omega)

set_option maxRecDepth 100000 in
theorem proved : Rows.ReplayFlushedSaid :=
  OpenClaim.holds_of_wide 12 Try.f12 rfl rfl rfl rfl rfl rfl rfl ⟨rfl, rfl, rfl, rfl, rfl⟩ rfl rfl rfl rfl rfl (by kernel_rfl) Try.func12 (by kernel_rfl)
    (of_decide_eq_true (by kernel_rfl)) (by unfold Func.isWrapper; first | (rw [if_pos (by decide +kernel)]; kernel_rfl) | (rw [if_neg (by decide +kernel)]; exact ⟨rfl, rfl⟩))
    (fun os started H enc _ => lifted (s := Rows.replayFlushedSpec) walks (by kernel_rfl) rfl rfl (fun H ds hl => by match ds, hl with | [d1, d2, d3], _ => rfl) (by kernel_rfl) Try.func12 os started H enc
      (ChangeSpec.witness6 (enc := enc) (C := Try.checked) false ⟨#[], #[.agg #[.int .i64 0, .int .i64 0, .int .i64 0], .slice none 0 0, .slice none 0 0], []⟩ 8 (by kernel_rfl) (by kernel_rfl) (by kernel_rfl) (by kernel_rfl)))
#print axioms proved
end Go.Proofs.Ytelnoibfamcnmaa.ReplayFlushed
