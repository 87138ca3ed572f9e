/- ReplayOld: for every area and every two cases, no record that was in the log ahead of a recovery is in a later chain. -/
import Derived.Test.YtelnoibfamcnmaaRpArg
namespace Go.Proofs.Ytelnoibfamcnmaa.ReplayOld
set_option maxRecDepth 20000
open Go.ChangeShapes Go.WideShapes Go.ChangeAt Go.RowKit
open Go.Proofs.Ytelnoibfamcnmaa.Mem Go.Proofs.Ytelnoibfamcnmaa.Lift Go.Proofs.Ytelnoibfamcnmaa.Crc Go.Proofs.Ytelnoibfamcnmaa.Disk Go.Proofs.Ytelnoibfamcnmaa.Log Go.Proofs.Ytelnoibfamcnmaa.Rp
open Go.Proofs.Ytelnoibfamcnmaa.Rec (Tx Wt TxAt)

/-- A log to which records are appended, no way home between them. -/
def moreG (n s r : Nat) (g : Lg) (ts : List Tx) : Lg := ts.foldl (fun g t => (g.app n s r t).2.2) g
theorem moreG_snoc (n s r : Nat) (g : Lg) (ts : List Tx) (t : Tx) : moreG n s r g (ts ++ [t]) = ((moreG n s r g ts).app n s r t).2.2 := by simp [moreG]
theorem moreG_inv {n s r : Nat} {g : Lg} {s0 p0 : Nat} (h : Inv n s r g s0 p0) (ts : List Tx) (hq : g.seq + ts.length < 4294967296) : Inv n s r (moreG n s r g ts) s0 p0 ∧ (moreG n s r g ts).seq ≤ g.seq + ts.length := by
  induction ts using rev_ind with
  | h0 => exact ⟨h, Nat.le_refl _⟩
  | h1 l t ih =>
    rw [List.length_append, List.length_singleton] at hq ⊢
    obtain ⟨h1, h2⟩ := ih (by omega)
    rw [moreG_snoc]
    have h3 := Lg.app_seq n s r (moreG n s r g l) t
    exact ⟨inv_app h1 t (by omega), by omega⟩
/-- What a recovery behind a crash makes of a log. -/
theorem old_plain {n s r : Nat} {g : Lg} {s0 p0 : Nat} (h : Inv n s r g s0 p0) (hq : g.seq ≤ 1048576) (bits : List UInt8) :
    Inv n s r (Lg.recd (g.d.crash bits) s r) (seqD (g.d.crash bits) s r) (backD (g.d.crash bits) s r) ∧ seqD (g.d.crash bits) s r ≤ g.seq + 1024 ∧ (∀ (i : Nat) (t : Tx), g.ts[i]? = some t → t.seq < seqD (g.d.crash bits) s r) ∧ okH ((g.d.crash bits).read s) r = true := by
  have hroom := h.room
  have hsq := h.seq
  have hcc := crash_chain h (by omega) bits
  have hhd := crash_head h bits
  have hlen : g.ts.length ≤ r := Nat.le_trans (len_sum g.ts) h.place.2.2.2
  have hsd : seqD (g.d.crash bits) s r = s0 + (chainD (g.d.crash bits) s r).length + (r + 1) := by
    unfold seqD
    rw [hhd, seqH_head _ _ (by omega), Nat.mod_eq_of_lt (by omega)]
  refine ⟨inv_rec (Dk.crash_ok g.d h.ok bits) (by rw [Dk.size_crash]; exact h.size) rfl (fun x hx => by cases hx) hroom (crash_low h bits) (by omega), by omega, fun i t hi => ?_, by rw [hhd]; exact head_good h (by omega)⟩
  have := h.seqs i t hi
  have := (List.getElem?_eq_some_iff.1 hi).1
  omega

set_option maxRecDepth 100000 in
set_option maxHeartbeats 4000000 in
theorem walk_bad (B S L : Int) (A : Option Addr) (n c : Nat) (Ab : Option Addr) (bn bc : Nat) (A' : Option Addr) (n' c' : Nat) (Ab' : Option Addr) (bn' bc' : Nat) (w : World) (h : ∀ w1, Calls Try.prog 48 #[.agg #[.int .i64 B, .int .i64 S, .int .i64 L], .slice A n c] w1 (Unfilled w1)) :
    Calls Try.prog 11 #[.agg #[.int .i64 B, .int .i64 S, .int .i64 L], .agg #[.slice A n c, .slice Ab bn bc], .agg #[.slice A' n' c', .slice Ab' bn' bc']] w fun e w' => e = .returned (.bool true) ∧ Below w.heap.size w w' := by
  obtain ⟨W, hW⟩ : ∃ W, W = ((w.alloc (.cells #[.int .i64 B, .int .i64 S, .int .i64 L] 85)).alloc (.cells #[.slice A n c, .slice Ab bn bc] 94)).alloc (.cells #[.slice A' n' c', .slice Ab' bn' bc'] 94) := ⟨_, rfl⟩
  have z1 : (w.alloc (.cells #[.int .i64 B, .int .i64 S, .int .i64 L] 85)).heap.size = w.heap.size + 1 := by simp
  have z2 : ((w.alloc (.cells #[.int .i64 B, .int .i64 S, .int .i64 L] 85)).alloc (.cells #[.slice A n c, .slice Ab bn bc] 94)).heap.size = w.heap.size + 2 := by simp
  have zW : W.heap.size = w.heap.size + 3 := by rw [hW]; simp
  have hx0 : W.heap[w.heap.size]? = some (.cells #[.int .i64 B, .int .i64 S, .int .i64 L] 85 (0, 0)) := by
    rw [hW]
    exact (Below.heap_alloc _ _ _ (by rw [z2]; omega)).trans ((Below.heap_alloc _ _ _ (by rw [z1]; omega)).trans (heap_alloc_new w _))
  have hx1 : W.heap[w.heap.size + 1]? = some (.cells #[.slice A n c, .slice Ab bn bc] 94 (0, 0)) := by
    rw [hW]
    refine (Below.heap_alloc _ _ _ (by rw [z2]; omega)).trans ?_
    rw [← z1]; exact heap_alloc_new _ _
  have hx2 : W.heap[w.heap.size + 2]? = some (.cells #[.slice A' n' c', .slice Ab' bn' bc'] 94 (0, 0)) := by
    rw [hW, ← z2]; exact heap_alloc_new _ _
  have hb0 : Below w.heap.size w W := by rw [hW]; exact (((Below.refl _ w).alloc (Nat.le_refl _) _).alloc (by simp) _).alloc (by rw [z2]; omega) _
  have hbox : ∀ V, Below W.heap.size W V → (V.cell? ⟨w.heap.size, 0, none⟩ = some (.int .i64 B) ∧ V.cell? ⟨w.heap.size, 1, none⟩ = some (.int .i64 S) ∧ V.cell? ⟨w.heap.size, 2, none⟩ = some (.int .i64 L)) ∧ (V.cell? ⟨w.heap.size + 1, 0, none⟩ = some (.slice A n c) ∧ V.cell? ⟨w.heap.size + 1, 1, none⟩ = some (.slice Ab bn bc)) ∧ V.cell? ⟨w.heap.size + 2, 0, none⟩ = some (.slice A' n' c') ∧ V.cell? ⟨w.heap.size + 2, 1, none⟩ = some (.slice Ab' bn' bc') := fun V hV => by
    have e0 := (hV.block _ (by omega)).trans hx0
    have e1 := (hV.block _ (by omega)).trans hx1
    have e2 := (hV.block _ (by omega)).trans hx2
    exact ⟨⟨cell_of_row V _ 0 _ _ _ e0, cell_of_row V _ 1 _ _ _ e0, cell_of_row V _ 2 _ _ _ e0⟩, ⟨cell_of_row V _ 0 _ _ _ e1, cell_of_row V _ 1 _ _ _ e1⟩, cell_of_row V _ 0 _ _ _ e2, cell_of_row V _ 1 _ _ _ e2⟩
  have HBOX := Lib.hid hbox; clear hbox hx0 hx1 hx2
  have HB0 := Lib.hid hb0; clear hb0
  have HW := Lib.hid hW; clear hW z1 z2
  have HOP := Lib.hid h; clear h
  go_enter Try.func11, Try.ntmps11
  go_wp2_with fail
  rw [← HW.out]
  clear HW
  with_reducible refine (Rp.alive_any W).mono ?_
  rintro e w1 ⟨rfl, hb1⟩
  obtain ⟨⟨q0, q1, q2⟩, ⟨q3, q4⟩, q5, q6⟩ := HBOX.out w1 hb1
  have hop := HOP.out w1
  have HOP1 := Lib.hid hop; clear hop HOP
  have HB1 := Lib.hid (HB0.out.trans (hb1.mono HB0.out.size)); clear hb1
  go_wp2_with fail
  with_reducible refine HOP1.out.mono ?_
  rintro e w2 ⟨rfl, hb2⟩
  have HB2 : Hid (Below w.heap.size w w2) := Lib.hid (HB1.out.trans (hb2.mono HB1.out.size))
  clear hb2 HOP1 q0 q1 q2 q3 q4 q5 q6
  go_wp2
  go_ret
  exact ⟨rfl, HB2.out⟩

set_option maxRecDepth 100000 in
set_option maxHeartbeats 4000000 in
theorem walk_good (nb s l : Nat) (A : Option Addr) (n c : Nat) (xs : List TxL) (Ab : Option Addr) (bn bc : Nat) (bits : List UInt8) (A' : Option Addr) (n' c' : Nat) (xs' : List TxL) (Ab' : Option Addr) (bn' bc' : Nat) (bits' : List UInt8) (w : World)
    (hx : TxsL w w.heap.size A n xs) (hnc : n ≤ c) (hcm : c ≤ maxLen) (hbt : Holds w w.heap.size Ab bn bits) (hbn : bn ≤ maxLen) (hx' : TxsL w w.heap.size A' n' xs') (hnc' : n' ≤ c') (hcm' : c' ≤ maxLen) (hbt' : Holds w w.heap.size Ab' bn' bits') (hbn' : bn' ≤ maxLen)
    (hn2 : nb ≤ 1024) (h8 : 8 ≤ l) (hl2 : l ≤ 1024) (hs : s + l ≤ nb) :
    Calls Try.prog 11 #[.agg #[.int .i64 (nb : Int), .int .i64 (s : Int), .int .i64 (l : Int)], .agg #[.slice A n c, .slice Ab bn bc], .agg #[.slice A' n' c', .slice Ab' bn' bc']] w fun e w' => e = .returned (.bool true) ∧ Below w.heap.size w w' := by
  obtain ⟨W, hW⟩ : ∃ W, W = ((w.alloc (.cells #[.int .i64 (nb : Int), .int .i64 (s : Int), .int .i64 (l : Int)] 85)).alloc (.cells #[.slice A n c, .slice Ab bn bc] 94)).alloc (.cells #[.slice A' n' c', .slice Ab' bn' bc'] 94) := ⟨_, rfl⟩
  have z1 : (w.alloc (.cells #[.int .i64 (nb : Int), .int .i64 (s : Int), .int .i64 (l : Int)] 85)).heap.size = w.heap.size + 1 := by simp
  have z2 : ((w.alloc (.cells #[.int .i64 (nb : Int), .int .i64 (s : Int), .int .i64 (l : Int)] 85)).alloc (.cells #[.slice A n c, .slice Ab bn bc] 94)).heap.size = w.heap.size + 2 := by simp
  have zW : W.heap.size = w.heap.size + 3 := by rw [hW]; simp
  have hx0 : W.heap[w.heap.size]? = some (.cells #[.int .i64 (nb : Int), .int .i64 (s : Int), .int .i64 (l : Int)] 85 (0, 0)) := by
    rw [hW]
    exact (Below.heap_alloc _ _ _ (by rw [z2]; omega)).trans ((Below.heap_alloc _ _ _ (by rw [z1]; omega)).trans (heap_alloc_new w _))
  have hx1 : W.heap[w.heap.size + 1]? = some (.cells #[.slice A n c, .slice Ab bn bc] 94 (0, 0)) := by
    rw [hW]
    refine (Below.heap_alloc _ _ _ (by rw [z2]; omega)).trans ?_
    rw [← z1]; exact heap_alloc_new _ _
  have hx2 : W.heap[w.heap.size + 2]? = some (.cells #[.slice A' n' c', .slice Ab' bn' bc'] 94 (0, 0)) := by
    rw [hW, ← z2]; exact heap_alloc_new _ _
  have hb0 : Below w.heap.size w W := by rw [hW]; exact (((Below.refl _ w).alloc (Nat.le_refl _) _).alloc (by simp) _).alloc (by rw [z2]; omega) _
  have hbox : ∀ V, Below W.heap.size W V → (V.cell? ⟨w.heap.size, 0, none⟩ = some (.int .i64 (nb : Int)) ∧ V.cell? ⟨w.heap.size, 1, none⟩ = some (.int .i64 (s : Int)) ∧ V.cell? ⟨w.heap.size, 2, none⟩ = some (.int .i64 (l : Int))) ∧ (V.cell? ⟨w.heap.size + 1, 0, none⟩ = some (.slice A n c) ∧ V.cell? ⟨w.heap.size + 1, 1, none⟩ = some (.slice Ab bn bc)) ∧ V.cell? ⟨w.heap.size + 2, 0, none⟩ = some (.slice A' n' c') ∧ V.cell? ⟨w.heap.size + 2, 1, none⟩ = some (.slice Ab' bn' bc') := fun V hV => by
    have e0 := (hV.block _ (by omega)).trans hx0
    have e1 := (hV.block _ (by omega)).trans hx1
    have e2 := (hV.block _ (by omega)).trans hx2
    exact ⟨⟨cell_of_row V _ 0 _ _ _ e0, cell_of_row V _ 1 _ _ _ e0, cell_of_row V _ 2 _ _ _ e0⟩, ⟨cell_of_row V _ 0 _ _ _ e1, cell_of_row V _ 1 _ _ _ e1⟩, cell_of_row V _ 0 _ _ _ e2, cell_of_row V _ 1 _ _ _ e2⟩
  have HBOX := Lib.hid hbox; clear hbox hx0 hx1 hx2
  have HX := Lib.hid hx; clear hx
  have HBT := Lib.hid hbt; clear hbt
  have HX' := Lib.hid hx'; clear hx'
  have HBT' := Lib.hid hbt'; clear hbt'
  have HB0 := Lib.hid hb0; clear hb0
  have HW := Lib.hid hW; clear hW z1 z2
  go_enter Try.func11, Try.ntmps11
  go_wp2_with fail
  rw [← HW.out]
  clear HW
  with_reducible refine (Rp.alive_any W).mono ?_
  rintro e w1 ⟨rfl, hb1⟩
  obtain ⟨⟨q0, q1, q2⟩, ⟨q3, q4⟩, q5, q6⟩ := HBOX.out w1 hb1
  have hb1w := HB0.out.trans (hb1.mono HB0.out.size)
  have hz1 : w.heap.size + 3 ≤ w1.heap.size := by have := hb1.size; omega
  have hfi := filled_ok nb s l A n c xs w1 ((HX.out.below hb1w).more (by omega)) hnc hcm hn2 h8 hl2 hs
  obtain ⟨g, hg⟩ : ∃ g, g = fillG nb s (l - 1) ((xs.take (few16 n)).map (·.t)) := ⟨_, rfl⟩
  have hlen : ((xs.take (few16 n)).map (·.t)).length ≤ 16 := by rw [List.length_map, List.length_take]; unfold few16; split <;> omega
  obtain ⟨⟨s0, p0, hinv⟩, hsq⟩ := fillG_inv nb s (l - 1) (by omega) ((xs.take (few16 n)).map (·.t)) (by omega)
  rw [← hg] at hfi hinv hsq
  have hsq : g.seq ≤ 17 := by omega
  clear hg hlen
  obtain ⟨hi2, hsd, hlow, hgood⟩ : _ ∧ _ ∧ _ ∧ _ := old_plain hinv (by omega) bits
  have HFI := Lib.hid hfi; clear hfi
  have HB1 := Lib.hid hb1; clear hb1
  have HB1W := Lib.hid hb1w; clear hb1w
  have HINV := Lib.hid hinv; clear hinv
  obtain ⟨r, hr⟩ : ∃ r, r = l - 1 := ⟨_, rfl⟩
  rw [← hr] at HFI HINV hi2 hsd hlow hgood
  have HR := Lib.hid hr; clear hr
  obtain ⟨dc, hdc⟩ : ∃ dc, dc = g.d.crash bits := ⟨_, rfl⟩
  rw [← hdc] at hi2 hsd hlow hgood
  have hszc : dc.stable.length = nb := by rw [hdc, Dk.size_crash]; exact HINV.out.size
  have HDC := Lib.hid hdc; clear hdc
  have HI2 := Lib.hid hi2; clear hi2
  have HLOW := Lib.hid hlow; clear hlow
  have HGOOD := Lib.hid hgood; clear hgood
  have hr7 := HINV.out.room
  go_wp2_with fail
  with_reducible refine HFI.out.mono ?_
  rintro e w2 ⟨p, lp, v, L, rfl, hfd⟩
  clear HFI q0 q1 q2 q3 q4 q5 q6
  obtain ⟨cd, F, A2, c2, hD, hcd, hF, -, hnl, hlpl, rfl, hlive, hown⟩ := hfd.parts
  have hb2 := HB1W.out.trans (hfd.below.mono HB1W.out.size)
  have hmap := hfd.map
  have hFw : ∀ q, F q → w.heap.size ≤ q := fun q e => by have := hF q e; omega
  have hz2 := hfd.below.size
  have hkeep : ∀ V, Turns F w2 V → Below w.heap.size w V ∧ Below W.heap.size W V := fun V hV => by
    have h1 := hfd.below.trans (hV.below (fun q e => hF q e) hz2)
    exact ⟨HB1W.out.trans (h1.mono HB1W.out.size), HB1.out.trans (h1.mono (by omega))⟩
  have hliveV : ∀ V, Turns F w2 V → ListAt V A2 L := fun V hV => ListAt.of (live_after hlive hV (fun q _ e => .inl e) (fun q e e' => (hown q e).1 e'))
  have hst := Rp.Homing.crash (Homing.start hD) (by omega) Ab bn bc w.heap.size bits (fun V hV => HBT.out.below (hb2.trans hV)) hFw (by omega) hbn
  rw [← HDC.out] at hst
  obtain ⟨nl, hnlen⟩ : ∃ nl, nl = L.length := ⟨_, rfl⟩
  have HST := Lib.hid hst; clear hst hD hlive hown hfd
  have HKEEP := Lib.hid hkeep; clear hkeep
  have HLV := Lib.hid hliveV; clear hliveV
  have HMAP := Lib.hid hmap; clear hmap
  have HFW := Lib.hid hFw; clear hFw
  have HF := Lib.hid hF; clear hF
  rw [← hnlen]
  have HNL := Lib.hid hnlen; clear hnlen
  have hnl2 : nl ≤ 1024 := by
    have := HINV.out.place.2.2.2
    have h5 : g.ts.length ≤ sumT g.ts := len_sum g.ts
    have h6 : g.ts.length = nl := by rw [← HMAP.out, List.length_map, HNL.out]
    omega
  obtain ⟨-, ⟨q3, q4⟩, -, -⟩ := HBOX.out w2 (HKEEP.out w2 (Turns.refl _ _)).2
  have HB2 := Lib.hid hb2; clear hb2
  go_wp2_with fail
  with_reducible refine HST.out.mono ?_
  rintro e w3 ⟨rfl, hh3⟩
  clear HST q3 q4
  obtain ⟨⟨-, q1, q2⟩, -, -, -⟩ := HBOX.out w3 (HKEEP.out w3 hh3.turns).2
  have hz3 := hh3.turns.size
  have hrc : Calls Try.prog 54 #[.pointer (some ⟨p, 0, none⟩), .int .i64 (s : Int), .int .i64 (l : Int)] w3 fun e w' => e = .returned (.tuple #[.int .i64 ((chainD dc s r).length : Int), .int .i64 0]) ∧ Homing w2 p F w' (recD dc s r) (0 + 62464) := by
    obtain ⟨F3, hD3, hF3, hT3⟩ := hh3
    have := recover_ok s l dc p 0 F3 w3 hD3 (by omega) h8 hl2 (by omega) (HR.out ▸ HGOOD.out)
    rw [← HR.out] at this
    exact this.mono fun e w' h => ⟨h.1, h.2.comp hF3 hT3⟩
  have HRC := Lib.hid hrc; clear hrc hh3
  obtain ⟨k1, hk1⟩ : ∃ k1, k1 = (chainD dc s r).length := ⟨_, rfl⟩
  rw [← hk1] at HRC
  clear hk1
  go_wp2_with fail
  with_reducible refine HRC.out.mono ?_
  rintro e w4 ⟨rfl, hh4⟩
  clear HRC q1 q2
  obtain ⟨⟨-, q1, q2⟩, -, -, -⟩ := HBOX.out w4 (HKEEP.out w4 hh4.turns).2
  obtain ⟨sq2, hsq2⟩ : ∃ sq2, sq2 = seqD dc s r := ⟨_, rfl⟩
  obtain ⟨bk2, hbk2⟩ : ∃ bk2, bk2 = backD dc s r := ⟨_, rfl⟩
  have hi2' := HI2.out
  rw [← hsq2, ← hbk2] at hi2'
  have hrd : (recD dc s r).read s = headH sq2 bk2 := by
    have := head_read hi2'.ok hi2'.free hi2'.calm
    exact this.trans hi2'.head
  rw [← hsq2] at HLOW hsd
  have hop : Calls Try.prog 33 #[.pointer (some ⟨p, 0, none⟩), .int .i64 (s : Int), .int .i64 (l : Int)] w4 fun e w' => ∃ lp2, e = .returned (.tuple #[.pointer (some ⟨lp2, 0, none⟩), .int .i64 0]) ∧ LogAt w' lp2 p (s : Int) (r : Int) sq2 bk2 0 (.slice none 0 0) ∧ w4.heap.size ≤ lp2 ∧ Below w4.heap.size w4 w' := by
    obtain ⟨F4, hD4, hF4, hT4⟩ := hh4
    have hbk : bk2 < r := hi2'.place.1
    have := open_d s l _ _ rfl rfl (recD dc s r) p _ F4 w4 hD4 (by omega) h8 (by rw [recD_size, hszc]; exact hs) (by rw [hrd, ← HR.out]; exact okH_head _ _ _ (by omega) hbk (by omega))
    rw [hrd, seqH_head _ _ (by omega), plH_head _ _ (by omega), show (l : Int) - 1 = (r : Int) by rw [HR.out]; omega] at this
    exact this
  have HOP := Lib.hid hop; clear hop
  have HH4 := Lib.hid hh4; clear hh4
  have HRD := Lib.hid hrd; clear hrd
  have HI2' := Lib.hid hi2'; clear hi2' HI2
  have HSQ2 := Lib.hid hsq2; clear hsq2
  have HBK2 := Lib.hid hbk2; clear hbk2
  go_wp2_with fail
  with_reducible refine HOP.out.mono ?_
  rintro e w5 ⟨l2, rfl, hlog5, hl2lo, hb5⟩
  clear HOP q1 q2
  have hz4 := HH4.out.turns.size
  have hh5 := HH4.out.later hb5
  have hkn : ∃ F5, Known w5 w5 l2 p s r nb F5 NoX (Lg.recd dc s r) 0 62464 ∧ (∀ q, F5 q → F q ∨ w2.heap.size ≤ q) ∧ (∀ q, F5 q → q < w5.heap.size) := by
    obtain ⟨F4, hD4, hF4, hT4⟩ := HH4.out
    have hD5 : DiskAt w5 p (recD dc s r) (0 + 62464) F4 := hD4.turns (Turns.of_below (F := fun _ => False) hb5) (fun _ _ e => e)
    have h1 := opened_known hD5 hlog5 (fun e => by have := hD4.lt _ e; omega) (show (recD dc s r).stable.length = nb by rw [recD_size]; exact hszc) ⟨by omega, by omega⟩ (by omega) HI2'.out.place.1
    refine ⟨F4, ?_, hF4, fun q e => hD5.lt q e⟩
    have h2 : ({ seq := sq2, pl := bk2, used := 0, d := recD dc s r, ts := [] } : Lg) = Lg.recd dc s r := by unfold Lg.recd; rw [HSQ2.out, HBK2.out]
    rw [h2] at h1
    exact h1.more (Nat.le_refl _) (by omega)
  have hnx := next_any l2 p sq2 bk2 0 (s : Int) (r : Int) _ w5 hlog5
  have HKN := Lib.hid hkn; clear hkn
  have HNX := Lib.hid hnx; clear hnx
  have HH5 := Lib.hid hh5; clear hh5 HH4
  have hl2w : w.heap.size ≤ l2 := by omega
  go_wp2_with fail
  with_reducible refine HNX.out.mono ?_
  rintro e w6 ⟨rfl, hb6⟩
  clear HNX
  have hT6 := (HH5.out.later hb6).turns
  have hl6 : ListAt w6 A2 L := HLV.out w6 hT6
  have hB6 := HKEEP.out w6 hT6
  have HL6 := Lib.hid hl6; clear hl6
  have HB6 := Lib.hid hB6; clear hB6
  have HB56 := Lib.hid hb6; clear hb6 hT6 HH5 HLV
  go_wp2_with fail
  go_loopw [17] (fun iv wr => ∃ k : Nat, k ≤ nl ∧ iv = .int .i64 (k : Int) ∧ Below w6.heap.size w6 wr) (fun iv _ => nl - (intOf iv).toNat)
  case atStart => exact ⟨0, Nat.zero_le _, rfl, Below.refl _ _⟩
  case round =>
    obtain ⟨k, hk, rfl, hb⟩ := hrel
    rcases Nat.lt_or_ge k nl with hlt | hge
    · obtain ⟨y, hy⟩ : ∃ y, L[k]? = some y := ⟨_, List.getElem?_eq_getElem (by rw [← HNL.out]; omega)⟩
      have hys : y.t.seq < sq2 := HLOW.out k y.t (by rw [← HMAP.out, List.getElem?_map, hy]; rfl)
      obtain ⟨gb, rfl, b0, -, -, -⟩ := HL6.out wr hb k y hy
      have hkk : (k : Int) < (nl : Int) := by omega
      have hcmp : decide ((sq2 : Int) ≤ (y.t.seq : Int)) = false := decide_eq_false (by omega)
      have hcmp1 : decide (sq2 ≤ y.t.seq) = false := decide_eq_false (by omega)
      have hcmp2 : ¬ (sq2 : Int) ≤ (y.t.seq : Int) := by omega
      have hcmp3 : ¬ sq2 ≤ y.t.seq := by omega
      have HB := Lib.hid hb; clear hb
      clear hys hy
      go_wp2
      exact ⟨⟨k + 1, by omega, by simp, HB.out⟩, by simp [intOf]; omega⟩
    · obtain rfl : k = nl := by omega
      have hbw := hb
      obtain ⟨-, -, q5, q6⟩ := HBOX.out wr (HB6.out.2.trans (hbw.mono HB6.out.2.size))
      have hfw := Rp.few_any A' n' c' wr hnc' hcm' (fun h => by obtain ⟨b, off, e, _⟩ := HX'.out.2.1 h; exact ⟨b, off, e⟩)
      obtain ⟨N, hN⟩ : ∃ N, N = few16 n' := ⟨_, rfl⟩
      have hN16 : N ≤ 16 ∧ N ≤ n' := by rw [hN]; unfold few16; split <;> omega
      rw [← hN] at hfw
      obtain ⟨F5, hkn5, hF5, hF5lt⟩ := HKN.out
      have hbwr : Below w5.heap.size w5 wr := HB56.out.trans (hbw.mono HB56.out.size)
      have hkr : Known wr wr l2 p s r nb F5 NoX (Lg.recd dc s r) 0 62464 := hkn5.aside (Turns.of_below hbwr) (fun _ _ e => e) (fun e => e) (fun q e => e.elim)
      have hBwr : Below w.heap.size w wr := HB6.out.1.trans (hbw.mono HB6.out.1.size)
      have hF5w : ∀ q, F5 q → w.heap.size ≤ q := fun q e => by
        rcases hF5 q e with e | e
        · exact HFW.out q e
        · have := HB2.out.size; omega
      have hx3 := (HX'.out.below hBwr).take (k := N) hN16.2
      have hzw := hbwr.size
      have hF5' := hF5
      have HFEW := Lib.hid hfw; clear hfw
      have HKR := Lib.hid hkr; clear hkr hkn5 hF5 hF5lt HKN
      have HX3 := Lib.hid hx3; clear hx3
      have HBWR := Lib.hid hBwr; clear hBwr
      have hF5w3 : ∀ q, F5 q → W.heap.size ≤ q := fun q e => by
        rcases hF5' q e with e | e
        · have := HF.out q e; omega
        · omega
      have HF5W3 := Lib.hid hF5w3; clear hF5w3 hF5'
      have HF5W := Lib.hid hF5w; clear hF5w
      have hBr2 : Below W.heap.size W wr := HB6.out.2.trans (hbw.mono HB6.out.2.size)
      have HBR2 := Lib.hid hBr2; clear hBr2 hbw hb hN
      obtain ⟨ys, hys⟩ : ∃ ys, ys = xs'.take N := ⟨_, rfl⟩
      rw [← hys] at HX3
      clear hys
      go_wp2_with fail
      with_reducible refine HFEW.out.mono ?_
      rintro e wq ⟨rfl, rfl⟩
      clear HFEW q5 q6
      go_wp2_with fail
      obtain ⟨w7, rfl⟩ : ∃ w7, w7 = wr := ⟨_, rfl⟩
      go_loopw [19] (fun iv wv => ∃ (j : Nat) (g2 : Lg), j ≤ N ∧ iv = .int .i64 (j : Int) ∧ g2 = moreG nb s r (Lg.recd dc s r) ((ys.take j).map (·.t)) ∧ g2.seq ≤ sq2 + j ∧ Known w7 wv l2 p s r nb F5 NoX g2 j (62464 + 60 * j)) (fun iv _ => N - (intOf iv).toNat)
      case atStart => exact ⟨0, Lg.recd dc s r, Nat.zero_le _, rfl, rfl, by show seqD dc s r ≤ _; rw [HSQ2.out]; omega, HKR.out⟩
      case round =>
        obtain ⟨j, g2, hj, rfl, hg2, hsj, hkj⟩ := hrel
        have HG2 := Lib.hid hg2; clear hg2
        rcases Nat.lt_or_ge j N with hltj | hgej
        · obtain ⟨b, off, rfl, hbl, -⟩ := HX3.out.2.1 (by omega)
          obtain ⟨x, hx⟩ : ∃ x, ys[j]? = some x := ⟨_, List.getElem?_eq_getElem (by rw [HX3.out.1]; exact hltj)⟩
          have hxi := HX3.out.2.2 x (List.mem_of_getElem? hx)
          have hS : ∀ V, Turns (fun q => F5 q ∨ q = l2) w7 V → V.cell? ⟨b, off + j * 3, none⟩ = some (.int .u64 (x.t.seq : Int)) ∧ V.cell? ⟨b, off + j * 3 + 1, none⟩ = some (.slice x.Aw x.nw x.cw) ∧ V.cell? ⟨b, off + j * 3 + 2, none⟩ = some (.slice x.Ar x.nr x.cr) := fun V hV => by
            have hbV : Below w.heap.size w7 V := hV.below (fun q e => by
              rcases e with e | e
              · exact HF5W.out q e
              · omega) HBWR.out.size
            exact ((HX3.out.below hbV).cells_at hx).2
          have hap := append_kn w7 wr.drew l2 p s r nb j (62464 + 60 * j) F5 NoX g2 (hkj.later (Below.refl _ wr).drew) x.t x.Aw x.Ar x.nw x.cw x.nr x.cr w.heap.size hxi HBWR.out.size HF5W.out hl2w (by omega) (by omega) (by omega)
          have hsn := Lg.app_seq nb s r g2 x.t
          obtain ⟨a1, ha1⟩ : ∃ a1, a1 = (g2.app nb s r x.t).1 := ⟨_, rfl⟩
          obtain ⟨a2, ha2⟩ : ∃ a2, a2 = (g2.app nb s r x.t).2.1 := ⟨_, rfl⟩
          obtain ⟨g3, hg3⟩ : ∃ g3, g3 = (g2.app nb s r x.t).2.2 := ⟨_, rfl⟩
          rw [← ha1, ← ha2, ← hg3] at hap
          rw [← hg3] at hsn
          have hmg : g3 = moreG nb s r (Lg.recd dc s r) ((ys.take (j + 1)).map (·.t)) := by
            rw [List.take_add_one, hx, List.map_append, Option.toList_some, List.map_cons, List.map_nil, moreG_snoc, ← HG2.out, hg3]
          have h0 := hS wr.drew (hkj.later (Below.refl _ wr).drew).turns
          have HSS := Lib.hid hS; clear hS
          have HAP := Lib.hid hap; clear hap
          have HMG := Lib.hid hmg; clear hmg ha1 ha2 hg3 hx hxi
          have HKJ := Lib.hid hkj; clear hkj
          have hjN : (j : Int) < (N : Int) := by omega
          go_wp2_with fail
          go_region_held (fun V => V.cell? ⟨b, off + j * 3, none⟩ = some (.int .u64 (x.t.seq : Int)) ∧ V.cell? ⟨b, off + j * 3 + 1, none⟩ = some (.slice x.Aw x.nw x.cw) ∧ V.cell? ⟨b, off + j * 3 + 2, none⟩ = some (.slice x.Ar x.nr x.cr)) (assumption)
            (first
              | (go_at_call 43
                 with_reducible refine HAP.out.mono ?_
                 rintro e wx ⟨rfl, hkx⟩
                 have hx6 := HSS.out wx hkx.turns
                 have HKX := Lib.hid hkx
                 clear hkx))
          all_goals
            clear h0 HAP hx6
            go_wp2
            go_roundw
            case rel => exact ⟨j + 1, g3, by omega, by go_num, HMG.out, by omega, HKX.out.more (Nat.le_refl _) (by omega)⟩
            case measure => simp [intOf]; omega
        · obtain rfl : j = N := by omega
          have hi3 := (moreG_inv HI2'.out ((ys.take j).map (·.t)) (by show seqD dc s r + _ < _; rw [← HSQ2.out, List.length_map, List.length_take]; omega)).1
          rw [← HG2.out] at hi3
          have hsq3 := hi3.seq
          obtain ⟨cd6, F6, u6', hD6, hcd6, hF6, hlog6, hnl6⟩ := hkj.disk
          have hTj := hkj.turns
          have hF6w : ∀ q, F6 q → w.heap.size ≤ q := fun q e => by
            rcases hF6 q e with e | e
            · exact HF5W.out q e
            · have := HBWR.out.size; omega
          have hBj : Below w.heap.size w wr := HBWR.out.trans (hTj.below (fun q e => by
            rcases e with e | e
            · exact HF5W.out q e
            · omega) HBWR.out.size)
          have hF5W3 : ∀ q, F5 q → W.heap.size ≤ q := HF5W3.out
          have hBj2 : Below W.heap.size W wr := HBR2.out.trans (hTj.below (fun q e => by
            rcases e with e | e
            · exact hF5W3 q e
            · omega) HBR2.out.size)
          have hF6w3 : ∀ q, F6 q → W.heap.size ≤ q := fun q e => by
            rcases hF6 q e with e | e
            · exact hF5W3 q e
            · have := HBR2.out.size; omega
          obtain ⟨-, -, q5, q6⟩ := HBOX.out wr hBj2
          have hcr := Rp.Homing.crash (Homing.start hD6) (by omega) Ab' bn' bc' w.heap.size bits' (fun V hV => HBT'.out.below (hBj.trans hV)) hF6w hBj.size hbn'
          have hcc := crash_chain hi3 (by omega) bits'
          have hhd := crash_head hi3 bits'
          have hg3 : okH ((g2.d.crash bits').read s) r = true := by rw [hhd]; exact head_good hi3 (by omega)
          have hsz6 : (g2.d.crash bits').stable.length = nb := by rw [Dk.size_crash]; exact hi3.size
          obtain ⟨d6, hd6⟩ : ∃ d6, d6 = g2.d.crash bits' := ⟨_, rfl⟩
          rw [← hd6] at hcr hcc hg3 hsz6
          have hlogV : ∀ V, Turns F6 wr V → LogAt V l2 p (s : Int) (r : Int) g2.seq g2.pl g2.used u6' := fun V hV => (hV.block l2 (Array.getElem?_eq_some_iff.1 hlog6).1 hnl6).trans hlog6
          obtain ⟨zs, hzs⟩ : ∃ zs, zs = chainD d6 s r := ⟨_, rfl⟩
          rw [← hzs] at hcc
          have hlen3 : g2.ts.length ≤ 1024 := by
            have := hi3.place.2.2.2
            have h5 : g2.ts.length ≤ sumT g2.ts := len_sum g2.ts
            omega
          obtain ⟨ny, hny⟩ : ∃ ny, ny = zs.length := ⟨_, rfl⟩
          have hnyl : ny ≤ 1024 := by have := hcc.1; omega
          have HCR := Lib.hid hcr; clear hcr hD6 hF6 hTj
          have HCC := Lib.hid hcc; clear hcc hhd hd6
          have HG3 := Lib.hid hg3; clear hg3
          have HLG := Lib.hid hlogV; clear hlogV hlog6
          have HZS := Lib.hid hzs; clear hzs
          have HNY := Lib.hid hny; clear hny
          have HBJ := Lib.hid hBj; clear hBj
          have HBJ2 := Lib.hid hBj2; clear hBj2 hi3 hkj
          have HSQ3 := Lib.hid hsq3; clear hsq3
          have HF6W := Lib.hid hF6w; clear hF6w
          have HF6W3 := Lib.hid hF6w3; clear hF6w3
          obtain ⟨sq3, hsq3⟩ : ∃ sq3, sq3 = g2.seq := ⟨_, rfl⟩
          rw [← hsq3] at HLG HSQ3 hsj
          clear hsq3
          go_wp2_with fail
          with_reducible refine HCR.out.mono ?_
          rintro e wa ⟨rfl, hha⟩
          clear HCR q5 q6
          have hTa := hha.turns
          have hBa2 : Below W.heap.size W wa := HBJ2.out.trans (hTa.below HF6W3.out HBJ2.out.size)
          have hBa : Below w.heap.size w wa := HBJ.out.trans (hTa.below HF6W.out HBJ.out.size)
          obtain ⟨⟨-, q1, q2⟩, -, -, -⟩ := HBOX.out wa hBa2
          have hsc : Calls Try.prog 50 #[.pointer (some ⟨p, 0, none⟩), .int .i64 (s : Int), .int .i64 (l : Int)] wa (ScanAt wa nb s r zs) := by
            obtain ⟨Fa, hDa, -, -⟩ := hha
            have := scan_ok s l d6 p 0 Fa wa hDa (by omega) h8 hl2 (by omega) (HR.out ▸ HG3.out)
            rw [← HR.out, hsz6, ← HZS.out] at this
            exact this
          have HSC := Lib.hid hsc; clear hsc hha hBa2
          have HTA := Lib.hid hTa; clear hTa
          have HBA := Lib.hid hBa; clear hBa
          go_wp2_with fail
          with_reducible refine HSC.out.mono ?_
          rintro e wb ⟨A7, c7, L7, rfl, hlive7, hmap7, -, hbb⟩
          clear HSC q1 q2
          have hnx2 := next_any l2 p sq3 g2.pl g2.used (s : Int) (r : Int) u6' wb (HLG.out wb (HTA.out.trans (Turns.of_below (F := F6) hbb) (fun _ _ e => e)))
          have hl7 : ListAt wb A7 L7 := ListAt.of hlive7
          have hlen7 : L7.length = ny := by rw [HNY.out, ← hmap7, List.length_map]
          rw [← HNY.out] at hlive7 ⊢
          have HL7 := Lib.hid hl7; clear hl7 hlive7
          have HM7 := Lib.hid hmap7; clear hmap7
          have HLN7 := Lib.hid hlen7; clear hlen7
          have HNX2 := Lib.hid hnx2; clear hnx2
          have HBB := Lib.hid (HBA.out.trans (hbb.mono HBA.out.size)); clear hbb
          go_wp2_with fail
          with_reducible refine HNX2.out.mono ?_
          rintro e wc ⟨rfl, hbc⟩
          clear HNX2
          have hl7c := HL7.out.later hbc
          have HL7C := Lib.hid hl7c; clear hl7c HL7
          have HBC := Lib.hid (HBB.out.trans (hbc.mono HBB.out.size)); clear hbc
          go_wp2_with fail
          go_loopw [24] (fun iv wv => ∃ k : Nat, k ≤ ny ∧ iv = .int .i64 (k : Int) ∧ Below wc.heap.size wc wv) (fun iv _ => ny - (intOf iv).toNat)
          case atStart => exact ⟨0, Nat.zero_le _, rfl, Below.refl _ _⟩
          case round =>
            obtain ⟨k, hk, rfl, hb⟩ := hrel
            rcases Nat.lt_or_ge k ny with hlt | hge
            · obtain ⟨y, hy⟩ : ∃ y, L7[k]? = some y := ⟨_, List.getElem?_eq_getElem (by rw [HLN7.out]; omega)⟩
              have hys : y.t.seq = sq2 + k := HCC.out.2 k y.t (by rw [← HM7.out, List.getElem?_map, hy]; rfl)
              obtain ⟨gb, rfl, b0, -, -, -⟩ := HL7C.out wr hb k y hy
              have hkk : (k : Int) < (ny : Int) := by omega
              have hlq : y.t.seq < sq3 := by have := HCC.out.1; have := HNY.out; have := HSQ3.out; omega
              have hcmp1 : decide (sq3 ≤ y.t.seq) = false := decide_eq_false (by omega)
              have hcmp2 : ¬ (sq3 : Int) ≤ (y.t.seq : Int) := by omega
              have hcmp3 : decide ((sq3 : Int) ≤ (y.t.seq : Int)) = false := decide_eq_false (by omega)
              have hcmp4 : ¬ sq3 ≤ y.t.seq := by omega
              have hdmp1 : decide (y.t.seq < sq2) = false := decide_eq_false (by omega)
              have hdmp2 : ¬ (y.t.seq : Int) < (sq2 : Int) := by omega
              have hdmp3 : decide ((y.t.seq : Int) < (sq2 : Int)) = false := decide_eq_false (by omega)
              have hdmp4 : ¬ y.t.seq < sq2 := by omega
              have HB := Lib.hid hb; clear hb
              clear hys hy hlq
              go_wp2
              first
                | (exact ⟨⟨k + 1, by omega, by simp, HB.out⟩, by simp [intOf]; omega⟩)
                | (go_roundw
                   case rel => exact ⟨k + 1, by omega, by go_num, HB.out⟩
                   case measure => simp [intOf]; omega)
            · obtain rfl : k = ny := by omega
              have HB := Lib.hid hb; clear hb
              go_wp2
              go_ret
              exact ⟨rfl, HBC.out.trans (HB.out.mono HBC.out.size)⟩

theorem walks : Walks 11 Try.f11 All := by
  intro H enc W base args ds p hval hA hsz _
  rw [Try.params11] at hA hval hsz
  obtain ⟨v0, vs0, d0, ds0, p0, q0, hargs, rfl, rfl, h0, r0⟩ := trodAll_cons hA
  obtain ⟨v1, vs1, d1, ds1, p1, q1, rfl, rfl, rfl, h1, r1⟩ := trodAll_cons r0
  obtain ⟨v2, vs2, d2, ds2, p2, q2, rfl, rfl, rfl, h2, r2⟩ := trodAll_cons r1
  obtain ⟨rfl, rfl, rfl⟩ := trodAll_nil r2
  obtain rfl : args = #[v0, v1, v2] := by cases args; simp_all
  obtain ⟨B, S, L, rfl⟩ := area5_by_value (hval 0 _ v0 rfl rfl) h0
  have hw1 : (d1.weights Try.prog 94).all (· ≤ reachBytes) = true := List.all_eq_true.2 fun x hx => List.all_eq_true.1 hsz _ (DataW.weights_mem_each (j := 1) rfl rfl x hx)
  have hw2 : (d2.weights Try.prog 94).all (· ≤ reachBytes) = true := List.all_eq_true.2 fun x hx => List.all_eq_true.1 hsz _ (DataW.weights_mem_each (j := 2) rfl rfl x hx)
  obtain ⟨A, n, c, xs, Ab, bn, bc, bits, rfl, hx, hn, hc, hb, hbn, hbc⟩ := case_of (hval 1 _ v1 rfl rfl) h1 hw1
  obtain ⟨A', n', c', xs', Ab', bn', bc', bits', rfl, hx', hn', hc', hb', hbn', hbc'⟩ := case_of (hval 2 _ v2 rfl rfl) h2 hw2
  cases hm : mayB B
  · exact walk_bad B S L _ _ _ _ _ _ _ _ _ _ _ _ W (fun w1 => filled_none B S L _ w1 hm)
  · simp [mayB] at hm
    obtain ⟨nb, rfl⟩ : ∃ nb : Nat, B = (nb : Int) := ⟨B.toNat, by omega⟩
    cases ha : okArea nb S L
    · exact walk_bad _ S L _ _ _ _ _ _ _ _ _ _ _ _ W (fun w1 => filled_not nb S L _ w1 (by omega) (by omega) ha)
    · simp [okArea] at ha
      obtain ⟨s, rfl⟩ : ∃ s : Nat, S = (s : Int) := ⟨S.toNat, by omega⟩
      obtain ⟨l, rfl⟩ : ∃ l : Nat, L = (l : Int) := ⟨L.toNat, by omega⟩
      exact walk_good nb s l A n c xs Ab bn bc bits A' n' c' xs' Ab' bn' bc' bits' W hx hn hc hb (by omega) hx' hn' hc' hb' (by omega) (by omega) (by omega) (by omega) (by omega)

set_option maxRecDepth 100000 in
theorem proved : Rows.ReplayOldSaid :=
  OpenClaim.holds_of_wide 11 Try.f11 rfl rfl rfl rfl rfl rfl rfl ⟨rfl, rfl, rfl, rfl, rfl⟩ rfl rfl rfl rfl rfl (by kernel_rfl) Try.func11 (by kernel_rfl)
    (of_decide_eq_true (by kernel_rfl)) (by unfold Func.isWrapper; first | (rw [if_pos (by decide +kernel)]; kernel_rfl) | (rw [if_neg (by decide +kernel)]; exact ⟨rfl, rfl⟩))
    (fun os started H enc _ => lifted (s := Rows.replayOldSpec) walks (by kernel_rfl) rfl rfl (fun H ds hl => by match ds, hl with | [d1, d2, d3], _ => rfl) (by kernel_rfl) Try.func11 os started H enc
      (ChangeSpec.witness6 (enc := enc) (C := Try.checked) false ⟨#[], #[.agg #[.int .i64 0, .int .i64 0, .int .i64 0], .agg #[.slice none 0 0, .slice none 0 0], .agg #[.slice none 0 0, .slice none 0 0]], []⟩ 8 (by kernel_rfl) (by kernel_rfl) (by kernel_rfl) (by kernel_rfl)))
#print axioms proved
end Go.Proofs.Ytelnoibfamcnmaa.ReplayOld
