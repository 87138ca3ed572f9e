/- Contract of the program's Decode: for all bytes. -/
import Derived.Test.YtjbelbhcdbbelaaRcTell
import Derived.Test.YtjbelbhcdbbelaaRcEnc
namespace Go.Proofs.Ytjbelbhcdbbelaa.Rec
set_option maxRecDepth 20000
open Go.RowKit
open Go.Proofs.Ytjbelbhcdbbelaa.Mem Go.Proofs.Ytjbelbhcdbbelaa.Crc

theorem told_no (A : Option Addr) (N c B : Nat) (bs : List UInt8) (seq : Nat) (w : World) (h : Holds w B A N bs) (hB : B ≤ w.heap.size) (hc : N ≤ c) (hm : c ≤ 9223372036854775807) (hno : looks bs = false ∨ tellB bs = false) :
    Calls Try.prog 14 #[.slice A N c, .int .u64 (seq : Int)] w (Untold w) := by
  cases hlk : looks bs
  · exact told_unmarked A N c B bs seq w h hB hc hlk
  · have htb : tellB bs = false := by
      rcases hno with e | e
      · rw [hlk] at e; cases e
      · exact e
    by_cases hN : N < 512
    · exact told_short A N c B bs seq w h hB hc hlk hN
    · refine told_counts A N c B bs seq w h hB hc hm hlk (by omega) (fun ⟨h1, h2⟩ => ?_)
      have : tellB bs = true := by
        unfold tellB
        simp only [Bool.and_eq_true, decide_eq_true_eq]
        rw [h.1]
        exact ⟨by omega, h1, h2⟩
      rw [htb] at this; cases this
theorem told_yes (A : Option Addr) (N c B : Nat) (bs : List UInt8) (seq : Nat) (w : World) (h : Holds w B A N bs) (hB : B ≤ w.heap.size) (hc : N ≤ c) (hm : c ≤ 9223372036854775807) (hlk : looks bs = true) (htb : tellB bs = true) :
    Calls Try.prog 14 #[.slice A N c, .int .u64 (seq : Int)] w (Gold w bs seq) := by
  unfold tellB at htb
  simp only [Bool.and_eq_true, decide_eq_true_eq] at htb
  rw [h.1] at htb
  exact told_some A N c B bs seq w h hB hc hm hlk htb.1 htb.2.1 htb.2.2

/-- Do bytes begin with a record's blocks? -/
def decB (bs : List UInt8) (seq : Nat) : Bool := tellB bs && ((tellL bs seq).mayB && preB (tellL bs seq).enc bs)
theorem enc_mark (t : Tx) : t.enc.take 4 = markL := by
  unfold Tx.enc Tx.head ownL own4
  have h3 : (own3 1 t.seq).take 4 = markL := by rw [own3_eq]; rfl
  have ho : ∀ (a y : List UInt8) (k : Nat), 4 ≤ k → 4 ≤ a.length → (over a k y).take 4 = a.take 4 := fun a y k hk ha => by
    unfold over
    rw [List.take_append_of_le_length (by rw [List.length_take]; omega), List.take_take, Nat.min_eq_left hk]
  have hl : ∀ (a y : List UInt8) (k : Nat), k ≤ a.length → a.length ≤ (over a k y).length := fun a y k hk => by
    unfold over
    simp only [List.length_append, List.length_take, List.length_drop]; omega
  have h4 : 256 ≤ (over (own3 1 t.seq) 16 t.slots).length := by have := hl (own3 1 t.seq) t.slots 16 (by rw [own3_len]; omega); rw [own3_len] at this; exact this
  have h5 := hl (over (own3 1 t.seq) 16 t.slots) (bytesL (sum ((over (own3 1 t.seq) 16 t.slots).take 252)) 4) 252 (by omega)
  rw [List.append_assoc, List.take_append_of_le_length (by omega), ho _ _ 252 (by omega) (by omega), ho _ _ 16 (by omega) (by rw [own3_len]; omega)]
  exact h3
theorem looks_of_pre (t : Tx) (bs : List UInt8) (h : preB t.enc bs = true) : looks bs = true := by
  have e := of_decide_eq_true h
  have h1 := congrArg (List.take 4) e
  rw [List.take_take, enc_mark] at h1
  have hle : 4 ≤ t.enc.length := by
    have := congrArg List.length (enc_mark t)
    rw [List.length_take] at this
    have : markL.length = 4 := rfl
    omega
  rw [Nat.min_eq_left hle] at h1
  exact decide_eq_true h1

def Undecoded (w : World) (e : Ending) (w' : World) : Prop := e = .returned (.tuple #[zeroTx, .int .i64 0, .bool false]) ∧ Below w.heap.size w w'
def Decoded (w : World) (bs : List UInt8) (seq : Nat) (e : Ending) (w' : World) : Prop :=
  ∃ Aw cw Ar cr vs, e = .returned (.tuple #[.agg #[.int .u64 (seq : Int), .slice Aw (nW bs) cw, .slice Ar (nR bs) cr], .int .i64 ((nW bs + 2 : Nat) : Int), .bool true]) ∧ OwnsT w' w.heap.size (tellL bs seq) Aw cw Ar cr vs ∧ Below w.heap.size w w'

theorem tellL_lens (bs : List UInt8) (seq : Nat) : (tellL bs seq).ws.length = nW bs ∧ (tellL bs seq).rs.length = nR bs := by
  unfold tellL
  simp
theorem outNum_lt (k : Nat) (h : k < 4294967296) : outNum k < 2147483648 := by unfold outNum; split <;> omega
theorem OwnsT.holds {w : World} {base : Nat} {bs : List UInt8} {seq : Nat} {Aw Ar : Option Addr} {cw cr : Nat} {vs : List Value} (h : OwnsT w base (tellL bs seq) Aw cw Ar cr vs) (hs : seq < 18446744073709551616) :
    TxAt w w.heap.size (tellL bs seq) Aw (nW bs) cw Ar (nR bs) cr := by
  obtain ⟨e1, e2⟩ := tellL_lens bs seq
  have h1 := h.ws.holds
  rw [e1] at h1
  have h2 := row_ints (h.rs) rfl
  rw [e2] at h2
  have h3 := nW_lt bs
  have h4 := nR_lt bs
  have hcw : nW bs ≤ cw := by
    have := h.ws.row
    rw [e1] at this
    rcases this.2 with ⟨hv, h0⟩ | ⟨g, cap, cur, hv, _, _, hc, _⟩
    · omega
    · injection hv with _ _ e; omega
  have hcr : nR bs ≤ cr := by
    have := h.rs
    rw [e2] at this
    rcases this.2 with ⟨hv, h0⟩ | ⟨g, cap, cur, hv, _, _, hc, _⟩
    · omega
    · injection hv with _ _ e; omega
  refine ⟨h1, h2, hs, ⟨hcw, by omega, hcr, by omega⟩, fun x hx => ?_, fun x hx => ?_⟩
  · unfold tellL at hx
    simp only [List.mem_map, List.mem_range] at hx
    obtain ⟨i, _, rfl⟩ := hx
    have := outNum_lt _ (numFrom_lt bs (20 + 4 * i) 4)
    unfold wtAt IsInt
    dsimp only
    omega
  · unfold tellL at hx
    simp only [List.mem_map, List.mem_range] at hx
    obtain ⟨i, _, rfl⟩ := hx
    have := numFrom_lt bs (20 + 4 * (nW bs + i)) 4
    unfold rvAt IsInt
    omega

set_option maxRecDepth 100000 in
theorem dec_untold (A : Option Addr) (N c B : Nat) (bs : List UInt8) (seq : Nat) (w : World) (h : Holds w B A N bs) (hB : B ≤ w.heap.size) (hc : N ≤ c) (hm : c ≤ 9223372036854775807) (hno : looks bs = false ∨ tellB bs = false) :
    Calls Try.prog 6 #[.slice A N c, .int .u64 (seq : Int)] w (Undecoded w) := by
  have hb0 := (Below.refl w.heap.size w).alloc (Nat.le_refl _) (.cells #[.int .u64 0, .slice none 0 0, .slice none 0 0] 26)
  have hbk := heap_alloc_new w (.cells #[.int .u64 0, .slice none 0 0, .slice none 0 0] 26)
  have hs0 : w.heap.size < (w.alloc (.cells #[.int .u64 0, .slice none 0 0, .slice none 0 0] 26)).heap.size := by simp
  have h1 := h.below (hb0.mono hB)
  have H1 := Lib.hid h1; clear h1
  have HB0 := Lib.hid hb0; clear hb0
  have HBK := Lib.hid hbk; clear hbk h
  have HNO := Lib.hid hno; clear hno
  go_enter Try.func6, Try.ntmps6
  go_wp2_with fail
  generalize w.alloc (.cells #[.int .u64 0, .slice none 0 0, .slice none 0 0] 26) = W at H1 HB0 HBK hs0 ⊢
  refine (told_no A N c B bs seq W H1.out (by omega) hc hm HNO.out).mono ?_
  rintro e W1 ⟨he, hb1⟩
  unfold zeroTx at he
  subst he
  have hbk1 := (hb1.block _ hs0).trans HBK.out
  have HB1 : Hid (Below w.heap.size w W1) := Lib.hid (HB0.out.trans (hb1.mono (by omega)))
  have hz1 : w.heap.size < W1.heap.size := by have := hb1.size; omega
  have q0 : W1.cell? ⟨w.heap.size, 0, none⟩ = some (.int .u64 0) := cell_of_row W1 w.heap.size 0 _ _ _ hbk1
  have q1 : W1.cell? ⟨w.heap.size, 1, none⟩ = some (.slice none 0 0) := cell_of_row W1 w.heap.size 1 _ _ _ hbk1
  have q2 : W1.cell? ⟨w.heap.size, 2, none⟩ = some (.slice none 0 0) := cell_of_row W1 w.heap.size 2 _ _ _ hbk1
  have f0 := frozen_of_row W1 w.heap.size 0 _ _ hbk1
  have f1 := frozen_of_row W1 w.heap.size 1 _ _ hbk1
  have f2 := frozen_of_row W1 w.heap.size 2 _ _ hbk1
  clear hb1 hbk1
  go_wp2_with fail
  have r0 : ((((W1.setCell ⟨w.heap.size, 0, none⟩ (.int .u64 0)).setCell ⟨w.heap.size, 1, none⟩ (.slice none 0 0)).setCell ⟨w.heap.size, 2, none⟩ (.slice none 0 0)).alloc (.cells #[.int .u64 0, .slice none 0 0, .slice none 0 0] 26)).cell? ⟨w.heap.size, 0, none⟩ = some (.int .u64 0) := Lib.cell?_alloc_some _ (by simp [go_sem, q0])
  have r1 : ((((W1.setCell ⟨w.heap.size, 0, none⟩ (.int .u64 0)).setCell ⟨w.heap.size, 1, none⟩ (.slice none 0 0)).setCell ⟨w.heap.size, 2, none⟩ (.slice none 0 0)).alloc (.cells #[.int .u64 0, .slice none 0 0, .slice none 0 0] 26)).cell? ⟨w.heap.size, 1, none⟩ = some (.slice none 0 0) := Lib.cell?_alloc_some _ (by simp [go_sem, q1])
  have r2 : ((((W1.setCell ⟨w.heap.size, 0, none⟩ (.int .u64 0)).setCell ⟨w.heap.size, 1, none⟩ (.slice none 0 0)).setCell ⟨w.heap.size, 2, none⟩ (.slice none 0 0)).alloc (.cells #[.int .u64 0, .slice none 0 0, .slice none 0 0] 26)).cell? ⟨w.heap.size, 2, none⟩ = some (.slice none 0 0) := Lib.cell?_alloc_some _ (by simp [go_sem, q2])
  refine bodyPost_ret (v := .tuple #[.agg #[.int .u64 0, .slice none 0 0, .slice none 0 0], .int .i64 0, .bool false]) (by simp [results, go_sem, r0, r1, r2]) rfl ⟨rfl, ?_⟩
  exact (((HB1.out.setCell (by simp) _).setCell (by simp) _).setCell (by simp) _).alloc (by simp [World.setCell]; omega) _

theorem OwnsT.mono {w : World} {base b' : Nat} {t : Tx} {Aw Ar : Option Addr} {cw cr : Nat} {vs : List Value} (h : OwnsT w base t Aw cw Ar cr vs) (hb : b' ≤ base) : OwnsT w b' t Aw cw Ar cr vs :=
  ⟨h.ws.mono hb, ownsRow_mono h.rs hb⟩

def DecPost (w : World) (bs : List UInt8) (seq : Nat) (e : Ending) (w' : World) : Prop := (decB bs seq = true ∧ Decoded w bs seq e w') ∨ (decB bs seq = false ∧ Undecoded w e w')

set_option maxRecDepth 100000 in
set_option maxHeartbeats 2000000 in
theorem dec_told (A : Option Addr) (N c B : Nat) (bs : List UInt8) (seq : Nat) (w : World) (h : Holds w B A N bs) (hB : B ≤ w.heap.size) (hc : N ≤ c) (hm : c ≤ 9223372036854775807) (hseq : seq < 18446744073709551616) (hlk : looks bs = true) (htb : tellB bs = true) :
    Calls Try.prog 6 #[.slice A N c, .int .u64 (seq : Int)] w (DecPost w bs seq) := by
  have hb0 := (Below.refl w.heap.size w).alloc (Nat.le_refl _) (.cells #[.int .u64 0, .slice none 0 0, .slice none 0 0] 26)
  have hbk := heap_alloc_new w (.cells #[.int .u64 0, .slice none 0 0, .slice none 0 0] 26)
  have hs0 : w.heap.size < (w.alloc (.cells #[.int .u64 0, .slice none 0 0, .slice none 0 0] 26)).heap.size := by simp
  have h1 := h.below (hb0.mono hB)
  have H0 := Lib.hid h
  have H1 := Lib.hid h1; clear h1
  have HB0 := Lib.hid hb0; clear hb0
  have HBK := Lib.hid hbk; clear hbk h
  have HLK := Lib.hid hlk; clear hlk
  have HTB := Lib.hid htb; clear htb
  go_enter Try.func6, Try.ntmps6
  go_wp2_with fail
  generalize w.alloc (.cells #[.int .u64 0, .slice none 0 0, .slice none 0 0] 26) = W at H1 HB0 HBK hs0 ⊢
  refine (told_yes A N c B bs seq W H1.out (by omega) hc hm HLK.out HTB.out).mono ?_
  rintro e W1 ⟨Aw, cw, Ar, cr, vs, rfl, hot, hb1⟩
  have hbk1 := (hb1.block _ hs0).trans HBK.out
  have HB1 : Hid (Below w.heap.size w W1) := Lib.hid (HB0.out.trans (hb1.mono (by omega)))
  have hz1 : w.heap.size < W1.heap.size := by have := hb1.size; omega
  have hzW : W.heap.size ≤ W1.heap.size := hb1.size
  have hnw := nW_lt bs
  have hnr := nR_lt bs
  obtain ⟨cur, hcur⟩ : ∃ x, x = #[Value.int .u64 (seq : Int), .slice Aw (nW bs) cw, .slice Ar (nR bs) cr] := ⟨_, rfl⟩
  obtain ⟨W2, hW2⟩ : ∃ V, V = W1.alloc (.cells cur 26) := ⟨_, rfl⟩
  have hbA : Below W1.heap.size W1 W2 := by rw [hW2]; exact (Below.refl _ _).alloc (Nat.le_refl _) _
  have hbk2 := (hbA.block _ hz1).trans hbk1
  have hbp2 : W2.heap[W1.heap.size]? = some (.cells cur 26 (0, 0)) := by rw [hW2]; exact heap_alloc_new W1 _
  have hz2 : W2.heap.size = W1.heap.size + 1 := by rw [hW2]; simp
  have hot2 := hot.kept (Kept.of_below hbA (Nat.le_refl _))
  have htx := hot2.holds hseq
  clear hseq
  have hec := enc_any (tellL bs seq) Aw Ar (nW bs) cw (nR bs) cr W2.heap.size W2 htx (Nat.le_refl _)
  rw [show (tellL bs seq).seq = seq from rfl, ← hcur] at hec
  obtain ⟨p, hp⟩ : ∃ x, x = W1.heap.size := ⟨_, rfl⟩
  have hlens := tellL_lens bs seq
  have hdec : decB bs seq = ((tellL bs seq).mayB && preB (tellL bs seq).enc bs) := by unfold decB; rw [HTB.out]; rfl
  have hel : (tellL bs seq).mayB = true → (tellL bs seq).enc.length = 256 * (nW bs + 2) := fun hm => by
    have := enc_len _ ((mayB_iff _).1 hm)
    rwa [hlens.1] at this
  obtain ⟨n2, hn2⟩ : ∃ n, n = nW bs + 2 := ⟨_, rfl⟩
  rw [← hn2] at hel
  have hn2l : n2 ≤ 65537 := by omega
  have HOT := Lib.hid hot2; clear hot hot2 htx
  have HEC := Lib.hid hec; clear hec
  have HBA := Lib.hid hbA; clear hbA
  have HBK2 := Lib.hid hbk2; clear hbk2 hbk1
  have HBP2 := Lib.hid hbp2; clear hbp2
  have HDEC := Lib.hid hdec; clear hdec
  have HEL := Lib.hid hel; clear hel
  have HN2 := Lib.hid hn2; clear hn2 hlens hb1
  have HZ2 := Lib.hid hz2; clear hz2
  have HHO := Lib.hid (H0.out.below ((HB1.out.trans (HBA.out.mono (by omega))).mono hB))
  have HW2 := Lib.hid hW2; clear hW2
  have HP := Lib.hid hp; clear hp
  have HCUR := Lib.hid hcur; clear hcur
  go_wp2_with fail
  rw [← HCUR.out, ← HW2.out, ← HP.out]
  refine HEC.out.mono ?_
  rintro e w3 hT
  rcases hT with ⟨hmb, rfl, hb3⟩ | ⟨hmb, A4, c4, rfl, ho4, hb4⟩
  · have hd : decB bs seq = false := by rw [HDEC.out, hmb]; rfl
    have HD := Lib.hid hd; clear hd hmb
    have hbk3 := (hb3.block _ (by have := HZ2.out; omega)).trans HBK2.out
    have HB3 : Hid (Below w.heap.size w w3) := Lib.hid ((HB1.out.trans (HBA.out.mono (by omega))).trans (hb3.mono (by have := HZ2.out; omega)))
    have q0 : w3.cell? ⟨w.heap.size, 0, none⟩ = some (.int .u64 0) := cell_of_row w3 w.heap.size 0 _ _ _ hbk3
    have q1 : w3.cell? ⟨w.heap.size, 1, none⟩ = some (.slice none 0 0) := cell_of_row w3 w.heap.size 1 _ _ _ hbk3
    have q2 : w3.cell? ⟨w.heap.size, 2, none⟩ = some (.slice none 0 0) := cell_of_row w3 w.heap.size 2 _ _ _ hbk3
    have f0 := frozen_of_row w3 w.heap.size 0 _ _ hbk3
    have f1 := frozen_of_row w3 w.heap.size 1 _ _ hbk3
    have f2 := frozen_of_row w3 w.heap.size 2 _ _ hbk3
    clear hb3 hbk3
    go_wp2_with fail
    refine bodyPost_ret (v := .tuple #[.agg #[.int .u64 0, .slice none 0 0, .slice none 0 0], .int .i64 0, .bool false]) (by simp [results, go_sem, q0, q1, q2]) rfl (.inr ⟨HD.out, rfl, ?_⟩)
    exact ((HB3.out.setCell (by simp) _).setCell (by simp) _).setCell (by simp) _
  · have hL := HEL.out hmb
    rw [hL] at ho4 ⊢
    have hdd : decB bs seq = preB (tellL bs seq).enc bs := by rw [HDEC.out, hmb]; rfl
    have hfits := Owned.fits ho4
    have hbk3 := (hb4.block _ (by have := HZ2.out; omega)).trans HBK2.out
    have hbp3 := (hb4.block _ (by have := HZ2.out; omega)).trans HBP2.out
    rw [← HP.out] at hbp3
    have HB3 : Hid (Below w.heap.size w w3) := Lib.hid ((HB1.out.trans (HBA.out.mono (by omega))).trans (hb4.mono (by have := HZ2.out; omega)))
    have HOT3 := Lib.hid (HOT.out.kept (Kept.of_below hb4 (Nat.le_refl _)))
    have HR4 := Lib.hid (Owned.reads ho4)
    have HH3 := Lib.hid (H0.out.below (HB3.out.mono hB))
    have HDD := Lib.hid hdd; clear hdd
    have HLL := Lib.hid hL; clear hL ho4 hmb
    obtain ⟨L, hL2⟩ : ∃ L, L = 256 * n2 := ⟨_, rfl⟩
    rw [← hL2] at HR4 hfits HLL ⊢
    have hq : (L : Int) / 256 = (n2 : Int) := by omega
    have hl0 : 0 < L := by have := HN2.out; omega
    have hl1 : L ≤ 16777472 := by omega
    have HQ := Lib.hid hL2; clear hL2
    clear hb4
    go_wp2_with fail
    refine (hasPrefix_any A A4 N L c c4 B w3.heap.size bs (tellL bs seq).enc w3 HH3.out HR4.out hl0 hc).mono ?_
    rintro e w' ⟨rfl, rfl⟩
    have q0 : w3.cell? ⟨w.heap.size, 0, none⟩ = some (.int .u64 0) := cell_of_row w3 w.heap.size 0 _ _ _ hbk3
    have q1 : w3.cell? ⟨w.heap.size, 1, none⟩ = some (.slice none 0 0) := cell_of_row w3 w.heap.size 1 _ _ _ hbk3
    have q2 : w3.cell? ⟨w.heap.size, 2, none⟩ = some (.slice none 0 0) := cell_of_row w3 w.heap.size 2 _ _ _ hbk3
    have f0 := frozen_of_row w3 w.heap.size 0 _ _ hbk3
    have f1 := frozen_of_row w3 w.heap.size 1 _ _ hbk3
    have f2 := frozen_of_row w3 w.heap.size 2 _ _ hbk3
    have HBP3 := Lib.hid hbp3; clear hbp3
    have HBK3 := Lib.hid hbk3; clear hbk3
    cases hpre : preB (tellL bs seq).enc bs
    · rw [hpre] at HDD
      clear hpre
      go_wp2_with fail
      refine bodyPost_ret (v := .tuple #[.agg #[.int .u64 0, .slice none 0 0, .slice none 0 0], .int .i64 0, .bool false]) (by simp [results, go_sem, q0, q1, q2]) rfl (.inr ⟨HDD.out, rfl, ?_⟩)
      exact ((HB3.out.setCell (by simp) _).setCell (by simp) _).setCell (by simp) _
    · rw [hpre] at HDD
      have p0 : w3.cell? ⟨p, 0, none⟩ = some (.int .u64 (seq : Int)) := by rw [cell_of_row _ _ _ _ _ _ HBP3.out, HCUR.out]; rfl
      have p1 : w3.cell? ⟨p, 1, none⟩ = some (.slice Aw (nW bs) cw) := by rw [cell_of_row _ _ _ _ _ _ HBP3.out, HCUR.out]; rfl
      have p2 : w3.cell? ⟨p, 2, none⟩ = some (.slice Ar (nR bs) cr) := by rw [cell_of_row _ _ _ _ _ _ HBP3.out, HCUR.out]; rfl
      clear hpre
      go_wp2_with fail
      refine bodyPost_ret (v := .tuple #[.agg #[.int .u64 (seq : Int), .slice Aw (nW bs) cw, .slice Ar (nR bs) cr], .int .i64 (n2 : Int), .bool true]) (by simp [results, go_sem, q0, q1, q2]) rfl (.inl ⟨HDD.out, Aw, cw, Ar, cr, vs, by rw [HN2.out], ?_, ?_⟩)
      · have hk1 : Kept W.heap.size w3 (((w3.setCell ⟨w.heap.size, 0, none⟩ (.int .u64 (seq : Int))).setCell ⟨w.heap.size, 1, none⟩ (.slice Aw (nW bs) cw)).setCell ⟨w.heap.size, 2, none⟩ (.slice Ar (nR bs) cr)) :=
          Kept.trans (Kept.trans (Kept.cell (by omega)) (Kept.cell (by omega)) (by simp [World.setCell])) (Kept.cell (by omega)) (by simp [World.setCell])
        exact (HOT3.out.kept hk1).mono (by omega)
      · exact ((HB3.out.setCell (by simp) _).setCell (by simp) _).setCell (by simp) _

theorem dec_any (A : Option Addr) (N c B : Nat) (bs : List UInt8) (seq : Nat) (w : World) (h : Holds w B A N bs) (hB : B ≤ w.heap.size) (hc : N ≤ c) (hm : c ≤ 9223372036854775807) (hseq : seq < 18446744073709551616) :
    Calls Try.prog 6 #[.slice A N c, .int .u64 (seq : Int)] w (DecPost w bs seq) := by
  by_cases hy : looks bs = true ∧ tellB bs = true
  · exact dec_told A N c B bs seq w h hB hc hm hseq hy.1 hy.2
  · have hno : looks bs = false ∨ tellB bs = false := by
      cases h1 : looks bs
      · exact .inl rfl
      · cases h2 : tellB bs
        · exact .inr rfl
        · exact absurd ⟨h1, h2⟩ hy
    have hd : decB bs seq = false := by
      rcases hno with e | e
      · cases hd : decB bs seq
        · rfl
        · exfalso
          unfold decB at hd
          simp only [Bool.and_eq_true] at hd
          rw [looks_of_pre _ _ hd.2.2] at e
          cases e
      · unfold decB; rw [e]; rfl
    exact (dec_untold A N c B bs seq w h hB hc hm hno).mono fun e w' hu => .inr ⟨hd, hu⟩
end Go.Proofs.Ytjbelbhcdbbelaa.Rec
