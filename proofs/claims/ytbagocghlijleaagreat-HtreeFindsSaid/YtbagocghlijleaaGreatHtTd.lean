/- turned: a directory like the given one, with another text as one of its blocks. -/
import Derived.Test.YtbagocghlijleaaGreatHtAf
namespace Go.Proofs.YtbagocghlijleaaGreat.Ht
set_option maxRecDepth 20000
open Go.RowKit
open Go.Proofs.YtbagocghlijleaaGreat.Mem Go.Proofs.YtbagocghlijleaaGreat.Crc Go.Proofs.YtbagocghlijleaaGreat.Rec Go.Proofs.YtbagocghlijleaaGreat.Reg Go.Proofs.YtbagocghlijleaaGreat.Lf

theorem ownN_new (w : World) (n : Nat) (hn : n ≤ maxLen) : OwnN (w.alloc (.cells (List.replicate n (Value.slice none 0 0)).toArray 34)) w.heap.size (.slice (some ⟨w.heap.size, 0, none⟩) n n) (List.replicate n []) := by
  refine ⟨List.replicate n (Value.slice none 0 0), ⟨by simp, .inr ⟨w.heap.size, n, (List.replicate n (Value.slice none 0 0)).toArray, by rw [List.length_replicate], Nat.le_refl _, heap_alloc_new w _, by rw [List.length_replicate]; exact Nat.le_refl _, hn, by simp, by simp⟩⟩, by simp, fun k hk => ?_⟩
  rw [List.length_replicate] at hk
  refine ⟨none, 0, by simp [hk], ?_⟩
  simp only [List.getElem_replicate]
  exact World.ownsRow_nil _ _ _ _
/-- A text stored into a row of one's own. -/
theorem putN {w : World} {base g n cap : Nat} {N : List (List UInt8)} (h : OwnN w base (.slice (some ⟨g, 0, none⟩) n cap) N) (j : Nat) (hj : j < N.length) (A' : Option Addr) (c' m : Nat) (bs : List UInt8) (hm : bs.length = m) (hb : Owned w base (.slice A' m c') bs) :
    OwnN (w.setCell ⟨g, j, none⟩ (.slice A' m c')) base (.slice (some ⟨g, 0, none⟩) n cap) (N.set j bs) ∧ w.grownBy (w.setCell ⟨g, j, none⟩ (.slice A' m c')) (some g) ∧
    (w.cell? ⟨g, j, none⟩).isSome = true ∧ w.frozen? ⟨g, j, none⟩ = false := by
  subst hm
  have hn := h.fits.1
  subst hn
  have h0 := h
  obtain ⟨vs, hr, hl, hv⟩ := h
  have hgr : w.grownBy (w.setCell ⟨g, j, none⟩ (.slice A' bs.length c')) (some g) := Lib.grownBy_setCell _ _ _ _
  have hsafe : ∀ {u : Value} {l : List UInt8}, Owned w base u l → Owned (w.setCell ⟨g, j, none⟩ (.slice A' bs.length c')) base u l := fun hu => owned_keep hu fun i hi => hgr.block i (owned_lt hu i hi).2 (fun e => by
    obtain ⟨cs, z, e1⟩ := ownN_cells h0 (k := i) (by first | exact e.symm | exact e)
    obtain ⟨cs', z', e2⟩ := owned_cells hu hi
    rw [e1] at e2
    injection e2 with e2
    injection e2 with _ e2
    exact absurd e2 (by decide))
  rcases hr.2 with ⟨e, _⟩ | ⟨g1, cap1, cur, e, h1, h2, h3, h4, h5, h6⟩
  · cases e
  · injection e with e1 e2 e3
    injection e1 with e1
    injection e1 with e1
    subst e1 e3
    simp only [Nat.mul_one] at h5 h6
    have hlt : j < cur.size := by omega
    refine ⟨⟨vs.set j (.slice A' bs.length c'), ⟨by simp [hl], .inr ⟨g, cap, cur.setIfInBounds j (.slice A' bs.length c'), by rw [List.length_set], h1, Lib.heap_setCell_same (i := j) h2 _, by rw [List.length_set]; exact h3, h4, by simpa using h5, ?_⟩⟩, by simp [hl], fun k hk => ?_⟩, hgr, ?_, frozen_of_row _ _ _ _ _ h2⟩
    · rw [List.length_set, Nat.mul_one, Array.toList_setIfInBounds, ← h6]
      exact List.take_set
    · rw [List.length_set] at hk
      by_cases hkj : j = k
      · subst hkj
        refine ⟨A', c', ?_, ?_⟩
        · rw [List.getElem_set_self, List.getElem?_set_self (by omega)]
        · rw [List.getElem_set_self]; exact hsafe hb
      · obtain ⟨A1, c1, e, ho⟩ := hv k hk
        rw [List.getElem_set_ne hkj]
        exact ⟨A1, c1, by rw [List.getElem?_set_ne hkj]; exact e, hsafe ho⟩
    · rw [cell_of_row _ _ j _ _ _ h2, Array.getElem?_eq_getElem hlt]; rfl

theorem make_texts (n : Nat) (hn : n ≤ 5864062014634) (W : World) : (Instr.makeSlice 24 (.int .i64 (n : Int)) (.int .i64 (n : Int))).run Tryz.prog W = .ok (.slice (some ⟨W.heap.size, 0, none⟩) n n) (W.alloc (.cells (List.replicate n (Value.slice none 0 0)).toArray 34)) := by
  rw [run_make_row' 24 34 (.slice none 0 0) 24 Tryz.underlying24 info_node rfl .i64 .i64 n (by omega) (by omega) W]
  congr 3
  simp only [madeCells]
  ext i h1 h2 <;> simp [Nat.mod_one]

theorem bclone_any (A : Option Addr) (n c B : Nat) (bs : List UInt8) (w : World) (h : Holds w B A n bs) (hn : n ≤ 140737488355328) (hB : B ≤ w.heap.size) :
    Calls Tryz.prog 72 #[.slice A n c] w (Made w bs) := by
  obtain rfl : bs.length = n := h.1
  rcases A with _ | a
  · have h0 : bs.length = 0 := by
      rcases Nat.eq_zero_or_pos bs.length with e | e
      · exact e
      · obtain ⟨b, off, e, _⟩ := h.2 e; cases e
    obtain rfl : bs = [] := List.eq_nil_of_length_eq_zero h0
    have hq : ∀ W, (binOp .eql 34 (.slice none 0 c) (.slice none 0 0)).run Tryz.prog W = .ok (.bool true) W := fun W => Lib.run_eql_slice_nil W _ _ none 0 c 0 0 Tryz.underlying34
    clear h h0
    go_enter Tryz.func72, Tryz.ntmps72
    go_wp2
    go_ret
    exact ⟨none, 0, rfl, World.ownsRow_nil _ _ _ _, Below.refl _ _⟩
  · have hq : ∀ W, (binOp .eql 34 (.slice (some a) bs.length c) (.slice none 0 0)).run Tryz.prog W = .ok (.bool false) W := fun W => Lib.run_eql_slice_nil W _ _ (some a) bs.length c 0 0 Tryz.underlying34
    have ho := owned_made w [] w.heap.size (Nat.le_refl _) (by unfold maxLen; simp)
    go_enter Tryz.func72, Tryz.ntmps72
    go_wp2_with (at_builtin; refine wpList_addall rfl _ _ rfl w.heap.size _ [] rfl ho B (some a) bs.length c bs rfl ?c1 ?c2 ?c3 ?_)
    case c1 => exact h.below (((Below.refl w.heap.size w).alloc (Nat.le_refl _) _).mono hB)
    case c2 => simp; omega
    case c3 => simp
    intro g w2 ho2 hb2
    obtain ⟨A2, c2, rfl, -⟩ := Owned.holds ho2
    have HO := Lib.hid ho2; clear ho2
    have HB := Lib.hid hb2; clear hb2
    clear ho
    go_wp2
    go_ret
    exact ⟨A2, c2, rfl, HO.out, ((Below.refl w.heap.size w).alloc (Nat.le_refl _) _).trans HB.out⟩


set_option maxRecDepth 100000 in
set_option maxHeartbeats 8000000 in
theorem turned_any (A : Option Addr) (n c B : Nat) (d : List (List UInt8)) (w : World) (h : HoldsN w B A n d) (hB : B ≤ w.heap.size) (hn : n ≤ 5864062014634) (hsz : ∀ b ∈ d, b.length ≤ 140737488355328) (blk : Nat) (hblk : blk < n) (base : Nat) (hbase : base ≤ w.heap.size) (A' : Option Addr) (m c' : Nat) (bs : List UInt8) (hm : bs.length = m) (hbs : Owned w base (.slice A' m c') bs) :
    Calls Tryz.prog 46 #[.slice A n c, .int .i64 (blk : Int), .slice A' m c'] w fun e w' => ∃ v, e = .returned v ∧ OwnN w' base v (d.set blk bs) ∧ Below w.heap.size w w' := by
  have hdn : d.length = n := h.1
  obtain ⟨g0, off, rfl, hg0, hcell⟩ := h.2 (by omega)
  have hmk := make_texts n hn w
  have hown := ownN_new w n (by unfold maxLen; omega)
  obtain ⟨W0, hW0⟩ : ∃ W0, W0 = w.alloc (.cells (List.replicate n (Value.slice none 0 0)).toArray 34) := ⟨_, rfl⟩
  have hown0 : OwnN W0 w.heap.size (.slice (some ⟨w.heap.size, 0, none⟩) n n) (List.replicate n []) := by rw [hW0]; exact hown
  have hb0 : Below w.heap.size w W0 := by rw [hW0]; exact (Below.refl _ w).alloc (Nat.le_refl _) _
  rw [← hW0] at hmk
  obtain ⟨g, hg⟩ : ∃ g, g = w.heap.size := ⟨_, rfl⟩
  rw [← hg] at hmk
  have HO0 : Hid (OwnN W0 w.heap.size (.slice (some ⟨g, 0, none⟩) n n) (List.replicate n [])) := Lib.hid (by rw [hg]; exact hown0)
  have HB0 := Lib.hid hb0
  have HGG : Hid (w.heap.size ≤ g) := Lib.hid (by omega)
  have HH := Lib.hid h
  have HCELL := Lib.hid hcell
  have HSZ := Lib.hid hsz
  have HBS := Lib.hid hbs
  have HM := Lib.hid hm
  have HBASE := Lib.hid hbase
  have HDN := Lib.hid hdn
  have HG0 := Lib.hid hg0
  have HBB := Lib.hid hB
  clear hown hown0 hb0 hW0 hg h hcell hsz hbs hm hbase hdn hg0 hB
  go_enter Tryz.func46, Tryz.ntmps46
  go_wp2_with fail
  go_loopw [14] (fun i wr => ∃ k : Nat, k ≤ n ∧ i = .int .i64 (k : Int) ∧ OwnN wr w.heap.size (.slice (some ⟨g, 0, none⟩) n n) (d.take k ++ List.replicate (n - k) []) ∧ Below w.heap.size w wr) (fun i _ => n - (intOf i).toNat)
  case atStart => exact ⟨0, Nat.zero_le _, rfl, by simpa using HO0.out, HB0.out⟩
  case round =>
    obtain ⟨k, hk, rfl, hown, hb⟩ := hrel
    have HB := Lib.hid hb; clear hb
    have HO := Lib.hid hown; clear hown
    rcases Nat.lt_or_ge k n with hlt | hge
    · obtain ⟨A1, c1, hc1, hh1, hle1, hcm1⟩ := HCELL.out k (by have := HDN.out; omega)
      obtain ⟨bk, hbk⟩ : ∃ bk, bk = d[k]'(by have := HDN.out; omega) := ⟨_, rfl⟩
      rw [← hbk] at hc1 hh1 hle1
      have hbkl : bk.length ≤ 140737488355328 := by rw [hbk]; exact HSZ.out _ (List.getElem_mem _)
      obtain ⟨L1, hL1⟩ : ∃ L1, L1 = bk.length := ⟨_, rfl⟩
      rw [← hL1] at hc1 hh1 hle1 hbkl
      have hcl : ∀ V, Below w.heap.size w V → Calls Tryz.prog 72 #[.slice A1 L1 c1] V (Made V bk) := fun V hV => bclone_any A1 L1 c1 B bk V (hh1.below (hV.mono HBB.out)) hbkl (by have := hV.size; have := HBB.out; omega)
      have HCL := Lib.hid hcl
      have HBK := Lib.hid hbk
      have HL1 := Lib.hid hL1
      have hcw : ∀ V, Below w.heap.size w V → V.cell? ⟨g0, off + k, none⟩ = some (.slice A1 L1 c1) := fun V hV => (hV.cell (p := ⟨g0, off + k, none⟩) (by show g0 < w.heap.size; have := HG0.out; have := HBB.out; omega)).trans hc1
      have hcw1 := hcw wr HB.out
      have hcw2 : wr.drew.cell? ⟨g0, off + k, none⟩ = some (.slice A1 L1 c1) := hcw _ (below_drew HB.out)
      have HCW := Lib.hid hcw
      have hk2 : (k : Int) < (n : Int) := by omega
      clear hcl hbk hL1 hcw hc1 hh1
      go_wp2_with fail
      with_reducible refine (HCL.out _ HB.out).mono ?_
      rintro E V ⟨A2, c2, rfl, ho2, hb2⟩
      have hlen : (d.take k ++ List.replicate (n - k) []).length = n := by simp; have := HDN.out; omega
      have hnext : (d.take k ++ List.replicate (n - k) []).set k bk = d.take (k + 1) ++ List.replicate (n - (k + 1)) [] := by
        have hl : (d.take k).length = k := by simp; have := HDN.out; omega
        rw [List.set_append_right _ _ (by omega), hl, Nat.sub_self, List.take_succ_eq_append_getElem (by have := HDN.out; omega), ← HBK.out, show n - k = (n - (k + 1)) + 1 by omega, List.replicate_succ]
        simp
      obtain ⟨hfin, hgfin, hsome, hfrz⟩ := putN (HO.out.below hb2) k (by omega) A2 c2 bk.length bk rfl (Owned.mono ho2 HB.out.size)
      rw [hnext] at hfin
      obtain ⟨x0, hx0⟩ := Option.isSome_iff_exists.1 hsome
      have hbV : Below w.heap.size w V := HB.out.trans (hb2.mono HB.out.size)
      have hbf : Below w.heap.size w (V.setCell ⟨g, k, none⟩ (.slice A2 bk.length c2)) := hbV.grown hgfin hbV.size (fun j hj => by injection hj with hj; have := HGG.out; omega)
      have HFIN := Lib.hid hfin
      have HBF := Lib.hid hbf
      clear hfin hgfin hsome hbf hlen hnext ho2 hb2 hbV
      go_wp2_with fail
      refine ⟨⟨k + 1, hlt, by go_num, HFIN.out, HBF.out⟩, ?_⟩
      simp [intOf]; omega
    · have hk2 : ¬ (k : Int) < (n : Int) := by omega
      obtain rfl : k = n := by omega
      have hfull : d.take k ++ List.replicate (k - k) [] = d := by rw [List.take_of_length_le (by have := HDN.out; omega)]; simp
      rw [hfull] at HO
      have hbs' : Owned wr base (.slice A' m c') bs := owned_keep HBS.out fun i hi => HB.out.block i (owned_lt HBS.out i hi).2
      have hown' : OwnN wr base (.slice (some ⟨g, 0, none⟩) k k) d := HO.out.mono HBASE.out
      obtain ⟨hfin, hgfin, hsome, hfrz⟩ := putN hown' blk (by have := HDN.out; omega) A' c' m bs HM.out hbs'
      obtain ⟨x0, hx0⟩ := Option.isSome_iff_exists.1 hsome
      have hbf : Below w.heap.size w (wr.setCell ⟨g, blk, none⟩ (.slice A' m c')) := HB.out.grown hgfin HB.out.size (fun j hj => by injection hj with hj; have := HGG.out; omega)
      have HFIN := Lib.hid hfin
      have HBF := Lib.hid hbf
      clear hfin hgfin hsome hbf hbs' hown' hfull
      go_wp2_with fail
      go_ret
      exact ⟨_, rfl, HFIN.out, HBF.out⟩
end Go.Proofs.YtbagocghlijleaaGreat.Ht
