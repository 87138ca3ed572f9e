/- ReplayAgain: for every area, case and bits, a recovery that crashed half way and is made again leaves the disk as one that did not crash. -/
import Derived.Test.YtelnoibfamcnmaaRpArg
import Derived.Test.YtelnoibfamcnmaaDkLoad
namespace Go.Proofs.Ytelnoibfamcnmaa.ReplayAgain
set_option maxRecDepth 20000
open Go.ChangeShapes Go.WideShapes Go.ChangeAt Go.RowKit
open Go.Proofs.Ytelnoibfamcnmaa.Mem Go.Proofs.Ytelnoibfamcnmaa.Lift Go.Proofs.Ytelnoibfamcnmaa.Crc Go.Proofs.Ytelnoibfamcnmaa.Disk Go.Proofs.Ytelnoibfamcnmaa.Log Go.Proofs.Ytelnoibfamcnmaa.Rp
open Go.Proofs.Ytelnoibfamcnmaa.Rec (Tx Wt TxAt)

/-! ### What a way home does to one block: it leaves it, or lays bytes there that the disk has no say in -/
structure Dich (n i : Nat) (f : Dk.Dk → Dk.Dk) : Prop where
  keep : ∀ d : Dk.Dk, d.Ok → d.stable.length = n → (f d).Ok ∧ (f d).stable.length = n
  way : (∀ d : Dk.Dk, d.Ok → d.stable.length = n → (f d).read i = d.read i) ∨ ∃ x, ∀ d : Dk.Dk, d.Ok → d.stable.length = n → (f d).read i = x
theorem Dich.comp {n i : Nat} {f g : Dk.Dk → Dk.Dk} (hf : Dich n i f) (hg : Dich n i g) : Dich n i (fun d => g (f d)) := by
  refine ⟨fun d h1 h2 => hg.keep _ (hf.keep d h1 h2).1 (hf.keep d h1 h2).2, ?_⟩
  rcases hg.way with e | ⟨x, e⟩
  · rcases hf.way with e2 | ⟨x, e2⟩
    · exact .inl fun d h1 h2 => (e _ (hf.keep d h1 h2).1 (hf.keep d h1 h2).2).trans (e2 d h1 h2)
    · exact .inr ⟨x, fun d h1 h2 => (e _ (hf.keep d h1 h2).1 (hf.keep d h1 h2).2).trans (e2 d h1 h2)⟩
  · exact .inr ⟨x, fun d h1 h2 => e _ (hf.keep d h1 h2).1 (hf.keep d h1 h2).2⟩
theorem dich_fold {α : Type} {n i : Nat} (g : Dk.Dk → α → Dk.Dk) : ∀ l : List α, (∀ a ∈ l, Dich n i (fun d => g d a)) → Dich n i (fun d => l.foldl g d)
  | [], _ => ⟨fun _ h1 h2 => ⟨h1, h2⟩, .inl fun _ _ _ => rfl⟩
  | a :: l, h => (h a (List.mem_cons_self ..)).comp (dich_fold g l (fun b hb => h b (List.mem_cons_of_mem _ hb)))
theorem dich_homeW (ps : List (Int × Nat)) (n i sq : Nat) (x : Wt) (h1 : x.1.toNat < n) (h2 : x.2.length = 256) : Dich n i (fun d => homeW ps sq d x) := by
  refine ⟨fun d hd hn => ⟨homeW_ok ps sq d x hd (by rw [hn]; exact h1) h2, by rw [homeW_size]; exact hn⟩, ?_⟩
  unfold homeW
  by_cases hg : greatest ps x.1 ≤ sq
  · simp only [if_pos hg]
    by_cases hi : x.1.toNat = i
    · exact .inr ⟨x.2, fun d hd _ => by rw [Dk.read_write d hd, if_pos hi]⟩
    · exact .inl fun d hd _ => by rw [Dk.read_write d hd, if_neg hi]
  · simp only [if_neg hg]
    exact .inl fun _ _ _ => trivial
theorem dich_homeL (ps : List (Int × Nat)) (n i : Nat) (ts : List Tx) (hf : ∀ t ∈ ts, FitT n t) : Dich n i (fun d => homeL ps d ts) :=
  dich_fold (homeT ps) ts fun t ht => dich_fold (homeW ps t.seq) t.ws fun x hx => dich_homeW ps n i t.seq x (hf t ht x hx).1 (hf t ht x hx).2

/-! ### A crash that tears nothing where nothing else was written -/
theorem sect_same (b : List UInt8) (s : Nat) : Dk.sect b b s = b := by
  unfold Dk.sect
  rw [← List.drop_drop, List.append_assoc, List.take_append_drop, List.take_append_drop]
theorem tear_same (bits : List UInt8) (k : Nat) (b : List UInt8) : ∀ s, Dk.tear bits k b s b = b
  | 0 => rfl
  | s + 1 => by
    unfold Dk.tear
    rw [tear_same bits k b s]
    split
    · exact sect_same b s
    · rfl
theorem crashFrom_const (bits : List UInt8) (i : Nat) (b : List UInt8) : ∀ (ws : List Wr) (k : Nat) (st : List (List UInt8)), st.getD i [] = b → (∀ w ∈ ws, w.1 = i → w.2 = b) → (Dk.crashFrom bits k st ws).getD i [] = b
  | [], _, _, h, _ => h
  | w :: r, k, st, h, hw => by
    show (Dk.crashFrom bits (k + 1) _ r).getD i [] = _
    refine crashFrom_const bits i b r (k + 1) _ ?_ (fun x hx => hw x (List.mem_cons_of_mem _ hx))
    rw [getD_set]
    split
    · rename_i he
      rw [he.1, h, hw w (List.mem_cons_self ..) he.1]
      exact tear_same bits k b 4
    · exact h

/-- The way home made half way: what a recovery would leave is written outside of the area. -/
def halfG (R : Dk.Dk) (s l : Nat) (D : Dk.Dk) (k : Nat) : Dk.Dk := (List.range k).foldl (fun d i => if s ≤ i ∧ i < s + l then d else d.write i (R.read i)) D
theorem halfG_succ (R : Dk.Dk) (s l : Nat) (D : Dk.Dk) (k : Nat) : halfG R s l D (k + 1) = if s ≤ k ∧ k < s + l then halfG R s l D k else (halfG R s l D k).write k (R.read k) := by
  unfold halfG
  rw [List.range_succ, List.foldl_append]
  rfl
theorem halfG_inv {R D : Dk.Dk} {s l n : Nat} (hD : D.Ok) (hn : D.stable.length = n) (hf : D.fuse = none) (hp : D.pend = []) (hR : ∀ i, i < n → (R.read i).length = 256) : ∀ k, k ≤ n →
    (halfG R s l D k).Ok ∧ (halfG R s l D k).stable = D.stable ∧ (halfG R s l D k).fuse = none ∧ ∀ x ∈ (halfG R s l D k).pend, ¬ (s ≤ x.1 ∧ x.1 < s + l) ∧ x.2 = R.read x.1
  | 0, _ => ⟨hD, rfl, hf, fun x hx => by
    have hx : x ∈ D.pend := hx
    rw [hp] at hx; cases hx⟩
  | k + 1, hk => by
    obtain ⟨i1, i2, i3, i4⟩ := halfG_inv (s := s) (l := l) hD hn hf hp hR k (by omega)
    rw [halfG_succ]
    split
    · exact ⟨i1, i2, i3, i4⟩
    · rename_i ho
      have hlt : k < (halfG R s l D k).stable.length := by rw [i2, hn]; omega
      refine ⟨Dk.write_ok _ i1 k _ hlt (hR k (by omega)), by rw [write_eq i3]; exact i2, by rw [write_eq i3], fun x hx => ?_⟩
      rw [write_eq i3] at hx
      rcases List.mem_append.1 hx with hx | hx
      · exact i4 x hx
      · rw [List.mem_singleton.1 hx]
        exact ⟨ho, rfl⟩

theorem again_plain {D : Dk.Dk} {s r l n : Nat} (hD : D.Ok) (hn : D.stable.length = n) (hf : D.fuse = none) (hp : D.pend = []) (h0 : 0 < r) (hl : l = r + 1) (hs : s + r < n) (more : List UInt8) :
    ((halfG (recD D s r) s l D n).crash more).stable.length = n ∧ ((halfG (recD D s r) s l D n).crash more).read s = D.read s ∧ chainD ((halfG (recD D s r) s l D n).crash more) s r = chainD D s r ∧
      (recD ((halfG (recD D s r) s l D n).crash more) s r).image = (recD D s r).image := by
  have hRo := recD_ok D hD s r h0 (by omega)
  have hRn : (recD D s r).stable.length = n := by rw [recD_size]; exact hn
  obtain ⟨i1, i2, i3, i4⟩ := halfG_inv (R := recD D s r) (s := s) (l := l) hD hn hf hp (fun i hi => Dk.read_len _ hRo i (by omega)) n (Nat.le_refl _)
  have hgo : D.ghosts = [] := hD.none D (not_blown hf)
  have hDr : ∀ i, D.read i = D.stable.getD i [] := fun i => by
    unfold Dk.Dk.read
    rw [hgo, hp]; rfl
  obtain ⟨H, hH⟩ : ∃ H, H = (halfG (recD D s r) s l D n).crash more := ⟨_, rfl⟩
  have hHo : H.Ok := hH ▸ Dk.crash_ok _ i1 more
  have hHn : H.stable.length = n := by rw [hH, Dk.size_crash, i2]; exact hn
  have hHr : ∀ i, i < n → (s ≤ i ∧ i < s + l) ∨ (recD D s r).read i = D.read i → H.read i = D.read i := fun i hi h => by
    rw [hH, crash_read, i2]
    rcases h with h | h
    · rw [crashFrom_same more i _ _ _ (fun x hx e => (i4 x hx).1 (e ▸ h)), hDr]
    · refine crashFrom_const more i _ _ _ _ (hDr i).symm (fun x hx e => ?_)
      rw [(i4 x hx).2, e, h]
  rw [← hH]
  have hHs : H.read s = D.read s := hHr s (by omega) (.inl (by omega))
  have hring : ∀ pl k, ringK H s r pl k = ringK D s r pl k := fun pl k => ringK_same k (fun j _ => by
    have := Nat.mod_lt (pl + j) h0
    exact hHr _ (by omega) (.inl (by omega)))
  have hch : chainD H s r = chainD D s r := by
    unfold chainD ringB
    rw [hHs, hring, hHn, hn]
  refine ⟨hHn, hHs, hch, ?_⟩
  have hsq : seqD H s r = seqD D s r := by unfold seqD; rw [hHs, hch]
  have hbk : backD H s r = backD D s r := by unfold backD; rw [hHs, hch]
  have hrd : ∀ i, i < n → (recD H s r).read i = (recD D s r).read i := fun i hi => by
    have hRi := recD_read D hD s r h0 (by omega) i
    rw [recD_read H hHo s r h0 (by omega), hRi, hsq, hbk, hch]
    by_cases e1 : s = i
    · rw [if_pos e1, if_pos e1]
    rw [if_neg e1, if_neg e1]
    by_cases e2 : s + 1 + backD D s r = i
    · rw [if_pos e2, if_pos e2]
    rw [if_neg e2, if_neg e2]
    rw [if_neg e1, if_neg e2] at hRi
    have hd := dich_homeL (revsOf (chainD D s r)) n i (chainD D s r) (fun t ht => hn ▸ fit_fair (chainD_fair D s r t ht))
    rcases hd.way with e | ⟨x, e⟩
    · rw [e H hHo hHn, e D hD hn]
      exact hHr i hi (.inr (hRi.trans (e D hD hn)))
    · rw [e H hHo hHn, e D hD hn]
  unfold Dk.Dk.image
  rw [recD_size, recD_size, hHn, hn]
  exact List.map_congr_left fun i hi => hrd i (List.mem_range.1 hi)
theorem loaded_back (d : Dk.Dk) (h : d.Ok) (hf : d.fuse = none) (hp : d.pend = []) : loaded d.stable.flatten d.stable.length = d := by
  have hg := h.none d (not_blown hf)
  have hc : Disk.chunks d.stable.flatten d.stable.length = d.stable := by
    apply List.ext_getElem?
    intro i
    by_cases hi : i < d.stable.length
    · have := flat_block d.stable h.len i hi
      rw [List.getD_eq_getElem?_getD, List.getElem?_eq_getElem hi] at this
      simp only [Disk.chunks, List.getElem?_map, List.getElem?_range hi, Option.map_some, List.getElem?_eq_getElem hi, this]
      rfl
    · rw [List.getElem?_eq_none (by simp [Disk.chunks]; omega), List.getElem?_eq_none (by omega)]
  cases d
  simp only at hf hp hg hc
  unfold loaded
  rw [hc, hf, hp, hg]
theorem image_len (d : Dk.Dk) (h : d.Ok) : (d.image).flatten.length = 256 * d.stable.length := by
  have : ∀ b ∈ d.image, b.length = 256 := fun b hb => by
    unfold Dk.Dk.image at hb
    obtain ⟨i, hi, rfl⟩ := List.mem_map.1 hb
    exact Dk.read_len d h i (List.mem_range.1 hi)
  have hl : d.image.length = d.stable.length := by simp [Dk.Dk.image]
  rw [← hl]
  clear hl h
  generalize d.image = l at this
  induction l with
  | nil => rfl
  | cons b l ih =>
    rw [List.flatten_cons, List.length_append, this b (List.mem_cons_self ..), ih (fun c hc => this c (List.mem_cons_of_mem _ hc)), List.length_cons]
    omega
theorem image_part (d : Dk.Dk) (h : d.Ok) (i : Nat) (hi : i < d.stable.length) : (d.image.flatten.drop (256 * i)).take 256 = d.read i := by
  have hb : ∀ b ∈ d.image, b.length = 256 := fun b hb => by
    unfold Dk.Dk.image at hb
    obtain ⟨i, hi, rfl⟩ := List.mem_map.1 hb
    exact Dk.read_len d h i (List.mem_range.1 hi)
  have := flat_block d.image hb i (by simp [Dk.Dk.image]; exact hi)
  rw [image_at d hi] at this
  rwa [Nat.mul_comm]
theorem stable_len (d : Dk.Dk) (h : d.Ok) : d.stable.flatten.length = 256 * d.stable.length := by
  have := h.len
  generalize d.stable = l at this
  clear h
  induction l with
  | nil => rfl
  | cons b l ih =>
    rw [List.flatten_cons, List.length_append, this b (List.mem_cons_self ..), ih (fun c hc => this c (List.mem_cons_of_mem _ hc)), List.length_cons]
    omega

theorem cut_any (W : World) (b N c k : Nat) (i j : Int) (hi : i = 256 * (k : Int)) (hj : j = 256 * (k : Int) + 256) (hk : 256 * k + 256 ≤ N) (hc : N ≤ c) :
    (Instr.slice 33 (.slice (some ⟨b, 0, none⟩) N c) (some (.int .i64 i)) (some (.int .i64 j)) none).run Try.prog W = .ok (.slice (some ⟨b, 256 * k, none⟩) 256 (c - 256 * k)) W ∧
      (Instr.sliceAt 33 (.slice (some ⟨b, 0, none⟩) N c) (some (.int .i64 i)) (some (.int .i64 j)) none).run Try.prog W = .ok (.slice (some ⟨b, 256 * k, none⟩) 256 (c - 256 * k)) W := by
  subst hi hj
  have q : (Instr.slice 33 (.slice (some ⟨b, 0, none⟩) N c) (some (.int .i64 (256 * (k : Int)))) (some (.int .i64 (256 * (k : Int) + 256))) none).run Try.prog W = .ok (.slice (some ⟨b, 256 * k, none⟩) 256 (c - 256 * k)) W := by
    have h := run_slice_lh (P := Try.prog) W 33 (some ⟨b, 0, none⟩) N c (by rw [Try.underlying33]; rfl) .i64 .i64 (256 * (k : Int)) (256 * (k : Int) + 256) (by omega) (by omega) (by omega)
    rw [h]
    have hs : (sizeOf (Try.prog.elem 33)).run Try.prog W = .ok 1 W := by rfl
    rw [hs]
    have e : (256 * (k : Int) + 256).toNat = 256 * k + 256 := by omega
    have e2 : (256 * (k : Int)).toNat = 256 * k := by omega
    simp [Result.andThen, sliced, show ¬ c = 256 * k by omega, Addr.add_mid, e, e2]
  refine ⟨q, ?_⟩
  rw [run_sliceAt_slice (P := Try.prog) W 33 _ _ _ _ (by rw [Try.underlying33]; rfl)]
  exact q
theorem made_holds {w' : World} {base N : Nat} {A : Option Addr} {n c : Nat} {bs : List UInt8} (h : Owned w' base (.slice A n c) bs) (hl : bs.length = N) (h0 : 0 < N) : ∃ g, A = some ⟨g, 0, none⟩ ∧ n = N ∧ N ≤ c ∧ Holds w' w'.heap.size (some ⟨g, 0, none⟩) N bs := by
  obtain ⟨g, cap, hv, -, -, hc, -⟩ := Owned.row h (by omega)
  injection hv with e1 e2 e3
  subst e1 e2 e3
  have := Go.Proofs.Ytelnoibfamcnmaa.Rec.Owned.reads h
  rw [hl] at this
  exact ⟨g, rfl, hl, by omega, this⟩

set_option maxRecDepth 100000 in
set_option maxHeartbeats 4000000 in
theorem walk_bad (B S L : Int) (A : Option Addr) (n c : Nat) (Ab : Option Addr) (bn bc : Nat) (v : Value) (w : World) (h : ∀ w1, Calls Try.prog 48 #[.agg #[.int .i64 B, .int .i64 S, .int .i64 L], .slice A n c] w1 (Unfilled w1)) :
    Calls Try.prog 10 #[.agg #[.int .i64 B, .int .i64 S, .int .i64 L], .agg #[.slice A n c, .slice Ab bn bc], v] w fun e w' => e = .returned (.bool true) ∧ Below w.heap.size w w' := by
  obtain ⟨W, hW⟩ : ∃ W, W = (w.alloc (.cells #[.int .i64 B, .int .i64 S, .int .i64 L] 85)).alloc (.cells #[.slice A n c, .slice Ab bn bc] 94) := ⟨_, rfl⟩
  have z1 : (w.alloc (.cells #[.int .i64 B, .int .i64 S, .int .i64 L] 85)).heap.size = w.heap.size + 1 := by simp
  have zW : W.heap.size = w.heap.size + 2 := by rw [hW]; simp
  have hx0 : W.heap[w.heap.size]? = some (.cells #[.int .i64 B, .int .i64 S, .int .i64 L] 85 (0, 0)) := by
    rw [hW]
    exact (Below.heap_alloc _ _ _ (by rw [z1]; omega)).trans (heap_alloc_new w _)
  have hx1 : W.heap[w.heap.size + 1]? = some (.cells #[.slice A n c, .slice Ab bn bc] 94 (0, 0)) := by
    rw [hW, ← z1]; exact heap_alloc_new _ _
  have hb0 : Below w.heap.size w W := by rw [hW]; exact ((Below.refl _ w).alloc (Nat.le_refl _) _).alloc (by simp) _
  have hbox : ∀ V, Below W.heap.size W V → (V.cell? ⟨w.heap.size, 0, none⟩ = some (.int .i64 B) ∧ V.cell? ⟨w.heap.size, 1, none⟩ = some (.int .i64 S) ∧ V.cell? ⟨w.heap.size, 2, none⟩ = some (.int .i64 L)) ∧ V.cell? ⟨w.heap.size + 1, 0, none⟩ = some (.slice A n c) ∧ V.cell? ⟨w.heap.size + 1, 1, none⟩ = some (.slice Ab bn bc) := fun V hV => by
    have e0 := (hV.block _ (by omega)).trans hx0
    have e1 := (hV.block _ (by omega)).trans hx1
    exact ⟨⟨cell_of_row V _ 0 _ _ _ e0, cell_of_row V _ 1 _ _ _ e0, cell_of_row V _ 2 _ _ _ e0⟩, cell_of_row V _ 0 _ _ _ e1, cell_of_row V _ 1 _ _ _ e1⟩
  have HBOX := Lib.hid hbox; clear hbox hx0 hx1
  have HB0 := Lib.hid hb0; clear hb0
  have HW := Lib.hid hW; clear hW z1
  have HOP := Lib.hid h; clear h
  go_enter Try.func10, Try.ntmps10
  go_wp2_with fail
  rw [← HW.out]
  clear HW
  with_reducible refine (Rp.alive_any W).mono ?_
  rintro e w1 ⟨rfl, hb1⟩
  obtain ⟨⟨q0, q1, q2⟩, q3, q4⟩ := HBOX.out w1 hb1
  have hop := HOP.out w1
  have HOP1 := Lib.hid hop; clear hop HOP
  have HB1 := Lib.hid (HB0.out.trans (hb1.mono HB0.out.size)); clear hb1
  go_wp2_with fail
  with_reducible refine HOP1.out.mono ?_
  rintro e w2 ⟨rfl, hb2⟩
  have HB2 : Hid (Below w.heap.size w w2) := Lib.hid (HB1.out.trans (hb2.mono HB1.out.size))
  clear hb2 HOP1 q0 q1 q2 q3 q4
  go_wp2
  go_ret
  exact ⟨rfl, HB2.out⟩

set_option maxRecDepth 100000 in
set_option maxHeartbeats 8000000 in
theorem walk_good (nb s l : Nat) (A : Option Addr) (n c : Nat) (xs : List TxL) (Ab : Option Addr) (bn bc : Nat) (bits : List UInt8) (Am : Option Addr) (mn mc : Nat) (more : List UInt8) (w : World)
    (hx : TxsL w w.heap.size A n xs) (hnc : n ≤ c) (hcm : c ≤ maxLen) (hbt : Holds w w.heap.size Ab bn bits) (hbn : bn ≤ maxLen) (hmt : Holds w w.heap.size Am mn more) (hmn : mn ≤ maxLen)
    (hn2 : nb ≤ 1024) (h8 : 8 ≤ l) (hl2 : l ≤ 1024) (hs : s + l ≤ nb) :
    Calls Try.prog 10 #[.agg #[.int .i64 (nb : Int), .int .i64 (s : Int), .int .i64 (l : Int)], .agg #[.slice A n c, .slice Ab bn bc], .slice Am mn mc] w fun e w' => e = .returned (.bool true) ∧ Below w.heap.size w w' := by
  obtain ⟨W, hW⟩ : ∃ W, W = (w.alloc (.cells #[.int .i64 (nb : Int), .int .i64 (s : Int), .int .i64 (l : Int)] 85)).alloc (.cells #[.slice A n c, .slice Ab bn bc] 94) := ⟨_, rfl⟩
  have z1 : (w.alloc (.cells #[.int .i64 (nb : Int), .int .i64 (s : Int), .int .i64 (l : Int)] 85)).heap.size = w.heap.size + 1 := by simp
  have zW : W.heap.size = w.heap.size + 2 := by rw [hW]; simp
  have hx0 : W.heap[w.heap.size]? = some (.cells #[.int .i64 (nb : Int), .int .i64 (s : Int), .int .i64 (l : Int)] 85 (0, 0)) := by
    rw [hW]
    exact (Below.heap_alloc _ _ _ (by rw [z1]; omega)).trans (heap_alloc_new w _)
  have hx1 : W.heap[w.heap.size + 1]? = some (.cells #[.slice A n c, .slice Ab bn bc] 94 (0, 0)) := by
    rw [hW, ← z1]; exact heap_alloc_new _ _
  have hb0 : Below w.heap.size w W := by rw [hW]; exact ((Below.refl _ w).alloc (Nat.le_refl _) _).alloc (by simp) _
  have hbox : ∀ V, Below W.heap.size W V → (V.cell? ⟨w.heap.size, 0, none⟩ = some (.int .i64 (nb : Int)) ∧ V.cell? ⟨w.heap.size, 1, none⟩ = some (.int .i64 (s : Int)) ∧ V.cell? ⟨w.heap.size, 2, none⟩ = some (.int .i64 (l : Int))) ∧ V.cell? ⟨w.heap.size + 1, 0, none⟩ = some (.slice A n c) ∧ V.cell? ⟨w.heap.size + 1, 1, none⟩ = some (.slice Ab bn bc) := fun V hV => by
    have e0 := (hV.block _ (by omega)).trans hx0
    have e1 := (hV.block _ (by omega)).trans hx1
    exact ⟨⟨cell_of_row V _ 0 _ _ _ e0, cell_of_row V _ 1 _ _ _ e0, cell_of_row V _ 2 _ _ _ e0⟩, cell_of_row V _ 0 _ _ _ e1, cell_of_row V _ 1 _ _ _ e1⟩
  have HBOX := Lib.hid hbox; clear hbox hx0 hx1
  have HX := Lib.hid hx; clear hx
  have HBT := Lib.hid hbt; clear hbt
  have HMT := Lib.hid hmt; clear hmt
  have HB0 := Lib.hid hb0; clear hb0
  have HW := Lib.hid hW; clear hW z1
  go_enter Try.func10, Try.ntmps10
  go_wp2_with fail
  rw [← HW.out]
  clear HW
  with_reducible refine (Rp.alive_any W).mono ?_
  rintro e w1 ⟨rfl, hb1⟩
  obtain ⟨⟨q0, q1, q2⟩, q3, q4⟩ := HBOX.out w1 hb1
  have hb1w := HB0.out.trans (hb1.mono HB0.out.size)
  have hz1 : w.heap.size + 2 ≤ w1.heap.size := by have := hb1.size; omega
  have hfi := filled_ok nb s l A n c xs w1 ((HX.out.below hb1w).more (by omega)) hnc hcm hn2 h8 hl2 hs
  obtain ⟨g, hg⟩ : ∃ g, g = fillG nb s (l - 1) ((xs.take (few16 n)).map (·.t)) := ⟨_, rfl⟩
  have hlen : ((xs.take (few16 n)).map (·.t)).length ≤ 16 := by rw [List.length_map, List.length_take]; unfold few16; split <;> omega
  obtain ⟨⟨s0, p0, hinv⟩, hsq⟩ := fillG_inv nb s (l - 1) (by omega) ((xs.take (few16 n)).map (·.t)) (by omega)
  rw [← hg] at hfi hinv hsq
  have hsq : g.seq ≤ 17 := by omega
  clear hg hlen
  have HFI := Lib.hid hfi; clear hfi
  have HB1 := Lib.hid hb1; clear hb1
  have HB1W := Lib.hid hb1w; clear hb1w
  obtain ⟨r, hr⟩ : ∃ r, r = l - 1 := ⟨_, rfl⟩
  rw [← hr] at HFI hinv
  have hroom := hinv.room
  have hlr : l = r + 1 := by omega
  obtain ⟨D, hDe⟩ : ∃ D, D = g.d.crash bits := ⟨_, rfl⟩
  have hDo : D.Ok := hDe ▸ Dk.crash_ok g.d hinv.ok bits
  have hDn : D.stable.length = nb := by rw [hDe, Dk.size_crash]; exact hinv.size
  have hDf : D.fuse = none := by rw [hDe]; rfl
  have hDp : D.pend = [] := by rw [hDe]; rfl
  have hsq0 := hinv.seq
  have hDk : okH (D.read s) r = true := by rw [hDe, crash_head hinv bits]; exact head_good hinv (by omega)
  have hsr : s + r < nb := by omega
  obtain ⟨R, hRe⟩ : ∃ R, R = recD D s r := ⟨_, rfl⟩
  have hRo : R.Ok := hRe ▸ recD_ok D hDo s r (by omega) (by omega)
  have hRn : R.stable.length = nb := by rw [hRe, recD_size]; exact hDn
  have hRk : okH (R.read s) r = true := hRe ▸ (recD_head D hDo s r (by omega) (by omega) (by omega)).1
  have hRc : chainD R s r = [] := hRe ▸ recD_none D hDo s r (by omega) (by omega) (by omega)
  obtain ⟨a1, a2, a3, a4⟩ := again_plain hDo hDn hDf hDp (show 0 < r by omega) hlr hsr more
  obtain ⟨i1, i2, -, -⟩ := halfG_inv (R := R) (s := s) (l := l) hDo hDn hDf hDp (fun i hi => Dk.read_len _ hRo i (by omega)) nb (Nat.le_refl _)
  have hGn : ∀ k, k ≤ nb → (halfG R s l D k).stable.length = nb := fun k hk => by
    rw [(halfG_inv (R := R) (s := s) (l := l) hDo hDn hDf hDp (fun i hi => Dk.read_len _ hRo i (by omega)) k hk).2.1]; exact hDn
  rw [← hRe] at a1 a2 a3 a4
  obtain ⟨H, hHe⟩ : ∃ H, H = (halfG R s l D nb).crash more := ⟨_, rfl⟩
  rw [← hHe] at a1 a2 a3 a4
  rw [← a2] at hDk
  obtain ⟨N, hN⟩ : ∃ N, N = 256 * nb := ⟨_, rfl⟩
  obtain ⟨im, him⟩ : ∃ im, im = D.stable.flatten := ⟨_, rfl⟩
  have himl : im.length = N := by rw [him, stable_len D hDo, hDn, hN]
  have hld : loaded im nb = D := by rw [him, ← hDn]; exact loaded_back D hDo hDf hDp
  obtain ⟨wt, hwt⟩ : ∃ wt, wt = R.image.flatten := ⟨_, rfl⟩
  have hwtl : wt.length = N := by rw [hwt, image_len R hRo, hRn, hN]
  have hpart : ∀ k, k < nb → (wt.drop (256 * k)).take 256 = R.read k := fun k hk => by rw [hwt]; exact image_part R hRo k (by omega)
  obtain ⟨k1, hk1⟩ : ∃ k1, k1 = (chainD D s r).length := ⟨_, rfl⟩
  have hgot : (recD H s r).image.flatten = wt := by rw [a4, hwt]
  have hHk : okH (H.read s) r = true := by rw [a2] at hDk; rw [a2]; exact hDk
  have hDk' : okH (D.read s) r = true := by rw [a2] at hDk; exact hDk
  have hk1r : k1 ≤ 1024 := by have := (chainD_sum D hDo s r (by omega) (by omega)).2; have := (chainD_sum D hDo s r (by omega) (by omega)).1; omega
  have hHc : (chainD H s r).length = k1 := by rw [a3, hk1]
  have HR := Lib.hid hr; clear hr
  have HLR := Lib.hid hlr; clear hlr
  have HDE := Lib.hid hDe; clear hDe
  have HRE := Lib.hid hRe; clear hRe
  have HHE := Lib.hid hHe; clear hHe
  have HK1 := Lib.hid hk1; clear hk1
  have HHC := Lib.hid hHc; clear hHc
  have HDK := Lib.hid hDk'; clear hDk hDk'
  have HRK := Lib.hid hRk; clear hRk
  have HRC := Lib.hid hRc; clear hRc
  have HHK := Lib.hid hHk; clear hHk
  have HLD := Lib.hid hld; clear hld
  have HIML := Lib.hid himl; clear himl
  have HIM := Lib.hid him; clear him
  have HWT := Lib.hid hwt; clear hwt
  have HWTL := Lib.hid hwtl; clear hwtl
  have HPART := Lib.hid hpart; clear hpart
  have HGOT := Lib.hid hgot; clear hgot
  have HGN := Lib.hid hGn; clear hGn
  have HN := Lib.hid hN; clear hN
  have hN0 : 0 < N := by rw [HN.out]; omega
  have HROOM := Lib.hid hroom; clear hroom
  clear hinv hsq0 hDf hDp a2 a3 a4 i1 i2 hsq hDo hRo
  go_wp2_with fail
  with_reducible refine HFI.out.mono ?_
  rintro e w2 ⟨p, lp, v, L, rfl, hfd⟩
  clear HFI q0 q1 q2 q3 q4
  obtain ⟨cd, F, A2, c2, hD, hcd, hF, -, -, -, rfl, -, -⟩ := hfd.parts
  have hb12 := hfd.below
  have hz2 := hb12.size
  have hbw2 := HB1W.out.trans (hb12.mono HB1W.out.size)
  have hst := Rp.Homing.crash (Homing.start hD) (by omega) Ab bn bc w.heap.size bits (fun V hV => HBT.out.below (hbw2.trans hV)) (fun q e => by have := hF q e; omega) (by omega) hbn
  rw [← HDE.out] at hst
  obtain ⟨-, q3, q4⟩ := HBOX.out w2 (HB1.out.trans (hb12.mono HB1.out.size))
  have HST := Lib.hid hst; clear hst hD hfd
  have HF := Lib.hid hF; clear hF
  have HB12 := Lib.hid hb12; clear hb12 hbw2
  go_wp2_with fail
  with_reducible refine HST.out.mono ?_
  rintro e w3 ⟨rfl, hh3⟩
  clear HST q3 q4
  have hb13 := HB12.out.trans (hh3.turns.below HF.out hz2)
  have hz3 := hb13.size
  obtain ⟨F3, hD3, -, -⟩ := hh3
  have hstb : Calls Try.prog 25 #[.pointer (some ⟨p, 0, none⟩)] w3 fun e w' => ∃ b c, e = .returned (.slice (some ⟨b, 0, none⟩) N c) ∧ Holds w' w'.heap.size (some ⟨b, 0, none⟩) N im ∧ Below w3.heap.size w3 w' := by
    have h1 := stable_d D p 0 F3 w3 hD3
    rw [← HIM.out] at h1
    refine h1.mono ?_
    rintro e w' ⟨A, c, rfl, ho, hb⟩
    obtain ⟨g, rfl, e1, -, hh⟩ := made_holds ho HIML.out hN0
    exact ⟨g, c, by rw [e1], hh, hb⟩
  have HSTB := Lib.hid hstb; clear hstb hD3
  have HB13 := Lib.hid hb13; clear hb13
  go_wp2_with fail
  with_reducible refine HSTB.out.mono ?_
  rintro e w4 ⟨b4, c4, rfl, hh4, hb4⟩
  clear HSTB
  have hz4 := hb4.size
  have hb14 := HB13.out.trans (hb4.mono HB13.out.size)
  have hlo := load_ok ⟨b4, 0, none⟩ N nb c4 w4.heap.size 0 im w4 HN.out (by omega) hn2 hh4 (Nat.le_refl _)
  rw [HLD.out] at hlo
  have HLO := Lib.hid hlo; clear hlo
  have HH4 := Lib.hid hh4; clear hh4
  have HB14 := Lib.hid hb14; clear hb14 hb4
  go_wp2_with fail
  with_reducible refine HLO.out.mono ?_
  rintro e w5 ⟨p1, F1, rfl, hD5, hF1, hb5⟩
  unfold ptr
  clear HLO
  have hz5 := hb5.size
  have hrc := recover_ok s l D p1 0 F1 w5 hD5 (by omega) h8 hl2 (by omega) (by rw [← HR.out]; exact HDK.out)
  rw [← HR.out, ← HRE.out, ← HK1.out] at hrc
  obtain ⟨-, q1, q2⟩ := (HBOX.out w5 (HB1.out.trans ((HB14.out.trans (hb5.mono HB14.out.size)).mono HB1.out.size))).1
  have HRC5 := Lib.hid hrc; clear hrc hD5
  have HF1 := Lib.hid hF1; clear hF1
  have HB45 := Lib.hid hb5; clear hb5
  go_wp2_with fail
  with_reducible refine HRC5.out.mono ?_
  rintro e w6 ⟨rfl, hh6⟩
  clear HRC5 q1 q2
  have hb46 := HB45.out.trans (hh6.turns.below HF1.out HB45.out.size)
  have hz6 := hb46.size
  obtain ⟨F6, hD6, -, -⟩ := hh6
  have himg : Calls Try.prog 23 #[.pointer (some ⟨p1, 0, none⟩)] w6 fun e w' => ∃ b c, e = .returned (.slice (some ⟨b, 0, none⟩) N c) ∧ N ≤ c ∧ Holds w' w'.heap.size (some ⟨b, 0, none⟩) N wt ∧ Below w6.heap.size w6 w' := by
    have h1 := image_d R p1 _ F6 w6 hD6 (by omega)
    rw [← HWT.out] at h1
    refine h1.mono ?_
    rintro e w' ⟨A, c, rfl, ho, hb⟩
    obtain ⟨g, rfl, e1, e2, hh⟩ := made_holds ho HWTL.out hN0
    exact ⟨g, c, by rw [e1], e2, hh, hb⟩
  have HIMG := Lib.hid himg; clear himg
  have HD6 := Lib.hid hD6; clear hD6
  have HB46 := Lib.hid hb46; clear hb46
  go_wp2_with fail
  with_reducible refine HIMG.out.mono ?_
  rintro e w7 ⟨b7, c7, rfl, hc7, hh7, hb7⟩
  clear HIMG
  have hz7 := hb7.size
  have hb47 := HB46.out.trans (hb7.mono HB46.out.size)
  have hD7 : DiskAt w7 p1 R (0 + 62464) F6 := HD6.out.turns (Turns.of_below (F := fun _ => False) hb7) (fun _ _ e => e)
  have hsc : Calls Try.prog 50 #[.pointer (some ⟨p1, 0, none⟩), .int .i64 (s : Int), .int .i64 (l : Int)] w7 fun e w' => ∃ A c', e = .returned (.tuple #[.slice A 0 c', .int .i64 0]) ∧ Below w7.heap.size w7 w' := by
    have sc := scan_ok s l R p1 _ F6 w7 hD7 (by omega) h8 hl2 (by omega) (by rw [← HR.out]; exact HRK.out)
    rw [← HR.out, HRC.out] at sc
    exact sc.mono fun e w' ⟨A, c', _, h1, _, _, _, h5⟩ => ⟨A, c', h1, h5⟩
  have hq7 := HBOX.out w7 (HB1.out.trans ((HB14.out.trans (hb47.mono HB14.out.size)).mono HB1.out.size))
  obtain ⟨-, q1, q2⟩ := hq7.1
  have HSC := Lib.hid hsc; clear hsc hq7
  have HD7 := Lib.hid hD7; clear hD7 HD6
  have HH7 := Lib.hid hh7; clear hh7
  have HB47 := Lib.hid hb47; clear hb47 hb7
  go_wp2_with fail
  with_reducible refine HSC.out.mono ?_
  rintro e w8 ⟨A8, c8, rfl, hb8⟩
  clear HSC q1 q2
  have hz8 := hb8.size
  have hb48 := HB47.out.trans (hb8.mono HB47.out.size)
  have hop : Calls Try.prog 33 #[.pointer (some ⟨p1, 0, none⟩), .int .i64 (s : Int), .int .i64 (l : Int)] w8 fun e w' => ∃ lp2, e = .returned (.tuple #[.pointer (some ⟨lp2, 0, none⟩), .int .i64 0]) ∧ Below w8.heap.size w8 w' := by
    have h1 := open_d s l _ _ rfl rfl R p1 _ F6 w8 (HD7.out.turns (Turns.of_below (F := fun _ => False) hb8) (fun _ _ e => e)) (by omega) h8 (by omega) (by rw [← HR.out]; exact HRK.out)
    exact h1.mono fun e w' ⟨lp2, h1, _, _, h4⟩ => ⟨lp2, h1, h4⟩
  obtain ⟨-, q1, q2⟩ := (HBOX.out w8 (HB1.out.trans ((HB14.out.trans (hb48.mono HB14.out.size)).mono HB1.out.size))).1
  have HOP := Lib.hid hop; clear hop HD7
  have HB78 := Lib.hid hb8; clear hb8
  have HB48 := Lib.hid hb48; clear hb48
  go_wp2_with fail
  with_reducible refine HOP.out.mono ?_
  rintro e w9 ⟨l9, rfl, hb9⟩
  clear HOP q1 q2
  have hz9 := hb9.size
  have hb49 := HB48.out.trans (hb9.mono HB48.out.size)
  have hb79 := HB78.out.trans (hb9.mono HB78.out.size)
  have hlo := load_ok ⟨b4, 0, none⟩ N nb c4 w4.heap.size 0 im w9 HN.out (by omega) hn2 (HH4.out.below hb49) (by omega)
  rw [HLD.out] at hlo
  have HLO := Lib.hid hlo; clear hlo
  have hk10 : ¬ (k1 : Int) < 0 := by omega
  have HB79 := Lib.hid hb79; clear hb79 hb9
  have HB19 := Lib.hid (HB14.out.trans (hb49.mono HB14.out.size)); clear hb49
  go_wp2_with fail
  with_reducible refine HLO.out.mono ?_
  rintro e w10 ⟨p2, F2, rfl, hD10, hF2, hb10⟩
  unfold ptr
  clear HLO hk10
  have hz10 := hb10.size
  have hst10 := Homing.start hD10
  have hk9 : ∀ V, Turns F2 w10 V → Below w9.heap.size w9 V := fun V hV => hb10.trans (hV.below hF2 hb10.size)
  have HK9 := Lib.hid hk9; clear hk9 hb10
  have HF2 := Lib.hid hF2; clear hF2
  have HS10 := Lib.hid hst10; clear hst10 hD10
  have hwl : ∀ k : Nat, k ≤ nb → IntKind.i64.wrap (256 * (k : Int)) = 256 * (k : Int) ∧ IntKind.i64.wrap (256 * (k : Int) + 256) = 256 * (k : Int) + 256 := fun k hk => ⟨wrap_i64 _ (by omega), wrap_i64 _ (by omega)⟩
  have hsl : IntKind.i64.wrap ((s : Int) + (l : Int)) = (s : Int) + (l : Int) := wrap_i64 _ (by omega)
  have HWL := Lib.hid hwl; clear hwl
  go_wp2_with fail
  go_loopw [22] (fun iv wv => ∃ k : Nat, k ≤ nb ∧ iv = .int .i64 (k : Int) ∧ Homing w10 p2 F2 wv (halfG R s l D k) k) (fun iv _ => nb - (intOf iv).toNat)
  case atStart => exact ⟨0, Nat.zero_le _, rfl, HS10.out⟩
  case round =>
    obtain ⟨k, hk, rfl, hh⟩ := hrel
    have hB9 := HK9.out wr hh.turns
    have hB1r := HB19.out.trans (hB9.mono HB19.out.size)
    obtain ⟨q0, q1, q2⟩ := (HBOX.out wr (HB1.out.trans (hB1r.mono HB1.out.size))).1
    rcases Nat.lt_or_ge k nb with hlt | hge
    · have hkk : (k : Int) < (nb : Int) := by omega
      by_cases hin : s ≤ k ∧ k < s + l
      · have hst : halfG R s l D (k + 1) = halfG R s l D k := by rw [halfG_succ, if_pos hin]
        have e1 : decide ((k : Int) < (s : Int)) = false := decide_eq_false (by omega)
        have e2 : decide (k < s) = false := decide_eq_false (by omega)
        have e3 : decide ((s : Int) + (l : Int) ≤ (k : Int)) = false := decide_eq_false (by omega)
        have e4 : decide (s + l ≤ k) = false := decide_eq_false (by omega)
        have m1 : ¬ (k : Int) < (s : Int) := by omega
        have m2 : ¬ (s : Int) + (l : Int) ≤ (k : Int) := by omega
        have HH : Hid (Homing w10 p2 F2 wr (halfG R s l D (k + 1)) (k + 1)) := Lib.hid (by rw [hst]; exact hh.more (by omega))
        clear hh hst hB9 hB1r hin
        go_wp2
        first
          | (exact ⟨⟨k + 1, by omega, by simp, HH.out⟩, by simp [intOf]; omega⟩)
          | (go_roundw
             case rel => exact ⟨k + 1, by omega, by go_num, HH.out⟩
             case measure => simp [intOf]; omega)
      · have hk7 : Holds wr w7.heap.size (some ⟨b7, 256 * k, none⟩) 256 (R.read k) := by
          have h1 := Go.Proofs.Ytelnoibfamcnmaa.Rec.Holds.drop (k := 256 * k) (m := 256) (HH7.out.below (HB79.out.trans (hB9.mono HB79.out.size))) (by rw [HN.out]; omega)
          rw [HPART.out k hlt, Nat.zero_add] at h1
          exact h1
        have hwr := hh.write (k : Int) k rfl (some ⟨b7, 256 * k, none⟩) (c7 - 256 * k) w7.heap.size (R.read k) (by rw [HGN.out k hk]; exact hlt) hk7 (by omega)
        rw [show (halfG R s l D k).write k (R.read k) = halfG R s l D (k + 1) by rw [halfG_succ, if_neg hin]] at hwr
        have hcut := fun V => (cut_any V b7 N c7 k (256 * (k : Int)) (256 * (k : Int) + 256) rfl rfl (by rw [HN.out]; omega) hc7).1
        have hcut2 := fun V => (cut_any V b7 N c7 k (256 * (k : Int)) (256 * (k : Int) + 256) rfl rfl (by rw [HN.out]; omega) hc7).2
        obtain ⟨hw1, hw2⟩ := HWL.out k hk
        have HWR := Lib.hid hwr; clear hwr hk7
        have HH := Lib.hid hh; clear hh hB9 hB1r
        obtain ⟨bb, hbb⟩ : ∃ bb, bb = decide (k < s) := ⟨_, rfl⟩
        have e1 : decide ((k : Int) < (s : Int)) = bb := by rw [hbb]; exact decide_eq_decide.2 (by omega)
        have e2 : decide (k < s) = bb := hbb.symm
        have e3 : bb = false → s + l ≤ k := fun h => by rw [hbb] at h; have := of_decide_eq_false h; omega
        have E3 := Lib.hid e3; clear e3
        have HIN := Lib.hid hin; clear hin hbb
        cases bb
        case' false =>
          have m1 : ¬ (k : Int) < (s : Int) := of_decide_eq_false e1
          have m2 : (s : Int) + (l : Int) ≤ (k : Int) := by have := E3.out rfl; omega
          have m3 : decide ((s : Int) + (l : Int) ≤ (k : Int)) = true := decide_eq_true m2
          have m4 : decide (s + l ≤ k) = true := decide_eq_true (E3.out rfl)
          go_wp2_with fail
        case' true =>
          have m1 : (k : Int) < (s : Int) := of_decide_eq_true e1
          go_wp2_with fail
        all_goals
          with_reducible refine HWR.out.mono ?_
          rintro e wd ⟨rfl, hhd⟩
          have HHD := Lib.hid hhd; clear hhd
          clear q0 q1 q2
          go_wp2
          first
            | (exact ⟨⟨k + 1, by omega, by simp, HHD.out⟩, by simp [intOf]; omega⟩)
            | (go_roundw
               case rel => exact ⟨k + 1, by omega, by go_num, HHD.out⟩
               case measure => simp [intOf]; omega)
    · obtain rfl : k = nb := by omega
      have hwr0 := HB1W.out.trans (hB1r.mono HB1W.out.size)
      have hcr := Rp.Homing.crash hh (by omega) Am mn mc w.heap.size more (fun V hV => HMT.out.below (hwr0.trans hV)) (fun q e => by have := HF2.out q e; omega) (by omega) hmn
      rw [← HHE.out] at hcr
      have HCR := Lib.hid hcr; clear hcr hh hB9 hB1r hwr0
      go_wp2_with fail
      with_reducible refine HCR.out.mono ?_
      rintro e wa ⟨rfl, hha⟩
      clear HCR q0 q1 q2
      have hB9a := HK9.out wa hha.turns
      have hB1a := HB19.out.trans (hB9a.mono HB19.out.size)
      obtain ⟨-, q1, q2⟩ := (HBOX.out wa (HB1.out.trans (hB1a.mono HB1.out.size))).1
      have hrc2 : Calls Try.prog 54 #[.pointer (some ⟨p2, 0, none⟩), .int .i64 (s : Int), .int .i64 (l : Int)] wa fun e w' => e = .returned (.tuple #[.int .i64 (k1 : Int), .int .i64 0]) ∧ Homing w10 p2 F2 w' (recD H s r) (0 + 62464) := by
        obtain ⟨Fa, hDa, hFa, hTa⟩ := hha
        have h1 := recover_ok s l H p2 0 Fa wa hDa (by omega) h8 hl2 (by omega) (by rw [← HR.out]; exact HHK.out)
        rw [← HR.out, HHC.out] at h1
        exact h1.mono fun e w' h => ⟨h.1, h.2.comp hFa hTa⟩
      have HRC2 := Lib.hid hrc2; clear hrc2 hha hB9a hB1a
      go_wp2_with fail
      with_reducible refine HRC2.out.mono ?_
      rintro e wb ⟨rfl, hhb⟩
      clear HRC2 q1 q2
      have hB9b := HK9.out wb hhb.turns
      have himg2 : Calls Try.prog 23 #[.pointer (some ⟨p2, 0, none⟩)] wb fun e w' => ∃ b c, e = .returned (.slice (some ⟨b, 0, none⟩) N c) ∧ Holds w' w'.heap.size (some ⟨b, 0, none⟩) N wt ∧ Below wb.heap.size wb w' := by
        obtain ⟨Fb, hDb, -, -⟩ := hhb
        have h1 := image_d (recD H s r) p2 _ Fb wb hDb (by omega)
        rw [HGOT.out] at h1
        refine h1.mono ?_
        rintro e w' ⟨A, c, rfl, ho, hb⟩
        obtain ⟨g, rfl, e1, -, hh⟩ := made_holds ho HWTL.out hN0
        exact ⟨g, c, by rw [e1], hh, hb⟩
      have HIMG2 := Lib.hid himg2; clear himg2 hhb
      have HB9B := Lib.hid hB9b; clear hB9b
      go_wp2_with fail
      with_reducible refine HIMG2.out.mono ?_
      rintro e wc ⟨bc2, cc2, rfl, hhc, hbc2⟩
      clear HIMG2
      have hB9c := HB9B.out.trans (hbc2.mono HB9B.out.size)
      have u1 := run_text wc _ _ N cc2 wt hhc
      have u2 := run_text wc _ _ N c7 wt (HH7.out.below (HB79.out.trans (hB9c.mono HB79.out.size)))
      have HEND := Lib.hid (HB1W.out.trans ((HB19.out.trans (hB9c.mono HB19.out.size)).mono HB1W.out.size))
      clear hhc hbc2 hB9c
      go_wp2
      go_ret
      exact ⟨by simp, HEND.out⟩

theorem walks : Walks 10 Try.f10 All := by
  intro H enc W base args ds p hval hA hsz _
  rw [Try.params10] at hA hval hsz
  obtain ⟨v0, vs0, d0, ds0, p0, q0, hargs, rfl, rfl, h0, r0⟩ := trodAll_cons hA
  obtain ⟨v1, vs1, d1, ds1, p1, q1, rfl, rfl, rfl, h1, r1⟩ := trodAll_cons r0
  obtain ⟨v2, vs2, d2, ds2, p2, q2, rfl, rfl, rfl, h2, r2⟩ := trodAll_cons r1
  obtain ⟨rfl, rfl, rfl⟩ := trodAll_nil r2
  obtain rfl : args = #[v0, v1, v2] := by cases args; simp_all
  obtain ⟨B, S, L, rfl⟩ := area5_by_value (hval 0 _ v0 rfl rfl) h0
  have hw1 : (d1.weights Try.prog 94).all (· ≤ reachBytes) = true := List.all_eq_true.2 fun x hx => List.all_eq_true.1 hsz _ (DataW.weights_mem_each (j := 1) rfl rfl x hx)
  obtain ⟨A, n, c, xs, Ab, bn, bc, bits, rfl, hx, hn, hc, hb, hbn, hbc⟩ := case_of (hval 1 _ v1 rfl rfl) h1 hw1
  obtain ⟨Am, mn, mc, more, rfl, hm1, hmn, hmc⟩ := bits_of (hval 2 _ v2 rfl rfl) h2
  cases hm : mayB B
  · exact walk_bad B S L _ _ _ _ _ _ _ W (fun w1 => filled_none B S L _ w1 hm)
  · simp [mayB] at hm
    obtain ⟨nb, rfl⟩ : ∃ nb : Nat, B = (nb : Int) := ⟨B.toNat, by omega⟩
    cases ha : okArea nb S L
    · exact walk_bad _ S L _ _ _ _ _ _ _ W (fun w1 => filled_not nb S L _ w1 (by omega) (by omega) ha)
    · simp [okArea] at ha
      obtain ⟨s, rfl⟩ : ∃ s : Nat, S = (s : Int) := ⟨S.toNat, by omega⟩
      obtain ⟨l, rfl⟩ : ∃ l : Nat, L = (l : Int) := ⟨L.toNat, by omega⟩
      exact walk_good nb s l A n c xs Ab bn bc bits Am mn mc more W hx hn hc hb (by omega) hm1 (by omega) (by omega) (by omega) (by omega) (by omega)

set_option maxRecDepth 100000 in
theorem proved : Rows.ReplayAgainSaid :=
  OpenClaim.holds_of_wide 10 Try.f10 rfl rfl rfl rfl rfl rfl rfl ⟨rfl, rfl, rfl, rfl, rfl⟩ rfl rfl rfl rfl rfl (by kernel_rfl) Try.func10 (by kernel_rfl)
    (of_decide_eq_true (by kernel_rfl)) (by unfold Func.isWrapper; first | (rw [if_pos (by decide +kernel)]; kernel_rfl) | (rw [if_neg (by decide +kernel)]; exact ⟨rfl, rfl⟩))
    (fun os started H enc _ => lifted (s := Rows.replayAgainSpec) walks (by kernel_rfl) rfl rfl (fun H ds hl => by match ds, hl with | [d1, d2, d3], _ => rfl) (by kernel_rfl) Try.func10 os started H enc
      (ChangeSpec.witness6 (enc := enc) (C := Try.checked) false ⟨#[], #[.agg #[.int .i64 0, .int .i64 0, .int .i64 0], .agg #[.slice none 0 0, .slice none 0 0], .slice none 0 0], []⟩ 8 (by kernel_rfl) (by kernel_rfl) (by kernel_rfl) (by kernel_rfl)))
#print axioms proved
end Go.Proofs.Ytelnoibfamcnmaa.ReplayAgain
