/- A log's chain in plain words: the ring's bytes from a place on, the records that stand in them, and what a recovery makes of the disk. -/
import Derived.Test.YtelnoibfamcnmaaGreatLgKnown
import Derived.Test.YtelnoibfamcnmaaGreatRcBack
import Derived.Test.YtelnoibfamcnmaaGreatLgHomed
namespace Go.Proofs.YtelnoibfamcnmaaGreat.Rp
set_option maxRecDepth 20000
open Go.Proofs.YtelnoibfamcnmaaGreat.Mem Go.Proofs.YtelnoibfamcnmaaGreat.Crc Go.Proofs.YtelnoibfamcnmaaGreat.Disk Go.Proofs.YtelnoibfamcnmaaGreat.Log
open Go.Proofs.YtelnoibfamcnmaaGreat.Rec (Tx Wt decB tellL tellB nW nR mayB_iff preB markL looks looks_of_pre enc_len tellL_lens)

def ringK (d : Dk.Dk) (s r pl k : Nat) : List UInt8 := (List.range k).flatMap fun j => d.read (s + 1 + (pl + j) % r)
def ringB (d : Dk.Dk) (s r pl : Nat) : List UInt8 := ringK d s r pl r
theorem ringK_succ (d : Dk.Dk) (s r pl k : Nat) : ringK d s r pl (k + 1) = ringK d s r pl k ++ d.read (s + 1 + (pl + k) % r) := by
  unfold ringK; rw [List.range_succ, List.flatMap_append]; simp
theorem ringK_len (d : Dk.Dk) (h : d.Ok) (s r pl : Nat) (h0 : 0 < r) (hs : s + r < d.stable.length) : ∀ k, (ringK d s r pl k).length = 256 * k
  | 0 => rfl
  | k + 1 => by
    have := Nat.mod_lt (pl + k) h0
    rw [ringK_succ, List.length_append, ringK_len d h s r pl h0 hs k, Dk.read_len d h _ (by omega)]; omega
/-- Is the next record of the chain there? -/
def inB (n s r : Nat) (bs : List UInt8) (seq : Nat) : Bool := decB bs seq && takesB n s r (tellL bs seq)
def chainL (n s r : Nat) : Nat → List UInt8 → Nat → List Tx
  | 0, _, _ => []
  | k + 1, bs, seq => if inB n s r bs seq then tellL bs seq :: chainL n s r k (bs.drop (256 * (nW bs + 2))) ((seq + 1) % 18446744073709551616) else []
def lenT (t : Tx) : Nat := t.ws.length + 2
def sumT (ts : List Tx) : Nat := (ts.map lenT).sum
theorem sumT_snoc (ts : List Tx) (t : Tx) : sumT (ts ++ [t]) = sumT ts + (t.ws.length + 2) := by simp [sumT, lenT]
theorem dec_parts {bs : List UInt8} {seq : Nat} (h : decB bs seq = true) : (tellL bs seq).mayB = true ∧ bs.take (tellL bs seq).enc.length = (tellL bs seq).enc ∧ looks bs = true := by
  unfold decB at h
  rw [Bool.and_eq_true, Bool.and_eq_true] at h
  exact ⟨h.2.1, by have := h.2.2; unfold preB at this; exact of_decide_eq_true this, looks_of_pre _ _ h.2.2⟩
theorem dec_long {bs : List UInt8} {seq : Nat} (h : decB bs seq = true) : 256 * (nW bs + 2) ≤ bs.length ∧ nW bs ≤ 58 ∧ nR bs ≤ 58 := by
  obtain ⟨h1, h2, -⟩ := dec_parts h
  have hm := (mayB_iff _).1 h1
  have hl := enc_len _ hm
  have ht := tellL_lens bs seq
  have := congrArg List.length h2
  rw [List.length_take, hl] at this
  have := hm.hi
  rw [ht.1] at *
  rw [ht.2] at *
  omega
theorem in_parts {n s r : Nat} {bs : List UInt8} {seq : Nat} (h : inB n s r bs seq = true) : decB bs seq = true ∧ takesB n s r (tellL bs seq) = true := by
  unfold inB at h; rwa [Bool.and_eq_true] at h
theorem chain_fair (n s r : Nat) : ∀ (k : Nat) (bs : List UInt8) (seq : Nat), ∀ t ∈ chainL n s r k bs seq, t.mayB = true ∧ takesB n s r t = true
  | 0, _, _, t, h => by cases h
  | k + 1, bs, seq, t, h => by
    unfold chainL at h
    split at h
    · rename_i hi
      rcases List.mem_cons.1 h with rfl | h
      · exact ⟨(dec_parts (in_parts hi).1).1, (in_parts hi).2⟩
      · exact chain_fair n s r k _ _ t h
    · cases h
theorem chain_sum (n s r : Nat) : ∀ (k : Nat) (bs : List UInt8) (seq : Nat), 256 * sumT (chainL n s r k bs seq) ≤ bs.length ∧ 2 * (chainL n s r k bs seq).length ≤ sumT (chainL n s r k bs seq)
  | 0, _, _ => by simp [chainL, sumT]
  | k + 1, bs, seq => by
    unfold chainL
    split
    · rename_i hi
      have h1 := dec_long (in_parts hi).1
      have h2 := chain_sum n s r k (bs.drop (256 * (nW bs + 2))) ((seq + 1) % 18446744073709551616)
      have h3 : lenT (tellL bs seq) = nW bs + 2 := by unfold lenT; rw [(tellL_lens bs seq).1]
      rw [List.length_drop] at h2
      rw [show sumT (tellL bs seq :: chainL n s r k (bs.drop (256 * (nW bs + 2))) ((seq + 1) % 18446744073709551616)) = (nW bs + 2) + sumT (chainL n s r k (bs.drop (256 * (nW bs + 2))) ((seq + 1) % 18446744073709551616)) by simp [sumT, h3], List.length_cons]
      omega
    · simp [sumT]
/-- The chain of an area of a disk. -/
def chainD (d : Dk.Dk) (s r : Nat) : List Tx := chainL d.stable.length s r r (ringB d s r (plH (d.read s))) (seqH (d.read s))
/-- The place behind it. -/
def backD (d : Dk.Dk) (s r : Nat) : Nat := (plH (d.read s) + sumT (chainD d s r)) % r
/-- The Seq of its new head. -/
def seqD (d : Dk.Dk) (s r : Nat) : Nat := (seqH (d.read s) + (chainD d s r).length + (r + 1)) % 18446744073709551616
/-- What a recovery leaves. -/
def recD (d : Dk.Dk) (s r : Nat) : Dk.Dk := (((homeL (revsOf (chainD d s r)) d (chainD d s r)).flush.write (s + 1 + backD d s r) (List.replicate 256 0)).write s (headH (seqD d s r) (backD d s r))).flush
theorem chainD_fair (d : Dk.Dk) (s r : Nat) : ∀ t ∈ chainD d s r, t.mayB = true ∧ takesB d.stable.length s r t = true := chain_fair _ _ _ _ _ _
theorem chainD_sum (d : Dk.Dk) (h : d.Ok) (s r : Nat) (h0 : 0 < r) (hs : s + r < d.stable.length) : sumT (chainD d s r) ≤ r ∧ 2 * (chainD d s r).length ≤ r := by
  have h1 := chain_sum d.stable.length s r r (ringB d s r (plH (d.read s))) (seqH (d.read s))
  rw [show (ringB d s r (plH (d.read s))).length = 256 * r from ringK_len d h s r _ h0 hs r] at h1
  unfold chainD
  omega
theorem takes_out {n s r : Nat} {t : Tx} (h : takesB n s r t = true) {x : Wt} (hx : x ∈ t.ws) : x.1.toNat < n ∧ ¬ (s ≤ x.1.toNat ∧ x.1.toNat ≤ s + r) := by
  have h0 := outB_in h hx
  unfold takesB at h
  rw [Bool.and_eq_true] at h
  have := List.all_eq_true.1 h.1 x hx
  simp only [outB, Bool.and_eq_true, Bool.not_eq_true', Bool.and_eq_false_iff, decide_eq_true_eq, decide_eq_false_iff_not] at this
  omega
theorem recD_size (d : Dk.Dk) (s r : Nat) : (recD d s r).stable.length = d.stable.length := by
  unfold recD; rw [Dk.size_flush, Dk.size_write, Dk.size_write, Dk.size_flush, homeL_size]
theorem recD_parts (d : Dk.Dk) (h : d.Ok) (s r : Nat) (h0 : 0 < r) (hs : s + r < d.stable.length) :
    (homeL (revsOf (chainD d s r)) d (chainD d s r)).Ok ∧ ((homeL (revsOf (chainD d s r)) d (chainD d s r)).flush.write (s + 1 + backD d s r) (List.replicate 256 0)).Ok ∧
    (((homeL (revsOf (chainD d s r)) d (chainD d s r)).flush.write (s + 1 + backD d s r) (List.replicate 256 0)).write s (headH (seqD d s r) (backD d s r))).Ok ∧ backD d s r < r := by
  have hb : backD d s r < r := Nat.mod_lt _ h0
  have h1 := homeL_ok (revsOf (chainD d s r)) (chainD d s r) d h (fun t ht => fit_fair (chainD_fair d s r t ht))
  have h2 := Dk.write_ok _ (Dk.flush_ok _ h1) (s + 1 + backD d s r) (List.replicate 256 0) (by rw [Dk.size_flush, homeL_size]; omega) (by simp)
  exact ⟨h1, h2, Dk.write_ok _ h2 s _ (by rw [Dk.size_write, Dk.size_flush, homeL_size]; omega) (headH_len _ _), hb⟩
theorem recD_read (d : Dk.Dk) (h : d.Ok) (s r : Nat) (h0 : 0 < r) (hs : s + r < d.stable.length) (i : Nat) :
    (recD d s r).read i = if s = i then headH (seqD d s r) (backD d s r) else if s + 1 + backD d s r = i then List.replicate 256 0 else (homeL (revsOf (chainD d s r)) d (chainD d s r)).read i := by
  obtain ⟨h1, h2, h3, -⟩ := recD_parts d h s r h0 hs
  unfold recD
  rw [Dk.read_flush _ h3, Dk.read_write _ h2, Dk.read_write _ (Dk.flush_ok _ h1), Dk.read_flush _ h1]
theorem not_looks_zero (bs : List UInt8) (h : ∃ t, bs = List.replicate 256 0 ++ t) : looks bs = false := by
  obtain ⟨t, rfl⟩ := h
  show decide (List.take 4 (List.replicate 256 0 ++ t) = markL) = false
  rw [List.take_append_of_le_length (by simp)]
  decide
theorem chain_stop (n s r k : Nat) (bs : List UInt8) (seq : Nat) (h : decB bs seq = false) : chainL n s r k bs seq = [] := by
  cases k with
  | zero => rfl
  | succ k => unfold chainL inB; rw [h]; rfl
theorem flush_pend (d : Dk.Dk) (hf : d.fuse = none) : d.flush.pend = [] ∧ d.flush.fuse = none := by
  refine ⟨Dk.pend_flush d (by unfold Dk.Dk.blown; rw [hf]; rfl), ?_⟩
  have := Dk.deed_free d hf none
  exact this
end Go.Proofs.YtelnoibfamcnmaaGreat.Rp

namespace Go.Proofs.YtelnoibfamcnmaaGreat.Rp
set_option maxRecDepth 20000
open Go.Proofs.YtelnoibfamcnmaaGreat.Mem Go.Proofs.YtelnoibfamcnmaaGreat.Crc Go.Proofs.YtelnoibfamcnmaaGreat.Disk Go.Proofs.YtelnoibfamcnmaaGreat.Log
open Go.Proofs.YtelnoibfamcnmaaGreat.Rec (Tx Wt decB tellL tellB nW nR mayB_iff preB markL looks enc_len tellL_lens headL ownL bareL bodyL dec_back enc_form bareL_eq bareL_not bareL_len ownL_len ownL_eq ownP slots_len headL_len)

/-! ### The versions of a block: the stable one, and those that are pending -/
def Ver (d : Dk.Dk) (i : Nat) (b : List UInt8) : Prop := d.stable.getD i [] = b ∨ (i, b) ∈ d.pend
theorem last_ver (i : Nat) : ∀ (ws : List Wr) (b : List UInt8), Dk.last b ws i = b ∨ (i, Dk.last b ws i) ∈ ws
  | [], b => .inl rfl
  | w :: r, b => by
    rw [Dk.last_cons]
    rcases last_ver i r (if w.1 = i then w.2 else b) with e | e
    · by_cases h : w.1 = i
      · rw [if_pos h] at e ⊢
        right
        rw [e, ← h]
        exact List.mem_cons_self ..
      · rw [if_neg h] at e ⊢
        exact .inl e
    · exact .inr (List.mem_cons_of_mem _ e)
theorem not_blown {d : Dk.Dk} (hf : d.fuse = none) : d.blown = false := by unfold Dk.Dk.blown; rw [hf]; rfl
theorem read_ver {d : Dk.Dk} (h : d.Ok) (hf : d.fuse = none) (i : Nat) : Ver d i (d.read i) := by
  have hg := h.none d (not_blown hf)
  unfold Dk.Dk.read Ver
  rw [hg, Dk.last_nil]
  rcases last_ver i d.pend (d.stable.getD i []) with e | e
  · exact .inl e.symm
  · exact .inr e
theorem write_eq {d : Dk.Dk} (hf : d.fuse = none) (j : Nat) (data : List UInt8) : d.write j data = { d with pend := d.pend ++ [(j, data)], fuse := none } := by
  unfold Dk.Dk.write; rw [if_neg (by rw [not_blown hf]; simp), hf]; rfl
theorem ver_write {d : Dk.Dk} (hf : d.fuse = none) {j i : Nat} {data b : List UInt8} (h : Ver (d.write j data) i b) : Ver d i b ∨ (i = j ∧ b = data) := by
  rw [write_eq hf] at h
  rcases h with e | e
  · exact .inl (.inl e)
  · rcases List.mem_append.1 e with e | e
    · exact .inl (.inr e)
    · have := List.mem_singleton.1 e
      injection this with e1 e2
      exact .inr ⟨e1, e2⟩
theorem image_at (d : Dk.Dk) {i : Nat} (hi : i < d.stable.length) : d.image.getD i [] = d.read i := by
  unfold Dk.Dk.image
  rw [List.getD_eq_getElem?_getD, List.getElem?_map, List.getElem?_range hi]
  rfl
theorem ver_flush {d : Dk.Dk} (h : d.Ok) (hf : d.fuse = none) {i : Nat} {b : List UInt8} (hi : i < d.stable.length) (hv : Ver d.flush i b) : b = d.read i ∧ Ver d i b := by
  have hp := (flush_pend d hf).1
  rcases hv with e | e
  · rw [Dk.stable_flush d h (not_blown hf), image_at d hi] at e
    exact ⟨e.symm, e ▸ read_ver h hf i⟩
  · rw [hp] at e; cases e
theorem getD_set {α : Type} (l : List α) (j i : Nat) (x y : α) : (l.set j x).getD i y = if j = i ∧ i < l.length then x else l.getD i y := by
  rw [List.getD_eq_getElem?_getD, List.getD_eq_getElem?_getD, List.getElem?_set]
  by_cases h : j = i
  · subst h
    by_cases h2 : j < l.length
    · simp [h2]
    · simp [h2]
  · simp [h]
theorem settleFrom_ver (bits : List UInt8) (i : Nat) : ∀ (ws : List Wr) (k : Nat) (st : List (List UInt8)), (Dk.settleFrom bits k st ws).getD i [] = st.getD i [] ∨ (i, (Dk.settleFrom bits k st ws).getD i []) ∈ ws
  | [], _, _ => .inl rfl
  | w :: r, k, st => by
    show (Dk.settleFrom bits (k + 1) _ r).getD i [] = _ ∨ (i, (Dk.settleFrom bits (k + 1) _ r).getD i []) ∈ _
    rcases settleFrom_ver bits i r (k + 1) (if Dk.bit bits k then st.set w.1 w.2 else st) with e | e
    · rw [e]
      split
      · rw [getD_set]
        split
        · rename_i h
          right
          rw [← h.1]
          exact List.mem_cons_self ..
        · exact .inl rfl
      · exact .inl rfl
    · exact .inr (List.mem_cons_of_mem _ e)
theorem keepFrom_sub (bits : List UInt8) (x : Wr) : ∀ (ws : List Wr) (k : Nat), x ∈ Dk.keepFrom bits k ws → x ∈ ws
  | [], _, h => by cases h
  | w :: r, k, h => by
    unfold Dk.keepFrom at h
    split at h
    · exact List.mem_cons_of_mem _ (keepFrom_sub bits x r _ h)
    · rcases List.mem_cons.1 h with e | e
      · exact e ▸ List.mem_cons_self ..
      · exact List.mem_cons_of_mem _ (keepFrom_sub bits x r _ e)
theorem settle_eq {d : Dk.Dk} (hf : d.fuse = none) (bits : List UInt8) : d.settle bits = { d with stable := Dk.settleFrom bits 0 d.stable d.pend, pend := Dk.keepFrom bits 0 d.pend } := by
  unfold Dk.Dk.settle; rw [if_neg (by rw [not_blown hf]; simp)]
theorem ver_settle {d : Dk.Dk} (hf : d.fuse = none) {bits : List UInt8} {i : Nat} {b : List UInt8} (hv : Ver (d.settle bits) i b) : Ver d i b := by
  rw [settle_eq hf] at hv
  rcases hv with e | e
  · rcases settleFrom_ver bits i d.pend 0 d.stable with e2 | e2
    · exact .inl (e2.symm.trans e)
    · exact .inr (e ▸ e2)
  · exact .inr (keepFrom_sub bits _ _ _ e)
theorem sect_len (b data : List UInt8) (s : Nat) (hb : b.length = 256) (hd : data.length = 256) (hs : s < 4) : (Dk.sect b data s).length = 256 := by
  unfold Dk.sect
  simp only [List.length_append, List.length_take, List.length_drop]
  omega
theorem sect_head (b data : List UInt8) (s : Nat) (hb : b.length = 256) (hd : data.length = 256) (hs : s < 4) : (Dk.sect b data s).take 16 = b.take 16 ∨ (Dk.sect b data s).take 16 = data.take 16 := by
  unfold Dk.sect
  by_cases h : s = 0
  · subst h
    right
    rw [Nat.mul_zero, List.take_zero, List.nil_append, List.drop_zero, List.take_append_of_le_length (by rw [List.length_take]; omega), List.take_take]
    rfl
  · left
    rw [List.append_assoc, List.take_append_of_le_length (by rw [List.length_take]; omega), List.take_take, Nat.min_eq_left (by omega)]
theorem tear_head (bits : List UInt8) (k : Nat) (data b : List UInt8) (hb : b.length = 256) (hd : data.length = 256) : ∀ s, s ≤ 4 → (Dk.tear bits k data s b).length = 256 ∧ ((Dk.tear bits k data s b).take 16 = b.take 16 ∨ (Dk.tear bits k data s b).take 16 = data.take 16)
  | 0, _ => ⟨hb, .inl rfl⟩
  | s + 1, hs => by
    obtain ⟨h1, h2⟩ := tear_head bits k data b hb hd s (by omega)
    unfold Dk.tear
    split
    · refine ⟨sect_len _ _ _ h1 hd (by omega), ?_⟩
      rcases sect_head _ data s h1 hd (by omega) with e | e
      · rw [e]; exact h2
      · exact .inr e
    · exact ⟨h1, h2⟩
theorem crashFrom_head (bits : List UInt8) (i : Nat) : ∀ (ws : List Wr) (k : Nat) (st : List (List UInt8)), (∀ b ∈ st, b.length = 256) → (∀ w ∈ ws, w.1 < st.length ∧ w.2.length = 256) →
    ∃ b : List UInt8, (st.getD i [] = b ∨ (i, b) ∈ ws) ∧ ((Dk.crashFrom bits k st ws).getD i []).take 16 = b.take 16
  | [], _, st, _, _ => ⟨_, .inl rfl, rfl⟩
  | w :: r, k, st, hst, hws => by
    have hw := hws w (List.mem_cons_self ..)
    have hg : (st.getD w.1 []).length = 256 := by
      rw [List.getD_eq_getElem?_getD, List.getElem?_eq_getElem hw.1]
      exact hst _ (List.getElem_mem _)
    obtain ⟨t1, t2⟩ := tear_head bits k w.2 _ hg hw.2 4 (by omega)
    obtain ⟨b, hb, he⟩ := crashFrom_head bits i r (k + 1) (st.set w.1 (Dk.tear bits k w.2 4 (st.getD w.1 []))) (fun b hb => by
      rcases List.mem_or_eq_of_mem_set hb with h | h
      · exact hst b h
      · rw [h]; exact t1) (fun x hx => by rw [List.length_set]; exact hws x (List.mem_cons_of_mem _ hx))
    show ∃ b : List UInt8, _ ∧ ((Dk.crashFrom bits (k + 1) _ r).getD i []).take 16 = b.take 16
    rcases hb with hb | hb
    · rw [getD_set] at hb
      split at hb
      · rename_i h
        rcases t2 with e | e
        · exact ⟨st.getD i [], .inl rfl, by rw [he, ← hb, ← h.1]; exact e⟩
        · exact ⟨w.2, .inr (by rw [← h.1]; exact List.mem_cons_self ..), by rw [he, ← hb]; exact e⟩
      · exact ⟨b, .inl hb, he⟩
    · exact ⟨b, .inr (List.mem_cons_of_mem _ hb), he⟩
theorem crashFrom_same (bits : List UInt8) (i : Nat) : ∀ (ws : List Wr) (k : Nat) (st : List (List UInt8)), (∀ w ∈ ws, w.1 ≠ i) → (Dk.crashFrom bits k st ws).getD i [] = st.getD i []
  | [], _, _, _ => rfl
  | w :: r, k, st, h => by
    show (Dk.crashFrom bits (k + 1) _ r).getD i [] = _
    rw [crashFrom_same bits i r (k + 1) _ (fun x hx => h x (List.mem_cons_of_mem _ hx)), getD_set, if_neg (fun e => h w (List.mem_cons_self ..) e.1)]
theorem crash_read (d : Dk.Dk) (bits : List UInt8) (i : Nat) : (d.crash bits).read i = (Dk.crashFrom bits 0 d.stable d.pend).getD i [] := rfl

/-! ### Blocks that are no descriptor of a record to come -/
def LowB (q : Nat) (b : List UInt8) : Prop := ∀ q', q ≤ q' → q' < 18446744073709551616 → b.take 16 ≠ headL 1 q'
def LowR (d : Dk.Dk) (s r q : Nat) : Prop := ∀ i, s + 1 ≤ i → i ≤ s + r → ∀ b, Ver d i b → LowB q b
theorem LowB.more {q q' : Nat} {b : List UInt8} (h : LowB q b) (hq : q ≤ q') : LowB q' b := fun k hk => h k (by omega)
theorem LowR.more {d : Dk.Dk} {s r q q' : Nat} (h : LowR d s r q) (hq : q ≤ q') : LowR d s r q' := fun i h1 h2 b hb => (h i h1 h2 b hb).more hq
theorem LowR.write {d : Dk.Dk} {s r q : Nat} (h : LowR d s r q) (hf : d.fuse = none) (j : Nat) (data : List UInt8) (hd : s + 1 ≤ j → j ≤ s + r → LowB q data) : LowR (d.write j data) s r q := fun i h1 h2 b hb => by
  rcases ver_write hf hb with e | ⟨rfl, rfl⟩
  · exact h i h1 h2 b e
  · exact hd h1 h2
theorem LowR.flush {d : Dk.Dk} {s r q : Nat} (h : LowR d s r q) (hok : d.Ok) (hf : d.fuse = none) (hs : s + r < d.stable.length) : LowR d.flush s r q := fun i h1 h2 b hb => h i h1 h2 b (ver_flush hok hf (by omega) hb).2
theorem LowR.settle {d : Dk.Dk} {s r q : Nat} (h : LowR d s r q) (hf : d.fuse = none) (bits : List UInt8) : LowR (d.settle bits) s r q := fun i h1 h2 b hb => h i h1 h2 b (ver_settle hf hb)
theorem LowR.crash {d : Dk.Dk} {s r q : Nat} (h : LowR d s r q) (hok : d.Ok) (bits : List UInt8) : LowR (d.crash bits) s r q := fun i h1 h2 b hb => by
  rcases hb with e | e
  · obtain ⟨b', hv, he⟩ := crashFrom_head bits i d.pend 0 d.stable hok.len hok.pend
    intro q' hq hq2
    rw [← e]
    show ((Dk.crashFrom bits 0 d.stable d.pend).getD i []).take 16 ≠ _
    rw [he]
    exact h i h1 h2 b' hv q' hq hq2
  · cases e
theorem headL_inj {a b : UInt8} {p q : Nat} (hp : p < 18446744073709551616) (hq : q < 18446744073709551616) (h : headL a p = headL b q) : a = b ∧ p = q := by
  unfold headL at h
  have h1 := List.append_inj h (by simp)
  have h2 := List.append_inj h1.1 (by simp)
  injection h2.2 with h3 _
  refine ⟨h3, ?_⟩
  have n1 := Go.Proofs.YtelnoibfamcnmaaGreat.Rec.num_bytesL p 8 8 (Nat.le_refl _)
  have n2 := Go.Proofs.YtelnoibfamcnmaaGreat.Rec.num_bytesL q 8 8 (Nat.le_refl _)
  rw [h1.2] at n1
  rw [n1] at n2
  simp at n2
  omega
theorem own_take (kind : UInt8) (seq : Nat) (rest : List UInt8) (h : rest.length ≤ 236) : (ownL kind seq rest).take 16 = headL kind seq := by
  rw [ownL_eq kind seq rest h]
  unfold ownP
  rw [List.append_assoc, List.append_assoc, List.take_append_of_le_length (by rw [headL_len]; omega), List.take_of_length_le (by rw [headL_len]; omega)]
theorem own1_low (seq q : Nat) (rest : List UInt8) (h : rest.length ≤ 236) (h1 : seq < q) (h2 : seq < 18446744073709551616) : LowB q (ownL 1 seq rest) := fun q' hq hq2 e => by
  rw [own_take 1 seq rest h] at e
  have := (headL_inj h2 hq2 e).2
  omega
theorem own2_low (seq q : Nat) (rest : List UInt8) (h : rest.length ≤ 236) (h2 : seq < 18446744073709551616) : LowB q (ownL 2 seq rest) := fun q' hq hq2 e => by
  rw [own_take 2 seq rest h] at e
  exact absurd (headL_inj h2 hq2 e).1 (by decide)
theorem not_looks_low (q : Nat) (b : List UInt8) (h : looks b = false) : LowB q b := fun q' hq hq2 e => by
  have h1 : b.take 4 = markL := by
    have := congrArg (List.take 4) e
    rw [List.take_take] at this
    rw [show min 4 16 = 4 from rfl] at this
    rw [this]
    rfl
  have h2 : looks b = true := by
    show decide (b.take markL.length = markL) = true
    exact decide_eq_true h1
  rw [h] at h2; cases h2
theorem bare_looks (b : List UInt8) (_ : 4 ≤ b.length) : looks (bareL b) = false := by
  cases h : looks b
  · rw [bareL_not b h]; exact h
  · rw [bareL_eq b h]
    show decide (List.take 4 ([0, 0, 0, 0] ++ b.drop 4) = markL) = false
    rw [List.take_append_of_le_length (by simp)]
    decide
theorem bare_low (q : Nat) (b : List UInt8) (h : 4 ≤ b.length) : LowB q (bareL b) := not_looks_low q _ (bare_looks b h)

/-! ### A record's blocks -/
def encB (t : Tx) : List (List UInt8) := ownL 1 t.seq t.slots :: (t.ws.map (fun x => bareL x.2) ++ [ownL 2 t.seq (bytesL (sum t.head) 4)])
theorem encB_flat (t : Tx) : (encB t).flatten = t.enc := by
  unfold encB Tx.enc Tx.head bodyL
  rw [List.flatten_cons, List.flatten_append, List.flatMap_def, List.append_assoc]
  simp
theorem encB_count (t : Tx) : (encB t).length = t.ws.length + 2 := by simp [encB]
theorem slots_few (t : Tx) (h : t.May) : t.slots.length ≤ 236 := by
  have := slots_len t
  have := h.hi
  omega
theorem encB_len (t : Tx) (h : t.May) : ∀ b ∈ encB t, b.length = 256 := fun b hb => by
  unfold encB at hb
  rcases List.mem_cons.1 hb with rfl | hb
  · exact ownL_len _ _ _ (slots_few t h)
  · rcases List.mem_append.1 hb with hb | hb
    · obtain ⟨x, hx, rfl⟩ := List.mem_map.1 hb
      rw [bareL_len]; exact h.data x hx
    · rw [List.mem_singleton.1 hb]
      exact ownL_len _ _ _ (by rw [bytesL_len]; omega)
theorem encB_low (t : Tx) (h : t.May) (q : Nat) (hq : t.seq < q) (hs : t.seq < 18446744073709551616) : ∀ b ∈ encB t, LowB q b := fun b hb => by
  unfold encB at hb
  rcases List.mem_cons.1 hb with rfl | hb
  · exact own1_low _ _ _ (slots_few t h) hq hs
  · rcases List.mem_append.1 hb with hb | hb
    · obtain ⟨x, hx, rfl⟩ := List.mem_map.1 hb
      exact bare_low _ _ (by rw [h.data x hx]; omega)
    · rw [List.mem_singleton.1 hb]
      exact own2_low _ _ _ (by rw [bytesL_len]; omega) hs
theorem chunks_enc (t : Tx) (h : t.May) : chunksOf t.enc (t.ws.length + 2) = encB t := by
  apply List.ext_getElem?
  intro k
  unfold chunksOf
  rw [List.getElem?_map]
  by_cases hk : k < t.ws.length + 2
  · have h2 : k < (encB t).length := by rw [encB_count]; exact hk
    have := flat_block (encB t) (encB_len t h) k h2
    rw [encB_flat, List.getD_eq_getElem?_getD, List.getElem?_eq_getElem h2] at this
    rw [List.getElem?_eq_getElem (by simpa using hk), List.getElem?_eq_getElem h2, List.getElem_finRange]
    unfold cutB
    simpa [Nat.mul_comm] using this
  · rw [List.getElem?_eq_none (by simpa using hk), List.getElem?_eq_none (by rw [encB_count]; omega)]
    rfl

/-! ### The ring's places -/
theorem mod_inj {r a i j : Nat} (hi : i < r) (hj : j < r) (h : (a + i) % r = (a + j) % r) : i = j := by
  rcases Nat.le_total i j with hle | hle
  · have h1 := Nat.sub_mod_eq_zero_of_mod_eq h.symm
    rw [show a + j - (a + i) = j - i by omega, Nat.mod_eq_of_lt (by omega)] at h1
    omega
  · have h1 := Nat.sub_mod_eq_zero_of_mod_eq h
    rw [show a + i - (a + j) = i - j by omega, Nat.mod_eq_of_lt (by omega)] at h1
    omega
theorem ringK_add (d : Dk.Dk) (s r pl a : Nat) : ∀ b, ringK d s r pl (a + b) = ringK d s r pl a ++ ringK d s r ((pl + a) % r) b
  | 0 => by simp [ringK]
  | b + 1 => by
    rw [← Nat.add_assoc, ringK_succ, ringK_add d s r pl a b, ringK_succ, List.append_assoc, show ((pl + a) % r + b) % r = (pl + (a + b)) % r by rw [Nat.mod_add_mod, Nat.add_assoc]]
theorem ringK_same {d d' : Dk.Dk} {s r pl : Nat} (k : Nat) (h : ∀ j, j < k → d'.read (s + 1 + (pl + j) % r) = d.read (s + 1 + (pl + j) % r)) : ringK d' s r pl k = ringK d s r pl k := by
  induction k with
  | zero => rfl
  | succ k ih => rw [ringK_succ, ringK_succ, ih (fun j hj => h j (by omega)), h k (by omega)]
theorem putL_at (s r : Nat) (bs : List (List UInt8)) (d : Dk.Dk) (pl : Nat) (h : d.Ok) (hf : d.fuse = none) (hp : pl < r) (hs : s + r < d.stable.length) (hb : ∀ b ∈ bs, b.length = 256) (hl : bs.length ≤ r) :
    (putL s r d pl bs).1.Ok ∧ (putL s r d pl bs).1.fuse = none ∧ (putL s r d pl bs).1.stable = d.stable ∧ (putL s r d pl bs).2 = (pl + bs.length) % r ∧ (∀ i, i < r → (putL s r d pl bs).1.read (s + 1 + (pl + i) % r) = if i < bs.length then bs.getD i [] else d.read (s + 1 + (pl + i) % r)) ∧
      (∀ q, q < s + 1 ∨ s + r < q → (putL s r d pl bs).1.read q = d.read q) ∧ (∀ x ∈ (putL s r d pl bs).1.pend, x ∈ d.pend ∨ (s + 1 ≤ x.1 ∧ x.1 ≤ s + r ∧ x.2 ∈ bs)) := by
  induction bs using rev_ind with
  | h0 => exact ⟨h, hf, rfl, (Nat.mod_eq_of_lt hp).symm, fun i _ => rfl, fun _ _ => rfl, fun x hx => .inl hx⟩
  | h1 l x ih =>
    rw [List.length_append, List.length_singleton] at hl ⊢
    obtain ⟨i1, i2, i3, i4, i5, i6, i7⟩ := ih (fun b hb' => hb b (List.mem_append_left _ hb')) (by omega)
    rw [putL_snoc]
    unfold putS
    have hx := hb x (by simp)
    have hr0 : 0 < r := by omega
    have hm := Nat.mod_lt (pl + l.length) hr0
    rw [i4]
    have hlt : s + 1 + (pl + l.length) % r < (putL s r d pl l).1.stable.length := by rw [i3]; omega
    refine ⟨Dk.write_ok _ i1 _ _ hlt hx, by rw [write_eq i2], by rw [write_eq i2]; exact i3, ?_, fun i hi => ?_, fun q hq => ?_, fun y hy => ?_⟩
    · show ((pl + l.length) % r + 1) % r = _
      rw [Nat.mod_add_mod, Nat.add_assoc]
    · show ((putL s r d pl l).1.write (s + 1 + (pl + l.length) % r) x).read _ = _
      rw [Dk.read_write _ i1]
      by_cases he : l.length = i
      · subst he
        rw [if_pos rfl, if_pos (by omega), List.getD_eq_getElem?_getD, List.getElem?_append_right (Nat.le_refl _)]
        simp
      · rw [if_neg (fun e => he (mod_inj (by omega) hi (Nat.add_left_cancel e))), i5 i hi]
        by_cases h2 : i < l.length
        · rw [if_pos h2, if_pos (by omega), List.getD_eq_getElem?_getD, List.getD_eq_getElem?_getD, List.getElem?_append_left h2]
        · rw [if_neg h2, if_neg (by omega)]
    · show ((putL s r d pl l).1.write (s + 1 + (pl + l.length) % r) x).read _ = _
      rw [Dk.read_write _ i1, if_neg (by omega), i6 q hq]
    · have hy : y ∈ ((putL s r d pl l).1.write (s + 1 + (pl + l.length) % r) x).pend := hy
      rw [write_eq i2] at hy
      rcases List.mem_append.1 hy with hy | hy
      · rcases i7 y hy with e | ⟨e1, e2, e3⟩
        · exact .inl e
        · exact .inr ⟨e1, e2, List.mem_append_left _ e3⟩
      · rw [List.mem_singleton.1 hy]
        exact .inr ⟨by show s + 1 ≤ s + 1 + _; omega, by show s + 1 + _ ≤ s + r; omega, by simp⟩
theorem ring_put (s r : Nat) (bs : List (List UInt8)) (d : Dk.Dk) (pl : Nat) (h : d.Ok) (hf : d.fuse = none) (hp : pl < r) (hs : s + r < d.stable.length) (hb : ∀ b ∈ bs, b.length = 256) (hl : bs.length ≤ r) :
    ringK (putL s r d pl bs).1 s r pl bs.length = bs.flatten := by
  obtain ⟨-, -, -, -, i5, -, -⟩ := putL_at s r bs d pl h hf hp hs hb hl
  have key : ∀ k, k ≤ bs.length → ringK (putL s r d pl bs).1 s r pl k = (bs.take k).flatten := fun k => by
    induction k with
    | zero => intro _; simp [ringK]
    | succ k ih =>
      intro hk
      rw [ringK_succ, ih (by omega), i5 k (by omega), if_pos (by omega), List.take_succ_eq_append_getElem (by omega), List.flatten_append, List.getD_eq_getElem?_getD, List.getElem?_eq_getElem (by omega)]
      simp
  rw [key _ (Nat.le_refl _), List.take_length]

/-! ### What holds of a log all along -/
structure Inv (n s r : Nat) (g : Lg) (s0 p0 : Nat) : Prop where
  ok : g.d.Ok
  size : g.d.stable.length = n
  free : g.d.fuse = none
  room : s + r < n ∧ 7 ≤ r ∧ r ≤ 1023
  head : g.d.stable.getD s [] = headH s0 p0
  calm : ∀ x ∈ g.d.pend, x.1 ≠ s
  seq : g.seq = s0 + g.ts.length
  seqs : ∀ i t, g.ts[i]? = some t → t.seq = s0 + i
  place : p0 < r ∧ g.pl = (p0 + sumT g.ts) % r ∧ g.used = sumT g.ts ∧ sumT g.ts ≤ r
  low : LowR g.d s r g.seq
  ring : ringK g.d s r p0 (sumT g.ts) = g.ts.flatMap Tx.enc
  fair : ∀ t ∈ g.ts, t.mayB = true ∧ takesB n s r t = true
theorem Inv.pl_lt {n s r : Nat} {g : Lg} {s0 p0 : Nat} (h : Inv n s r g s0 p0) : g.pl < r := by
  have := h.room
  rw [h.place.2.1]; exact Nat.mod_lt _ (by omega)
theorem inv_app {n s r : Nat} {g : Lg} {s0 p0 : Nat} (h : Inv n s r g s0 p0) (t : Tx) (hq : g.seq < 4294967296) : Inv n s r (g.app n s r t).2.2 s0 p0 := by
  have hroom := h.room
  have hplace := h.place
  have hpl := h.pl_lt
  have hsz := h.size
  unfold Lg.app
  split
  · rename_i hfair
    split
    · rename_i hfit
      unfold Lg.fair at hfair
      rw [Bool.and_eq_true] at hfair
      have hmay := (mayB_iff _).1 hfair.1
      have hwl : (g.txn t).ws.length = t.ws.length := rfl
      have hch := chunks_enc (g.txn t) hmay
      rw [hwl] at hch
      have hcnt := encB_count (g.txn t)
      rw [hwl] at hcnt
      obtain ⟨i1, i2, i3, i4, i5, i6, i7⟩ := putL_at s r (encB (g.txn t)) g.d g.pl h.ok h.free hpl (by omega) (encB_len _ hmay) (by omega)
      have hrp := ring_put s r (encB (g.txn t)) g.d g.pl h.ok h.free hpl (by omega) (encB_len _ hmay) (by omega)
      have hsum := sumT_snoc g.ts (g.txn t)
      rw [hwl] at hsum
      rw [hcnt] at i4 i5 hrp
      show Inv n s r (g.add s r t) s0 p0
      unfold Lg.add
      rw [hch]
      refine ⟨i1, by show (putL _ _ _ _ _).1.stable.length = n; rw [i3]; exact hsz, i2, hroom, by show (putL _ _ _ _ _).1.stable.getD s [] = _; rw [i3]; exact h.head, fun x hx => ?_, ?_, fun i u hu => ?_, ⟨hplace.1, ?_, ?_, ?_⟩, fun i h1 h2 b hb => ?_, ?_, fun u hu => ?_⟩
      · rcases i7 x hx with e | e
        · exact h.calm x e
        · omega
      · show g.seq + 1 = s0 + (g.ts ++ [g.txn t]).length
        rw [List.length_append, List.length_singleton, h.seq]; omega
      · rcases Nat.lt_or_ge i g.ts.length with hi | hi
        · exact h.seqs i u (by have : (g.ts ++ [g.txn t])[i]? = some u := hu; rwa [List.getElem?_append_left hi] at this)
        · have hu2 : (g.ts ++ [g.txn t])[i]? = some u := hu
          rw [List.getElem?_append_right hi] at hu2
          have h0 : i - g.ts.length = 0 := by
            have := (List.getElem?_eq_some_iff.1 hu2).1
            rw [List.length_singleton] at this; omega
          rw [h0] at hu2
          injection hu2 with hu2
          rw [← hu2]
          show g.seq = s0 + i
          rw [h.seq]; omega
      · show (putL _ _ _ _ _).2 = (p0 + sumT (g.ts ++ [g.txn t])) % r
        rw [i4, hsum, hplace.2.1, Nat.mod_add_mod, Nat.add_assoc]
      · show g.used + (t.ws.length + 2) = sumT (g.ts ++ [g.txn t])
        rw [hsum]; omega
      · show sumT (g.ts ++ [g.txn t]) ≤ r
        rw [hsum]; omega
      · have hlow := encB_low (g.txn t) hmay (g.seq + 1) (Nat.lt_succ_self _) (by show g.seq < _; omega)
        rcases hb with e | e
        · refine (h.low i h1 h2 b (.inl ?_)).more (Nat.le_succ _)
          rw [← e]
          show _ = (putL _ _ _ _ _).1.stable.getD i []
          rw [i3]
        · rcases i7 _ e with e | ⟨_, _, e⟩
          · exact (h.low i h1 h2 b (.inr e)).more (Nat.le_succ _)
          · exact hlow b e
      · show ringK (putL s r g.d g.pl (encB (g.txn t))).1 s r p0 (sumT (g.ts ++ [g.txn t])) = _
        rw [hsum, ringK_add, ← hplace.2.1, hrp, encB_flat, List.flatMap_append, List.flatMap_cons, List.flatMap_nil, List.append_nil]
        congr 1
        rw [← h.ring]
        refine ringK_same _ (fun j hj => ?_)
        have hj1 : (p0 + j) % r = (g.pl + (r - sumT g.ts + j)) % r := by
          rw [hplace.2.1, Nat.mod_add_mod, show p0 + sumT g.ts + (r - sumT g.ts + j) = (p0 + j) + r by omega, Nat.add_mod_right]
        rw [hj1, i5 _ (by omega), if_neg (by omega)]
      · rcases List.mem_append.1 hu with hu | hu
        · exact h.fair u hu
        · rw [List.mem_singleton.1 hu]; exact hfair
    · exact h
  · exact h

theorem homeW_low {s r q : Nat} (ps : List (Int × Nat)) (sq : Nat) (d : Dk.Dk) (x : Wt) (hf : d.fuse = none) (h : LowR d s r q) (hx : ¬ (s ≤ x.1.toNat ∧ x.1.toNat ≤ s + r)) (hc : ∀ y ∈ d.pend, y.1 ≠ s) :
    (homeW ps sq d x).fuse = none ∧ LowR (homeW ps sq d x) s r q ∧ (∀ y ∈ (homeW ps sq d x).pend, y.1 ≠ s) ∧ (homeW ps sq d x).stable = d.stable := by
  unfold homeW
  split
  · refine ⟨by rw [write_eq hf], h.write hf _ _ (fun h1 h2 => absurd ⟨by omega, h2⟩ hx), ?_, by rw [write_eq hf]⟩
    rw [write_eq hf]
    intro y hy
    rcases List.mem_append.1 hy with hy | hy
    · exact hc y hy
    · rw [List.mem_singleton.1 hy]
      show x.1.toNat ≠ s
      omega
  · exact ⟨hf, h, hc, rfl⟩
theorem homeL_low {s r q n : Nat} (ps : List (Int × Nat)) (ts : List Tx) (d : Dk.Dk) (hf : d.fuse = none) (h : LowR d s r q) (hfair : ∀ t ∈ ts, t.mayB = true ∧ takesB n s r t = true) (hc : ∀ y ∈ d.pend, y.1 ≠ s) (hn : d.stable.length = n) :
    (homeL ps d ts).fuse = none ∧ LowR (homeL ps d ts) s r q ∧ (∀ y ∈ (homeL ps d ts).pend, y.1 ≠ s) ∧ (homeL ps d ts).stable = d.stable := by
  unfold homeL
  induction ts generalizing d with
  | nil => exact ⟨hf, h, hc, rfl⟩
  | cons t l ih =>
    rw [List.foldl_cons]
    have h1 : (homeT ps d t).fuse = none ∧ LowR (homeT ps d t) s r q ∧ (∀ y ∈ (homeT ps d t).pend, y.1 ≠ s) ∧ (homeT ps d t).stable = d.stable := by
      have hft := fun x hx => (takes_out (hfair t (List.mem_cons_self ..)).2 (x := x) hx).2
      unfold homeT
      generalize t.ws = w at hft
      generalize t.seq = sq
      clear ih
      induction w generalizing d with
      | nil => exact ⟨hf, h, hc, rfl⟩
      | cons x w ih2 =>
        rw [List.foldl_cons]
        obtain ⟨a1, a2, a3, a4⟩ := homeW_low ps sq d x hf h (hft x (List.mem_cons_self ..)) hc
        obtain ⟨b1, b2, b3, b4⟩ := ih2 (homeW ps sq d x) a1 a2 a3 (by rw [a4]; exact hn) (fun y hy => hft y (List.mem_cons_of_mem _ hy))
        exact ⟨b1, b2, b3, b4.trans a4⟩
    obtain ⟨a1, a2, a3, a4⟩ := h1
    obtain ⟨b1, b2, b3, b4⟩ := ih (homeT ps d t) a1 a2 (fun u hu => hfair u (List.mem_cons_of_mem _ hu)) a3 (by rw [a4]; exact hn)
    exact ⟨b1, b2, b3, b4.trans a4⟩
theorem zeros_low (q : Nat) : LowB q (List.replicate 256 0) := not_looks_low q _ (not_looks_zero _ ⟨[], by simp⟩)
theorem head_read {d : Dk.Dk} (h : d.Ok) (hf : d.fuse = none) {s : Nat} (hc : ∀ x ∈ d.pend, x.1 ≠ s) : d.read s = d.stable.getD s [] := by
  rcases read_ver h hf s with e | e
  · exact e.symm
  · exact absurd rfl (hc _ e)
theorem flush_stable {d : Dk.Dk} (h : d.Ok) (hf : d.fuse = none) {i : Nat} (hi : i < d.stable.length) : d.flush.stable.getD i [] = d.read i := by
  rw [Dk.stable_flush d h (not_blown hf), image_at d hi]
theorem inv_home {n s r : Nat} {g : Lg} {s0 p0 : Nat} (h : Inv n s r g s0 p0) : ∃ s1 p1, Inv n s r (g.home s) s1 p1 := by
  unfold Lg.home
  split
  · exact ⟨s0, p0, h⟩
  · have hroom := h.room
    have hpl := h.pl_lt
    have hsz := h.size
    have hfit : ∀ t ∈ g.ts, FitT g.d.stable.length t := fun t ht => by rw [hsz]; exact fit_fair (h.fair t ht)
    have hfl := flush_pend g.d h.free
    have hok1 := Dk.flush_ok g.d h.ok
    have hok2 := homeL_ok (revsOf g.ts) g.ts g.d.flush hok1 (by rw [Dk.size_flush]; exact hfit)
    obtain ⟨a1, a2, a3, a4⟩ := homeL_low (q := g.seq) (n := n) (revsOf g.ts) g.ts g.d.flush hfl.2 (h.low.flush h.ok h.free (by omega)) h.fair (by rw [hfl.1]; intro y hy; cases hy) (by rw [Dk.size_flush]; exact hsz)
    have hsz2 : (homeL (revsOf g.ts) g.d.flush g.ts).stable.length = n := by rw [homeL_size, Dk.size_flush]; exact hsz
    have hok3 := Dk.flush_ok _ hok2
    have hfl3 := flush_pend _ a1
    have hok4 := Dk.write_ok _ hok3 s (headH g.seq g.pl) (by rw [Dk.size_flush]; omega) (headH_len _ _)
    have hf4 : ((homeL (revsOf g.ts) g.d.flush g.ts).flush.write s (headH g.seq g.pl)).fuse = none := by rw [write_eq hfl3.2]
    have hfl4 := flush_pend _ hf4
    have hrd := homeD_read s g.seq g.pl g.d g.ts h.ok hfit (by omega)
    refine ⟨g.seq, g.pl, ⟨Dk.flush_ok _ hok4, ?_, hfl4.2, hroom, ?_, ?_, rfl, (fun i t hi => by cases hi), ⟨hpl, ?_, rfl, Nat.zero_le _⟩, ?_, ?_, (fun t ht => by cases ht)⟩⟩
    · show (homeD s g.seq g.pl g.d g.ts).stable.length = n
      unfold homeD
      rw [Dk.size_flush, Dk.size_write, Dk.size_flush, hsz2]
    · show (homeD s g.seq g.pl g.d g.ts).stable.getD s [] = _
      unfold homeD
      rw [flush_stable hok4 hf4 (by rw [Dk.size_write, Dk.size_flush, hsz2]; omega), Dk.read_write _ hok3, if_pos rfl]
    · show ∀ x ∈ (homeD s g.seq g.pl g.d g.ts).pend, _
      unfold homeD
      rw [hfl4.1]
      intro x hx; cases hx
    · show g.pl = (g.pl + sumT []) % r
      rw [show sumT [] = 0 from rfl, Nat.add_zero, Nat.mod_eq_of_lt hpl]
    · show LowR (homeD s g.seq g.pl g.d g.ts) s r g.seq
      unfold homeD
      exact ((a2.flush hok2 a1 (by omega)).write hfl3.2 _ _ (fun h1 _ => by omega)).flush hok4 hf4 (by rw [Dk.size_write, Dk.size_flush, hsz2]; omega)
    · rfl
end Go.Proofs.YtelnoibfamcnmaaGreat.Rp

namespace Go.Proofs.YtelnoibfamcnmaaGreat.Rp
set_option maxRecDepth 20000
open Go.Proofs.YtelnoibfamcnmaaGreat.Mem Go.Proofs.YtelnoibfamcnmaaGreat.Crc Go.Proofs.YtelnoibfamcnmaaGreat.Disk Go.Proofs.YtelnoibfamcnmaaGreat.Log
open Go.Proofs.YtelnoibfamcnmaaGreat.Rec (Tx Wt decB tellL tellB nW nR mayB_iff preB markL looks enc_len tellL_lens headL ownL dec_back)

theorem enc_take (t : Tx) (h : t.May) : t.enc.take 16 = headL 1 t.seq := by
  have h1 := ownL_len 1 t.seq t.slots (slots_few t h)
  rw [← encB_flat]
  unfold encB
  rw [List.flatten_cons, List.take_append_of_le_length (by rw [h1]; omega), own_take _ _ _ (slots_few t h)]
  where ownL_len := @Go.Proofs.YtelnoibfamcnmaaGreat.Rec.ownL_len
theorem dec_low {b rest : List UInt8} {q seq : Nat} (hb : b.length = 256) (hl : LowB q b) (hq : q ≤ seq) (hs : seq < 18446744073709551616) : decB (b ++ rest) seq = false := by
  cases hd : decB (b ++ rest) seq
  · rfl
  · obtain ⟨h1, h2, -⟩ := dec_parts hd
    have hm := (mayB_iff _).1 h1
    have h3 := enc_take _ hm
    have h4 := enc_len _ hm
    rw [← h2, List.take_take, Nat.min_eq_left (by omega), List.take_append_of_le_length (by omega)] at h3
    exact absurd h3 (hl seq hq hs)
theorem dec_nil (seq : Nat) : decB [] seq = false := by
  cases hd : decB [] seq
  · rfl
  · have := (dec_long hd).1
    simp at this
theorem chain_encs (n s r : Nat) : ∀ (ts : List Tx) (k seq : Nat) (rest : List UInt8), (∀ t ∈ ts, t.mayB = true ∧ takesB n s r t = true) → (∀ i t, ts[i]? = some t → t.seq = seq + i) → seq + ts.length < 18446744073709551616 → ts.length ≤ k → decB rest (seq + ts.length) = false →
    chainL n s r k (ts.flatMap Tx.enc ++ rest) seq = ts
  | [], k, seq, rest, _, _, _, _, hd => chain_stop _ _ _ _ _ _ hd
  | t :: l, 0, seq, rest, _, _, _, hk, _ => by simp at hk
  | t :: l, k + 1, seq, rest, hf, hs, hq, hk, hd => by
    have hft := hf t (List.mem_cons_self ..)
    have hm := (mayB_iff t).1 hft.1
    have hsq : t.seq = seq := hs 0 t rfl
    rw [List.length_cons] at hq hk hd
    obtain ⟨d1, d2⟩ := dec_back t hm (l.flatMap Tx.enc ++ rest)
    have hl := tellL_lens (t.enc ++ (l.flatMap Tx.enc ++ rest)) t.seq
    rw [d2] at hl
    rw [List.flatMap_cons, List.append_assoc]
    conv => lhs; unfold chainL inB
    rw [← hsq, d1, d2, hft.2, Bool.and_self, if_pos rfl, ← hl.1, ← enc_len t hm, List.drop_left, Nat.mod_eq_of_lt (by omega)]
    rw [chain_encs n s r l k (t.seq + 1) rest (fun u hu => hf u (List.mem_cons_of_mem _ hu)) (fun i u hi => by have := hs (i + 1) u (by simpa using hi); omega) (by omega) (by omega) (by rw [show t.seq + 1 + l.length = seq + (l.length + 1) by omega]; exact hd)]
theorem ring_first (d : Dk.Dk) (s r pl k : Nat) (hk : 0 < k) : ∃ rest, ringK d s r pl k = d.read (s + 1 + pl % r) ++ rest := by
  obtain ⟨k', rfl⟩ : ∃ k', k = 1 + k' := ⟨k - 1, by omega⟩
  rw [ringK_add]
  exact ⟨ringK d s r ((pl + 1) % r) k', by rw [show ringK d s r pl 1 = d.read (s + 1 + pl % r) by simp [ringK]]⟩
theorem chain_whole {n s r : Nat} {g : Lg} {s0 p0 : Nat} (h : Inv n s r g s0 p0) (hq : g.seq < 4294967296) (d : Dk.Dk) (hn : d.stable.length = n) (hr : ∀ i, s ≤ i → i ≤ s + r → d.read i = g.d.read i) : chainD d s r = g.ts := by
  have hroom := h.room
  obtain ⟨hp, hpl, hu, hsm⟩ := h.place
  have hhd : d.read s = headH s0 p0 := by rw [hr s (Nat.le_refl _) (by omega), head_read h.ok h.free h.calm, h.head]
  have hsq := h.seq
  have e1 : seqH (d.read s) = s0 := by rw [hhd]; exact seqH_head _ _ (by omega)
  have e2 : plH (d.read s) = p0 := by rw [hhd]; exact plH_head _ _ (by omega)
  have hsame : ∀ pl k, ringK d s r pl k = ringK g.d s r pl k := fun pl k => ringK_same k (fun j _ => hr _ (by omega) (by have := Nat.mod_lt (pl + j) (show 0 < r by omega); omega))
  unfold chainD
  rw [e1, e2, hn]
  unfold ringB
  rw [hsame, show r = sumT g.ts + (r - sumT g.ts) by omega]
  rw [show ringK g.d s (sumT g.ts + (r - sumT g.ts)) p0 (sumT g.ts + (r - sumT g.ts)) = g.ts.flatMap Tx.enc ++ ringK g.d s r ((p0 + sumT g.ts) % r) (r - sumT g.ts) by
    rw [show sumT g.ts + (r - sumT g.ts) = r by omega, show ringK g.d s r p0 r = ringK g.d s r p0 (sumT g.ts + (r - sumT g.ts)) by rw [show sumT g.ts + (r - sumT g.ts) = r by omega], ringK_add, h.ring]]
  rw [show sumT g.ts + (r - sumT g.ts) = r by omega]
  have h2 : g.ts.length ≤ r := by
    have : ∀ l : List Tx, l.length ≤ sumT l := fun l => by
      induction l with
      | nil => simp [sumT]
      | cons a l ih =>
        have : sumT (a :: l) = lenT a + sumT l := by simp [sumT]
        rw [this, List.length_cons]
        unfold lenT; omega
    have := this g.ts
    omega
  refine chain_encs n s r g.ts r s0 _ h.fair h.seqs (by omega) h2 ?_
  by_cases hz : r - sumT g.ts = 0
  · rw [hz]; exact dec_nil _
  · obtain ⟨rest, he⟩ := ring_first g.d s r ((p0 + sumT g.ts) % r) (r - sumT g.ts) (by omega)
    rw [he]
    have hm := Nat.mod_lt ((p0 + sumT g.ts) % r) (show 0 < r by omega)
    exact dec_low (Dk.read_len _ h.ok _ (by rw [h.size]; omega)) (h.low _ (by omega) (by omega) _ (read_ver h.ok h.free _)) (by omega) (by omega)
theorem chain_bound {n s r q pl : Nat} {d : Dk.Dk} (hok : d.Ok) (hs : s + r < d.stable.length) (h0 : 0 < r) (hq : q < 18446744073709551616) (hlow : ∀ i, s + 1 ≤ i → i ≤ s + r → LowB q (d.read i)) : ∀ (k off seq : Nat), seq ≤ q → off ≤ r →
    seq + (chainL n s r k ((ringB d s r pl).drop (256 * off)) seq).length ≤ q ∧ ∀ i t, (chainL n s r k ((ringB d s r pl).drop (256 * off)) seq)[i]? = some t → t.seq = seq + i
  | 0, off, seq, hsq, _ => ⟨by simpa [chainL] using hsq, fun i t hi => by simp [chainL] at hi⟩
  | k + 1, off, seq, hsq, ho => by
    have hdrop : (ringB d s r pl).drop (256 * off) = ringK d s r ((pl + off) % r) (r - off) := by
      unfold ringB
      rw [show ringK d s r pl r = ringK d s r pl (off + (r - off)) by rw [show off + (r - off) = r by omega], ringK_add, ← ringK_len d hok s r pl h0 hs off, List.drop_left]
    cases hin : inB n s r ((ringB d s r pl).drop (256 * off)) seq
    · unfold chainL
      rw [hin]
      exact ⟨by simpa using hsq, fun i t hi => by simp at hi⟩
    · have hd := (in_parts hin).1
      have hlong := (dec_long hd).1
      rw [hdrop, ringK_len d hok s r _ h0 hs] at hlong
      rw [← hdrop] at hlong
      have hlt : seq < q := by
        rcases Nat.lt_or_ge seq q with h | h
        · exact h
        · obtain ⟨rest, he⟩ := ring_first d s r ((pl + off) % r) (r - off) (by omega)
          have hm := Nat.mod_lt ((pl + off) % r) h0
          have := dec_low (rest := rest) (q := q) (seq := seq) (Dk.read_len _ hok _ (by omega)) (hlow (s + 1 + (pl + off) % r % r) (by omega) (by omega)) h (by omega)
          rw [hdrop, he, this] at hd
          cases hd
      have ih := chain_bound (n := n) (pl := pl) hok hs h0 hq hlow k (off + (nW ((ringB d s r pl).drop (256 * off)) + 2)) (seq + 1) (by omega) (by omega)
      have hst : chainL n s r (k + 1) ((ringB d s r pl).drop (256 * off)) seq = tellL ((ringB d s r pl).drop (256 * off)) seq :: chainL n s r k ((ringB d s r pl).drop (256 * (off + (nW ((ringB d s r pl).drop (256 * off)) + 2)))) (seq + 1) := by
        conv => lhs; unfold chainL
        rw [if_pos hin, List.drop_drop, Nat.mod_eq_of_lt (by omega), ← Nat.mul_add]
      rw [hst]
      refine ⟨by rw [List.length_cons]; omega, fun i t hi => ?_⟩
      cases i with
      | zero =>
        injection hi with hi
        rw [← hi]
        rfl
      | succ i =>
        have := ih.2 i t (by simpa using hi)
        omega
/-- Behind a crash: the head, and the chain. -/
theorem crash_head {n s r : Nat} {g : Lg} {s0 p0 : Nat} (h : Inv n s r g s0 p0) (bits : List UInt8) : (g.d.crash bits).read s = headH s0 p0 := by
  rw [crash_read, crashFrom_same bits s _ _ _ h.calm, h.head]
theorem crash_low {n s r : Nat} {g : Lg} {s0 p0 : Nat} (h : Inv n s r g s0 p0) (bits : List UInt8) : LowR (g.d.crash bits) s r g.seq := h.low.crash h.ok bits
theorem crash_chain {n s r : Nat} {g : Lg} {s0 p0 : Nat} (h : Inv n s r g s0 p0) (hq : g.seq < 4294967296) (bits : List UInt8) :
    (chainD (g.d.crash bits) s r).length ≤ g.ts.length ∧ ∀ i t, (chainD (g.d.crash bits) s r)[i]? = some t → t.seq = s0 + i := by
  have hroom := h.room
  have hok := Dk.crash_ok g.d h.ok bits
  have hsz : (g.d.crash bits).stable.length = n := by rw [Dk.size_crash]; exact h.size
  have hsq := h.seq
  have hhd := crash_head h bits
  have hb := chain_bound (n := n) (q := g.seq) (pl := p0) hok (by rw [hsz]; omega) (by omega) (by omega) (fun i h1 h2 => crash_low h bits i h1 h2 _ (read_ver hok rfl i)) r 0 s0 (by omega) (Nat.zero_le _)
  rw [Nat.mul_zero, List.drop_zero] at hb
  unfold chainD
  rw [hhd, seqH_head _ _ (by omega), plH_head _ _ (by have := h.place.1; omega), hsz]
  exact ⟨by omega, hb.2⟩
theorem head_good {n s r : Nat} {g : Lg} {s0 p0 : Nat} (h : Inv n s r g s0 p0) (hq : g.seq < 4294967296) : okH (headH s0 p0) r = true := by
  have := h.room
  have := h.seq
  exact okH_head _ _ _ (by omega) h.place.1 (by omega)
/-- The log that is opened behind a recovery. -/
def Lg.recd (d : Dk.Dk) (s r : Nat) : Lg := { seq := seqD d s r, pl := backD d s r, used := 0, d := recD d s r, ts := [] }
theorem homeL_free (ps : List (Int × Nat)) (ts : List Tx) (d : Dk.Dk) (hf : d.fuse = none) : (homeL ps d ts).fuse = none := by
  unfold homeL
  induction ts generalizing d with
  | nil => exact hf
  | cons t l ih =>
    rw [List.foldl_cons]
    refine ih _ ?_
    unfold homeT
    generalize t.ws = w
    generalize t.seq = sq
    clear ih
    induction w generalizing d with
    | nil => exact hf
    | cons x w ih2 =>
      rw [List.foldl_cons]
      refine ih2 _ ?_
      unfold homeW
      split
      · rw [write_eq hf]
      · exact hf
theorem recD_calm (d : Dk.Dk) (_ : d.Ok) (s r : Nat) (hf : d.fuse = none) : (recD d s r).fuse = none ∧ (recD d s r).pend = [] := by
  have h1 := (flush_pend _ (homeL_free (revsOf (chainD d s r)) (chainD d s r) d hf)).2
  have h2 : ((homeL (revsOf (chainD d s r)) d (chainD d s r)).flush.write (s + 1 + backD d s r) (List.replicate 256 0)).fuse = none := by rw [write_eq h1]
  have h3 : (((homeL (revsOf (chainD d s r)) d (chainD d s r)).flush.write (s + 1 + backD d s r) (List.replicate 256 0)).write s (headH (seqD d s r) (backD d s r))).fuse = none := by rw [write_eq h2]
  have h4 := flush_pend _ h3
  exact ⟨h4.2, h4.1⟩
theorem inv_fresh (n s r : Nat) (hroom : s + r < n ∧ 7 ≤ r ∧ r ≤ 1023) : Inv n s r (Lg.fresh n s) 1 0 := by
  have hok0 := Dk.new_ok n
  have hsz : (Dk.Dk.new n).stable.length = n := by simp [Dk.Dk.new]
  have hf0 : (Dk.Dk.new n).fuse = none := rfl
  have hf1 : ((Dk.Dk.new n).write s (headH 1 0)).fuse = none := by rw [write_eq hf0]
  have hok1 := Dk.write_ok _ hok0 s (headH 1 0) (by rw [hsz]; omega) (headH_len _ _)
  have hfl := flush_pend _ hf1
  have hlow : LowR (Dk.Dk.new n) s r 1 := fun i h1 h2 b hb => by
    rcases hb with e | e
    · rw [← e]
      show LowB 1 ((List.replicate n Dk.zeros).getD i [])
      rw [List.getD_eq_getElem?_getD, List.getElem?_replicate, if_pos (by omega)]
      exact zeros_low 1
    · cases e
  refine ⟨Dk.flush_ok _ hok1, freshD_size n s, hfl.2, hroom, ?_, ?_, rfl, (fun i t hi => by cases hi), ⟨by omega, ?_, rfl, Nat.zero_le _⟩, ?_, rfl, (fun t ht => by cases ht)⟩
  · show (freshD n s).stable.getD s [] = _
    unfold freshD
    rw [flush_stable hok1 hf1 (by rw [Dk.size_write, hsz]; omega), Dk.read_write _ hok0, if_pos rfl]
  · show ∀ x ∈ (freshD n s).pend, _
    unfold freshD
    rw [hfl.1]
    intro x hx; cases hx
  · show 0 = (0 + sumT []) % r
    rw [show sumT [] = 0 from rfl, Nat.add_zero, Nat.mod_eq_of_lt (by omega)]
  · show LowR (freshD n s) s r 1
    unfold freshD
    exact (hlow.write hf0 s (headH 1 0) (fun h1 _ => by omega)).flush hok1 hf1 (by rw [Dk.size_write, hsz]; omega)
end Go.Proofs.YtelnoibfamcnmaaGreat.Rp
