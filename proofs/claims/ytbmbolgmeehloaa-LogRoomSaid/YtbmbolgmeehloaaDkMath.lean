/- The plain model of layer 2's disk: stable blocks, pending writes, ghosts and a fuse, and what the promises say of it. Proved for every state that the document's words allow: settling and flushing change nothing that is read; a write is read; a blown fuse hides; a crash leaves sectors of what was written or was there. -/
namespace Go.Proofs.Ytbmbolgmeehloaa.Dk
set_option maxRecDepth 20000

abbrev Blk := List UInt8
abbrev Wr := Nat × Blk

structure Dk where
  stable : List Blk
  pend : List Wr := []
  ghosts : List Wr := []
  fuse : Option Nat := none

/-- What is read of block i over what lies below: the last write counts. -/
def last (b : Blk) (ws : List Wr) (i : Nat) : Blk := ws.foldl (fun b w => if w.1 = i then w.2 else b) b

theorem last_nil (b : Blk) (i : Nat) : last b [] i = b := rfl
theorem last_cons (b : Blk) (w : Wr) (r : List Wr) (i : Nat) : last b (w :: r) i = last (if w.1 = i then w.2 else b) r i := rfl
theorem last_append (b : Blk) (x y : List Wr) (i : Nat) : last b (x ++ y) i = last (last b x i) y i := List.foldl_append
theorem last_snoc (b : Blk) (x : List Wr) (w : Wr) (i : Nat) : last b (x ++ [w]) i = if w.1 = i then w.2 else last b x i := last_append b x [w] i

def Dk.blown (d : Dk) : Bool := d.fuse == some 0
def Dk.read (d : Dk) (i : Nat) : Blk := last (last (d.stable.getD i []) d.pend i) d.ghosts i
def Dk.image (d : Dk) : List Blk := (List.range d.stable.length).map d.read
def Dk.tick (d : Dk) : Dk := { d with fuse := d.fuse.map (· - 1) }

/-- A write of a whole block to a block that is there. -/
def Dk.write (d : Dk) (i : Nat) (data : Blk) : Dk :=
  if d.blown then { d with ghosts := d.ghosts ++ [(i, data)] } else { d with pend := d.pend ++ [(i, data)], fuse := d.fuse.map (· - 1) }

def applyAll (st : List Blk) (ws : List Wr) : List Blk := ws.foldl (fun s w => s.set w.1 w.2) st
def Dk.flush (d : Dk) : Dk :=
  if d.blown then d else { d with stable := applyAll d.stable d.pend, pend := [], fuse := d.fuse.map (· - 1) }

/-- Number k of a list of bits. -/
def bit (bits : List UInt8) (k : Nat) : Bool := match bits[k / 8]? with
  | some c => decide (c.toNat / 2 ^ (k % 8) % 2 = 1)
  | none => false

def settleFrom (bits : List UInt8) : Nat → List Blk → List Wr → List Blk
  | _, st, [] => st
  | k, st, w :: r => settleFrom bits (k + 1) (if bit bits k then st.set w.1 w.2 else st) r
def later (bits : List UInt8) : Nat → List Wr → Nat → Bool
  | _, [], _ => false
  | k, w :: r, b => (bit bits k && w.1 == b) || later bits (k + 1) r b
def keepFrom (bits : List UInt8) : Nat → List Wr → List Wr
  | _, [] => []
  | k, w :: r => if bit bits k || later bits (k + 1) r w.1 then keepFrom bits (k + 1) r else w :: keepFrom bits (k + 1) r
def Dk.settle (d : Dk) (bits : List UInt8) : Dk :=
  if d.blown then d else { d with stable := settleFrom bits 0 d.stable d.pend, pend := keepFrom bits 0 d.pend }

/-- Sector s of a block laid over another. -/
def sect (b data : Blk) (s : Nat) : Blk := b.take (64 * s) ++ (data.drop (64 * s)).take 64 ++ b.drop (64 * s + 64)
def tear (bits : List UInt8) (k : Nat) (data : Blk) : Nat → Blk → Blk
  | 0, b => b
  | s + 1, b => if bit bits (4 * k + s) then sect (tear bits k data s b) data s else tear bits k data s b
def crashFrom (bits : List UInt8) : Nat → List Blk → List Wr → List Blk
  | _, st, [] => st
  | k, st, w :: r => crashFrom bits (k + 1) (st.set w.1 (tear bits k w.2 4 (st.getD w.1 []))) r
def Dk.crash (d : Dk) (bits : List UInt8) : Dk := { stable := crashFrom bits 0 d.stable d.pend }

def Dk.setFuse (d : Dk) (n : Int) : Dk := if d.blown then d else { d with fuse := if n < 0 then none else some n.toNat }

def zeros : Blk := List.replicate 256 0
def Dk.new (n : Nat) : Dk := { stable := List.replicate n zeros }

/-- The states that there are. -/
structure Dk.Ok (d : Dk) : Prop where
  len : ∀ b ∈ d.stable, b.length = 256
  pend : ∀ w ∈ d.pend, w.1 < d.stable.length ∧ w.2.length = 256
  ghosts : ∀ w ∈ d.ghosts, w.1 < d.stable.length ∧ w.2.length = 256
  hid : d.ghosts ≠ [] → d.fuse = some 0

theorem Dk.Ok.none (d : Dk) (h : d.Ok) (hb : d.blown = false) : d.ghosts = [] := by
  by_cases e : d.ghosts = []
  · exact e
  · have := h.hid e
    simp [Dk.blown, this] at hb

theorem new_ok (n : Nat) : (Dk.new n).Ok := by
  refine ⟨fun b hb => ?_, fun w hw => by simp [Dk.new] at hw, fun w hw => by simp [Dk.new] at hw, fun h => by simp [Dk.new] at h⟩
  simp [Dk.new] at hb
  rw [hb.2]
  exact List.length_replicate

theorem apply_len : ∀ (ws : List Wr) (st : List Blk), (applyAll st ws).length = st.length
  | [], _ => rfl
  | w :: r, st => by
    show (applyAll (st.set w.1 w.2) r).length = _
    rw [apply_len r]; simp
theorem settle_len (bits : List UInt8) : ∀ (ws : List Wr) (k : Nat) (st : List Blk), (settleFrom bits k st ws).length = st.length
  | [], _, _ => rfl
  | w :: r, k, st => by
    unfold settleFrom
    rw [settle_len bits r]
    split <;> simp
theorem crash_len (bits : List UInt8) : ∀ (ws : List Wr) (k : Nat) (st : List Blk), (crashFrom bits k st ws).length = st.length
  | [], _, _ => rfl
  | w :: r, k, st => by
    unfold crashFrom
    rw [crash_len bits r]; simp

theorem getD_set (st : List Blk) (j i : Nat) (b : Blk) (hj : j < st.length) : (st.set j b).getD i [] = if j = i then b else st.getD i [] := by
  simp only [List.getD, List.getElem?_set]
  by_cases h : j = i
  · subst h; simp [hj]
  · simp [h]

theorem apply_get : ∀ (ws : List Wr) (st : List Blk) (i : Nat), (∀ w ∈ ws, w.1 < st.length) → (applyAll st ws).getD i [] = last (st.getD i []) ws i
  | [], _, _, _ => rfl
  | w :: r, st, i, h => by
    show (applyAll (st.set w.1 w.2) r).getD i [] = _
    rw [apply_get r _ i (fun x hx => by rw [List.length_set]; exact h x (by simp [hx])), getD_set _ _ _ _ (h w (by simp)), last_cons]

theorem read_flush (d : Dk) (h : d.Ok) (i : Nat) : d.flush.read i = d.read i := by
  unfold Dk.flush
  by_cases hb : d.blown = true
  · rw [if_pos hb]
  · rw [if_neg hb]
    simp only [Dk.read, last_nil]
    rw [apply_get d.pend d.stable i fun w hw => (h.pend w hw).1]

theorem later_last (bits : List UInt8) (i : Nat) : ∀ (ws : List Wr) (k : Nat) (b c : Blk), later bits k ws i = true → last b ws i = last c ws i
  | [], _, _, _, h => by simp [later] at h
  | w :: r, k, b, c, h => by
    rw [last_cons, last_cons]
    by_cases e : w.1 = i
    · rw [if_pos e, if_pos e]
    · rw [if_neg e, if_neg e]
      exact later_last bits i r (k + 1) b c (by simpa [later, e] using h)

theorem keep_last (bits : List UInt8) (i : Nat) : ∀ (ws : List Wr) (k : Nat) (b : Blk), later bits k ws i = false → last b (keepFrom bits k ws) i = last b ws i
  | [], _, _, _ => rfl
  | w :: r, k, b, h => by
    have h2 : later bits (k + 1) r i = false := by simp [later] at h; exact h.2
    unfold keepFrom
    by_cases hk : (bit bits k || later bits (k + 1) r w.1) = true
    · rw [if_pos hk, keep_last bits i r (k + 1) b h2, last_cons]
      have hne : w.1 ≠ i := by
        intro e
        simp [later, e] at h
        simp [e, h.1, h2] at hk
      rw [if_neg hne]
    · rw [if_neg hk, last_cons, last_cons, keep_last bits i r (k + 1) _ h2]

theorem settle_last (bits : List UInt8) (i : Nat) : ∀ (ws : List Wr) (k : Nat) (st : List Blk), (∀ w ∈ ws, w.1 < st.length) →
    last ((settleFrom bits k st ws).getD i []) (keepFrom bits k ws) i = last (st.getD i []) ws i
  | [], _, _, _ => rfl
  | w :: r, k, st, h => by
    have hw := h w (by simp)
    unfold settleFrom keepFrom
    by_cases hb : bit bits k = true
    · simp only [hb, Bool.true_or, if_true]
      rw [settle_last bits i r (k + 1) _ (fun x hx => by rw [List.length_set]; exact h x (by simp [hx])), getD_set _ _ _ _ hw, last_cons]
    · have hb' : bit bits k = false := by simpa using hb
      simp only [hb', Bool.false_or]
      have ih := settle_last bits i r (k + 1) st (fun x hx => h x (by simp [hx]))
      simp only [Bool.false_eq_true, if_false]
      by_cases hl : later bits (k + 1) r w.1 = true
      · rw [if_pos hl, ih, last_cons]
        by_cases e : w.1 = i
        · subst e
          exact later_last bits _ r (k + 1) _ _ hl
        · rw [if_neg e]
      · rw [if_neg hl, last_cons, last_cons]
        by_cases e : w.1 = i
        · subst e
          simp only [if_true]
          exact keep_last bits _ r (k + 1) _ (by simpa using hl)
        · rw [if_neg e, if_neg e, ih]

theorem read_settle (d : Dk) (h : d.Ok) (bits : List UInt8) (i : Nat) : (d.settle bits).read i = d.read i := by
  unfold Dk.settle
  by_cases hb : d.blown = true
  · rw [if_pos hb]
  · rw [if_neg hb]
    simp only [Dk.read]
    rw [settle_last bits i d.pend 0 d.stable fun w hw => (h.pend w hw).1]

theorem read_write (d : Dk) (h : d.Ok) (j : Nat) (data : Blk) (i : Nat) : (d.write j data).read i = if j = i then data else d.read i := by
  unfold Dk.write
  by_cases hb : d.blown = true
  · rw [if_pos hb]
    simp only [Dk.read, last_snoc]
  · rw [if_neg hb]
    have hg := h.none d (by simpa using hb)
    simp only [Dk.read, hg, last_nil, last_snoc]

theorem size_write (d : Dk) (j : Nat) (data : Blk) : (d.write j data).stable.length = d.stable.length := by unfold Dk.write; split <;> rfl
theorem size_flush (d : Dk) : d.flush.stable.length = d.stable.length := by
  unfold Dk.flush; split
  · rfl
  · exact apply_len _ _
theorem size_settle (d : Dk) (bits : List UInt8) : (d.settle bits).stable.length = d.stable.length := by
  unfold Dk.settle; split
  · rfl
  · exact settle_len _ _ _ _
theorem size_crash (d : Dk) (bits : List UInt8) : (d.crash bits).stable.length = d.stable.length := crash_len _ _ _ _
theorem size_fuse (d : Dk) (n : Int) : (d.setFuse n).stable.length = d.stable.length := by unfold Dk.setFuse; split <;> rfl

theorem image_eq (d e : Dk) (hs : d.stable.length = e.stable.length) (h : ∀ i, d.read i = e.read i) : d.image = e.image := by
  unfold Dk.image
  rw [hs]
  exact List.map_congr_left fun i _ => h i

theorem image_flush (d : Dk) (h : d.Ok) : d.flush.image = d.image := image_eq _ _ (size_flush d) (read_flush d h)
theorem image_settle (d : Dk) (h : d.Ok) (bits : List UInt8) : (d.settle bits).image = d.image := image_eq _ _ (size_settle d bits) (read_settle d h bits)

theorem map_getD (st : List Blk) : (List.range st.length).map (fun i => st.getD i []) = st := by
  apply List.ext_getElem
  · simp
  · intro i h1 h2
    simp [List.getD, h2]

theorem image_calm (d : Dk) (hp : d.pend = []) (hg : d.ghosts = []) : d.image = d.stable := by
  unfold Dk.image
  have e : d.read = fun i => d.stable.getD i [] := by
    funext i
    simp only [Dk.read, hp, hg, last_nil]
  rw [e, map_getD]

/-- Flushed: the stable bytes are what is read. -/
theorem stable_flush (d : Dk) (h : d.Ok) (hb : d.blown = false) : d.flush.stable = d.image := by
  have hc := image_calm d.flush (by unfold Dk.flush; rw [if_neg (by simp [hb])]) (by unfold Dk.flush; rw [if_neg (by simp [hb])]; exact h.none d hb)
  rw [← hc, image_flush d h]
theorem pend_flush (d : Dk) (hb : d.blown = false) : d.flush.pend = [] := by unfold Dk.flush; rw [if_neg (by simp [hb])]
theorem crash_calm (d : Dk) (hp : d.pend = []) (bits : List UInt8) : (d.crash bits).stable = d.stable := by unfold Dk.crash; rw [hp]; rfl

/-! ### Every operation leaves a state that there is -/
theorem write_ok (d : Dk) (h : d.Ok) (j : Nat) (data : Blk) (hj : j < d.stable.length) (hd : data.length = 256) : (d.write j data).Ok := by
  unfold Dk.write
  by_cases hb : d.blown = true
  · rw [if_pos hb]
    refine ⟨h.len, h.pend, fun w hw => ?_, fun _ => by simpa [Dk.blown] using hb⟩
    rcases List.mem_append.1 hw with h1 | h1
    · exact h.ghosts w h1
    · simp at h1; subst h1; exact ⟨hj, hd⟩
  · rw [if_neg hb]
    have hg := h.none d (by simpa using hb)
    refine ⟨h.len, fun w hw => ?_, h.ghosts, fun hne => absurd hg hne⟩
    rcases List.mem_append.1 hw with h1 | h1
    · exact h.pend w h1
    · simp at h1; subst h1; exact ⟨hj, hd⟩
theorem set_len (st : List Blk) (j : Nat) (b : Blk) (h : ∀ x ∈ st, x.length = 256) (hb : b.length = 256) : ∀ x ∈ st.set j b, x.length = 256 := by
  intro x hx
  rcases List.mem_or_eq_of_mem_set hx with h1 | h1
  · exact h x h1
  · rw [h1]; exact hb
theorem apply_ok : ∀ (ws : List Wr) (st : List Blk), (∀ x ∈ st, x.length = 256) → (∀ w ∈ ws, w.2.length = 256) → ∀ x ∈ applyAll st ws, x.length = 256
  | [], _, h, _ => h
  | w :: r, st, h, hw => apply_ok r _ (set_len st w.1 w.2 h (hw w (by simp))) fun x hx => hw x (by simp [hx])
theorem settle_all (bits : List UInt8) : ∀ (ws : List Wr) (k : Nat) (st : List Blk), (∀ x ∈ st, x.length = 256) → (∀ w ∈ ws, w.2.length = 256) → ∀ x ∈ settleFrom bits k st ws, x.length = 256
  | [], _, _, h, _ => h
  | w :: r, k, st, h, hw => by
    unfold settleFrom
    refine settle_all bits r (k + 1) _ ?_ fun x hx => hw x (by simp [hx])
    split
    · exact set_len st w.1 w.2 h (hw w (by simp))
    · exact h
theorem keep_sub (bits : List UInt8) : ∀ (ws : List Wr) (k : Nat), ∀ w ∈ keepFrom bits k ws, w ∈ ws
  | [], _, _, h => h
  | v :: r, k, w, h => by
    unfold keepFrom at h
    split at h
    · exact List.mem_cons_of_mem _ (keep_sub bits r (k + 1) w h)
    · rcases List.mem_cons.1 h with e | e
      · simp [e]
      · exact List.mem_cons_of_mem _ (keep_sub bits r (k + 1) w e)
theorem flush_ok (d : Dk) (h : d.Ok) : d.flush.Ok := by
  unfold Dk.flush
  by_cases hb : d.blown = true
  · rw [if_pos hb]; exact h
  · rw [if_neg hb]
    have hg := h.none d (by simpa using hb)
    exact ⟨apply_ok _ _ h.len fun w hw => (h.pend w hw).2, fun w hw => by simp at hw, fun w hw => by rw [hg] at hw; simp at hw, fun hne => absurd hg hne⟩
theorem settle_ok (d : Dk) (h : d.Ok) (bits : List UInt8) : (d.settle bits).Ok := by
  unfold Dk.settle
  by_cases hb : d.blown = true
  · rw [if_pos hb]; exact h
  · rw [if_neg hb]
    have hg := h.none d (by simpa using hb)
    exact ⟨settle_all bits _ _ _ h.len fun w hw => (h.pend w hw).2, fun w hw => by rw [settle_len]; exact h.pend w (keep_sub bits _ _ w hw), fun w hw => by rw [hg] at hw; simp at hw, fun hne => absurd hg hne⟩
theorem sect_len (b data : Blk) (s : Nat) (hb : b.length = 256) (hd : data.length = 256) (hs : s < 4) : (sect b data s).length = 256 := by
  simp [sect, hb, hd]; omega
theorem tear_len (bits : List UInt8) (k : Nat) (data : Blk) (hd : data.length = 256) : ∀ (s : Nat) (b : Blk), s ≤ 4 → b.length = 256 → (tear bits k data s b).length = 256
  | 0, _, _, h => h
  | s + 1, b, hs, h => by
    unfold tear
    split
    · exact sect_len _ _ _ (tear_len bits k data hd s b (by omega) h) hd (by omega)
    · exact tear_len bits k data hd s b (by omega) h
theorem crash_all (bits : List UInt8) : ∀ (ws : List Wr) (k : Nat) (st : List Blk), (∀ x ∈ st, x.length = 256) → (∀ w ∈ ws, w.1 < st.length ∧ w.2.length = 256) → ∀ x ∈ crashFrom bits k st ws, x.length = 256
  | [], _, _, h, _ => h
  | w :: r, k, st, h, hw => by
    unfold crashFrom
    have h0 := hw w (by simp)
    refine crash_all bits r (k + 1) _ (set_len st w.1 _ h (tear_len bits k w.2 h0.2 4 _ (Nat.le_refl _) ?_)) fun x hx => by rw [List.length_set]; exact hw x (by simp [hx])
    have e : st.getD w.1 [] = st[w.1]'h0.1 := by simp [List.getD, h0.1]
    rw [e]
    exact h _ (List.getElem_mem _)
theorem crash_ok (d : Dk) (h : d.Ok) (bits : List UInt8) : (d.crash bits).Ok :=
  ⟨crash_all bits _ _ _ h.len h.pend, fun w hw => by simp [Dk.crash] at hw, fun w hw => by simp [Dk.crash] at hw, fun hne => by simp [Dk.crash] at hne⟩
theorem fuse_ok (d : Dk) (h : d.Ok) (n : Int) : (d.setFuse n).Ok := by
  unfold Dk.setFuse
  by_cases hb : d.blown = true
  · rw [if_pos hb]; exact h
  · rw [if_neg hb]
    have hg := h.none d (by simpa using hb)
    exact ⟨h.len, h.pend, h.ghosts, fun hne => absurd hg hne⟩
theorem read_len (d : Dk) (h : d.Ok) (i : Nat) (hi : i < d.stable.length) : (d.read i).length = 256 := by
  have key : ∀ (ws : List Wr) (b : Blk), b.length = 256 → (∀ w ∈ ws, w.2.length = 256) → (last b ws i).length = 256 := by
    intro ws
    induction ws with
    | nil => intro b hb _; exact hb
    | cons w r ih =>
      intro b hb hw
      rw [last_cons]
      refine ih _ ?_ fun x hx => hw x (by simp [hx])
      split
      · exact hw w (by simp)
      · exact hb
  refine key _ _ (key _ _ ?_ fun w hw => (h.pend w hw).2) fun w hw => (h.ghosts w hw).2
  have e : d.stable.getD i [] = d.stable[i] := by simp [List.getD, hi]
  rw [e]
  exact h.len _ (List.getElem_mem _)

/-! ### Tears -/
def secOf (b : Blk) (s : Nat) : Blk := (b.drop (64 * s)).take 64
theorem secOf_sect (b data : Blk) (s t : Nat) (hb : b.length = 256) (hd : data.length = 256) (hs : s < 4) (ht : t < 4) : secOf (sect b data s) t = if s = t then secOf data t else secOf b t := by
  unfold secOf sect
  apply List.ext_getElem?
  intro j
  by_cases hj : j < 64
  · by_cases e : s = t
    · subst e
      rw [if_pos rfl]
      simp only [List.getElem?_take, List.getElem?_drop, List.getElem?_append, List.length_append, List.length_take, List.length_drop, hb, hd, hj, if_true]
      rw [if_pos (by omega), if_neg (by omega), if_pos (by omega)]
      congr 1
      omega
    · rw [if_neg e]
      simp only [List.getElem?_take, List.getElem?_drop, List.getElem?_append, List.length_append, List.length_take, List.length_drop, hb, hd, hj, if_true]
      by_cases h1 : t < s
      · rw [if_pos (by omega), if_pos (by omega), if_pos (by omega)]
      · rw [if_neg (by omega)]
        congr 1
        omega
  · rw [List.getElem?_eq_none (by simp; omega), List.getElem?_eq_none (by split <;> simp <;> omega)]
theorem secOf_tear (bits : List UInt8) (k : Nat) (data : Blk) (hd : data.length = 256) (t : Nat) (ht : t < 4) : ∀ (s : Nat) (b : Blk), s ≤ 4 → b.length = 256 →
    secOf (tear bits k data s b) t = if t < s && bit bits (4 * k + t) then secOf data t else secOf b t
  | 0, _, _, _ => by simp [tear]
  | s + 1, b, hs, hb => by
    have ih := secOf_tear bits k data hd t ht s b (by omega) hb
    have hl := tear_len bits k data hd s b (by omega) hb
    unfold tear
    by_cases hbit : bit bits (4 * k + s) = true
    · rw [if_pos hbit, secOf_sect _ _ _ _ hl hd (by omega) ht, ih]
      by_cases e : s = t
      · subst e; simp [hbit]
      · rw [if_neg e]
        have : (decide (t < s + 1)) = decide (t < s) := by simp; omega
        rw [this]
    · rw [if_neg hbit, ih]
      by_cases e : t = s
      · subst e; simp [hbit]
      · have : (decide (t < s + 1)) = decide (t < s) := by simp; omega
        rw [this]

/-- P2.3: two writes to one block, and a crash: each sector is the second's, the first's or the old one. -/
theorem tears (bits : List UInt8) (o a b : Blk) (ho : o.length = 256) (ha : a.length = 256) (hb : b.length = 256) (t : Nat) (ht : t < 4) :
    secOf (tear bits 1 b 4 (tear bits 0 a 4 o)) t = secOf a t ∨ secOf (tear bits 1 b 4 (tear bits 0 a 4 o)) t = secOf b t ∨ secOf (tear bits 1 b 4 (tear bits 0 a 4 o)) t = secOf o t := by
  rw [secOf_tear bits 1 b hb t ht 4 _ (by omega) (tear_len bits 0 a ha 4 o (by omega) ho), secOf_tear bits 0 a ha t ht 4 _ (by omega) ho]
  split
  · exact .inr (.inl rfl)
  · split
    · exact .inl rfl
    · exact .inr (.inr rfl)
theorem blk_secs (b c : Blk) (hb : b.length = 256) (hc : c.length = 256) (h : ∀ t, t < 4 → secOf b t = secOf c t) : b = c := by
  apply List.ext_getElem?
  intro j
  by_cases hj : j < 256
  · have := congrArg (fun l => l[j % 64]?) (h (j / 64) (by omega))
    simp only [secOf, List.getElem?_take, List.getElem?_drop] at this
    rw [if_pos (by omega), if_pos (by omega), show 64 * (j / 64) + j % 64 = j by omega] at this
    exact this
  · rw [List.getElem?_eq_none (by omega), List.getElem?_eq_none (by omega)]
/-- With all bits 1 a torn write is whole. -/
theorem tear_whole (bits : List UInt8) (k : Nat) (data b : Blk) (hd : data.length = 256) (hb : b.length = 256) (h : ∀ t, t < 4 → bit bits (4 * k + t) = true) : tear bits k data 4 b = data := by
  refine blk_secs _ _ (tear_len bits k data hd 4 b (by omega) hb) hd fun t ht => ?_
  rw [secOf_tear bits k data hd t ht 4 b (by omega) hb, if_pos (by simp [ht, h t ht])]

/-! ### A blown fuse -/
/-- One deed of a run: a write, or a flush. -/
def Dk.deed (d : Dk) : Option Wr → Dk
  | some w => d.write w.1 w.2
  | none => d.flush
def writesOf : List (Option Wr) → List Wr
  | [] => []
  | some w :: r => w :: writesOf r
  | none :: r => writesOf r
def Fits (d : Dk) (l : List (Option Wr)) : Prop := ∀ w, some w ∈ l → w.1 < d.stable.length ∧ w.2.length = 256

theorem deed_ok (d : Dk) (h : d.Ok) (x : Option Wr) (hx : ∀ w, x = some w → w.1 < d.stable.length ∧ w.2.length = 256) : (d.deed x).Ok := by
  cases x with
  | none => exact flush_ok d h
  | some w => exact write_ok d h w.1 w.2 (hx w rfl).1 (hx w rfl).2
theorem size_deed (d : Dk) (x : Option Wr) : (d.deed x).stable.length = d.stable.length := by
  cases x with
  | none => exact size_flush d
  | some w => exact size_write d _ _

/-- The same disk with another fuse. -/
def Dk.fused (d : Dk) (n : Option Nat) : Dk := { d with fuse := n }
theorem deed_fused (d : Dk) (hf : d.fuse = none) (n : Nat) (x : Option Wr) : (d.fused (some (n + 1))).deed x = (d.deed x).fused (some n) := by
  cases x with
  | none => simp [Dk.deed, Dk.flush, Dk.fused, Dk.blown, hf]
  | some w => simp [Dk.deed, Dk.write, Dk.fused, Dk.blown, hf]
theorem deed_free (d : Dk) (hf : d.fuse = none) (x : Option Wr) : (d.deed x).fuse = none := by
  cases x with
  | none => simp [Dk.deed, Dk.flush, Dk.blown, hf]
  | some w => simp [Dk.deed, Dk.write, Dk.blown, hf]
/-- Behind the last operation: only ghosts. -/
theorem deed_blown (d : Dk) (g : List Wr) (x : Option Wr) : Dk.deed { d with ghosts := g, fuse := some 0 } x = { d with ghosts := g ++ writesOf [x], fuse := some 0 } := by
  cases x with
  | none => simp [Dk.deed, Dk.flush, Dk.blown, writesOf]
  | some w => simp [Dk.deed, Dk.write, Dk.blown, writesOf]
theorem read_deed (d : Dk) (h : d.Ok) (x : Option Wr) (i : Nat) : (d.deed x).read i = last (d.read i) (writesOf [x]) i := by
  cases x with
  | none => simp [Dk.deed, writesOf, last_nil, read_flush d h]
  | some w => simp [Dk.deed, writesOf, last_cons, last_nil, read_write d h]

end Go.Proofs.Ytbmbolgmeehloaa.Dk
