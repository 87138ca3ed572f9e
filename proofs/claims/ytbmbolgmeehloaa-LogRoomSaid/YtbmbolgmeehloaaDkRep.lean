/- What the program's blocks hold, against the plain model of the disk. -/
import Derived.Test.YtbmbolgmeehloaaDkSettle
import Derived.Test.YtbmbolgmeehloaaDkImage
namespace Go.Proofs.Ytbmbolgmeehloaa.Disk
set_option maxRecDepth 20000
open Go.Proofs.Ytbmbolgmeehloaa.Mem

theorem flat_idx (l : List (List UInt8)) (h : ∀ b ∈ l, b.length = 256) (j : Nat) : l.flatten[j]? = (l[j / 256]?).bind (fun b => b[j % 256]?) := by
  induction l generalizing j with
  | nil => simp
  | cons b r ih =>
    have hb := h b (by simp)
    rw [List.flatten_cons]
    by_cases hj : j < 256
    · rw [List.getElem?_append_left (by omega), show j / 256 = 0 by omega, show j % 256 = j by omega]; simp
    · rw [List.getElem?_append_right (by omega), hb, ih (fun x hx => h x (by simp [hx])), show j / 256 = (j - 256) / 256 + 1 by omega, show (j - 256) % 256 = j % 256 by omega, List.getElem?_cons_succ]
theorem flat_size (l : List (List UInt8)) (h : ∀ b ∈ l, b.length = 256) : l.flatten.length = 256 * l.length := by
  induction l with
  | nil => rfl
  | cons b r ih =>
    have := ih (fun x hx => h x (by simp [hx]))
    have hb := h b (by simp)
    simp only [List.flatten_cons, List.length_append, List.length_cons]
    omega
theorem flat_block (l : List (List UInt8)) (h : ∀ b ∈ l, b.length = 256) (i : Nat) (hi : i < l.length) : (l.flatten.drop (i * 256)).take 256 = l.getD i [] := by
  have hg : l.getD i [] = l[i] := by rw [List.getD_eq_getElem?_getD, List.getElem?_eq_getElem hi]; rfl
  have hl := h _ (List.getElem_mem hi)
  rw [hg]
  apply List.ext_getElem?
  intro j
  rw [List.getElem?_take]
  by_cases hj : j < 256
  · rw [if_pos hj, List.getElem?_drop, flat_idx l h, show (i * 256 + j) / 256 = i by omega, show (i * 256 + j) % 256 = j by omega, List.getElem?_eq_getElem hi]; rfl
  · rw [if_neg hj, List.getElem?_eq_none (by omega)]

set_option maxRecDepth 20000 in
theorem splice_flat (l : List (List UInt8)) (h : ∀ b ∈ l, b.length = 256) (i off : Nat) (cs : List UInt8) (hi : i < l.length) (ho : off + cs.length ≤ 256) :
    splice l.flatten (i * 256 + off) cs = (l.set i (splice (l.getD i []) off cs)).flatten := by
  have hg : l.getD i [] = l[i] := by rw [List.getD_eq_getElem?_getD, List.getElem?_eq_getElem hi]; rfl
  have hl := h _ (List.getElem_mem hi)
  rw [hg]
  have hs : (splice l[i] off cs).length = 256 := by rw [length_splice _ _ _ (by omega), hl]
  have hf := flat_size l h
  have h' : ∀ b ∈ l.set i (splice l[i] off cs), b.length = 256 := by
    intro b hb
    rcases List.mem_or_eq_of_mem_set hb with hb | hb
    · exact h b hb
    · rw [hb]; exact hs
  apply List.ext_getElem?
  intro j
  rw [splice_get _ _ _ (by omega), flat_idx l h, flat_idx _ h', List.getElem?_set]
  by_cases hj : j / 256 = i
  · subst hj
    rw [if_pos (show j / 256 = j / 256 from rfl), if_pos hi, List.getElem?_eq_getElem hi, Option.bind_some, Option.bind_some]
    rw [splice_get _ _ _ (by omega)]
    by_cases h1 : j < j / 256 * 256 + off
    · rw [if_pos h1, if_pos (show j % 256 < off by omega)]
    · rw [if_neg h1, if_neg (show ¬ j % 256 < off by omega)]
      by_cases h2 : j < j / 256 * 256 + off + cs.length
      · rw [if_pos h2, if_pos (show j % 256 < off + cs.length by omega)]; congr 1; omega
      · rw [if_neg h2, if_neg (show ¬ j % 256 < off + cs.length by omega)]
  · rw [if_neg (show ¬ i = j / 256 from fun e => hj e.symm)]
    by_cases h1 : j < i * 256 + off
    · rw [if_pos h1]
    · have h2 : ¬ j < i * 256 + off + cs.length := by
        clear h h' hl hs hf hg
        have hq := Nat.div_add_mod j 256
        have hr := Nat.mod_lt j (show 0 < 256 by omega)
        generalize j / 256 = q at hj hq
        generalize j % 256 = r at hq hr
        rcases Nat.lt_or_gt_of_ne hj with h3 | h3 <;> omega
      rw [if_neg h1, if_neg h2]

theorem laid_whole (l : List (List UInt8)) (h : ∀ b ∈ l, b.length = 256) (x : Wr) (hx : x.1 < l.length) (hl : x.2.length = 256) : laid l.flatten x 0 4 = (l.set x.1 x.2).flatten := by
  have e := splice_flat l h x.1 0 x.2 hx (by omega)
  unfold laid
  have e0 : (x.2.drop (0 * 64)).take (4 * 64 - 0 * 64) = x.2 := by rw [Nat.zero_mul, List.drop_zero]; exact List.take_of_length_le (by omega)
  rw [e0, Nat.zero_mul, e]
  congr 2
  unfold splice
  have hg : (l.getD x.1 []).length = 256 := by
    rw [List.getD_eq_getElem?_getD, List.getElem?_eq_getElem hx]; exact h _ (List.getElem_mem hx)
  rw [List.drop_eq_nil_of_le (by omega)]
  simp
theorem laid_sect (l : List (List UInt8)) (h : ∀ b ∈ l, b.length = 256) (x : Wr) (hx : x.1 < l.length) (hl : x.2.length = 256) (s : Nat) (hs : s < 4) :
    laid l.flatten x s (s + 1) = (l.set x.1 (Dk.sect (l.getD x.1 []) x.2 s)).flatten := by
  have hcl : ((x.2.drop (s * 64)).take 64).length = 64 := by simp; omega
  have e := splice_flat l h x.1 (s * 64) ((x.2.drop (s * 64)).take 64) hx (by omega)
  unfold laid
  rw [show (s + 1) * 64 - s * 64 = 64 by omega, e]
  congr 2
  unfold splice Dk.sect
  rw [hcl, Nat.mul_comm 64 s, List.append_assoc]

/-- The sectors of one write, one by one. -/
theorem tearL_flat (bits : List UInt8) (k : Nat) (x : Wr) (l : List (List UInt8)) (h : ∀ b ∈ l, b.length = 256) (hx : x.1 < l.length) (hl : x.2.length = 256) : ∀ s, s ≤ 4 →
    tearL bits k x l.flatten s = (l.set x.1 (Dk.tear bits k x.2 s (l.getD x.1 []))).flatten
  | 0, _ => by
    show l.flatten = (l.set x.1 (l.getD x.1 [])).flatten
    rw [List.getD_eq_getElem?_getD, List.getElem?_eq_getElem hx]
    show _ = (l.set x.1 l[x.1]).flatten
    rw [List.set_getElem_self]
  | s + 1, hs => by
    have hg : (l.getD x.1 []).length = 256 := by
      rw [List.getD_eq_getElem?_getD, List.getElem?_eq_getElem hx]; exact h _ (List.getElem_mem hx)
    have ih := tearL_flat bits k x l h hx hl s (by omega)
    show (if Dk.bit bits (4 * k + s) = true then laid (tearL bits k x l.flatten s) x s (s + 1) else tearL bits k x l.flatten s) = (l.set x.1 (if Dk.bit bits (4 * k + s) = true then Dk.sect (Dk.tear bits k x.2 s (l.getD x.1 [])) x.2 s else Dk.tear bits k x.2 s (l.getD x.1 []))).flatten
    rw [ih]
    split
    · have ht := Dk.tear_len bits k x.2 hl s (l.getD x.1 []) (by omega) hg
      have h' := Dk.set_len l x.1 _ h ht
      rw [laid_sect _ h' x (by simpa using hx) hl s (by omega)]
      rw [List.set_set]
      congr 3
      rw [List.getD_eq_getElem?_getD, List.getElem?_set_self hx]; rfl
    · rfl

theorem take_snoc {α : Type} (l : List α) (k : Nat) (hk : k < l.length) : l.take (k + 1) = l.take k ++ [l[k]] := by
  rw [List.take_succ_eq_append_getElem hk]
theorem getD_at {l : List Wr} {k : Nat} (hk : k < l.length) : l.getD k (0, []) = l[k] := by rw [List.getD_eq_getElem?_getD, List.getElem?_eq_getElem hk]; rfl

theorem apply_snoc (st : List Dk.Blk) (ws : List Wr) (x : Wr) : Dk.applyAll st (ws ++ [x]) = (Dk.applyAll st ws).set x.1 x.2 := by
  unfold Dk.applyAll; rw [List.foldl_append]; rfl
theorem crash_snoc (bits : List UInt8) (x : Wr) : ∀ (ws : List Wr) (k : Nat) (st : List Dk.Blk), Dk.crashFrom bits k st (ws ++ [x]) =
    (Dk.crashFrom bits k st ws).set x.1 (Dk.tear bits (k + ws.length) x.2 4 ((Dk.crashFrom bits k st ws).getD x.1 []))
  | [], _, _ => rfl
  | w :: r, k, st => by
    show Dk.crashFrom bits (k + 1) _ (r ++ [x]) = _
    rw [crash_snoc bits x r (k + 1), List.length_cons, show k + 1 + r.length = k + (r.length + 1) by omega]
    rfl
theorem settle_snoc (bits : List UInt8) (x : Wr) : ∀ (ws : List Wr) (k : Nat) (st : List Dk.Blk), Dk.settleFrom bits k st (ws ++ [x]) =
    if Dk.bit bits (k + ws.length) then (Dk.settleFrom bits k st ws).set x.1 x.2 else Dk.settleFrom bits k st ws
  | [], _, _ => rfl
  | w :: r, k, st => by
    show Dk.settleFrom bits (k + 1) _ (r ++ [x]) = _
    rw [settle_snoc bits x r (k + 1), List.length_cons, show k + 1 + r.length = k + (r.length + 1) by omega]
    rfl

theorem flushL_flat (ws : List Wr) (st : List Dk.Blk) (h : ∀ b ∈ st, b.length = 256) (hw : ∀ w ∈ ws, w.1 < st.length ∧ w.2.length = 256) : ∀ k, k ≤ ws.length → flushL ws st.flatten k = (Dk.applyAll st (ws.take k)).flatten
  | 0, _ => rfl
  | k + 1, hk => by
    have hx := hw _ (List.getElem_mem (show k < ws.length by omega))
    unfold flushL
    rw [flushL_flat ws st h hw k (by omega), getD_at (by omega), take_snoc ws k (by omega), apply_snoc]
    exact laid_whole _ (Dk.apply_ok _ _ h (fun w hw' => (hw w (List.mem_of_mem_take hw')).2)) _ (by rw [Dk.apply_len]; exact hx.1) hx.2
theorem settleL_flat (bits : List UInt8) (ws : List Wr) (st : List Dk.Blk) (h : ∀ b ∈ st, b.length = 256) (hw : ∀ w ∈ ws, w.1 < st.length ∧ w.2.length = 256) : ∀ k, k ≤ ws.length →
    settleL bits ws st.flatten k = (Dk.settleFrom bits 0 st (ws.take k)).flatten
  | 0, _ => rfl
  | k + 1, hk => by
    have hx := hw _ (List.getElem_mem (show k < ws.length by omega))
    unfold settleL
    rw [settleL_flat bits ws st h hw k (by omega), getD_at (by omega), take_snoc ws k (by omega), settle_snoc, List.length_take, Nat.min_eq_left (by omega), Nat.zero_add]
    split
    · exact laid_whole _ (Dk.settle_all bits _ _ _ h (fun w hw' => (hw w (List.mem_of_mem_take hw')).2)) _ (by rw [Dk.settle_len]; exact hx.1) hx.2
    · rfl
theorem crashL_flat (bits : List UInt8) (ws : List Wr) (st : List Dk.Blk) (h : ∀ b ∈ st, b.length = 256) (hw : ∀ w ∈ ws, w.1 < st.length ∧ w.2.length = 256) : ∀ k, k ≤ ws.length →
    crashL bits ws st.flatten k = (Dk.crashFrom bits 0 st (ws.take k)).flatten
  | 0, _ => rfl
  | k + 1, hk => by
    have hx := hw _ (List.getElem_mem (show k < ws.length by omega))
    unfold crashL
    rw [crashL_flat bits ws st h hw k (by omega), getD_at (by omega), take_snoc ws k (by omega), crash_snoc, List.length_take, Nat.min_eq_left (by omega), Nat.zero_add]
    exact tearL_flat bits k _ _ (Dk.crash_all bits _ _ _ h (fun w hw' => hw w (List.mem_of_mem_take hw'))) (by rw [Dk.crash_len]; exact hx.1) hx.2 4 (by omega)

/-! ### Which writes stay pending -/
theorem setAt_char (bits : List UInt8) (ws : List Wr) (b : Nat) : ∀ k, match setAt bits ws b k with
    | some a => a < k ∧ Dk.bit bits a = true ∧ (ws.getD a (0, [])).1 = b ∧ ∀ j, a < j → j < k → ¬ (Dk.bit bits j = true ∧ (ws.getD j (0, [])).1 = b)
    | none => ∀ j, j < k → ¬ (Dk.bit bits j = true ∧ (ws.getD j (0, [])).1 = b)
  | 0 => fun j hj => absurd hj (by omega)
  | k + 1 => by
    have ih := setAt_char bits ws b k
    unfold setAt
    by_cases hb : Dk.bit bits k = true
    · rw [if_pos hb]
      by_cases he : (ws.getD k (0, [])).1 = b
      · rw [if_pos he]
        exact ⟨by omega, hb, he, fun j h1 h2 => absurd h1 (by omega)⟩
      · rw [if_neg he]
        revert ih
        cases setAt bits ws b k with
        | none =>
          intro ih j hj
          by_cases e : j = k
          · subst e; exact fun h => he h.2
          · exact ih j (by omega)
        | some a =>
          rintro ⟨h1, h2, h3, h4⟩
          refine ⟨by omega, h2, h3, fun j hj hk => ?_⟩
          by_cases e : j = k
          · subst e; exact fun h => he h.2
          · exact h4 j hj (by omega)
    · rw [if_neg hb]
      revert ih
      cases setAt bits ws b k with
      | none =>
        intro ih j hj
        by_cases e : j = k
        · subst e; exact fun h => hb h.1
        · exact ih j (by omega)
      | some a =>
        rintro ⟨h1, h2, h3, h4⟩
        refine ⟨by omega, h2, h3, fun j hj hk => ?_⟩
        by_cases e : j = k
        · subst e; exact fun h => hb h.1
        · exact h4 j hj (by omega)
theorem stays_iff (bits : List UInt8) (ws : List Wr) (j : Nat) (_hj : j < ws.length) : stays bits ws j = true ↔ ∀ a, j ≤ a → a < ws.length → ¬ (Dk.bit bits a = true ∧ (ws.getD a (0, [])).1 = (ws.getD j (0, [])).1) := by
  have h := setAt_char bits ws (ws.getD j (0, [])).1 ws.length
  unfold stays
  revert h
  cases setAt bits ws (ws.getD j (0, [])).1 ws.length with
  | none =>
    intro h
    simp only [staysO]
    exact ⟨fun _ a _ ha => h a ha, fun _ => trivial⟩
  | some c =>
    rintro ⟨h1, h2, h3, h4⟩
    simp only [staysO, decide_eq_true_eq]
    constructor
    · intro hc a ha hl
      exact h4 a (by omega) hl
    · intro h
      by_cases hc : c < j
      · exact hc
      · exact absurd ⟨h2, h3⟩ (h c (by omega) h1)
theorem later_iff (bits : List UInt8) (ws : List Wr) (b : Nat) : ∀ (r : List Wr) (k : Nat), r = ws.drop k → (Dk.later bits k r b = true ↔ ∃ a, k ≤ a ∧ a < ws.length ∧ Dk.bit bits a = true ∧ (ws.getD a (0, [])).1 = b)
  | [], k, hr => by
    have hl : ws.length ≤ k := by
      have := congrArg List.length hr
      simp at this; omega
    simp only [Dk.later]
    constructor
    · intro h; cases h
    · rintro ⟨a, h1, h2, _⟩; omega
  | w :: r, k, hr => by
    have hl : k < ws.length := by
      have := congrArg List.length hr
      simp at this; omega
    have hd := List.drop_eq_getElem_cons hl
    rw [hd] at hr
    injection hr with e1 e2
    have ih := later_iff bits ws b r (k + 1) e2
    simp only [Dk.later, Bool.or_eq_true, Bool.and_eq_true, beq_iff_eq, ih]
    constructor
    · rintro (⟨h1, h2⟩ | ⟨a, h1, h2, h3, h4⟩)
      · exact ⟨k, Nat.le_refl _, hl, h1, by rw [getD_at hl, ← e1]; exact h2⟩
      · exact ⟨a, by omega, h2, h3, h4⟩
    · rintro ⟨a, h1, h2, h3, h4⟩
      by_cases e : a = k
      · subst e
        exact .inl ⟨h3, by rw [getD_at hl, ← e1] at h4; exact h4⟩
      · exact .inr ⟨a, by omega, h2, h3, h4⟩
theorem keep_drop (bits : List UInt8) (ws : List Wr) : ∀ (r : List Wr) (k : Nat), r = ws.drop k → k ≤ ws.length → keptL bits ws ws.length = keptL bits ws k ++ Dk.keepFrom bits k r
  | [], k, hr, hk => by
    have hl : ws.length ≤ k := by
      have := congrArg List.length hr
      simp at this; omega
    have : k = ws.length := by omega
    subst this
    simp [Dk.keepFrom]
  | w :: r, k, hr, hk => by
    have hl : k < ws.length := by
      have := congrArg List.length hr
      simp at this; omega
    have hd := List.drop_eq_getElem_cons hl
    have hr0 := hr
    rw [hd] at hr
    injection hr with e1 e2
    have ih := keep_drop bits ws r (k + 1) e2 (by omega)
    rw [ih]
    have hs := stays_iff bits ws k hl
    have hlt := later_iff bits ws w.1 (w :: r) k hr0
    have hwk : (ws.getD k (0, [])).1 = w.1 := by rw [getD_at hl, ← e1]
    rw [hwk] at hs
    have key : stays bits ws k = !(Dk.bit bits k || Dk.later bits (k + 1) r w.1) := by
      have e : Dk.later bits k (w :: r) w.1 = (Dk.bit bits k || Dk.later bits (k + 1) r w.1) := by simp [Dk.later]
      rw [← e]
      cases hL : Dk.later bits k (w :: r) w.1
      · rw [Bool.not_false]
        refine hs.2 fun a h1 h2 h3 => ?_
        have := hlt.2 ⟨a, h1, h2, h3.1, h3.2⟩
        rw [hL] at this; cases this
      · rw [Bool.not_true]
        obtain ⟨a, h1, h2, h3, h4⟩ := hlt.1 hL
        cases hS : stays bits ws k
        · rfl
        · exact absurd ⟨h3, h4⟩ (hs.1 hS a h1 h2)
    show (if stays bits ws k = true then keptL bits ws k ++ [ws.getD k (0, [])] else keptL bits ws k) ++ Dk.keepFrom bits (k + 1) r = keptL bits ws k ++ (if (Dk.bit bits k || Dk.later bits (k + 1) r w.1) = true then Dk.keepFrom bits (k + 1) r else w :: Dk.keepFrom bits (k + 1) r)
    rw [key]
    cases (Dk.bit bits k || Dk.later bits (k + 1) r w.1)
    · rw [getD_at hl, ← e1]; simp
    · simp
theorem kept_flat (bits : List UInt8) (ws : List Wr) : keptL bits ws ws.length = Dk.keepFrom bits 0 ws := by
  have := keep_drop bits ws ws 0 rfl (by omega)
  rw [this]; rfl

/-! ### What is read -/
theorem last_at (b : List UInt8) (i : Nat) (ws : List Wr) : Dk.last b ws i = match lastAt (nums ws) i with
    | some k => match ws[k]? with
      | some x => x.2
      | none => []
    | none => b := by
  induction ws using rev_ind with
  | h0 => rfl
  | h1 l x ih =>
    rw [Dk.last_snoc]
    simp only [nums, List.map_append, List.map_cons, List.map_nil]
    rw [lastAt_snoc, List.length_map]
    by_cases h : x.1 = i
    · rw [if_pos h, if_pos h]; simp
    · rw [if_neg h, if_neg h, ih]
      cases hl : lastAt (List.map (fun x => x.1) l) i with
      | none => simp [nums, hl]
      | some k =>
        have := (lastAt_lt _ _ _ hl).1
        rw [List.length_map] at this
        simp [nums, hl, List.getElem?_append_left this]

/-- The program's blocks hold this disk; so many writes at most. -/
structure Rep (L : Low) (d : Dk.Dk) (c : Nat) : Prop where
  st : L.st = d.stable.flatten
  pend : L.pend = d.pend.length
  pre : L.ws.take L.pend = d.pend
  post : ∀ b i, Dk.last b (L.ws.drop L.pend) i = Dk.last b d.ghosts i
  fused : L.fused = d.fuse.isSome
  left : L.left = d.fuse.getD 0
  ok : d.Ok
  big : 1 ≤ d.stable.length ∧ d.stable.length ≤ 1024
  each : ∀ x ∈ L.ws, x.1 < d.stable.length ∧ x.2.length = 256
  few : L.ws.length ≤ c
  fits : L.left ≤ 9223372036854775807

theorem Rep.size {L : Low} {d : Dk.Dk} {c : Nat} (h : Rep L d c) : L.st.length = 256 * d.stable.length := by rw [h.st]; exact flat_size _ h.ok.len
theorem Rep.blown {L : Low} {d : Dk.Dk} {c : Nat} (h : Rep L d c) : L.blown = d.blown := by
  unfold Low.blown Dk.Dk.blown
  rw [h.fused, h.left]
  cases d.fuse with
  | none => rfl
  | some k =>
    simp
    rw [Bool.eq_iff_iff]; simp
theorem Rep.le {L : Low} {d : Dk.Dk} {c : Nat} (h : Rep L d c) : L.pend ≤ L.ws.length := by
  have := congrArg List.length h.pre
  rw [List.length_take, ← h.pend] at this
  omega
theorem Rep.all {L : Low} {d : Dk.Dk} {c : Nat} (h : Rep L d c) (hb : d.blown = false) : L.ws = d.pend := by
  have hg := h.ok.none d hb
  have hd : L.ws.drop L.pend = [] := by
    cases he : L.ws.drop L.pend with
    | nil => rfl
    | cons x r =>
      have h1 := h.post [] x.1
      have h2 := h.post [0] x.1
      rw [he, hg] at h1 h2
      rw [Dk.last_cons, if_pos rfl] at h1 h2
      rw [h1] at h2
      cases h2
  have := List.take_append_drop L.pend L.ws
  rw [hd, List.append_nil, h.pre] at this
  exact this.symm
theorem Rep.last_all {L : Low} {d : Dk.Dk} {c : Nat} (h : Rep L d c) (b : List UInt8) (i : Nat) : Dk.last b L.ws i = Dk.last (Dk.last b d.pend i) d.ghosts i := by
  rw [← h.post, ← Dk.last_append]
  have := List.take_append_drop L.pend L.ws
  rw [h.pre] at this
  rw [this]
theorem Rep.read {L : Low} {d : Dk.Dk} {c : Nat} (h : Rep L d c) (i : Nat) (hi : i < d.stable.length) : readL L i = d.read i := by
  unfold Dk.Dk.read
  rw [← h.last_all, last_at]
  unfold readL
  rw [h.st, flat_block _ h.ok.len i hi]
  cases lastAt (nums L.ws) i <;> rfl
theorem Rep.image {L : Low} {d : Dk.Dk} {c : Nat} (h : Rep L d c) : imgL L (fun _ => false) = d.image.flatten := by
  have hl : ∀ b ∈ d.image, b.length = 256 := by
    intro b hb
    obtain ⟨i, hi, rfl⟩ := List.mem_map.1 hb
    exact Dk.read_len d h.ok i (List.mem_range.1 hi)
  have hs := h.size
  apply List.ext_getElem?
  intro j
  rw [flat_idx _ hl]
  by_cases hj : j < L.st.length
  · have hb : j / 256 < d.stable.length := by omega
    have e1 : (imgL L fun _ => false)[j]? = some (imgByte L (fun _ => false) j) := by
      simp only [imgL, List.getElem?_map, List.getElem?_range hj, Option.map_some]
    have e2 : d.image[j / 256]? = some (d.read (j / 256)) := by
      simp only [Dk.Dk.image, List.getElem?_map, List.getElem?_range hb, Option.map_some]
    rw [e1, e2, Option.bind_some, ← h.read _ hb]
    have hlen : (readL L (j / 256)).length = 256 := by rw [h.read _ hb]; exact Dk.read_len d h.ok _ hb
    rw [List.getElem?_eq_getElem (by omega)]
    congr 1
    have e3 : (readL L (j / 256)).getD (j % 256) 0 = (readL L (j / 256))[j % 256]'(by omega) := by
      rw [List.getD_eq_getElem?_getD, List.getElem?_eq_getElem (by omega)]; rfl
    rw [← e3]
    unfold imgByte readL
    cases hla : lastAt (nums L.ws) (j / 256) with
    | none =>
      simp only [List.getD_eq_getElem?_getD, List.getElem?_take, List.getElem?_drop]
      rw [if_pos (show j % 256 < 256 by omega), show j / 256 * 256 + j % 256 = j by omega]
    | some k =>
      have hk := (lastAt_lt _ _ _ hla).1
      rw [nums, List.length_map] at hk
      simp only [getD_at hk, List.getElem?_eq_getElem hk]
      simp
  · rw [List.getElem?_eq_none (by rw [imgL_len]; omega), List.getElem?_eq_none (by simp [Dk.Dk.image]; omega)]; rfl
end Go.Proofs.Ytbmbolgmeehloaa.Disk
