/- Roots and nodes read again, in plain words: what the program tells and what the document tells are the same. -/
import Derived.Test.YtkhenchhafmlmaaExStore
namespace Go.Proofs.Ytkhenchhafmlmaa.Ex
set_option maxRecDepth 20000
open Go.Proofs.Ytkhenchhafmlmaa.Mem Go.Proofs.Ytkhenchhafmlmaa.Crc Go.Proofs.Ytkhenchhafmlmaa.Rec Go.Proofs.Ytkhenchhafmlmaa.Bst
def nm (b : List UInt8) (k m : Nat) : Nat := numAt ((b.drop k).take m) m
def toldX (e : List UInt8) : X := ⟨nm e 0 4, nm e 4 4, nm e 8 2, decide (nm e 10 2 ≠ 0)⟩
def toldR (b : List UInt8) (k : Nat) : X := ⟨nm b k 4, nm b (k + 4) 4, nm b (k + 8) 2, decide (b.getD (k + 10) 0 = 1)⟩
def heldL (b : List UInt8) (m : Nat) : List X := if m < nm b 0 2 then [] else (List.range (nm b 0 2)).map fun j => toldX ((b.drop (4 + j * 12)).take 12)
def extsR (b : List UInt8) (k n : Nat) : List X := (List.range n).map fun j => toldR b (k + 12 * j)
def blksN (b : List UInt8) (n : Nat) : List Int := (List.range n).map fun j => (nm b (4 + j * 4) 4 : Int)
def blksL (b : List UInt8) : List Int := if 3 < nm b 0 2 then [] else blksN b (nm b 0 2)
def rootL (b : List UInt8) : List X × List Int × Int :=
  if b.length = 60 then
    (if right (heldL b 4) && decide (b = holdB (heldL b 4) 60) then (heldL b 4, [], 0)
    else if decide (0 < (blksL b).length) && numB (blksL b) && decide (b = nameB (blksL b)) then ([], blksL b, 0) else ([], [], 13))
  else ([], [], 13)
def rootR (b : List UInt8) : List X × List Int × Int :=
  if b.length = 60 then
    (if b.getD 2 0 = 0 ∧ (b.getD 0 0).toNat ≤ 4 then (if (storeL (extsR b 4 (b.getD 0 0).toNat) []).2.2 = 0 ∧ (storeL (extsR b 4 (b.getD 0 0).toNat) []).1 = b then (extsR b 4 (b.getD 0 0).toNat, [], 0) else ([], [], 13))
    else if (b.getD 0 0).toNat < 1 ∨ 3 < (b.getD 0 0).toNat then ([], [], 13)
    else if numB (blksN b (b.getD 0 0).toNat) = true ∧ nameB (blksN b (b.getD 0 0).toNat) = b then ([], blksN b (b.getD 0 0).toNat, 0) else ([], [], 13))
  else ([], [], 13)
def blks1 (n : Nat) : List Int := (List.range n).map fun i : Nat => (i : Int) + 1
def joinL (N : List (List UInt8)) : List X × Int :=
  if N.length ≤ 3 ∧ ∀ b ∈ N, b.length = 256 then
    (if 1 ≤ needL (N.flatMap fun b => heldL b 20) ∧ N = nodesB (N.flatMap fun b => heldL b 20) then (N.flatMap fun b => heldL b 20, 0) else ([], 13))
  else ([], 13)
def extsN (b : List UInt8) : List X := extsR b 4 (b.getD 0 0).toNat
def joinR (N : List (List UInt8)) : List X × Int :=
  if ∀ b ∈ N, b.length = 256 ∧ (b.getD 0 0).toNat ≤ 20 ∧ N.length ≤ 3 then
    (if (storeL (N.flatMap extsN) (blks1 N.length)).2.2 = 0 ∧ 0 < N.length ∧ (storeL (N.flatMap extsN) (blks1 N.length)).2.1 = N then (N.flatMap extsN, 0) else ([], 13))
  else ([], 13)

theorem nm_bytes {b : List UInt8} {k m v : Nat} (h : (b.drop k).take m = bytesL v m) (hv : v < 2 ^ (8 * m)) : nm b k m = v := by
  unfold nm
  rw [h, num_bytesL v m m (Nat.le_refl _), Nat.mod_eq_of_lt hv]
theorem nm_sub (b : List UInt8) (k o m : Nat) (h : o + m ≤ 12) : nm ((b.drop k).take 12) o m = nm b (k + o) m := by
  unfold nm
  rw [List.drop_take, List.take_take, List.drop_drop, Nat.min_eq_left (by omega)]
theorem drop_pre' {a b : List UInt8} {k : Nat} (h : a.length = k) : (a ++ b).drop k = b := by subst h; simp
theorem take_pre' {a b : List UInt8} {k : Nat} (h : a.length = k) : (a ++ b).take k = a := by subst h; simp
theorem enc_parts (e : X) (t : List UInt8) : ((encX e ++ t).drop 0).take 4 = bytesL e.a.toNat 4 ∧ ((encX e ++ t).drop 4).take 4 = bytesL e.s.toNat 4 ∧ ((encX e ++ t).drop 8).take 2 = bytesL e.n.toNat 2 ∧ (encX e ++ t).drop 10 = flagB e.u :: 0 :: t := by
  have e1 : encX e ++ t = bytesL e.a.toNat 4 ++ (bytesL e.s.toNat 4 ++ (bytesL e.n.toNat 2 ++ (flagB e.u :: 0 :: t))) := by unfold encX; simp
  have e2 : encX e ++ t = (bytesL e.a.toNat 4 ++ bytesL e.s.toNat 4) ++ (bytesL e.n.toNat 2 ++ (flagB e.u :: 0 :: t)) := by rw [e1]; simp
  have e3 : encX e ++ t = ((bytesL e.a.toNat 4 ++ bytesL e.s.toNat 4) ++ bytesL e.n.toNat 2) ++ (flagB e.u :: 0 :: t) := by rw [e1]; simp
  refine ⟨?_, ?_, ?_, ?_⟩
  · rw [List.drop_zero, e1, take_pre' (bytesL_len _ _)]
  · rw [e1, drop_pre' (bytesL_len _ _), take_pre' (bytesL_len _ _)]
  · rw [e2, drop_pre' (by simp [bytesL_len]), take_pre' (bytesL_len _ _)]
  · rw [e3, drop_pre' (by simp [bytesL_len])]
theorem toldR_at {b : List UInt8} {k : Nat} {e : X} {t : List UInt8} (h : b.drop k = encX e ++ t) (he : e.may = true) : toldR b k = e := by
  have hm := may_iff.1 he
  obtain ⟨h1, h2, h3, h4⟩ := enc_parts e t
  unfold toldR
  have g1 : nm b k 4 = e.a.toNat := nm_bytes (by rw [h]; simpa using h1) (by omega)
  have g2 : nm b (k + 4) 4 = e.s.toNat := nm_bytes (by rw [← List.drop_drop, h]; exact h2) (by omega)
  have g3 : nm b (k + 8) 2 = e.n.toNat := nm_bytes (by rw [← List.drop_drop, h]; exact h3) (by omega)
  have g4 : b.getD (k + 10) 0 = flagB e.u := by
    have : (b.drop (k + 10)).getD 0 0 = flagB e.u := by rw [← List.drop_drop, h, h4]; rfl
    rw [← this]
    simp [List.getD]
  rw [g1, g2, g3, g4]
  have g5 : decide (flagB e.u = 1) = e.u := by cases e.u <;> rfl
  rw [g5, Int.toNat_of_nonneg (by omega), Int.toNat_of_nonneg (by omega), Int.toNat_of_nonneg (by omega)]
theorem toldX_at {b : List UInt8} {k : Nat} {e : X} {t : List UInt8} (h : b.drop k = encX e ++ t) (he : e.may = true) : toldX ((b.drop k).take 12) = e := by
  have hm := may_iff.1 he
  obtain ⟨h1, h2, h3, h4⟩ := enc_parts e t
  unfold toldX
  rw [nm_sub _ _ _ _ (by omega), nm_sub _ _ _ _ (by omega), nm_sub _ _ _ _ (by omega), nm_sub _ _ _ _ (by omega)]
  have g1 : nm b (k + 0) 4 = e.a.toNat := nm_bytes (by rw [← List.drop_drop, h]; exact h1) (by omega)
  have g2 : nm b (k + 4) 4 = e.s.toNat := nm_bytes (by rw [← List.drop_drop, h]; exact h2) (by omega)
  have g3 : nm b (k + 8) 2 = e.n.toNat := nm_bytes (by rw [← List.drop_drop, h]; exact h3) (by omega)
  have g4 : nm b (k + 10) 2 = (flagB e.u).toNat := nm_bytes (by
    rw [← List.drop_drop, h, h4]
    cases e.u <;> simp [flagB] <;> decide) (by cases e.u <;> decide)
  rw [g1, g2, g3, g4]
  have g5 : decide ((flagB e.u).toNat ≠ 0) = e.u := by cases e.u <;> rfl
  rw [g5, Int.toNat_of_nonneg (by omega), Int.toNat_of_nonneg (by omega), Int.toNat_of_nonneg (by omega)]

theorem encs_split : ∀ (l : List X) (j : Nat) (hj : j < l.length), encs l = encs (l.take j) ++ (encX l[j] ++ encs (l.drop (j + 1)))
  | x :: l, 0, _ => by simp [encs]
  | x :: l, j + 1, hj => by
    have := encs_split l j (by simpa using hj)
    unfold encs at this ⊢
    rw [List.flatMap_cons, this]
    simp
theorem ent_at (l : List X) (n : Nat) (f : UInt8) (t : List UInt8) (j : Nat) (hj : j < l.length) : ∃ t', (headB n f ++ (encs l ++ t)).drop (4 + j * 12) = encX l[j] ++ t' := by
  refine ⟨encs (l.drop (j + 1)) ++ t, ?_⟩
  rw [encs_split l j hj]
  have e : headB n f ++ (encs (l.take j) ++ (encX l[j] ++ encs (l.drop (j + 1))) ++ t) = (headB n f ++ encs (l.take j)) ++ (encX l[j] ++ (encs (l.drop (j + 1)) ++ t)) := by simp
  rw [e, drop_pre']
  rw [List.length_append, encs_len, List.length_take, Nat.min_eq_left (by omega)]
  rfl
theorem map_range_eq {α : Type} (l : List α) (f : Nat → α) (h : ∀ j, (hj : j < l.length) → f j = l[j]) : (List.range l.length).map f = l := by
  apply List.ext_getElem
  · simp
  · intro i h1 h2
    simp only [List.getElem_map, List.getElem_range]
    exact h i h2
theorem head_num (n : Nat) (f : UInt8) (t : List UInt8) (hn : n < 256) : nm (headB n f ++ t) 0 2 = n := nm_bytes (by rw [bytes2 n hn]; rfl) (by omega)
theorem head_get0 (n : Nat) (f : UInt8) (t : List UInt8) (hn : n < 256) : ((headB n f ++ t).getD 0 0).toNat = n := by
  show (UInt8.ofNat n).toNat = n
  simp; omega
theorem head_get2 (n : Nat) (f : UInt8) (t : List UInt8) : (headB n f ++ t).getD 2 0 = f := rfl
theorem held_of {l : List X} {t : List UInt8} {m : Nat} (hm : l.length ≤ m) (h2 : l.length < 256) (hmay : ∀ x ∈ l, x.may = true) : heldL (headB l.length 0 ++ (encs l ++ t)) m = l := by
  unfold heldL
  rw [head_num _ _ _ h2, if_neg (by omega)]
  refine map_range_eq l _ fun j hj => ?_
  obtain ⟨t', ht⟩ := ent_at l l.length 0 t j hj
  exact toldX_at ht (hmay _ (List.getElem_mem hj))
theorem exts_of {l : List X} {t : List UInt8} (hmay : ∀ x ∈ l, x.may = true) : extsR (headB l.length 0 ++ (encs l ++ t)) 4 l.length = l := by
  unfold extsR
  refine map_range_eq l _ fun j hj => ?_
  obtain ⟨t', ht⟩ := ent_at l l.length 0 t j hj
  rw [Nat.mul_comm 12 j]
  exact toldR_at ht (hmay _ (List.getElem_mem hj))
theorem blkB_split : ∀ (l : List Int) (j : Nat) (hj : j < l.length), blkB l = blkB (l.take j) ++ (bytesL (l[j]).toNat 4 ++ blkB (l.drop (j + 1)))
  | x :: l, 0, _ => by simp [blkB]
  | x :: l, j + 1, hj => by
    have := blkB_split l j (by simpa using hj)
    unfold blkB at this ⊢
    rw [List.flatMap_cons, this]
    simp
theorem blks_of {l : List Int} {t : List UInt8} (hr : ∀ x ∈ l, 1 ≤ x ∧ x < 1024) : blksN (headB l.length 1 ++ (blkB l ++ t)) l.length = l := by
  unfold blksN
  refine map_range_eq l _ fun j hj => ?_
  have hx := hr _ (List.getElem_mem hj)
  have e : headB l.length 1 ++ (blkB l ++ t) = (headB l.length 1 ++ blkB (l.take j)) ++ (bytesL (l[j]).toNat 4 ++ (blkB (l.drop (j + 1)) ++ t)) := by
    conv => lhs; rw [blkB_split l j hj]
    simp
  rw [nm_bytes (v := (l[j]).toNat) (by
    rw [e, drop_pre' (by rw [List.length_append, blkB_len, List.length_take, Nat.min_eq_left (by omega)]; rfl), take_pre' (bytesL_len _ _)]) (by omega)]
  omega
theorem hold_form (l : List X) (size : Nat) : ∃ t, holdB l size = headB l.length 0 ++ (encs l ++ t) := ⟨List.replicate (size - (headB l.length 0 ++ encs l).length) 0, by unfold holdB padB; simp⟩
theorem node_form (l : List X) : ∃ t, nodeB l = headB l.length 0 ++ (encs l ++ t) := by
  obtain ⟨t, h⟩ := hold_form l 252
  exact ⟨t ++ bytesL (sum (holdB l 252)) 4, by unfold nodeB; rw [h]; simp⟩
theorem name_form (l : List Int) : ∃ t, nameB l = headB l.length 1 ++ (blkB l ++ t) := ⟨List.replicate (60 - (headB l.length 1 ++ blkB l).length) 0, by unfold nameB padB; simp⟩

theorem root_hold {l : List X} (h : right l = true) (h4 : l.length ≤ 4) : rootL (holdB l 60) = (l, [], 0) ∧ rootR (holdB l 60) = (l, [], 0) := by
  have hmay := ((right_iff l).1 h).2.1
  obtain ⟨t, ht⟩ := hold_form l 60
  have hh : heldL (holdB l 60) 4 = l := by rw [ht]; exact held_of h4 (by omega) hmay
  have hl := holdB_len l 60 (by omega)
  have g0 : ((holdB l 60).getD 0 0).toNat = l.length := by rw [ht]; exact head_get0 _ _ _ (by omega)
  have g2 : (holdB l 60).getD 2 0 = 0 := by rw [ht]; exact head_get2 _ _ _
  have he : extsR (holdB l 60) 4 l.length = l := by rw [ht]; exact exts_of hmay
  have hn : needL l = 0 := by unfold needL needN; rw [h, if_pos rfl, if_pos h4]; rfl
  have hst : storeL l [] = (holdB l 60, [], 0) := by
    unfold storeL
    rw [hn]
    rfl
  constructor
  · unfold rootL
    rw [if_pos hl, hh, h]
    simp
  · unfold rootR
    rw [if_pos hl, g0, g2, if_pos ⟨rfl, h4⟩, he, hst, if_pos ⟨rfl, rfl⟩]
theorem root_name {bs : List Int} (h : numB bs = true) (h1 : 1 ≤ bs.length) (h3 : bs.length ≤ 3) : rootL (nameB bs) = ([], bs, 0) ∧ rootR (nameB bs) = ([], bs, 0) := by
  have hr := num_range h
  obtain ⟨t, ht⟩ := name_form bs
  have hl := nameB_len bs (by omega)
  have g0 : ((nameB bs).getD 0 0).toNat = bs.length := by rw [ht]; exact head_get0 _ _ _ (by omega)
  have gn : nm (nameB bs) 0 2 = bs.length := by rw [ht]; exact head_num _ _ _ (by omega)
  have g2 : (nameB bs).getD 2 0 = 1 := by rw [ht]; exact head_get2 _ _ _
  have hb : blksN (nameB bs) bs.length = bs := by rw [ht]; exact blks_of hr
  have hno : ∀ l, nameB bs ≠ holdB l 60 := fun l e => by
    obtain ⟨t', ht'⟩ := hold_form l 60
    rw [e, ht', head_get2] at g2
    cases g2
  constructor
  · unfold rootL
    have hbl : blksL (nameB bs) = bs := by unfold blksL; rw [gn, if_neg (by omega), hb]
    rw [if_pos hl, hbl, h]
    have h0 : decide (nameB bs = holdB (heldL (nameB bs) 4) 60) = false := decide_eq_false (hno _)
    have h0' : decide (0 < bs.length) = true := decide_eq_true (by omega)
    rw [h0, h0']
    simp
  · unfold rootR
    rw [if_pos hl, g0, if_neg (by rw [g2]; intro e; cases e.1), if_neg (by omega), hb, if_pos ⟨h, rfl⟩]
/-- Any bytes: a list that they hold, or blocks that they name, or none. -/
theorem root_ways (b : List UInt8) : (∃ l, right l = true ∧ l.length ≤ 4 ∧ b = holdB l 60) ∨ (∃ bs, numB bs = true ∧ 1 ≤ bs.length ∧ bs.length ≤ 3 ∧ b = nameB bs) ∨ (rootL b = ([], [], 13) ∧ rootR b = ([], [], 13)) := by
  by_cases c1 : ∃ l, right l = true ∧ l.length ≤ 4 ∧ b = holdB l 60
  · exact .inl c1
  by_cases c2 : ∃ bs, numB bs = true ∧ 1 ≤ bs.length ∧ bs.length ≤ 3 ∧ b = nameB bs
  · exact .inr (.inl c2)
  refine .inr (.inr ⟨?_, ?_⟩)
  · unfold rootL
    split
    · rename_i hl
      split
      · rename_i h
        simp only [Bool.and_eq_true, decide_eq_true_eq] at h
        refine absurd ⟨_, h.1, ?_, h.2⟩ c1
        unfold heldL
        split
        · simp
        · simp; omega
      · split
        · rename_i h
          simp only [Bool.and_eq_true, decide_eq_true_eq] at h
          refine absurd ⟨_, h.1.2, h.1.1, ?_, h.2⟩ c2
          unfold blksL
          split
          · simp
          · unfold blksN; simp; omega
        · rfl
    · rfl
  · unfold rootR
    split
    · rename_i hl
      split
      · rename_i hg
        split
        · rename_i h
          exfalso
          have hs : needL (extsR b 4 (b.getD 0 0).toNat) = (([] : List Int).length : Int) := by
            refine Classical.byContradiction fun hne => ?_
            have := store_bad (l := extsR b 4 (b.getD 0 0).toNat) (bs := []) (.inl hne)
            rw [this] at h
            exact absurd h.1 (by decide)
          have hr := needL_right (k := 0) hs
          have hst : storeL (extsR b 4 (b.getD 0 0).toNat) [] = (holdB (extsR b 4 (b.getD 0 0).toNat) 60, [], 0) := by
            unfold storeL
            rw [hs]
            rfl
          rw [hst] at h
          exact c1 ⟨_, hr.1, by unfold extsR; simp; exact hg.2, h.2.symm⟩
        · rfl
      · split
        · rfl
        · rename_i hn
          split
          · rename_i h
            exact absurd ⟨_, h.1, by unfold blksN; rw [List.length_map, List.length_range]; omega, by unfold blksN; rw [List.length_map, List.length_range]; omega, h.2.symm⟩ c2
          · rfl
    · rfl
theorem root_eq (b : List UInt8) : rootL b = rootR b := by
  rcases root_ways b with ⟨l, h1, h2, rfl⟩ | ⟨bs, h1, h2, h3, rfl⟩ | ⟨h1, h2⟩
  · rw [(root_hold h1 h2).1, (root_hold h1 h2).2]
  · rw [(root_name h1 h2 h3).1, (root_name h1 h2 h3).2]
  · rw [h1, h2]

/-! ### Nodes -/
theorem parts_all (l : List X) : ∀ k, (List.range k).flatMap (partX l) = l.take (k * 20)
  | 0 => by simp
  | k + 1 => by
    rw [List.range_succ, List.flatMap_append, parts_all l k]
    unfold partX
    simp only [List.flatMap_cons, List.flatMap_nil, List.append_nil]
    rw [Nat.succ_mul, ← List.take_add]
theorem nodes_flat (l : List X) (g : List UInt8 → List X) (h : ∀ i, g (nodeB (partX l i)) = partX l i) : (nodesB l).flatMap g = l := by
  unfold nodesB
  rw [List.flatMap_map]
  have : (fun i => g (nodeB (partX l i))) = partX l := funext h
  rw [this, parts_all, List.take_of_length_le]
  unfold manyX
  omega
theorem node_held (p : List X) (h : p.length ≤ 20) (hmay : ∀ x ∈ p, x.may = true) : heldL (nodeB p) 20 = p ∧ extsN (nodeB p) = p ∧ ((nodeB p).getD 0 0).toNat = p.length := by
  obtain ⟨t, ht⟩ := node_form p
  have g0 : ((nodeB p).getD 0 0).toNat = p.length := by rw [ht]; exact head_get0 _ _ _ (by omega)
  refine ⟨by rw [ht]; exact held_of h (by omega) hmay, ?_, g0⟩
  unfold extsN
  rw [g0, ht]
  exact exts_of hmay
theorem num_blks1 (n : Nat) (h : n ≤ 3) : numB (blks1 n) = true := by
  have : n = 0 ∨ n = 1 ∨ n = 2 ∨ n = 3 := by omega
  rcases this with rfl | rfl | rfl | rfl <;> decide +kernel
theorem join_nodes {l : List X} (h : right l = true) (h5 : 4 < l.length) : joinL (nodesB l) = (l, 0) ∧ joinR (nodesB l) = (l, 0) := by
  have hmay := ((right_iff l).1 h).2.1
  have h60 := (right_lin h).2.2.2.2
  have hpm : ∀ i, ∀ x ∈ partX l i, x.may = true := fun i x hx => hmay x (List.mem_of_mem_drop (List.mem_of_mem_take hx))
  have hlen : (nodesB l).length = (l.length + 19) / 20 := nodesB_len l
  have hn : needL l = ((nodesB l).length : Int) := by unfold needL needN; rw [h, if_pos rfl, if_neg (by omega), hlen]
  have h3 : (nodesB l).length ≤ 3 := by omega
  have h1 : 1 ≤ (nodesB l).length := by omega
  have hall : ∀ b ∈ nodesB l, b.length = 256 ∧ (b.getD 0 0).toNat ≤ 20 ∧ (nodesB l).length ≤ 3 := fun b hb => by
    unfold nodesB at hb
    obtain ⟨i, -, rfl⟩ := List.mem_map.1 hb
    exact ⟨nodeB_len _ (partX_len _ _), by rw [(node_held _ (partX_len _ _) (hpm i)).2.2]; exact partX_len _ _, h3⟩
  have e1 : (nodesB l).flatMap (fun b => heldL b 20) = l := nodes_flat l _ fun i => (node_held _ (partX_len _ _) (hpm i)).1
  have e2 : (nodesB l).flatMap extsN = l := nodes_flat l _ fun i => (node_held _ (partX_len _ _) (hpm i)).2.1
  constructor
  · unfold joinL
    rw [if_pos ⟨h3, fun b hb => (hall b hb).1⟩, e1, if_pos ⟨by omega, rfl⟩]
  · have hb1 : (blks1 (nodesB l).length).length = (nodesB l).length := by unfold blks1; simp
    have hst : storeL l (blks1 (nodesB l).length) = (nameB (blks1 (nodesB l).length), nodesB l, 0) := by
      unfold storeL
      rw [hb1, hn, num_blks1 _ h3, if_neg (show ¬ (nodesB l).length = 0 by omega)]
      simp
    unfold joinR
    rw [if_pos hall, e2, hst, if_pos ⟨rfl, by omega, rfl⟩]
theorem join_ways (N : List (List UInt8)) : (∃ l, right l = true ∧ 4 < l.length ∧ N = nodesB l) ∨ (joinL N = ([], 13) ∧ joinR N = ([], 13)) := by
  by_cases c : ∃ l, right l = true ∧ 4 < l.length ∧ N = nodesB l
  · exact .inl c
  have hneed : ∀ l, 1 ≤ needL l → right l = true ∧ 4 < l.length := fun l h => by
    unfold needL needN at h
    cases hr : right l with
    | true =>
      rw [hr, if_pos rfl] at h
      refine ⟨rfl, ?_⟩
      rcases Nat.lt_or_ge 4 l.length with h4 | h4
      · exact h4
      · rw [if_pos h4] at h; omega
    | false => rw [hr] at h; simp at h
  refine .inr ⟨?_, ?_⟩
  · unfold joinL
    split
    · split
      · rename_i h
        exact absurd ⟨_, (hneed _ h.1).1, (hneed _ h.1).2, h.2⟩ c
      · rfl
    · rfl
  · unfold joinR
    split
    · split
      · rename_i h
        exfalso
        have hb1 : (blks1 N.length).length = N.length := by unfold blks1; simp
        have hs : needL (N.flatMap extsN) = ((blks1 N.length).length : Int) := by
          refine Classical.byContradiction fun hne => ?_
          rw [store_bad (.inl hne)] at h
          exact absurd h.1 (by decide)
        have hst : (storeL (N.flatMap extsN) (blks1 N.length)).2.1 = nodesB (N.flatMap extsN) := by
          have h0 := h.1
          unfold storeL at h0 ⊢
          split
          · rw [if_neg (by omega)]
          · rename_i hc
            rw [if_neg hc] at h0
            exact absurd h0 (by decide)
        rw [hst] at h
        have hr := hneed (N.flatMap extsN) (by rw [hs, hb1]; omega)
        exact c ⟨_, hr.1, hr.2, h.2.2.symm⟩
      · rfl
    · rfl
theorem join_eq (N : List (List UInt8)) : joinL N = joinR N := by
  rcases join_ways N with ⟨l, h1, h2, rfl⟩ | ⟨h1, h2⟩
  · rw [(join_nodes h1 h2).1, (join_nodes h1 h2).2]
  · rw [h1, h2]
end Go.Proofs.Ytkhenchhafmlmaa.Ex
