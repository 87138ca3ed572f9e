/- Lists of names in plain words: which name may be, which list is right, its block, what is read out of a block by the program and by the document; a right list without one, and with one more. -/
import Derived.Test.YtbagocghlijleaaBurst
namespace Go.Proofs.Ytbagocghlijleaa.Lf
set_option maxRecDepth 20000
open Go.Proofs.Ytbagocghlijleaa.Mem Go.Proofs.Ytbagocghlijleaa.Crc Go.Proofs.Ytbagocghlijleaa.Bst

structure Nm where
  t : List UInt8
  i : Int
  deriving DecidableEq
def n0 : Nm := ⟨[], 0⟩
def may (t : List UInt8) : Bool := decide (1 ≤ t.length ∧ t.length ≤ 32) && (decide (t ≠ [46]) && (decide (t ≠ [46, 46]) && (!t.contains 0 && !t.contains 47)))
def less (a b : List UInt8) : Bool := Op.bytesLess a b
def okN (x : Nm) : Bool := may x.t && decide (0 ≤ x.i ∧ x.i ≤ 1048576)
/-- The entry at place k may stand there. -/
def okAt (l : List Nm) (k : Nat) : Bool := okN (l.getD k n0) && (decide (k = 0) || less (l.getD (k - 1) n0).t (l.getD k n0).t)
def right (l : List Nm) : Bool := (List.range l.length).all (okAt l)
theorem right_at (l : List Nm) : right l = true ↔ ∀ k, k < l.length → okAt l k = true := by
  unfold right
  rw [List.all_eq_true]
  simp only [List.mem_range]
theorem right_no {l : List Nm} {k : Nat} (h : k < l.length) (hn : okAt l k = false) : right l = false := by
  cases hr : right l with
  | false => rfl
  | true => rw [(right_at l).1 hr k h] at hn; cases hn

/-! ### The order of texts -/
theorem less_nil (a : List UInt8) : less a [] = false := by cases a <;> rfl
theorem less_cons (a b : UInt8) (x y : List UInt8) : less (a :: x) (b :: y) = (decide (a < b) || (a == b && less x y)) := rfl
theorem less_irrefl : ∀ a, less a a = false
  | [] => rfl
  | a :: x => by
    rw [less_cons, less_irrefl x]
    simp
theorem less_trans : ∀ a b c, less a b = true → less b c = true → less a c = true
  | a, [], c, h, _ => by rw [less_nil] at h; cases h
  | a, b :: y, [], _, h => by rw [less_nil] at h; cases h
  | [], b :: y, c :: z, _, _ => rfl
  | a :: x, b :: y, c :: z, h1, h2 => by
    rw [less_cons, Bool.or_eq_true, Bool.and_eq_true, decide_eq_true_iff, beq_iff_eq] at h1 h2 ⊢
    rcases h1 with h1 | ⟨rfl, h1⟩
    · rcases h2 with h2 | ⟨rfl, h2⟩
      · exact .inl (UInt8.lt_trans h1 h2)
      · exact .inl h1
    · rcases h2 with h2 | ⟨rfl, h2⟩
      · exact .inl h2
      · exact .inr ⟨rfl, less_trans x y z h1 h2⟩
theorem less_total : ∀ a b, less a b = false → less b a = false → a = b
  | [], [], _, _ => rfl
  | [], b :: y, h, _ => by cases h
  | a :: x, [], _, h => by cases h
  | a :: x, b :: y, h1, h2 => by
    rw [less_cons, Bool.or_eq_false_iff, decide_eq_false_iff_not] at h1 h2
    have e : a = b := by
      have h3 := h1.1
      have h4 := h2.1
      rw [UInt8.not_lt] at h3 h4
      exact UInt8.le_antisymm h4 h3
    subst e
    have h3 : less x y = false := by simpa using h1.2
    have h4 : less y x = false := by simpa using h2.2
    rw [less_total x y h3 h4]
theorem less_asym {a b : List UInt8} (h : less a b = true) : less b a = false := by
  cases hb : less b a with
  | false => rfl
  | true =>
    have h2 := less_trans a b a h hb
    rw [less_irrefl] at h2
    cases h2

/-- A list is right just where all its entries may be, and each name is less than all behind it. -/
theorem right_iff (l : List Nm) : right l = true ↔ (∀ x ∈ l, okN x = true) ∧ l.Pairwise (fun x y => less x.t y.t = true) := by
  rw [right_at]
  constructor
  · intro h
    refine ⟨fun x hx => ?_, ?_⟩
    · obtain ⟨k, hk, rfl⟩ := List.getElem_of_mem hx
      have := h k hk
      unfold okAt at this
      rw [Bool.and_eq_true] at this
      have h1 := this.1
      rwa [List.getD_eq_getElem?_getD, List.getElem?_eq_getElem hk, Option.getD_some] at h1
    · have step : ∀ k, (hk : k + 1 < l.length) → less (l[k]'(by omega)).t (l[k + 1]).t = true := fun k hk => by
        have := h (k + 1) hk
        unfold okAt at this
        rw [Bool.and_eq_true, Bool.or_eq_true, decide_eq_true_iff] at this
        have h1 := this.2.resolve_left (by omega)
        rwa [Nat.add_sub_cancel, List.getD_eq_getElem?_getD, List.getD_eq_getElem?_getD, List.getElem?_eq_getElem hk, List.getElem?_eq_getElem (show k < l.length by omega), Option.getD_some, Option.getD_some] at h1
      have far : ∀ d k, (hk : k + d + 1 < l.length) → less (l[k]'(by omega)).t (l[k + d + 1]).t = true := by
        intro d
        induction d with
        | zero => intro k hk; exact step k hk
        | succ d ih =>
          intro k hk
          have h1 := ih k (by omega)
          have h2 := step (k + d + 1) (by omega)
          have h3 := less_trans _ _ _ h1 h2
          have e : k + (d + 1) + 1 = k + d + 1 + 1 := by omega
          simp only [e]
          exact h3
      rw [List.pairwise_iff_getElem]
      intro i j hi hj hij
      have h1 := far (j - i - 1) i (by omega)
      have e : i + (j - i - 1) + 1 = j := by omega
      simp only [e] at h1
      exact h1
  · rintro ⟨h1, h2⟩ k hk
    unfold okAt
    rw [Bool.and_eq_true, List.getD_eq_getElem?_getD, List.getElem?_eq_getElem hk, Option.getD_some]
    refine ⟨h1 _ (List.getElem_mem hk), ?_⟩
    rw [Bool.or_eq_true, decide_eq_true_iff]
    by_cases h0 : k = 0
    · exact .inl h0
    · right
      rw [List.getD_eq_getElem?_getD, List.getElem?_eq_getElem (show k - 1 < l.length by omega), Option.getD_some]
      exact List.pairwise_iff_getElem.1 h2 (k - 1) k (by omega) hk (by omega)

/-! ### Sizes -/
def sizeL : List Nm → Nat
  | [] => 0
  | x :: l => 5 + x.t.length + sizeL l
theorem sizeL_app : ∀ a b : List Nm, sizeL (a ++ b) = sizeL a + sizeL b
  | [], b => by simp [sizeL]
  | x :: a, b => by simp only [List.cons_append, sizeL, sizeL_app a b]; omega
theorem sizeL_take (l : List Nm) (k : Nat) (h : k < l.length) : sizeL (l.take (k + 1)) = sizeL (l.take k) + (5 + (l[k]).t.length) := by
  rw [List.take_succ_eq_append_getElem h, sizeL_app]
  simp [sizeL]
theorem may_len {t : List UInt8} (h : may t = true) : 1 ≤ t.length ∧ t.length ≤ 32 := by
  unfold may at h
  rw [Bool.and_eq_true, decide_eq_true_iff] at h
  exact h.1
theorem okN_may {x : Nm} (h : okN x = true) : may x.t = true ∧ 0 ≤ x.i ∧ x.i ≤ 1048576 := by
  unfold okN at h
  rwa [Bool.and_eq_true, decide_eq_true_iff] at h
theorem sizeL_le : ∀ l : List Nm, (∀ x ∈ l, okN x = true) → sizeL l ≤ 37 * l.length
  | [], _ => Nat.le_refl _
  | x :: l, h => by
    have h1 := sizeL_le l (fun y hy => h y (List.mem_cons_of_mem _ hy))
    have h2 := may_len (okN_may (h x List.mem_cons_self)).1
    simp only [sizeL, List.length_cons]
    omega
theorem sizeL_ge : ∀ l : List Nm, (∀ x ∈ l, okN x = true) → 6 * l.length ≤ sizeL l
  | [], _ => Nat.le_refl _
  | x :: l, h => by
    have h1 := sizeL_ge l (fun y hy => h y (List.mem_cons_of_mem _ hy))
    have h2 := may_len (okN_may (h x List.mem_cons_self)).1
    simp only [sizeL, List.length_cons]
    omega

/-! ### The block -/
def codeE (x : Nm) : List UInt8 := bytesL x.i.toNat 4 ++ (bytesL x.t.length 1 ++ x.t)
def codes : List Nm → List UInt8
  | [] => []
  | x :: l => codeE x ++ codes l
theorem codes_app : ∀ a b : List Nm, codes (a ++ b) = codes a ++ codes b
  | [], b => rfl
  | x :: a, b => by simp only [List.cons_append, codes, codes_app a b, List.append_assoc]
theorem codeE_len (x : Nm) : (codeE x).length = 5 + x.t.length := by simp only [codeE, List.length_append, bytesL_len]; omega
theorem codes_len : ∀ l : List Nm, (codes l).length = sizeL l
  | [] => rfl
  | x :: l => by simp only [codes, sizeL, List.length_append, codeE_len, codes_len l]
theorem codes_take (l : List Nm) (k : Nat) (h : k < l.length) : codes (l.take (k + 1)) = codes (l.take k) ++ codeE l[k] := by
  rw [List.take_succ_eq_append_getElem h, codes_app]
  simp [codes]
/-- The block's beginning, k entries long. -/
def headB (l : List Nm) (k : Nat) : List UInt8 := bytesL l.length 2 ++ (bytesL (sizeL l) 2 ++ codes (l.take k))
def zeros (n : Nat) : List UInt8 := List.replicate n 0
def body (l : List Nm) : List UInt8 := headB l l.length ++ zeros (248 - sizeL l)
def blockL (l : List Nm) : List UInt8 := body l ++ bytesL (sum (body l)) 4
theorem headB_len (l : List Nm) (k : Nat) : (headB l k).length = 4 + sizeL (l.take k) := by
  simp only [headB, List.length_append, bytesL_len, codes_len]; omega
theorem body_len {l : List Nm} (h : sizeL l ≤ 248) : (body l).length = 252 := by
  simp only [body, List.length_append, headB_len, zeros, List.length_replicate, List.take_length]; omega
theorem blockL_len {l : List Nm} (h : sizeL l ≤ 248) : (blockL l).length = 256 := by
  simp only [blockL, List.length_append, body_len h, bytesL_len]
/-- What Encode answers: the bytes, and the error. -/
def enc (l : List Nm) : List UInt8 × Int := if right l = true then (if sizeL l ≤ 248 then (blockL l, 0) else ([], 9)) else ([], 1)
/-- What Size answers. -/
def size (l : List Nm) : Int × Int := if right l = true then ((sizeL l : Int), 0) else (0, 1)
theorem enc_not {l : List Nm} (h : right l = false) : enc l = ([], 1) := by unfold enc; rw [if_neg (by rw [h]; simp)]
theorem enc_far {l : List Nm} (h : right l = true) (h2 : 248 < sizeL l) : enc l = ([], 9) := by unfold enc; rw [if_pos h, if_neg (by omega)]
theorem enc_yes {l : List Nm} (h : right l = true) (h2 : sizeL l ≤ 248) : enc l = (blockL l, 0) := by unfold enc; rw [if_pos h, if_pos h2]
theorem enc_zero {l : List Nm} (h : (enc l).2 = 0) : right l = true ∧ sizeL l ≤ 248 ∧ enc l = (blockL l, 0) := by
  unfold enc at h ⊢
  by_cases h1 : right l = true
  · rw [if_pos h1] at h ⊢
    by_cases h2 : sizeL l ≤ 248
    · rw [if_pos h2]; exact ⟨h1, h2, rfl⟩
    · rw [if_neg h2] at h; exact absurd h (by decide)
  · rw [if_neg h1] at h; exact absurd h (by decide)
theorem size_not {l : List Nm} (h : right l = false) : size l = (0, 1) := by unfold size; rw [if_neg (by rw [h]; simp)]
theorem size_yes {l : List Nm} (h : right l = true) : size l = ((sizeL l : Int), 0) := by unfold size; rw [if_pos h]

/-! ### What the program reads -/
def nmb (bs : List UInt8) : Nat := numAt bs bs.length
/-- The entry at the beginning of the bytes, and what is behind it. -/
def entP (r : List UInt8) : Nm := ⟨((r.drop 4).drop 1).take (nmb ((r.drop 4).take 1)), (nmb (r.take 4) : Int)⟩
def restP (r : List UInt8) : List UInt8 := ((r.drop 4).drop 1).drop (nmb ((r.drop 4).take 1))
def stP (b : List UInt8) : Nat → List UInt8 × List Nm
  | 0 => (((b.take 252).drop 2).drop 2, [])
  | k + 1 => (restP (stP b k).1, (stP b k).2 ++ [entP (stP b k).1])
def manyP (b : List UInt8) : Nat := nmb ((b.take 252).take 2)
def toldP (b : List UInt8) : List Nm := (stP b (min (manyP b) 41)).2
/-! ### What the document reads -/
def num2 (b : List UInt8) (i n : Nat) : Nat := nmb ((b.drop i).take n)
def stR (b : List UInt8) : Nat → Option (Nat × List Nm)
  | 0 => some (4, [])
  | k + 1 => match stR b k with
    | none => none
    | some (at_, l) => if 247 < at_ ∨ 252 < at_ + 5 + (b.getD (at_ + 4) 0).toNat then none
      else some (at_ + 5 + (b.getD (at_ + 4) 0).toNat, l ++ [⟨(b.drop (at_ + 5)).take (b.getD (at_ + 4) 0).toNat, (num2 b at_ 4 : Int)⟩])
def manyR (b : List UInt8) : Nat := num2 b 0 2
/-- What Decode answers, where l was read. -/
def decL (b : List UInt8) (l : List Nm) : List Nm × Int := if enc l = (b, 0) then (l, 0) else ([], 13)
def decP (b : List UInt8) : List Nm × Int := if b.length = 256 then decL b (toldP b) else ([], 13)
def decR (b : List UInt8) : List Nm × Int := if b.length = 256 then (match stR b (manyR b) with | none => ([], 13) | some (_, l) => decL b l) else ([], 13)

/-! ### What was written is read -/
theorem nmb_bytes (v L : Nat) (h : v < 2 ^ (8 * L)) : nmb (bytesL v L) = v := by
  unfold nmb
  rw [bytesL_len, num_bytesL v L L (Nat.le_refl _), Nat.mod_eq_of_lt h]
theorem take_at {a b : List UInt8} {n : Nat} (h : a.length = n) : (a ++ b).take n = a := by rw [← h, List.take_left']; rfl
theorem drop_at {a b : List UInt8} {n : Nat} (h : a.length = n) : (a ++ b).drop n = b := by rw [← h, List.drop_left']; rfl
theorem ent_code (x : Nm) (h : okN x = true) (r : List UInt8) : entP (codeE x ++ r) = x ∧ restP (codeE x ++ r) = r := by
  obtain ⟨h1, h2, h3⟩ := okN_may h
  have h4 := may_len h1
  have e1 : (codeE x ++ r).take 4 = bytesL x.i.toNat 4 := by unfold codeE; rw [List.append_assoc]; exact take_at (bytesL_len _ _)
  have e2 : (codeE x ++ r).drop 4 = bytesL x.t.length 1 ++ (x.t ++ r) := by unfold codeE; rw [List.append_assoc, List.append_assoc]; exact drop_at (bytesL_len _ _)
  have e3 : (bytesL x.t.length 1 ++ (x.t ++ r)).take 1 = bytesL x.t.length 1 := take_at (bytesL_len _ _)
  have e4 : (bytesL x.t.length 1 ++ (x.t ++ r)).drop 1 = x.t ++ r := drop_at (bytesL_len _ _)
  unfold entP restP
  rw [e1, e2, e3, e4, nmb_bytes _ _ (by omega), nmb_bytes _ _ (by omega), take_at rfl, drop_at rfl]
  refine ⟨?_, rfl⟩
  obtain ⟨t, i⟩ := x
  simp only [Nm.mk.injEq, true_and]
  simp only at h2
  omega
theorem body_at (l : List Nm) (h : sizeL l ≤ 248) : (blockL l).take 252 = body l := by unfold blockL; exact take_at (body_len h)
theorem body_eq (l : List Nm) : body l = bytesL l.length 2 ++ (bytesL (sizeL l) 2 ++ (codes l ++ zeros (248 - sizeL l))) := by
  unfold body headB
  rw [List.take_length]
  simp only [List.append_assoc]
theorem stP_enc (l : List Nm) (h : right l = true) (hs : sizeL l ≤ 248) : ∀ k, k ≤ l.length → stP (blockL l) k = (codes (l.drop k) ++ zeros (248 - sizeL l), l.take k)
  | 0, _ => by
    unfold stP
    rw [body_at l hs, body_eq, drop_at (bytesL_len _ _), drop_at (bytesL_len _ _)]
    rfl
  | k + 1, hk => by
    have ih := stP_enc l h hs k (by omega)
    have hkl : k < l.length := by omega
    unfold stP
    rw [ih]
    dsimp only
    rw [List.drop_eq_getElem_cons hkl]
    show (restP ((codeE l[k] ++ codes (l.drop (k + 1))) ++ _), l.take k ++ [entP ((codeE l[k] ++ codes (l.drop (k + 1))) ++ _)]) = _
    have hok := ((right_iff l).1 h).1 l[k] (List.getElem_mem hkl)
    rw [List.append_assoc, (ent_code l[k] hok _).1, (ent_code l[k] hok _).2, List.take_succ_eq_append_getElem hkl]
theorem many_enc (l : List Nm) (h : right l = true) (hs : sizeL l ≤ 248) : manyP (blockL l) = l.length ∧ manyR (blockL l) = l.length ∧ l.length ≤ 41 := by
  have h6 := sizeL_ge l ((right_iff l).1 h).1
  have e : nmb (bytesL l.length 2) = l.length := nmb_bytes _ _ (by omega)
  refine ⟨?_, ?_, by omega⟩
  · unfold manyP
    rw [body_at l hs, body_eq, take_at (bytesL_len _ _), e]
  · unfold manyR num2
    rw [List.drop_zero]
    unfold blockL
    rw [body_eq, List.append_assoc, take_at (bytesL_len _ _), e]
theorem told_enc (l : List Nm) (h : right l = true) (hs : sizeL l ≤ 248) : toldP (blockL l) = l := by
  obtain ⟨h1, _, h3⟩ := many_enc l h hs
  unfold toldP
  rw [h1, Nat.min_eq_left h3, stP_enc l h hs l.length (Nat.le_refl _), List.take_length]
theorem drop_more {a b : List UInt8} {m n : Nat} (h : a.length = m) : (a ++ b).drop (m + n) = b.drop n := by
  subst h
  rw [List.drop_append]
  simp
theorem stR_enc (l : List Nm) (h : right l = true) (hs : sizeL l ≤ 248) : ∀ k, k ≤ l.length → stR (blockL l) k = some (4 + sizeL (l.take k), l.take k)
  | 0, _ => rfl
  | k + 1, hk => by
    have ih := stR_enc l h hs k (by omega)
    have hkl : k < l.length := by omega
    have hok := ((right_iff l).1 h).1 l[k] (List.getElem_mem hkl)
    obtain ⟨m1, m2, m3⟩ := okN_may hok
    have m4 := may_len m1
    -- the block, cut at this entry
    obtain ⟨R, hR⟩ : ∃ R, blockL l = headB l k ++ (bytesL (l[k]).i.toNat 4 ++ (bytesL (l[k]).t.length 1 ++ ((l[k]).t ++ R))) := by
      refine ⟨codes (l.drop (k + 1)) ++ (zeros (248 - sizeL l) ++ bytesL (sum (body l)) 4), ?_⟩
      have e : codes l = codes (l.take k) ++ (codeE l[k] ++ codes (l.drop (k + 1))) := by
        rw [show codeE l[k] ++ codes (l.drop (k + 1)) = codes (l[k] :: l.drop (k + 1)) from rfl, ← List.drop_eq_getElem_cons hkl, ← codes_app, List.take_append_drop]
      unfold blockL
      rw [body_eq, e]
      unfold headB codeE
      simp only [List.append_assoc]
    have hl := headB_len l k
    generalize headB l k = P at hR hl
    have hsz : sizeL l = sizeL (l.take k) + (5 + (l[k]).t.length) + sizeL (l.drop (k + 1)) := by
      rw [← sizeL_take l k hkl, ← sizeL_app, List.take_append_drop]
    generalize hx : l[k] = x at *
    unfold stR
    rw [ih]
    dsimp only
    have e4 : (blockL l).drop (4 + sizeL (l.take k)) = bytesL x.i.toNat 4 ++ (bytesL x.t.length 1 ++ (x.t ++ R)) := by rw [hR]; exact drop_at hl
    have e5 : (blockL l).drop (4 + sizeL (l.take k) + 4) = bytesL x.t.length 1 ++ (x.t ++ R) := by rw [← List.drop_drop, e4]; exact drop_at (bytesL_len _ _)
    have e6 : (blockL l).drop (4 + sizeL (l.take k) + 5) = x.t ++ R := by rw [show 4 + sizeL (l.take k) + 5 = 4 + sizeL (l.take k) + 4 + 1 by omega, ← List.drop_drop, e5]; exact drop_at (bytesL_len _ _)
    have eb : ((blockL l).getD (4 + sizeL (l.take k) + 4) 0).toNat = x.t.length := by
      have : (blockL l).getD (4 + sizeL (l.take k) + 4) 0 = byteN x.t.length 0 := by
        have h0 : (bytesL x.t.length 1 ++ (x.t ++ R))[0]? = some (byteN x.t.length 0) := by simp [bytesL]
        rw [← e5, List.getElem?_drop, Nat.add_zero] at h0
        rw [List.getD_eq_getElem?_getD, h0, Option.getD_some]
      rw [this]
      simp [byteN]
      omega
    rw [eb, if_neg (by omega), sizeL_take l k hkl, hx, e6, take_at rfl, List.take_succ_eq_append_getElem hkl, hx]
    have e7 : num2 (blockL l) (4 + sizeL (l.take k)) 4 = x.i.toNat := by
      unfold num2
      rw [e4, take_at (bytesL_len _ _), nmb_bytes _ _ (by omega)]
    rw [e7]
    have e8 : (⟨x.t, (x.i.toNat : Int)⟩ : Nm) = x := by
      obtain ⟨t, i⟩ := x
      simp only [Nm.mk.injEq, true_and]
      simp only at m2
      omega
    rw [e8]
    congr 2
    omega
theorem decL_zero {b : List UInt8} {l : List Nm} (h : enc l = (b, 0)) : decL b l = (l, 0) := by unfold decL; rw [if_pos h]
theorem decL_not {b : List UInt8} {l : List Nm} (h : ¬ enc l = (b, 0)) : decL b l = ([], 13) := by unfold decL; rw [if_neg h]
/-- What is the block of a list is read as it; what is none's is refused: by the program .. -/
theorem decP_of {b : List UInt8} {l : List Nm} (h : enc l = (b, 0)) : decP b = (l, 0) := by
  obtain ⟨h1, h2, h3⟩ := enc_zero (l := l) (by rw [h])
  rw [h3] at h
  injection h with h _
  subst h
  unfold decP
  rw [if_pos (blockL_len h2), told_enc l h1 h2, decL_zero h3]
/-- .. and by the document. -/
theorem decR_of {b : List UInt8} {l : List Nm} (h : enc l = (b, 0)) : decR b = (l, 0) := by
  obtain ⟨h1, h2, h3⟩ := enc_zero (l := l) (by rw [h])
  rw [h3] at h
  injection h with h _
  subst h
  unfold decR
  rw [if_pos (blockL_len h2), (many_enc l h1 h2).2.1, stR_enc l h1 h2 l.length (Nat.le_refl _)]
  dsimp only
  rw [List.take_length, decL_zero h3]
theorem decP_none {b : List UInt8} (h : ∀ l, ¬ enc l = (b, 0)) : decP b = ([], 13) := by
  unfold decP
  by_cases hb : b.length = 256
  · rw [if_pos hb, decL_not (h _)]
  · rw [if_neg hb]
theorem decR_none {b : List UInt8} (h : ∀ l, ¬ enc l = (b, 0)) : decR b = ([], 13) := by
  unfold decR
  by_cases hb : b.length = 256
  · rw [if_pos hb]
    cases hs : stR b (manyR b) with
    | none => rfl
    | some p => obtain ⟨a, l⟩ := p; exact decL_not (h _)
  · rw [if_neg hb]
theorem dec_same (b : List UInt8) : decP b = decR b := by
  by_cases h : ∃ l, enc l = (b, 0)
  · obtain ⟨l, h⟩ := h
    rw [decP_of h, decR_of h]
  · have h' : ∀ l, ¬ enc l = (b, 0) := fun l hl => h ⟨l, hl⟩
    rw [decP_none h', decR_none h']
/-- A block with bits turned within 32 side by side is none. -/
theorem dec_turned (l : List Nm) (b : List UInt8) (hb : Burst b (blockL l)) (hne : b ≠ blockL l) : decP b = ([], 13) := by
  refine decP_none (fun m hm => hne ?_)
  obtain ⟨h1, h2, h3⟩ := enc_zero (l := m) (by rw [hm])
  rw [h3] at hm
  injection hm with hm _
  subst hm
  exact hb.eq (sum_own (body m) (body l))

/-! ### One less, one more -/
theorem right_without (l : List Nm) (k : Nat) (h : right l = true) : right (l.take k ++ l.drop (k + 1)) = true := by
  rw [right_iff] at h ⊢
  have hsub : (l.take k ++ l.drop (k + 1)).Sublist l := by
    have h1 : (l.drop (k + 1)).Sublist (l.drop k) := by
      rw [← List.drop_drop]
      exact List.drop_sublist _ _
    have h2 := List.Sublist.append (List.Sublist.refl (l.take k)) h1
    rwa [List.take_append_drop] at h2
  exact ⟨fun x hx => h.1 x (hsub.subset hx), h.2.sublist hsub⟩
theorem size_without (l : List Nm) (k : Nat) (hk : k < l.length) : sizeL (l.take k ++ l.drop (k + 1)) + (5 + (l[k]).t.length) = sizeL l := by
  have e : l = l.take k ++ (l[k] :: l.drop (k + 1)) := by rw [← List.drop_eq_getElem_cons hk, List.take_append_drop]
  have h1 : sizeL l = sizeL (l.take k ++ (l[k] :: l.drop (k + 1))) := by rw [← e]
  rw [h1, sizeL_app, sizeL_app]
  simp only [sizeL]
  omega
/-- The place of a name: so many entries are less than it. -/
def placeL (l : List Nm) (x : Nm) : Nat := (l.takeWhile fun y => !less x.t y.t).length
theorem right_more (p q : List Nm) (x : Nm) (h : right (p ++ q) = true) (hx : okN x = true) (hp : ∀ y ∈ p, less y.t x.t = true) (hq : ∀ y ∈ q, less x.t y.t = true) : right (p ++ ([x] ++ q)) = true := by
  rw [right_iff] at h ⊢
  obtain ⟨h1, h2⟩ := h
  rw [List.pairwise_append] at h2
  refine ⟨fun y hy => ?_, ?_⟩
  · rcases List.mem_append.1 hy with hy | hy
    · exact h1 y (List.mem_append.2 (.inl hy))
    · rcases List.mem_append.1 hy with hy | hy
      · rw [List.mem_singleton.1 hy]; exact hx
      · exact h1 y (List.mem_append.2 (.inr hy))
  · rw [List.pairwise_append]
    refine ⟨h2.1, ?_, fun a ha b hb => ?_⟩
    · rw [List.singleton_append, List.pairwise_cons]
      exact ⟨hq, h2.2.1⟩
    · rw [List.singleton_append] at hb
      rcases List.mem_cons.1 hb with rfl | hb
      · exact hp a ha
      · exact h2.2.2 a ha b hb
theorem right_more_not (p q : List Nm) (x : Nm) (hx : okN x = false) : right (p ++ ([x] ++ q)) = false := by
  cases hr : right (p ++ ([x] ++ q)) with
  | false => rfl
  | true =>
    rw [((right_iff _).1 hr).1 x (by simp)] at hx
    cases hx
theorem size_more (p q : List Nm) (x : Nm) : sizeL (p ++ ([x] ++ q)) = sizeL (p ++ q) + 5 + x.t.length := by
  rw [sizeL_app, sizeL_app, sizeL_app]
  simp only [sizeL]
  omega
end Go.Proofs.Ytbagocghlijleaa.Lf
