/- Attributes in plain words: which one may be, which list is right, its block, what is read out of a block by the program and by the document. -/
import Derived.Test.YtbagocghlijleaaLfPlain
namespace Go.Proofs.Ytbagocghlijleaa.At
set_option maxRecDepth 20000
open Go.Proofs.Ytbagocghlijleaa.Mem Go.Proofs.Ytbagocghlijleaa.Crc Go.Proofs.Ytbagocghlijleaa.Bst
open Go.Proofs.Ytbagocghlijleaa.Lf (less less_irrefl less_trans less_total less_asym zeros nmb nmb_bytes take_at drop_at drop_more)

structure Pr where
  t : List UInt8
  v : List UInt8
  deriving DecidableEq
def p0 : Pr := ⟨[], []⟩
def okP (x : Pr) : Bool := decide (1 ≤ x.t.length) && (decide (x.t.length ≤ 16) && decide (x.v.length ≤ 64))
theorem okP_iff {x : Pr} : okP x = true ↔ 1 ≤ x.t.length ∧ x.t.length ≤ 16 ∧ x.v.length ≤ 64 := by
  unfold okP
  rw [Bool.and_eq_true, Bool.and_eq_true, decide_eq_true_iff, decide_eq_true_iff, decide_eq_true_iff]
/-- The attribute at place k may stand there. -/
def okAt (l : List Pr) (k : Nat) : Bool := okP (l.getD k p0) && (decide (k = 0) || less (l.getD (k - 1) p0).t (l.getD k p0).t)
def right (l : List Pr) : Bool := (List.range l.length).all (okAt l)
theorem right_at (l : List Pr) : right l = true ↔ ∀ k, k < l.length → okAt l k = true := by
  unfold right
  rw [List.all_eq_true]
  simp only [List.mem_range]
theorem right_no {l : List Pr} {k : Nat} (h : k < l.length) (hn : okAt l k = false) : right l = false := by
  cases hr : right l with
  | false => rfl
  | true => rw [(right_at l).1 hr k h] at hn; cases hn

/-- A list is right just where all its entries may be, and each name is less than all behind it. -/
theorem right_iff (l : List Pr) : right l = true ↔ (∀ x ∈ l, okP x = true) ∧ l.Pairwise (fun x y => less x.t y.t = true) := by
  rw [right_at]
  constructor
  · intro h
    refine ⟨fun x hx => ?_, ?_⟩
    · obtain ⟨k, hk, rfl⟩ := List.getElem_of_mem hx
      have := h k hk
      unfold okAt at this
      rw [Bool.and_eq_true] at this
      have h1 := this.1
      rwa [List.getD_eq_getElem?_getD, List.getElem?_eq_getElem hk, Option.getD_some] at h1
    · have step : ∀ k, (hk : k + 1 < l.length) → less (l[k]'(by omega)).t (l[k + 1]).t = true := fun k hk => by
        have := h (k + 1) hk
        unfold okAt at this
        rw [Bool.and_eq_true, Bool.or_eq_true, decide_eq_true_iff] at this
        have h1 := this.2.resolve_left (by omega)
        rwa [Nat.add_sub_cancel, List.getD_eq_getElem?_getD, List.getD_eq_getElem?_getD, List.getElem?_eq_getElem hk, List.getElem?_eq_getElem (show k < l.length by omega), Option.getD_some, Option.getD_some] at h1
      have far : ∀ d k, (hk : k + d + 1 < l.length) → less (l[k]'(by omega)).t (l[k + d + 1]).t = true := by
        intro d
        induction d with
        | zero => intro k hk; exact step k hk
        | succ d ih =>
          intro k hk
          have h1 := ih k (by omega)
          have h2 := step (k + d + 1) (by omega)
          have h3 := less_trans _ _ _ h1 h2
          have e : k + (d + 1) + 1 = k + d + 1 + 1 := by omega
          simp only [e]
          exact h3
      rw [List.pairwise_iff_getElem]
      intro i j hi hj hij
      have h1 := far (j - i - 1) i (by omega)
      have e : i + (j - i - 1) + 1 = j := by omega
      simp only [e] at h1
      exact h1
  · rintro ⟨h1, h2⟩ k hk
    unfold okAt
    rw [Bool.and_eq_true, List.getD_eq_getElem?_getD, List.getElem?_eq_getElem hk, Option.getD_some]
    refine ⟨h1 _ (List.getElem_mem hk), ?_⟩
    rw [Bool.or_eq_true, decide_eq_true_iff]
    by_cases h0 : k = 0
    · exact .inl h0
    · right
      rw [List.getD_eq_getElem?_getD, List.getElem?_eq_getElem (show k - 1 < l.length by omega), Option.getD_some]
      exact List.pairwise_iff_getElem.1 h2 (k - 1) k (by omega) hk (by omega)

/-! ### Sizes -/
def sizeL : List Pr → Nat
  | [] => 0
  | x :: l => 2 + x.t.length + x.v.length + sizeL l
theorem sizeL_app : ∀ a b : List Pr, sizeL (a ++ b) = sizeL a + sizeL b
  | [], b => by simp [sizeL]
  | x :: a, b => by simp only [List.cons_append, sizeL, sizeL_app a b]; omega
theorem sizeL_take (l : List Pr) (k : Nat) (h : k < l.length) : sizeL (l.take (k + 1)) = sizeL (l.take k) + (2 + (l[k]).t.length + (l[k]).v.length) := by
  rw [List.take_succ_eq_append_getElem h, sizeL_app]
  simp [sizeL]
theorem sizeL_ge : ∀ l : List Pr, (∀ x ∈ l, okP x = true) → 3 * l.length ≤ sizeL l
  | [], _ => Nat.le_refl _
  | x :: l, h => by
    have h1 := sizeL_ge l (fun y hy => h y (List.mem_cons_of_mem _ hy))
    have h2 := okP_iff.1 (h x List.mem_cons_self)
    simp only [sizeL, List.length_cons]
    omega
theorem sizeL_le : ∀ l : List Pr, (∀ x ∈ l, okP x = true) → sizeL l ≤ 82 * l.length
  | [], _ => Nat.le_refl _
  | x :: l, h => by
    have h1 := sizeL_le l (fun y hy => h y (List.mem_cons_of_mem _ hy))
    have h2 := okP_iff.1 (h x List.mem_cons_self)
    simp only [sizeL, List.length_cons]
    omega

/-! ### The block -/
def codeE (x : Pr) : List UInt8 := bytesL x.t.length 1 ++ (bytesL x.v.length 1 ++ (x.t ++ x.v))
def codes : List Pr → List UInt8
  | [] => []
  | x :: l => codeE x ++ codes l
theorem codes_app : ∀ a b : List Pr, codes (a ++ b) = codes a ++ codes b
  | [], b => rfl
  | x :: a, b => by simp only [List.cons_append, codes, codes_app a b, List.append_assoc]
theorem codeE_len (x : Pr) : (codeE x).length = 2 + x.t.length + x.v.length := by simp only [codeE, List.length_append, bytesL_len]; omega
theorem codes_len : ∀ l : List Pr, (codes l).length = sizeL l
  | [] => rfl
  | x :: l => by simp only [codes, sizeL, List.length_append, codeE_len, codes_len l]
theorem codes_take (l : List Pr) (k : Nat) (h : k < l.length) : codes (l.take (k + 1)) = codes (l.take k) ++ codeE l[k] := by
  rw [List.take_succ_eq_append_getElem h, codes_app]
  simp [codes]
/-- The block's beginning, k attributes long. -/
def headB (l : List Pr) (k : Nat) : List UInt8 := bytesL l.length 2 ++ codes (l.take k)
def body (l : List Pr) : List UInt8 := headB l l.length ++ zeros (250 - sizeL l)
def blockL (l : List Pr) : List UInt8 := body l ++ bytesL (sum (body l)) 4
theorem headB_len (l : List Pr) (k : Nat) : (headB l k).length = 2 + sizeL (l.take k) := by
  simp only [headB, List.length_append, bytesL_len, codes_len]
theorem body_len {l : List Pr} (h : sizeL l ≤ 250) : (body l).length = 252 := by
  simp only [body, List.length_append, headB_len, zeros, List.length_replicate, List.take_length]; omega
theorem blockL_len {l : List Pr} (h : sizeL l ≤ 250) : (blockL l).length = 256 := by
  simp only [blockL, List.length_append, body_len h, bytesL_len]
/-- What Encode answers: the bytes, and the error. -/
def enc (l : List Pr) : List UInt8 × Int := if right l = true then (if sizeL l ≤ 250 then (blockL l, 0) else ([], 15)) else ([], 1)
theorem enc_not {l : List Pr} (h : right l = false) : enc l = ([], 1) := by unfold enc; rw [if_neg (by rw [h]; simp)]
theorem enc_far {l : List Pr} (h : right l = true) (h2 : 250 < sizeL l) : enc l = ([], 15) := by unfold enc; rw [if_pos h, if_neg (by omega)]
theorem enc_yes {l : List Pr} (h : right l = true) (h2 : sizeL l ≤ 250) : enc l = (blockL l, 0) := by unfold enc; rw [if_pos h, if_pos h2]
theorem enc_zero {l : List Pr} (h : (enc l).2 = 0) : right l = true ∧ sizeL l ≤ 250 ∧ enc l = (blockL l, 0) := by
  unfold enc at h ⊢
  by_cases h1 : right l = true
  · rw [if_pos h1] at h ⊢
    by_cases h2 : sizeL l ≤ 250
    · rw [if_pos h2]; exact ⟨h1, h2, rfl⟩
    · rw [if_neg h2] at h; exact absurd h (by decide)
  · rw [if_neg h1] at h; exact absurd h (by decide)

/-! ### What the program reads -/
/-- The attribute at the beginning of the bytes, and what is behind it. -/
def nameN (r : List UInt8) : Nat := nmb (r.take 1)
def valN (r : List UInt8) : Nat := nmb ((r.drop 1).take 1)
def entP (r : List UInt8) : Pr := ⟨((r.drop 1).drop 1).take (nameN r), (((r.drop 1).drop 1).drop (nameN r)).take (valN r)⟩
def restP (r : List UInt8) : List UInt8 := (((r.drop 1).drop 1).drop (nameN r)).drop (valN r)
def stP (b : List UInt8) : Nat → List UInt8 × List Pr
  | 0 => ((b.take 252).drop 2, [])
  | k + 1 => (restP (stP b k).1, (stP b k).2 ++ [entP (stP b k).1])
def manyP (b : List UInt8) : Nat := nmb ((b.take 252).take 2)
def toldP (b : List UInt8) : List Pr := (stP b (min (manyP b) 83)).2
/-! ### What the document reads -/
def byteA (b : List UInt8) (k : Nat) : Nat := (b.getD k 0).toNat
def stR (b : List UInt8) : Nat → Option (Nat × List Pr)
  | 0 => some (2, [])
  | k + 1 => match stR b k with
    | none => none
    | some (a, l) => if 250 < a ∨ 252 < a + 2 + byteA b a + byteA b (a + 1) then none
      else some (a + 2 + byteA b a + byteA b (a + 1), l ++ [⟨(b.drop (a + 2)).take (byteA b a), (b.drop (a + 2 + byteA b a)).take (byteA b (a + 1))⟩])
def manyR (b : List UInt8) : Nat := nmb ((b.drop 0).take 2)
/-- What Decode answers, where l was read. -/
def decL (b : List UInt8) (l : List Pr) : List Pr × Int := if enc l = (b, 0) then (l, 0) else ([], 13)
def decP (b : List UInt8) : List Pr × Int := if b.length = 256 then decL b (toldP b) else ([], 13)
def decR (b : List UInt8) : List Pr × Int := if b.length = 256 then (match stR b (manyR b) with | none => ([], 13) | some (_, l) => decL b l) else ([], 13)

/-! ### What was written is read -/
theorem ent_code (x : Pr) (h : okP x = true) (r : List UInt8) : entP (codeE x ++ r) = x ∧ restP (codeE x ++ r) = r := by
  obtain ⟨h1, h2, h3⟩ := okP_iff.1 h
  have e0 : codeE x ++ r = bytesL x.t.length 1 ++ (bytesL x.v.length 1 ++ (x.t ++ (x.v ++ r))) := by unfold codeE; simp only [List.append_assoc]
  have e1 : (codeE x ++ r).take 1 = bytesL x.t.length 1 := by rw [e0]; exact take_at (bytesL_len _ _)
  have e2 : (codeE x ++ r).drop 1 = bytesL x.v.length 1 ++ (x.t ++ (x.v ++ r)) := by rw [e0]; exact drop_at (bytesL_len _ _)
  have e3 : (bytesL x.v.length 1 ++ (x.t ++ (x.v ++ r))).take 1 = bytesL x.v.length 1 := take_at (bytesL_len _ _)
  have e4 : (bytesL x.v.length 1 ++ (x.t ++ (x.v ++ r))).drop 1 = x.t ++ (x.v ++ r) := drop_at (bytesL_len _ _)
  unfold entP restP nameN valN
  rw [e1, e2, e3, e4, nmb_bytes _ _ (by omega), nmb_bytes _ _ (by omega), take_at rfl, drop_at rfl, take_at rfl, drop_at rfl]
  exact ⟨rfl, rfl⟩
theorem body_at (l : List Pr) (h : sizeL l ≤ 250) : (blockL l).take 252 = body l := by unfold blockL; exact take_at (body_len h)
theorem body_eq (l : List Pr) : body l = bytesL l.length 2 ++ (codes l ++ zeros (250 - sizeL l)) := by
  unfold body headB
  rw [List.take_length]
  simp only [List.append_assoc]
theorem stP_enc (l : List Pr) (h : right l = true) (hs : sizeL l ≤ 250) : ∀ k, k ≤ l.length → stP (blockL l) k = (codes (l.drop k) ++ zeros (250 - sizeL l), l.take k)
  | 0, _ => by
    unfold stP
    rw [body_at l hs, body_eq, drop_at (bytesL_len _ _)]
    rfl
  | k + 1, hk => by
    have ih := stP_enc l h hs k (by omega)
    have hkl : k < l.length := by omega
    unfold stP
    rw [ih]
    dsimp only
    rw [List.drop_eq_getElem_cons hkl]
    show (restP ((codeE l[k] ++ codes (l.drop (k + 1))) ++ _), l.take k ++ [entP ((codeE l[k] ++ codes (l.drop (k + 1))) ++ _)]) = _
    have hok := ((right_iff l).1 h).1 l[k] (List.getElem_mem hkl)
    rw [List.append_assoc, (ent_code l[k] hok _).1, (ent_code l[k] hok _).2, List.take_succ_eq_append_getElem hkl]
theorem many_enc (l : List Pr) (h : right l = true) (hs : sizeL l ≤ 250) : manyP (blockL l) = l.length ∧ manyR (blockL l) = l.length ∧ l.length ≤ 83 := by
  have h6 := sizeL_ge l ((right_iff l).1 h).1
  have e : nmb (bytesL l.length 2) = l.length := nmb_bytes _ _ (by omega)
  refine ⟨?_, ?_, by omega⟩
  · unfold manyP
    rw [body_at l hs, body_eq, take_at (bytesL_len _ _), e]
  · unfold manyR
    rw [List.drop_zero]
    unfold blockL
    rw [body_eq, List.append_assoc, take_at (bytesL_len _ _), e]
theorem told_enc (l : List Pr) (h : right l = true) (hs : sizeL l ≤ 250) : toldP (blockL l) = l := by
  obtain ⟨h1, _, h3⟩ := many_enc l h hs
  unfold toldP
  rw [h1, Nat.min_eq_left h3, stP_enc l h hs l.length (Nat.le_refl _), List.take_length]
theorem byte_one (n : Nat) (h : n < 256) : (byteN n 0).toNat = n := by
  simp [byteN]
  omega
theorem stR_enc (l : List Pr) (h : right l = true) (hs : sizeL l ≤ 250) : ∀ k, k ≤ l.length → stR (blockL l) k = some (2 + sizeL (l.take k), l.take k)
  | 0, _ => rfl
  | k + 1, hk => by
    have ih := stR_enc l h hs k (by omega)
    have hkl : k < l.length := by omega
    have hok := ((right_iff l).1 h).1 l[k] (List.getElem_mem hkl)
    obtain ⟨m1, m2, m3⟩ := okP_iff.1 hok
    -- the block, cut at this attribute
    obtain ⟨R, hR⟩ : ∃ R, blockL l = headB l k ++ (bytesL (l[k]).t.length 1 ++ (bytesL (l[k]).v.length 1 ++ ((l[k]).t ++ ((l[k]).v ++ R)))) := by
      refine ⟨codes (l.drop (k + 1)) ++ (zeros (250 - sizeL l) ++ bytesL (sum (body l)) 4), ?_⟩
      have e : codes l = codes (l.take k) ++ (codeE l[k] ++ codes (l.drop (k + 1))) := by
        rw [show codeE l[k] ++ codes (l.drop (k + 1)) = codes (l[k] :: l.drop (k + 1)) from rfl, ← List.drop_eq_getElem_cons hkl, ← codes_app, List.take_append_drop]
      unfold blockL
      rw [body_eq, e]
      unfold headB codeE
      simp only [List.append_assoc]
    have hl := headB_len l k
    generalize headB l k = P at hR hl
    have hsz : sizeL l = sizeL (l.take k) + (2 + (l[k]).t.length + (l[k]).v.length) + sizeL (l.drop (k + 1)) := by
      rw [← sizeL_take l k hkl, ← sizeL_app, List.take_append_drop]
    generalize hx : l[k] = x at *
    unfold stR
    rw [ih]
    dsimp only
    have e4 : (blockL l).drop (2 + sizeL (l.take k)) = bytesL x.t.length 1 ++ (bytesL x.v.length 1 ++ (x.t ++ (x.v ++ R))) := by rw [hR]; exact drop_at hl
    have e5 : (blockL l).drop (2 + sizeL (l.take k) + 1) = bytesL x.v.length 1 ++ (x.t ++ (x.v ++ R)) := by rw [← List.drop_drop, e4]; exact drop_at (bytesL_len _ _)
    have e6 : (blockL l).drop (2 + sizeL (l.take k) + 2) = x.t ++ (x.v ++ R) := by rw [show 2 + sizeL (l.take k) + 2 = 2 + sizeL (l.take k) + 1 + 1 by omega, ← List.drop_drop, e5]; exact drop_at (bytesL_len _ _)
    have e7 : (blockL l).drop (2 + sizeL (l.take k) + 2 + x.t.length) = x.v ++ R := by rw [← List.drop_drop, e6]; exact drop_at rfl
    have eb : byteA (blockL l) (2 + sizeL (l.take k)) = x.t.length := by
      have h0 : (bytesL x.t.length 1 ++ (bytesL x.v.length 1 ++ (x.t ++ (x.v ++ R))))[0]? = some (byteN x.t.length 0) := by simp [bytesL]
      rw [← e4, List.getElem?_drop, Nat.add_zero] at h0
      unfold byteA
      rw [List.getD_eq_getElem?_getD, h0, Option.getD_some, byte_one _ (by omega)]
    have ev : byteA (blockL l) (2 + sizeL (l.take k) + 1) = x.v.length := by
      have h0 : (bytesL x.v.length 1 ++ (x.t ++ (x.v ++ R)))[0]? = some (byteN x.v.length 0) := by simp [bytesL]
      rw [← e5, List.getElem?_drop, Nat.add_zero] at h0
      unfold byteA
      rw [List.getD_eq_getElem?_getD, h0, Option.getD_some, byte_one _ (by omega)]
    rw [eb, ev, if_neg (by omega), sizeL_take l k hkl, hx, e6, e7, take_at rfl, take_at rfl, List.take_succ_eq_append_getElem hkl, hx]
    congr 2
    omega
theorem decL_zero {b : List UInt8} {l : List Pr} (h : enc l = (b, 0)) : decL b l = (l, 0) := by unfold decL; rw [if_pos h]
theorem decL_not {b : List UInt8} {l : List Pr} (h : ¬ enc l = (b, 0)) : decL b l = ([], 13) := by unfold decL; rw [if_neg h]
/-- What is the block of a list is read as it; what is none's is refused: by the program .. -/
theorem decP_of {b : List UInt8} {l : List Pr} (h : enc l = (b, 0)) : decP b = (l, 0) := by
  obtain ⟨h1, h2, h3⟩ := enc_zero (l := l) (by rw [h])
  rw [h3] at h
  injection h with h _
  subst h
  unfold decP
  rw [if_pos (blockL_len h2), told_enc l h1 h2, decL_zero h3]
/-- .. and by the document. -/
theorem decR_of {b : List UInt8} {l : List Pr} (h : enc l = (b, 0)) : decR b = (l, 0) := by
  obtain ⟨h1, h2, h3⟩ := enc_zero (l := l) (by rw [h])
  rw [h3] at h
  injection h with h _
  subst h
  unfold decR
  rw [if_pos (blockL_len h2), (many_enc l h1 h2).2.1, stR_enc l h1 h2 l.length (Nat.le_refl _)]
  dsimp only
  rw [List.take_length, decL_zero h3]
theorem decP_none {b : List UInt8} (h : ∀ l, ¬ enc l = (b, 0)) : decP b = ([], 13) := by
  unfold decP
  by_cases hb : b.length = 256
  · rw [if_pos hb, decL_not (h _)]
  · rw [if_neg hb]
theorem decR_none {b : List UInt8} (h : ∀ l, ¬ enc l = (b, 0)) : decR b = ([], 13) := by
  unfold decR
  by_cases hb : b.length = 256
  · rw [if_pos hb]
    cases hs : stR b (manyR b) with
    | none => rfl
    | some p => obtain ⟨a, l⟩ := p; exact decL_not (h _)
  · rw [if_neg hb]
theorem dec_same (b : List UInt8) : decP b = decR b := by
  by_cases h : ∃ l, enc l = (b, 0)
  · obtain ⟨l, h⟩ := h
    rw [decP_of h, decR_of h]
  · have h' : ∀ l, ¬ enc l = (b, 0) := fun l hl => h ⟨l, hl⟩
    rw [decP_none h', decR_none h']
/-- A block with bits turned within 32 side by side is none. -/
theorem dec_turned (l : List Pr) (b : List UInt8) (hb : Burst b (blockL l)) (hne : b ≠ blockL l) : decP b = ([], 13) := by
  refine decP_none (fun m hm => hne ?_)
  obtain ⟨h1, h2, h3⟩ := enc_zero (l := m) (by rw [hm])
  rw [h3] at hm
  injection hm with hm _
  subst hm
  exact hb.eq (sum_own (body m) (body l))

end Go.Proofs.Ytbagocghlijleaa.At
