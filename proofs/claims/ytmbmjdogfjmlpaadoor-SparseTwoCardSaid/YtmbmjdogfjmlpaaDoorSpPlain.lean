/- Contents as runs of bytes, in plain words: which list is right, what it reads as, and that no two right lists read the same. -/
import Derived.Test.YtmbmjdogfjmlpaaDoorProg
namespace Go.Proofs.YtmbmjdogfjmlpaaDoor.Sp
set_option maxRecDepth 20000
structure Rn where
  a : Int
  t : List UInt8
  deriving DecidableEq
def r0 : Rn := ⟨0, []⟩
def Rn.e (x : Rn) : Int := x.a + (x.t.length : Int)
/-- The run may be, from place f on. -/
def okR (f : Int) (x : Rn) : Bool := decide (f ≤ x.a) && (decide (x.e ≤ 65536) && (decide (0 < x.t.length) && !x.t.contains 0))
def chk : Int → List Rn → Bool
  | _, [] => true
  | f, x :: l => okR f x && chk (x.e + 1) l
def right (l : List Rn) : Bool := chk 0 l
def cont : List Rn → Int → UInt8
  | [], _ => 0
  | x :: l, i => if x.a ≤ i ∧ i < x.e then x.t.getD (i - x.a).toNat 0 else cont l i
theorem okR_iff {f : Int} {x : Rn} : okR f x = true ↔ f ≤ x.a ∧ x.e ≤ 65536 ∧ 0 < x.t.length ∧ x.t.contains 0 = false := by
  unfold okR
  simp only [Bool.and_eq_true, decide_eq_true_eq, Bool.not_eq_true']
theorem chk_cons {f : Int} {x : Rn} {l : List Rn} : chk f (x :: l) = true ↔ okR f x = true ∧ chk (x.e + 1) l = true := by
  show (okR f x && chk (x.e + 1) l) = true ↔ _
  rw [Bool.and_eq_true]
theorem okR_mono {f g : Int} {x : Rn} (h : f ≤ g) (hg : okR g x = true) : okR f x = true := by
  rw [okR_iff] at *
  exact ⟨Int.le_trans h hg.1, hg.2⟩
theorem chk_mono {f g : Int} (h : f ≤ g) : ∀ {l : List Rn}, chk g l = true → chk f l = true
  | [], _ => rfl
  | x :: l, hl => by
    rw [chk_cons] at *
    exact ⟨okR_mono h hl.1, hl.2⟩
theorem not_zero {t : List UInt8} (h : t.contains 0 = false) (i : Nat) (hi : i < t.length) : t.getD i 0 ≠ 0 := by
  rw [List.getD_eq_getElem?_getD, List.getElem?_eq_getElem hi, Option.getD_some]
  intro e
  have : t.contains 0 = true := by rw [List.contains_iff_mem, ← e]; exact List.getElem_mem hi
  rw [h] at this; cases this
theorem cont_nil (i : Int) : cont [] i = 0 := rfl
theorem cont_in {x : Rn} {l : List Rn} {i : Int} (h : x.a ≤ i) (h' : i < x.e) : cont (x :: l) i = x.t.getD (i - x.a).toNat 0 := by
  show (if _ then _ else _) = _
  rw [if_pos ⟨h, h'⟩]
theorem cont_out {x : Rn} {l : List Rn} {i : Int} (h : i < x.a ∨ x.e ≤ i) : cont (x :: l) i = cont l i := by
  show (if _ then _ else _) = _
  rw [if_neg (by omega)]
theorem cont_low : ∀ {l : List Rn} {f i : Int}, chk f l = true → i < f → cont l i = 0
  | [], _, _, _, _ => rfl
  | x :: l, f, i, h, hi => by
    rw [chk_cons, okR_iff] at h
    have hx : x.e = x.a + (x.t.length : Int) := rfl
    rw [cont_out (.inl (by omega))]
    exact cont_low h.2 (by omega)
theorem cont_hi : ∀ {l : List Rn} {f i : Int}, chk f l = true → 65536 ≤ i → cont l i = 0
  | [], _, _, _, _ => rfl
  | x :: l, f, i, h, hi => by
    rw [chk_cons, okR_iff] at h
    rw [cont_out (.inr (by omega))]
    exact cont_hi h.2 hi
theorem cont_head {x : Rn} {l : List Rn} {f : Int} (h : chk f (x :: l) = true) {i : Int} (hi : x.a ≤ i) (hi' : i < x.e) : cont (x :: l) i ≠ 0 := by
  rw [chk_cons, okR_iff] at h
  have hx : x.e = x.a + (x.t.length : Int) := rfl
  rw [cont_in hi hi']
  exact not_zero h.1.2.2.2 _ (by omega)
/-- Two right lists that read the same are the same. -/
theorem uniq : ∀ {l m : List Rn} {f : Int}, chk f l = true → chk f m = true → (∀ i, f ≤ i → cont l i = cont m i) → l = m
  | [], [], _, _, _, _ => rfl
  | [], y :: m, f, _, hm, h => by
    have hy := hm
    rw [chk_cons, okR_iff] at hy
    have hx : y.e = y.a + (y.t.length : Int) := rfl
    exact absurd (h y.a hy.1.1).symm (cont_head hm (Int.le_refl _) (by omega))
  | x :: l, [], f, hl, _, h => by
    have hy := hl
    rw [chk_cons, okR_iff] at hy
    have hx : x.e = x.a + (x.t.length : Int) := rfl
    exact absurd (h x.a hy.1.1) (cont_head hl (Int.le_refl _) (by omega))
  | x :: l, y :: m, f, hl, hm, h => by
    have hx0 := hl
    have hy0 := hm
    rw [chk_cons, okR_iff] at hx0 hy0
    obtain ⟨⟨x1, x2, x3, x4⟩, x5⟩ := hx0
    obtain ⟨⟨y1, y2, y3, y4⟩, y5⟩ := hy0
    have hx : x.e = x.a + (x.t.length : Int) := rfl
    have hy : y.e = y.a + (y.t.length : Int) := rfl
    have ha : x.a = y.a := by
      rcases Int.lt_trichotomy x.a y.a with h1 | h1 | h1
      · have h2 := h x.a x1
        rw [cont_out (x := y) (.inl h1), cont_low y5 (by omega)] at h2
        exact absurd h2 (cont_head hl (Int.le_refl _) (by omega))
      · exact h1
      · have h2 := (h y.a y1).symm
        rw [cont_out (x := x) (.inl h1), cont_low x5 (by omega)] at h2
        exact absurd h2 (cont_head hm (Int.le_refl _) (by omega))
    have he : x.e = y.e := by
      rcases Int.lt_trichotomy x.e y.e with h1 | h1 | h1
      · have h2 := (h x.e (by omega)).symm
        rw [cont_out (x := x) (.inr (Int.le_refl _)), cont_low x5 (by omega)] at h2
        exact absurd h2 (cont_head hm (by omega) h1)
      · exact h1
      · have h2 := h y.e (by omega)
        rw [cont_out (x := y) (.inr (Int.le_refl _)), cont_low y5 (by omega)] at h2
        exact absurd h2 (cont_head hl (by omega) h1)
    have ht : x.t = y.t := by
      apply List.ext_getElem?
      intro j
      by_cases hj : j < x.t.length
      · have h2 := h (x.a + (j : Int)) (by omega)
        rw [cont_in (by omega) (by omega), cont_in (by omega) (by omega)] at h2
        rw [show (x.a + (j : Int) - x.a).toNat = j by omega, show (x.a + (j : Int) - y.a).toNat = j by omega] at h2
        have hj2 : j < y.t.length := by omega
        rw [List.getD_eq_getElem?_getD, List.getD_eq_getElem?_getD, List.getElem?_eq_getElem hj, List.getElem?_eq_getElem hj2, Option.getD_some, Option.getD_some] at h2
        rw [List.getElem?_eq_getElem hj, List.getElem?_eq_getElem hj2, h2]
      · rw [List.getElem?_eq_none (by omega), List.getElem?_eq_none (by omega)]
    obtain ⟨xa, xt⟩ := x
    obtain ⟨ya, yt⟩ := y
    dsimp only at ha ht
    subst ha ht
    congr 1
    refine uniq x5 y5 fun i hi => ?_
    have h2 := h i (by omega)
    rwa [cont_out (.inr (by omega)), cont_out (.inr (by omega))] at h2
theorem uniq0 {l m : List Rn} (hl : right l = true) (hm : right m = true) (h : ∀ i, 0 ≤ i → i < 65536 → cont l i = cont m i) : l = m := by
  refine uniq hl hm fun i hi => ?_
  rcases Int.lt_or_le i 65536 with h1 | h1
  · exact h i hi h1
  · rw [cont_hi hl h1, cont_hi hm h1]
/-- What is right part by part. -/
theorem chk_mem : ∀ {l : List Rn} {f : Int}, chk f l = true → ∀ x ∈ l, okR f x = true
  | [], _, _, _, h => by cases h
  | y :: l, f, h, x, hx => by
    have h0 := h
    rw [chk_cons] at h
    rcases List.mem_cons.1 hx with rfl | hx
    · exact h.1
    · have h1 := okR_iff.1 h.1
      have hy : y.e = y.a + (y.t.length : Int) := rfl
      exact okR_mono (by omega) (chk_mem h.2 x hx)

/-! ### Bytes as runs -/
def push (k : Int) (c : UInt8) : List Rn → List Rn
  | [] => [⟨k, [c]⟩]
  | x :: l => if x.a = k + 1 then ⟨k, c :: x.t⟩ :: l else ⟨k, [c]⟩ :: x :: l
def gat : Int → List UInt8 → List Rn
  | _, [] => []
  | k, c :: b => if c = 0 then gat (k + 1) b else push k c (gat (k + 1) b)
theorem chk_push {k : Int} {c : UInt8} {l : List Rn} (hc : c ≠ 0) (hk : k + 1 ≤ 65536) (h : chk (k + 1) l = true) : chk k (push k c l) = true := by
  have hc0 : [c].contains 0 = false := by
    simp only [List.contains_cons, List.contains_nil, Bool.or_false]
    exact beq_false_of_ne (fun e => hc e.symm)
  cases l with
  | nil =>
    show chk k [⟨k, [c]⟩] = true
    rw [chk_cons, okR_iff]
    exact ⟨⟨Int.le_refl _, by unfold Rn.e; simpa using hk, by simp, hc0⟩, rfl⟩
  | cons x l =>
    have h0 := h
    rw [chk_cons, okR_iff] at h0
    obtain ⟨⟨h1, h2, h3, h4⟩, h5⟩ := h0
    have hx : x.e = x.a + (x.t.length : Int) := rfl
    show chk k (if x.a = k + 1 then ⟨k, c :: x.t⟩ :: l else ⟨k, [c]⟩ :: x :: l) = true
    split
    · rename_i e
      rw [chk_cons, okR_iff]
      have he : (⟨k, c :: x.t⟩ : Rn).e = x.e := by unfold Rn.e; simp only [List.length_cons]; omega
      rw [he]
      refine ⟨⟨Int.le_refl _, h2, by simp, ?_⟩, h5⟩
      rw [List.contains_cons, h4, Bool.or_false]
      exact beq_false_of_ne (fun e => hc e.symm)
    · rename_i e
      rw [chk_cons, okR_iff]
      have he : (⟨k, [c]⟩ : Rn).e = k + 1 := rfl
      rw [he]
      refine ⟨⟨Int.le_refl _, hk, by simp, hc0⟩, ?_⟩
      rw [chk_cons, okR_iff]
      exact ⟨⟨by omega, h2, h3, h4⟩, h5⟩
theorem cont_push {k : Int} {c : UInt8} {l : List Rn} (h : chk (k + 1) l = true) (i : Int) : cont (push k c l) i = if i = k then c else cont l i := by
  cases l with
  | nil =>
    show cont [⟨k, [c]⟩] i = _
    have he : (⟨k, [c]⟩ : Rn).e = k + 1 := rfl
    split
    · rename_i e
      rw [cont_in (by show k ≤ i; omega) (by rw [he]; omega)]
      rw [show (i - (⟨k, [c]⟩ : Rn).a).toNat = 0 by show (i - k).toNat = 0; omega]
      rfl
    · rw [cont_out (by rw [he]; show i < k ∨ k + 1 ≤ i; omega)]
  | cons x l =>
    have h0 := h
    rw [chk_cons, okR_iff] at h0
    obtain ⟨⟨h1, h2, h3, h4⟩, h5⟩ := h0
    have hx : x.e = x.a + (x.t.length : Int) := rfl
    show cont (if x.a = k + 1 then ⟨k, c :: x.t⟩ :: l else ⟨k, [c]⟩ :: x :: l) i = _
    split
    · rename_i e
      have he : (⟨k, c :: x.t⟩ : Rn).e = x.e := by unfold Rn.e; simp only [List.length_cons]; omega
      rcases Int.lt_trichotomy i k with h6 | h6 | h6
      · rw [if_neg (by omega), cont_out (by left; exact h6), cont_out (by left; omega)]
      · rw [if_pos h6, cont_in (by show k ≤ i; omega) (by rw [he]; omega)]
        rw [show (i - (⟨k, c :: x.t⟩ : Rn).a).toNat = 0 by show (i - k).toNat = 0; omega]
        rfl
      · rw [if_neg (by omega)]
        rcases Int.lt_or_le i x.e with h7 | h7
        · rw [cont_in (by show k ≤ i; omega) (by rw [he]; omega), cont_in (by omega) h7]
          rw [show (i - (⟨k, c :: x.t⟩ : Rn).a).toNat = (i - x.a).toNat + 1 by show (i - k).toNat = _; omega]
          rfl
        · rw [cont_out (by right; rw [he]; exact h7), cont_out (by right; exact h7)]
    · rename_i e
      have he : (⟨k, [c]⟩ : Rn).e = k + 1 := rfl
      split
      · rename_i e
        rw [cont_in (by show k ≤ i; omega) (by rw [he]; omega)]
        rw [show (i - (⟨k, [c]⟩ : Rn).a).toNat = 0 by show (i - k).toNat = 0; omega]
        rfl
      · rw [cont_out (by rw [he]; show i < k ∨ k + 1 ≤ i; omega)]
theorem chk_gat : ∀ (b : List UInt8) (k : Int), k + (b.length : Int) ≤ 65536 → chk k (gat k b) = true
  | [], _, _ => rfl
  | c :: b, k, h => by
    rw [List.length_cons] at h
    have h1 := chk_gat b (k + 1) (by omega)
    show chk k (if _ then _ else _) = true
    split
    · exact chk_mono (by omega) h1
    · rename_i hc
      exact chk_push hc (by omega) h1
theorem cont_gat : ∀ (b : List UInt8) (k : Int), k + (b.length : Int) ≤ 65536 → ∀ i, cont (gat k b) i = if k ≤ i ∧ i < k + (b.length : Int) then b.getD (i - k).toNat 0 else 0
  | [], k, _, i => by
    rw [if_neg (by simp only [List.length_nil]; omega)]
    rfl
  | c :: b, k, h, i => by
    rw [List.length_cons] at h ⊢
    have h1 := chk_gat b (k + 1) (by omega)
    have h2 := cont_gat b (k + 1) (by omega) i
    show cont (if _ then _ else _) i = _
    have key : (if i = k then c else cont (gat (k + 1) b) i) = if k ≤ i ∧ i < k + ((b.length + 1 : Nat) : Int) then (c :: b).getD (i - k).toNat 0 else 0 := by
      by_cases hi : i = k
      · subst hi
        rw [if_pos rfl, if_pos (by omega), show (i - i).toNat = 0 by omega]
        rfl
      · rw [if_neg hi, h2]
        by_cases h3 : k + 1 ≤ i ∧ i < k + 1 + (b.length : Int)
        · rw [if_pos h3, if_pos (by omega), show (i - k).toNat = (i - (k + 1)).toNat + 1 by omega]
          rfl
        · rw [if_neg h3, if_neg (by omega)]
    split
    · rename_i hc
      rw [← key]
      split
      · rename_i hi
        rw [cont_low h1 (by omega), hc]
      · rfl
    · rw [cont_push h1, key]
theorem gat_low {b : List UInt8} {k : Int} (h : k + (b.length : Int) ≤ 65536) : ∀ x ∈ gat k b, k ≤ x.a := fun x hx => (okR_iff.1 (chk_mem (chk_gat b k h) x hx)).1
/-- Zeros ahead are passed by. -/
theorem gat_zeros : ∀ (z : Nat) (k : Int) (b : List UInt8), gat k (List.replicate z 0 ++ b) = gat (k + (z : Int)) b
  | 0, k, b => by rw [List.replicate_zero, List.nil_append]; congr 1; omega
  | z + 1, k, b => by
    rw [List.replicate_succ, List.cons_append]
    show (if _ then _ else _) = _
    rw [if_pos rfl, gat_zeros z (k + 1) b]
    congr 1
    omega
/-- A stretch of bytes that aren't 0, and no more behind. -/
theorem gat_run : ∀ (t : List UInt8) (k : Int) (b : List UInt8), t ≠ [] → t.contains 0 = false → (∀ c r, b = c :: r → c = 0) → gat k (t ++ b) = ⟨k, t⟩ :: gat (k + (t.length : Int)) b
  | [], _, _, h, _, _ => absurd rfl h
  | [c], k, b, _, h, hb => by
    have hc : c ≠ 0 := fun e => by rw [e] at h; simp at h
    show (if _ then _ else _) = _
    rw [if_neg hc]
    show push k c (gat (k + 1) b) = ⟨k, [c]⟩ :: gat (k + 1) b
    cases b with
    | nil => rfl
    | cons d r =>
      obtain rfl := hb d r rfl
      have e1 : gat (k + 1) (0 :: r) = gat (k + 1 + 1) r := by
        show (if _ then _ else _) = _
        rw [if_pos rfl]
      rw [e1]
      cases hg : gat (k + 1 + 1) r with
      | nil => rfl
      | cons x l =>
        unfold push
        have hx : ∀ (b : List UInt8) (k : Int) (x : Rn) (l : List Rn), gat k b = x :: l → k ≤ x.a := by
          intro b
          induction b with
          | nil => intro k x l h; cases h
          | cons c b ih =>
            intro k x l h
            have h' : (if c = 0 then gat (k + 1) b else push k c (gat (k + 1) b)) = x :: l := h
            split at h'
            · exact Int.le_trans (by omega) (ih _ _ _ h')
            · unfold push at h'
              split at h'
              · injection h' with h' _; rw [← h']; exact Int.le_refl _
              · split at h'
                · injection h' with h' _; rw [← h']; exact Int.le_refl _
                · injection h' with h' _; rw [← h']; exact Int.le_refl _
        have := hx _ _ _ _ hg
        show (if x.a = k + 1 then ⟨k, c :: x.t⟩ :: l else ⟨k, [c]⟩ :: x :: l) = _
        rw [if_neg (by omega)]
  | c :: d :: t, k, b, _, h, hb => by
    rw [List.contains_cons, Bool.or_eq_false_iff] at h
    have hc : c ≠ 0 := fun e => by rw [e] at h; simp at h
    have ih := gat_run (d :: t) (k + 1) b (by simp) h.2 hb
    rw [List.cons_append]
    show (if _ then _ else _) = _
    rw [if_neg hc]
    have ih' : gat (k + 1) (d :: t ++ b) = ⟨k + 1, d :: t⟩ :: gat (k + 1 + ((d :: t).length : Int)) b := ih
    show push k c (gat (k + 1) (d :: t ++ b)) = _
    rw [ih']
    show (if k + 1 = k + 1 then ⟨k, c :: d :: t⟩ :: gat (k + 1 + ((d :: t).length : Int)) b else _ :: _ :: _) = _
    rw [if_pos rfl]
    congr 2
    simp only [List.length_cons]
    omega
/-- All at once: zeros, a stretch, the rest. -/
theorem gat_nil_zeros (z : Nat) (k : Int) : gat k (List.replicate z 0) = [] := by
  have := gat_zeros z k []
  rw [List.append_nil] at this
  exact this

/-! ### A part of a list -/
def clip1 (f t : Int) (x : Rn) : Option Rn := if max x.a f < min x.e t then some ⟨max x.a f, (x.t.drop (max x.a f - x.a).toNat).take (min x.e t - max x.a f).toNat⟩ else none
def clip (f t : Int) (l : List Rn) : List Rn := l.filterMap (clip1 f t)
theorem clip_cons (f t : Int) (x : Rn) (l : List Rn) : clip f t (x :: l) = (match clip1 f t x with | none => clip f t l | some y => y :: clip f t l) := by
  unfold clip
  rw [List.filterMap_cons]
  cases clip1 f t x <;> rfl
theorem clip1_some {f t : Int} {x y : Rn} (h : clip1 f t x = some y) : y.a = max x.a f ∧ y.e = min x.e t ∧ y.a < y.e ∧ ∀ i, y.a ≤ i → i < y.e → y.t.getD (i - y.a).toNat 0 = x.t.getD (i - x.a).toNat 0 := by
  unfold clip1 at h
  split at h
  · rename_i hlt
    injection h with h
    have hx : x.e = x.a + (x.t.length : Int) := rfl
    have hl : (((x.t.drop (max x.a f - x.a).toNat).take (min x.e t - max x.a f).toNat).length : Int) = min x.e t - max x.a f := by
      rw [List.length_take, List.length_drop]
      omega
    have he : y.e = min x.e t := by
      rw [← h]
      unfold Rn.e
      dsimp only
      unfold Rn.e at hl
      rw [hl]
      omega
    have ha : y.a = max x.a f := by rw [← h]
    refine ⟨ha, he, by rw [ha, he]; exact hlt, fun i h1 h2 => ?_⟩
    rw [ha] at h1 ⊢
    rw [he] at h2
    rw [← h]
    dsimp only
    rw [List.getD_eq_getElem?_getD, List.getD_eq_getElem?_getD, List.getElem?_take_of_lt (by omega), List.getElem?_drop]
    congr 2
    omega
  · cases h
theorem take_clean {t : List UInt8} (h : t.contains 0 = false) (i n : Nat) : ((t.drop i).take n).contains 0 = false := by
  cases hb : ((t.drop i).take n).contains 0 with
  | false => rfl
  | true =>
    rw [List.contains_iff_mem] at hb
    have := List.mem_of_mem_drop (List.mem_of_mem_take hb)
    rw [← List.contains_iff_mem, h] at this
    cases this
theorem clip1_ok {f t g : Int} {x y : Rn} (h : clip1 f t x = some y) (hx : okR g x = true) : okR (max g f) y = true ∧ y.e ≤ x.e := by
  obtain ⟨h1, h2, h3, _⟩ := clip1_some h
  rw [okR_iff] at *
  obtain ⟨g1, g2, g3, g4⟩ := hx
  have hy : y.e = y.a + (y.t.length : Int) := rfl
  refine ⟨⟨by omega, by omega, by omega, ?_⟩, by omega⟩
  unfold clip1 at h
  split at h
  · injection h with h
    rw [← h]
    exact take_clean g4 _ _
  · cases h
theorem chk_clip (f t : Int) : ∀ {l : List Rn} {g : Int}, chk g l = true → chk (max g f) (clip f t l) = true
  | [], _, _ => rfl
  | x :: l, g, h => by
    rw [chk_cons] at h
    rw [clip_cons]
    have hx := okR_iff.1 h.1
    have hxe : x.e = x.a + (x.t.length : Int) := rfl
    have ih := chk_clip f t h.2
    cases hc : clip1 f t x with
    | none => exact chk_mono (by omega) ih
    | some y =>
      obtain ⟨h1, h2⟩ := clip1_ok hc h.1
      dsimp only
      rw [chk_cons]
      exact ⟨h1, chk_mono (by omega) ih⟩
theorem cont_clip (f t : Int) : ∀ {l : List Rn} {g : Int}, chk g l = true → ∀ i, cont (clip f t l) i = if f ≤ i ∧ i < t then cont l i else 0
  | [], _, _, i => by show (0 : UInt8) = _; split <;> rfl
  | x :: l, g, h, i => by
    have h0 := h
    rw [chk_cons] at h
    rw [clip_cons]
    have hx := okR_iff.1 h.1
    have hxe : x.e = x.a + (x.t.length : Int) := rfl
    have ih := cont_clip f t h.2 i
    have hcl := chk_clip f t h.2
    cases hc : clip1 f t x with
    | none =>
      dsimp only
      rw [ih]
      have hnot : ¬ max x.a f < min x.e t := by
        unfold clip1 at hc
        split at hc
        · cases hc
        · assumption
      by_cases hi : f ≤ i ∧ i < t
      · rw [if_pos hi, if_pos hi, cont_out (by omega)]
      · rw [if_neg hi, if_neg hi]
    | some y =>
      obtain ⟨h1, h2, h3, h4⟩ := clip1_some hc
      dsimp only
      by_cases hy : y.a ≤ i ∧ i < y.e
      · rw [cont_in hy.1 hy.2, h4 i hy.1 hy.2, if_pos (by omega), cont_in (by omega) (by omega)]
      · rw [cont_out (by omega), ih]
        by_cases hi : f ≤ i ∧ i < t
        · rw [if_pos hi, if_pos hi, cont_out (by omega)]
        · rw [if_neg hi, if_neg hi]
theorem clip_top (f t : Int) : ∀ {l : List Rn}, ∀ x ∈ clip f t l, x.e ≤ t ∧ f ≤ x.a := fun x hx => by
  unfold clip at hx
  obtain ⟨y, _, hy⟩ := List.mem_filterMap.1 hx
  obtain ⟨h1, h2, h3, h4⟩ := clip1_some hy
  omega

/-! ### Parts one behind the other -/
def app1 : List Rn → Rn → List Rn
  | [], x => [x]
  | [y], x => if y.e = x.a then [⟨y.a, y.t ++ x.t⟩] else [y, x]
  | y :: z :: l, x => y :: app1 (z :: l) x
def joinP (ps : List (List Rn)) : List Rn := ps.flatten.foldl app1 []
theorem app1_snoc : ∀ (l : List Rn) (y x : Rn), app1 (l ++ [y]) x = if y.e = x.a then l ++ [⟨y.a, y.t ++ x.t⟩] else l ++ [y] ++ [x]
  | [], y, x => by
    show app1 [y] x = _
    rfl
  | z :: l, y, x => by
    have ih := app1_snoc l y x
    have : app1 (z :: l ++ [y]) x = z :: app1 (l ++ [y]) x := by
      cases l <;> rfl
    rw [this, ih]
    split <;> rfl
/-- All of l lies below place k. -/
def under (k : Int) (l : List Rn) : Prop := ∀ x ∈ l, x.e ≤ k
theorem app1_facts : ∀ {l : List Rn} {x : Rn} {f : Int}, chk f l = true → okR f x = true → under x.a l → chk f (app1 l x) = true ∧ under x.e (app1 l x) ∧ ∀ i, cont (app1 l x) i = if x.a ≤ i ∧ i < x.e then x.t.getD (i - x.a).toNat 0 else cont l i
  | [], x, f, _, hx, _ => by
    refine ⟨?_, fun y hy => ?_, fun i => rfl⟩
    · show chk f [x] = true
      rw [chk_cons]; exact ⟨hx, rfl⟩
    · have : y = x := by simpa [app1] using hy
      rw [this]; exact Int.le_refl _
  | [y], x, f, hl, hx, hu => by
    have h0 := okR_iff.1 (chk_cons.1 hl).1
    have h1 := okR_iff.1 hx
    have hye : y.e = y.a + (y.t.length : Int) := rfl
    have hxe : x.e = x.a + (x.t.length : Int) := rfl
    have hyu := hu y (by simp)
    show chk f (if y.e = x.a then [⟨y.a, y.t ++ x.t⟩] else [y, x]) = true ∧ under x.e (if y.e = x.a then [⟨y.a, y.t ++ x.t⟩] else [y, x]) ∧ ∀ i, cont (if y.e = x.a then [⟨y.a, y.t ++ x.t⟩] else [y, x]) i = _
    by_cases he : y.e = x.a
    · simp only [if_pos he]
      have hze : (⟨y.a, y.t ++ x.t⟩ : Rn).e = x.e := by unfold Rn.e; dsimp only; rw [List.length_append]; omega
      refine ⟨?_, fun z hz => ?_, fun i => ?_⟩
      · rw [chk_cons, okR_iff, hze]
        refine ⟨⟨h0.1, h1.2.1, by dsimp only; rw [List.length_append]; omega, ?_⟩, rfl⟩
        dsimp only
        cases hb : (y.t ++ x.t).contains 0 with
        | false => rfl
        | true =>
          rw [List.contains_iff_mem, List.mem_append, ← List.contains_iff_mem, ← List.contains_iff_mem, h0.2.2.2, h1.2.2.2] at hb
          rcases hb with h | h <;> cases h
      · have : z = ⟨y.a, y.t ++ x.t⟩ := by simpa using hz
        rw [this, hze]; exact Int.le_refl _
      · rcases Int.lt_or_le i y.a with h2 | h2
        · rw [cont_out (by left; exact h2), if_neg (by omega), cont_out (by left; exact h2)]
        · rcases Int.lt_or_le i x.e with h3 | h3
          · rw [cont_in (x := ⟨y.a, y.t ++ x.t⟩) h2 (by rw [hze]; exact h3)]
            dsimp only
            rcases Int.lt_or_le i x.a with h4 | h4
            · rw [if_neg (by omega), cont_in h2 (by omega), List.getD_eq_getElem?_getD, List.getElem?_append_left (by omega), ← List.getD_eq_getElem?_getD]
            · rw [if_pos ⟨h4, h3⟩, List.getD_eq_getElem?_getD, List.getElem?_append_right (by omega), ← List.getD_eq_getElem?_getD]
              congr 1
              omega
          · rw [cont_out (by right; rw [hze]; exact h3), if_neg (by omega), cont_out (by right; omega)]
    · simp only [if_neg he]
      refine ⟨?_, fun z hz => ?_, fun i => ?_⟩
      · rw [chk_cons, chk_cons, okR_iff, okR_iff]
        exact ⟨h0, ⟨⟨by omega, h1.2⟩, rfl⟩⟩
      · rcases List.mem_cons.1 hz with rfl | hz
        · omega
        · have : z = x := by simpa using hz
          rw [this]; exact Int.le_refl _
      · by_cases h2 : y.a ≤ i ∧ i < y.e
        · rw [cont_in h2.1 h2.2, if_neg (by omega), cont_in h2.1 h2.2]
        · rw [cont_out (by omega)]
          show (if _ then _ else cont [] i) = _
          rw [cont_out (x := y) (by omega)]
  | y :: z :: l, x, f, hl, hx, hu => by
    have h0 := (chk_cons.1 hl)
    have h00 := okR_iff.1 h0.1
    have hye : y.e = y.a + (y.t.length : Int) := rfl
    have h2 := okR_iff.1 (chk_cons.1 h0.2).1
    have hz := hu z (by simp)
    have hze : z.e = z.a + (z.t.length : Int) := rfl
    have h1 := okR_iff.1 hx
    have hxe : x.e = x.a + (x.t.length : Int) := rfl
    obtain ⟨i1, i2, i3⟩ := app1_facts (l := z :: l) (x := x) h0.2 (okR_iff.2 ⟨by omega, h1.2⟩) (fun q hq => hu q (List.mem_cons_of_mem _ hq))
    show chk f (y :: app1 (z :: l) x) = true ∧ under x.e (y :: app1 (z :: l) x) ∧ ∀ i, cont (y :: app1 (z :: l) x) i = _
    refine ⟨chk_cons.2 ⟨h0.1, i1⟩, fun q hq => ?_, fun i => ?_⟩
    · rcases List.mem_cons.1 hq with rfl | hq
      · have := hu q (by simp); omega
      · exact i2 q hq
    · by_cases h5 : y.a ≤ i ∧ i < y.e
      · rw [cont_in h5.1 h5.2, if_neg (by have := hu y (by simp); omega), cont_in h5.1 h5.2]
      · rw [cont_out (by omega), i3 i, cont_out (x := y) (by omega)]
/-- A right part behind what is there. -/
theorem join_part : ∀ {p l : List Rn} {k : Int}, chk 0 l = true → under k l → 0 ≤ k → chk k p = true → chk 0 (p.foldl app1 l) = true ∧ (∀ i, cont (p.foldl app1 l) i = if k ≤ i then cont p i else cont l i) ∧ ∀ h, k ≤ h → under h p → under h (p.foldl app1 l)
  | [], l, k, hl, hu, _, _ => by
    refine ⟨hl, fun i => ?_, fun h hk _ x hx => Int.le_trans (hu x hx) hk⟩
    show cont l i = _
    split
    · rename_i hi
      have : ∀ {l : List Rn}, (∀ x ∈ l, x.e ≤ i) → cont l i = 0 := by
        intro l
        induction l with
        | nil => intro _; rfl
        | cons x l ih =>
          intro h
          rw [cont_out (by right; exact h x (by simp))]
          exact ih (fun y hy => h y (List.mem_cons_of_mem _ hy))
      rw [this (fun x hx => Int.le_trans (hu x hx) hi)]
      rfl
    · rfl
  | x :: p, l, k, hl, hu, hk, hp => by
    have h0 := chk_cons.1 hp
    have h1 := okR_iff.1 h0.1
    have hxe : x.e = x.a + (x.t.length : Int) := rfl
    obtain ⟨a1, a2, a3⟩ := app1_facts (l := l) (x := x) hl (okR_mono hk h0.1) (fun q hq => Int.le_trans (hu q hq) h1.1)
    obtain ⟨b1, b2, b3⟩ := join_part (p := p) (k := x.e) a1 a2 (by omega) (chk_mono (by omega) h0.2)
    refine ⟨b1, fun i => ?_, fun h hk' hh => ?_⟩
    · show cont (p.foldl app1 (app1 l x)) i = _
      rw [b2 i]
      by_cases h2 : x.e ≤ i
      · rw [if_pos h2, if_pos (by omega), cont_out (by right; exact h2)]
      · rw [if_neg h2, a3 i]
        by_cases h3 : x.a ≤ i
        · rw [if_pos (by omega), if_pos (by omega), cont_in h3 (by omega)]
        · rw [if_neg (by omega)]
          by_cases h4 : k ≤ i
          · rw [if_pos h4, cont_out (by left; omega), cont_low h0.2 (by omega)]
            have : ∀ {l : List Rn}, (∀ x ∈ l, x.e ≤ i) → cont l i = 0 := by
              intro l
              induction l with
              | nil => intro _; rfl
              | cons x l ih =>
                intro h
                rw [cont_out (by right; exact h x (by simp))]
                exact ih (fun y hy => h y (List.mem_cons_of_mem _ hy))
            exact this (fun q hq => Int.le_trans (hu q hq) h4)
          · rw [if_neg h4]
    · exact b3 h (hh x (by simp)) (fun q hq => hh q (List.mem_cons_of_mem _ hq))
end Go.Proofs.YtmbmjdogfjmlpaaDoor.Sp
