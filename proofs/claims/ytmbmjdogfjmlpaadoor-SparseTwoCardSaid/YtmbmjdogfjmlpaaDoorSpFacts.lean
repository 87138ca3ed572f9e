/- Puts, holes, bytes of contents as runs, in plain words: what they read as, and that the document's way by bytes gives the same. -/
import Derived.Test.YtmbmjdogfjmlpaaDoorSpPlain
namespace Go.Proofs.YtmbmjdogfjmlpaaDoor.Sp
set_option maxRecDepth 20000
theorem cont_mem : ∀ {l : List Rn} {f : Int}, chk f l = true → ∀ x ∈ l, ∀ i, x.a ≤ i → i < x.e → cont l i ≠ 0
  | [], _, _, x, hx, _, _, _ => by cases hx
  | y :: l, f, h, x, hx, i, h1, h2 => by
    rcases List.mem_cons.1 hx with rfl | hx
    · exact cont_head h h1 h2
    · have h0 := chk_cons.1 h
      have hy := okR_iff.1 h0.1
      have hxo := okR_iff.1 (chk_mem h0.2 x hx)
      rw [cont_out (by right; omega)]
      exact cont_mem h0.2 x hx i h1 h2
theorem chk_len : ∀ {l : List Rn} {f : Int}, chk f l = true → f ≤ 65538 → (l.length : Int) + f ≤ 65538
  | [], f, _, h => by simp only [List.length_nil]; omega
  | x :: l, f, h, _ => by
    have h0 := chk_cons.1 h
    have hx := okR_iff.1 h0.1
    have hxe : x.e = x.a + (x.t.length : Int) := rfl
    have := chk_len h0.2 (by omega)
    rw [List.length_cons]
    omega
theorem right_len {l : List Rn} (h : right l = true) : l.length ≤ 65538 := by
  have := chk_len h (by omega)
  omega
theorem gat_top {b : List UInt8} {k : Int} (h : k + (b.length : Int) ≤ 65536) : under (k + (b.length : Int)) (gat k b) := fun x hx => by
  have hc := chk_gat b k h
  have hx0 := okR_iff.1 (chk_mem hc x hx)
  have hxe : x.e = x.a + (x.t.length : Int) := rfl
  have := cont_mem hc x hx (x.e - 1) (by omega) (by omega)
  rw [cont_gat b k h] at this
  by_cases hi : k ≤ x.e - 1 ∧ x.e - 1 < k + (b.length : Int)
  · omega
  · rw [if_neg hi] at this
    exact absurd rfl this
/-- Parts in zones. -/
theorem join2 {p q : List Rn} {k : Int} (hk : 0 ≤ k) (hp : chk 0 p = true) (hpk : under k p) (hq : chk k q = true) : right (joinP [p, q]) = true ∧ ∀ i, cont (joinP [p, q]) i = if k ≤ i then cont q i else cont p i := by
  obtain ⟨a1, a2, a3⟩ := join_part (p := p) (l := []) (k := 0) rfl (fun x hx => by cases hx) (Int.le_refl _) hp
  obtain ⟨b1, b2, _⟩ := join_part (p := q) (l := p.foldl app1 []) (k := k) a1 (a3 k hk hpk) hk hq
  have e : joinP [p, q] = q.foldl app1 (p.foldl app1 []) := by unfold joinP; simp [List.foldl_append]
  rw [e]
  refine ⟨b1, fun i => ?_⟩
  rw [b2 i]
  split
  · rfl
  · rw [a2 i]
    split
    · rfl
    · rw [cont_low hp (by omega)]; rfl
theorem join3 {p q r : List Rn} {k m : Int} (hk : 0 ≤ k) (hkm : k ≤ m) (hp : chk 0 p = true) (hpk : under k p) (hq : chk k q = true) (hqm : under m q) (hr : chk m r = true) :
    right (joinP [p, q, r]) = true ∧ ∀ i, cont (joinP [p, q, r]) i = if m ≤ i then cont r i else if k ≤ i then cont q i else cont p i := by
  obtain ⟨a1, a2, a3⟩ := join_part (p := p) (l := []) (k := 0) rfl (fun x hx => by cases hx) (Int.le_refl _) hp
  obtain ⟨b1, b2, b3⟩ := join_part (p := q) (l := p.foldl app1 []) (k := k) a1 (a3 k hk hpk) hk hq
  obtain ⟨c1, c2, _⟩ := join_part (p := r) (l := q.foldl app1 (p.foldl app1 [])) (k := m) b1 (b3 m hkm hqm) (by omega) hr
  have e : joinP [p, q, r] = r.foldl app1 (q.foldl app1 (p.foldl app1 [])) := by unfold joinP; simp [List.foldl_append]
  rw [e]
  refine ⟨c1, fun i => ?_⟩
  rw [c2 i]
  split
  · rfl
  · rw [b2 i]
    split
    · rfl
    · rw [a2 i]
      split
      · rfl
      · rw [cont_low hp (by omega)]; rfl
def putL (l : List Rn) (p : Int) (d : List UInt8) : List Rn := joinP [clip 0 p l, gat p d, clip (p + (d.length : Int)) 65536 l]
def zeroL (l : List Rn) (f t : Int) : List Rn := joinP [clip 0 f l, clip t 65536 l]
def bytesL (l : List Rn) (p : Int) (n : Nat) : List UInt8 := (List.range n).map fun (j : Nat) => cont l (p + (j : Int))
def endL (l : List Rn) : Int := match l.getLast? with | none => 0 | some x => x.e
theorem bytesL_len (l : List Rn) (p : Int) (n : Nat) : (bytesL l p n).length = n := by unfold bytesL; simp
theorem bytesL_get (l : List Rn) (p : Int) (n j : Nat) (h : j < n) : (bytesL l p n).getD j 0 = cont l (p + (j : Int)) := by
  unfold bytesL
  rw [List.getD_eq_getElem?_getD, List.getElem?_map, List.getElem?_range h]
  rfl
theorem put_facts {l : List Rn} {p : Int} {d : List UInt8} (hl : right l = true) (hp : 0 ≤ p) (hd : p + (d.length : Int) ≤ 65536) :
    right (putL l p d) = true ∧ ∀ i, cont (putL l p d) i = if p ≤ i ∧ i < p + (d.length : Int) then d.getD (i - p).toNat 0 else cont l i := by
  have h1 := chk_clip 0 p (l := l) (g := 0) hl
  have h2 := chk_clip (p + (d.length : Int)) 65536 (l := l) (g := 0) hl
  obtain ⟨j1, j2⟩ := join3 (p := clip 0 p l) (q := gat p d) (r := clip (p + (d.length : Int)) 65536 l) (k := p) (m := p + (d.length : Int)) hp (by omega)
    (chk_mono (by omega) h1) (fun x hx => (clip_top 0 p x hx).1) (chk_gat d p hd) (gat_top hd) (chk_mono (by omega) h2)
  refine ⟨j1, fun i => ?_⟩
  unfold putL
  rw [j2 i, cont_clip _ _ (g := 0) hl, cont_clip _ _ (g := 0) hl, cont_gat d p hd]
  by_cases h3 : p + (d.length : Int) ≤ i
  · rw [if_pos h3, if_neg (show ¬ (p ≤ i ∧ i < p + (d.length : Int)) by omega)]
    by_cases h4 : i < 65536
    · rw [if_pos (by omega)]
    · rw [if_neg (by omega), cont_hi hl (by omega)]
  · rw [if_neg h3]
    by_cases h4 : p ≤ i
    · rw [if_pos h4, if_pos (show p ≤ i ∧ i < p + (d.length : Int) by omega), if_pos (show p ≤ i ∧ i < p + (d.length : Int) by omega)]
    · rw [if_neg h4, if_neg (show ¬ (p ≤ i ∧ i < p + (d.length : Int)) by omega)]
      by_cases h5 : 0 ≤ i
      · rw [if_pos (by omega)]
      · rw [if_neg (by omega), cont_low hl (by omega)]
theorem zero_facts {l : List Rn} {f t : Int} (hl : right l = true) (hf : 0 ≤ f) (ht : f ≤ t) :
    right (zeroL l f t) = true ∧ ∀ i, cont (zeroL l f t) i = if f ≤ i ∧ i < t then 0 else cont l i := by
  have h1 := chk_clip 0 f (l := l) (g := 0) hl
  have h2 := chk_clip t 65536 (l := l) (g := 0) hl
  obtain ⟨j1, j2⟩ := join2 (p := clip 0 f l) (q := clip t 65536 l) (k := t) (by omega)
    (chk_mono (by omega) h1) (fun x hx => Int.le_trans (clip_top 0 f x hx).1 ht) (chk_mono (by omega) h2)
  refine ⟨j1, fun i => ?_⟩
  unfold zeroL
  rw [j2 i, cont_clip _ _ (g := 0) hl, cont_clip _ _ (g := 0) hl]
  by_cases h3 : t ≤ i
  · rw [if_pos h3, if_neg (show ¬ (f ≤ i ∧ i < t) by omega)]
    by_cases h4 : i < 65536
    · rw [if_pos (by omega)]
    · rw [if_neg (by omega), cont_hi hl (by omega)]
  · rw [if_neg h3]
    by_cases h4 : f ≤ i
    · rw [if_neg (by omega), if_pos (by omega)]
    · rw [if_neg (show ¬ (f ≤ i ∧ i < t) by omega)]
      by_cases h5 : 0 ≤ i
      · rw [if_pos (by omega)]
      · rw [if_neg (by omega), cont_low hl (by omega)]
/-- Bytes as runs are right; and they read as the bytes. -/
theorem of_facts {d : List UInt8} (hd : d.length ≤ 65536) : right (gat 0 d) = true ∧ ∀ i, cont (gat 0 d) i = if 0 ≤ i ∧ i < (d.length : Int) then d.getD i.toNat 0 else 0 := by
  refine ⟨chk_gat d 0 (by omega), fun i => ?_⟩
  rw [cont_gat d 0 (by omega), Int.zero_add, show i - 0 = i by omega]
/-- The end. -/
theorem endL_nil : endL [] = 0 := rfl
theorem endL_snoc (l : List Rn) (x : Rn) : endL (l ++ [x]) = x.e := by unfold endL; rw [List.getLast?_concat]
theorem cont_end {l : List Rn} (hl : right l = true) (i : Int) (h : endL l ≤ i) : cont l i = 0 := by
  have key : ∀ (l : List Rn) (f : Int), chk f l = true → (∀ x ∈ l, x.e ≤ i) → cont l i = 0 := by
    intro l
    induction l with
    | nil => intro _ _ _; rfl
    | cons x l ih =>
      intro f h hx
      rw [cont_out (by right; exact hx x (by simp))]
      exact ih _ (chk_cons.1 h).2 (fun y hy => hx y (List.mem_cons_of_mem _ hy))
  have key2 : ∀ (l : List Rn) (f : Int), chk f l = true → ∀ x ∈ l, x.e ≤ endL l := by
    intro l
    induction l with
    | nil => intro _ _ x hx; cases hx
    | cons y l ih =>
      intro f h x hx
      have h0 := chk_cons.1 h
      cases l with
      | nil =>
        have : x = y := by simpa using hx
        rw [this]; exact Int.le_refl _
      | cons z l =>
        have e : endL (y :: z :: l) = endL (z :: l) := rfl
        rw [e]
        rcases List.mem_cons.1 hx with rfl | hx
        · have h1 := ih _ h0.2 z (by simp)
          have h2 := okR_iff.1 (chk_cons.1 h0.2).1
          have hz : z.e = z.a + (z.t.length : Int) := rfl
          omega
        · exact ih _ h0.2 x hx
  exact key l 0 hl (fun x hx => Int.le_trans (key2 l 0 hl x hx) h)
theorem end_last {l : List Rn} (hl : right l = true) (h : l ≠ []) : 0 < endL l ∧ endL l ≤ 65536 ∧ cont l (endL l - 1) ≠ 0 := by
  obtain ⟨l', x, rfl⟩ : ∃ l' x, l = l' ++ [x] := ⟨l.dropLast, l.getLast h, (List.dropLast_concat_getLast h).symm⟩
  have hx := okR_iff.1 (chk_mem hl x (by simp))
  have hxe : x.e = x.a + (x.t.length : Int) := rfl
  rw [endL_snoc]
  exact ⟨by omega, hx.2.1, cont_mem hl x (by simp) _ (by omega) (by omega)⟩
theorem end_bound {l : List Rn} (hl : right l = true) : 0 ≤ endL l ∧ endL l ≤ 65536 := by
  by_cases h : l = []
  · subst h; rw [endL_nil]; omega
  · have := end_last hl h; omega

/-! ### The document's way: by bytes -/
def spr : List UInt8 → List Rn → List UInt8
  | b, [] => b
  | b, x :: l => spr (b ++ List.replicate (x.a.toNat - b.length) 0 ++ x.t) l
theorem getD_append_left {a b : List UInt8} {i : Nat} (h : i < a.length) : (a ++ b).getD i 0 = a.getD i 0 := by
  rw [List.getD_eq_getElem?_getD, List.getElem?_append_left h, ← List.getD_eq_getElem?_getD]
theorem getD_append_right {a b : List UInt8} {i : Nat} (h : a.length ≤ i) : (a ++ b).getD i 0 = b.getD (i - a.length) 0 := by
  rw [List.getD_eq_getElem?_getD, List.getElem?_append_right h, ← List.getD_eq_getElem?_getD]
theorem getD_rep (n i : Nat) : (List.replicate n (0 : UInt8)).getD i 0 = 0 := by
  rw [List.getD_eq_getElem?_getD, List.getElem?_replicate]
  split <;> rfl
theorem getD_off {a : List UInt8} {i : Nat} (h : a.length ≤ i) : a.getD i 0 = 0 := by
  rw [List.getD_eq_getElem?_getD, List.getElem?_eq_none h]; rfl
theorem spr_facts : ∀ (l : List Rn) (b : List UInt8), chk (b.length : Int) l = true → b.length ≤ 65536 → (spr b l).length ≤ 65536 ∧ ∀ i : Nat, (spr b l).getD i 0 = if i < b.length then b.getD i 0 else cont l (i : Int)
  | [], b, _, hb => by
    refine ⟨hb, fun i => ?_⟩
    show b.getD i 0 = _
    split
    · rfl
    · rw [getD_off (by omega)]; rfl
  | x :: l, b, h, hb => by
    have h0 := chk_cons.1 h
    have hx := okR_iff.1 h0.1
    have hxe : x.e = x.a + (x.t.length : Int) := rfl
    have hl : (b ++ List.replicate (x.a.toNat - b.length) 0 ++ x.t).length = x.e.toNat := by
      rw [List.length_append, List.length_append, List.length_replicate]; omega
    obtain ⟨i1, i2⟩ := spr_facts l (b ++ List.replicate (x.a.toNat - b.length) 0 ++ x.t) (chk_mono (by rw [hl]; omega) h0.2) (by rw [hl]; omega)
    refine ⟨i1, fun i => ?_⟩
    show (spr _ l).getD i 0 = _
    rw [i2 i, hl]
    by_cases h1 : i < b.length
    · rw [if_pos (by omega), if_pos h1, List.append_assoc, getD_append_left h1]
    · rw [if_neg h1]
      by_cases h2 : (i : Int) < x.a
      · rw [if_pos (by omega), getD_append_left (by rw [List.length_append, List.length_replicate]; omega), getD_append_right (by omega), getD_rep, cont_out (.inl h2), cont_low h0.2 (by omega)]
      · by_cases h3 : (i : Int) < x.e
        · rw [if_pos (by omega), getD_append_right (by rw [List.length_append, List.length_replicate]; omega), cont_in (by omega) h3]
          congr 1
          rw [List.length_append, List.length_replicate]
          omega
        · rw [if_neg (by omega), cont_out (.inr (by omega))]
theorem spr0 {l : List Rn} (hl : right l = true) : (spr [] l).length ≤ 65536 ∧ ∀ i : Nat, (spr [] l).getD i 0 = cont l (i : Int) := by
  obtain ⟨h1, h2⟩ := spr_facts l [] hl (by simp)
  exact ⟨h1, fun i => by rw [h2 i, if_neg (by simp)]⟩
/-- Bytes of which each is what a right list reads: gathered, they are the list. -/
theorem gat_is {l : List Rn} {b : List UInt8} (hl : right l = true) (hb : b.length ≤ 65536) (h : ∀ i : Nat, b.getD i 0 = cont l (i : Int)) : gat 0 b = l := by
  obtain ⟨h1, h2⟩ := of_facts hb
  refine uniq0 h1 hl fun i hi _ => ?_
  rw [h2 i]
  have e : ((i.toNat : Nat) : Int) = i := by omega
  have := h i.toNat
  rw [e] at this
  split
  · exact this
  · rw [← this, getD_off (by omega)]
def rput (b : List UInt8) (p : Nat) (d : List UInt8) : List UInt8 := (b ++ List.replicate (p + d.length - b.length) 0).take p ++ d ++ (b ++ List.replicate (p + d.length - b.length) 0).drop (p + d.length)
theorem getD_take {a : List UInt8} {n i : Nat} (h : i < n) : (a.take n).getD i 0 = a.getD i 0 := by
  rw [List.getD_eq_getElem?_getD, List.getElem?_take_of_lt h, ← List.getD_eq_getElem?_getD]
theorem getD_drop {a : List UInt8} {n i : Nat} : (a.drop n).getD i 0 = a.getD (n + i) 0 := by
  rw [List.getD_eq_getElem?_getD, List.getElem?_drop, ← List.getD_eq_getElem?_getD]
theorem getD_pad {b : List UInt8} {n i : Nat} : (b ++ List.replicate n 0).getD i 0 = b.getD i 0 := by
  by_cases h : i < b.length
  · rw [getD_append_left h]
  · rw [getD_append_right (by omega), getD_rep, getD_off (by omega)]
theorem rput_get (b : List UInt8) (p : Nat) (d : List UInt8) (i : Nat) : (rput b p d).getD i 0 = if p ≤ i ∧ i < p + d.length then d.getD (i - p) 0 else b.getD i 0 := by
  unfold rput
  have hl : (b ++ List.replicate (p + d.length - b.length) 0).length = b.length + (p + d.length - b.length) := by rw [List.length_append, List.length_replicate]
  by_cases h1 : i < p
  · rw [if_neg (by omega), List.append_assoc, getD_append_left (by rw [List.length_take, hl]; omega), getD_take h1, getD_pad]
  · by_cases h2 : i < p + d.length
    · rw [if_pos (by omega), List.append_assoc, getD_append_right (by rw [List.length_take, hl]; omega), getD_append_left (by rw [List.length_take, hl]; omega)]
      congr 1
      rw [List.length_take, hl]; omega
    · rw [if_neg (by omega), getD_append_right (by rw [List.length_append, List.length_take, hl]; omega), getD_drop, getD_pad]
      congr 1
      rw [List.length_append, List.length_take, hl]; omega
theorem rput_len (b : List UInt8) (p : Nat) (d : List UInt8) : (rput b p d).length = max b.length (p + d.length) := by
  unfold rput
  simp only [List.length_append, List.length_take, List.length_drop, List.length_replicate]
  omega
theorem put_is {l : List Rn} {p : Nat} {d : List UInt8} (hl : right l = true) (hd : p + d.length ≤ 65536) : gat 0 (rput (spr [] l) p d) = putL l (p : Int) d := by
  obtain ⟨h1, h2⟩ := put_facts (p := (p : Int)) (d := d) hl (by omega) (by omega)
  obtain ⟨h3, h4⟩ := spr0 hl
  refine gat_is h1 (by rw [rput_len]; omega) fun i => ?_
  rw [rput_get, h2, h4]
  by_cases h5 : p ≤ i ∧ i < p + d.length
  · rw [if_pos h5, if_pos (by omega)]
    congr 1
    omega
  · rw [if_neg h5, if_neg (by omega)]
/-- The bytes from place f to place t - 1 are 0. -/
def rzero (b : List UInt8) (f t : Nat) : List UInt8 := b.take f ++ List.replicate (min t b.length - f) 0 ++ b.drop (max f t)
theorem rzero_get (b : List UInt8) (f t i : Nat) (h : f ≤ t) : (rzero b f t).getD i 0 = if f ≤ i ∧ i < t then 0 else b.getD i 0 := by
  unfold rzero
  by_cases h1 : i < f
  · rw [if_neg (by omega), List.append_assoc]
    by_cases h2 : i < b.length
    · rw [getD_append_left (by rw [List.length_take]; omega), getD_take h1]
    · have : (b.take f ++ (List.replicate (min t b.length - f) 0 ++ b.drop (max f t))).length ≤ i := by
        simp only [List.length_append, List.length_take, List.length_drop, List.length_replicate]
        omega
      rw [getD_off this, getD_off (by omega)]
  · by_cases h2 : i < t
    · rw [if_pos (by omega)]
      by_cases h3 : i < b.length
      · rw [List.append_assoc, getD_append_right (by rw [List.length_take]; omega), getD_append_left (by rw [List.length_take, List.length_replicate]; omega), getD_rep]
      · have : (b.take f ++ List.replicate (min t b.length - f) 0 ++ b.drop (max f t)).length ≤ i := by
          simp only [List.length_append, List.length_take, List.length_drop, List.length_replicate]
          omega
        rw [getD_off this]
    · rw [if_neg (by omega)]
      by_cases h3 : i < b.length
      · rw [getD_append_right (by simp only [List.length_append, List.length_take, List.length_replicate]; omega), getD_drop]
        congr 1
        simp only [List.length_append, List.length_take, List.length_replicate]
        omega
      · have : (b.take f ++ List.replicate (min t b.length - f) 0 ++ b.drop (max f t)).length ≤ i := by
          simp only [List.length_append, List.length_take, List.length_drop, List.length_replicate]
          omega
        rw [getD_off this, getD_off (by omega)]
theorem rzero_len (b : List UInt8) (f t : Nat) (h : f ≤ t) : (rzero b f t).length = b.length := by
  unfold rzero
  simp only [List.length_append, List.length_take, List.length_drop, List.length_replicate]
  omega
theorem zero_is {l : List Rn} {f t : Nat} (hl : right l = true) (hf : f ≤ t) : gat 0 (rzero (spr [] l) f t) = zeroL l (f : Int) (t : Int) := by
  obtain ⟨h1, h2⟩ := zero_facts (f := (f : Int)) (t := (t : Int)) hl (by omega) (by omega)
  obtain ⟨h3, h4⟩ := spr0 hl
  refine gat_is h1 (by rw [rzero_len _ _ _ hf]; omega) fun i => ?_
  rw [rzero_get _ _ _ _ hf, h2, h4]
  by_cases h5 : f ≤ i ∧ i < t
  · rw [if_pos h5, if_pos (by omega)]
  · rw [if_neg h5, if_neg (by omega)]
/-- A list out of all its bytes. -/
theorem of_bytes {l : List Rn} (hl : right l = true) : gat 0 (bytesL l 0 65536) = l := by
  refine gat_is hl (by rw [bytesL_len]; omega) fun i => ?_
  by_cases h : i < 65536
  · rw [bytesL_get _ _ _ _ h, Int.zero_add]
  · rw [getD_off (by rw [bytesL_len]; omega), cont_hi hl (by omega)]
theorem bytes_same {l m : List Rn} (hl : right l = true) (hm : right m = true) : bytesL l 0 65536 = bytesL m 0 65536 ↔ l = m :=
  ⟨fun h => by rw [← of_bytes hl, h, of_bytes hm], fun h => by rw [h]⟩
theorem put_two {l : List Rn} {p q : Int} {a b : List UInt8} (hl : right l = true) (hp : 0 ≤ p) (hq : 0 ≤ q) (ha : p + (a.length : Int) ≤ 65536) (hb : q + (b.length : Int) ≤ 65536) (h : q + (b.length : Int) ≤ p ∨ p + (a.length : Int) ≤ q) :
    putL (putL l p a) q b = putL (putL l q b) p a := by
  obtain ⟨x1, x2⟩ := put_facts (l := l) hl hp ha
  obtain ⟨y1, y2⟩ := put_facts (l := l) hl hq hb
  obtain ⟨u1, u2⟩ := put_facts (d := b) x1 hq hb
  obtain ⟨v1, v2⟩ := put_facts (d := a) y1 hp ha
  refine uniq0 u1 v1 fun i _ _ => ?_
  rw [u2, v2, x2, y2]
  by_cases h1 : q ≤ i ∧ i < q + (b.length : Int)
  · rw [if_pos h1, if_neg (by omega), if_pos h1]
  · rw [if_neg h1]
    by_cases h2 : p ≤ i ∧ i < p + (a.length : Int)
    · rw [if_pos h2, if_pos h2]
    · rw [if_neg h2, if_neg h2, if_neg h1]
/-- A hole made twice. -/
theorem zero_twice {l : List Rn} {f t : Int} (hl : right l = true) (hf : 0 ≤ f) (ht : f ≤ t) : zeroL (zeroL l f t) f t = zeroL l f t := by
  obtain ⟨x1, x2⟩ := zero_facts (l := l) hl hf ht
  obtain ⟨y1, y2⟩ := zero_facts (f := f) (t := t) x1 hf ht
  refine uniq0 y1 x1 fun i _ _ => ?_
  rw [y2, x2]
  split <;> rfl
theorem zero_all {l : List Rn} (hl : right l = true) : zeroL l 0 65536 = [] := by
  obtain ⟨x1, x2⟩ := zero_facts (l := l) (f := 0) (t := 65536) hl (by omega) (by omega)
  refine uniq0 x1 (show right [] = true from rfl) fun i h1 h2 => ?_
  rw [x2, if_pos ⟨h1, h2⟩]; rfl
theorem zero_no {l : List Rn} {f t : Int} (hl : right l = true) (hf : 0 ≤ f) (ht : f < t) : ∀ x ∈ zeroL l f t, ¬ (x.a < t ∧ f < x.e) := fun x hx h => by
  obtain ⟨x1, x2⟩ := zero_facts (l := l) (f := f) (t := t) hl hf (by omega)
  have hxo := okR_iff.1 (chk_mem x1 x hx)
  have hxe : x.e = x.a + (x.t.length : Int) := rfl
  have := cont_mem x1 x hx (max x.a f) (by omega) (by omega)
  rw [x2, if_pos (by omega)] at this
  exact this rfl
theorem zero_end {l : List Rn} {f t : Int} (hl : right l = true) (hf : 0 ≤ f) (ht : f ≤ t) : endL (zeroL l f t) ≤ endL l := by
  obtain ⟨x1, x2⟩ := zero_facts (l := l) (f := f) (t := t) hl hf ht
  by_cases h : zeroL l f t = []
  · rw [h, endL_nil]; exact (end_bound hl).1
  · have := end_last x1 h
    rcases Int.lt_or_le (endL l) (endL (zeroL l f t)) with h1 | h1
    · have h2 := this.2.2
      rw [x2] at h2
      split at h2
      · exact absurd rfl h2
      · exact absurd (cont_end hl _ (by omega)) h2
    · exact h1
/-- What is put back is what was. -/
theorem put_back {l : List Rn} {p : Nat} {n : Nat} (hl : right l = true) (h : p + n ≤ 65536) (a : List Rn) (ha : right a = true) (hc : ∀ i, (i < (p : Int) ∨ (p : Int) + n ≤ i) → cont a i = cont l i) :
    putL a (p : Int) (((bytesL l 0 65536).drop p).take n) = l := by
  have hlen : (((bytesL l 0 65536).drop p).take n).length = n := by rw [List.length_take, List.length_drop, bytesL_len]; omega
  obtain ⟨x1, x2⟩ := put_facts (l := a) (p := (p : Int)) (d := ((bytesL l 0 65536).drop p).take n) ha (by omega) (by rw [hlen]; omega)
  refine uniq0 x1 hl fun i h1 h2 => ?_
  rw [x2, hlen]
  split
  · rename_i h3
    rw [getD_take (by omega), getD_drop, bytesL_get _ _ _ _ (by omega)]
    congr 1
    omega
  · exact hc i (by omega)
/-- The bytes of all runs. -/
def tot : List Rn → Nat
  | [] => 0
  | x :: l => x.t.length + tot l
theorem tot_append (l m : List Rn) : tot (l ++ m) = tot l + tot m := by
  induction l with
  | nil => simp [tot]
  | cons x l ih => simp [tot, ih]; omega
theorem tot_app1 : ∀ (l : List Rn) (x : Rn), tot (app1 l x) = tot l + x.t.length
  | [], x => by simp [app1, tot]
  | [y], x => by
    show tot (if y.e = x.a then [⟨y.a, y.t ++ x.t⟩] else [y, x]) = _
    split <;> simp [tot]
  | y :: z :: l, x => by
    show tot (y :: app1 (z :: l) x) = _
    have := tot_app1 (z :: l) x
    simp only [tot] at this ⊢
    omega
theorem tot_fold : ∀ (p l : List Rn), tot (p.foldl app1 l) = tot l + tot p
  | [], l => by simp [tot]
  | x :: p, l => by
    show tot (p.foldl app1 (app1 l x)) = _
    rw [tot_fold p, tot_app1]
    simp only [tot]
    omega
theorem clip1_len (f t : Int) (x : Rn) : ((match clip1 f t x with | none => 0 | some y => y.t.length) : Nat) = (min x.e t - max x.a f).toNat := by
  have hxe : x.e = x.a + (x.t.length : Int) := rfl
  cases hc : clip1 f t x with
  | none =>
    unfold clip1 at hc
    split at hc
    · cases hc
    · dsimp only; omega
  | some y =>
    obtain ⟨h1, h2, h3, _⟩ := clip1_some hc
    have hy : y.e = y.a + (y.t.length : Int) := rfl
    dsimp only
    omega
theorem tot_clip (f t : Int) (h0 : 0 ≤ f) (h : f ≤ t) : ∀ (l : List Rn), tot (clip 0 f l) + tot (clip t 65536 l) ≤ tot l
  | [] => by simp [clip, tot]
  | x :: l => by
    have ih := tot_clip f t h0 h l
    have h1 := clip1_len 0 f x
    have h2 := clip1_len t 65536 x
    have hxe : x.e = x.a + (x.t.length : Int) := rfl
    have e1 : tot (clip 0 f (x :: l)) = (match clip1 0 f x with | none => 0 | some y => y.t.length) + tot (clip 0 f l) := by
      rw [clip_cons]; cases clip1 0 f x <;> simp [tot]
    have e2 : tot (clip t 65536 (x :: l)) = (match clip1 t 65536 x with | none => 0 | some y => y.t.length) + tot (clip t 65536 l) := by
      rw [clip_cons]; cases clip1 t 65536 x <;> simp [tot]
    rw [e1, e2, h1, h2]
    simp only [tot]
    omega
theorem tot_zero {l : List Rn} {f t : Int} (h0 : 0 ≤ f) (h : f ≤ t) : tot (zeroL l f t) ≤ tot l := by
  unfold zeroL joinP
  simp only [List.flatten_cons, List.flatten_nil, List.append_nil]
  rw [tot_fold, tot_append]
  have := tot_clip f t h0 h l
  simp only [tot]
  omega
theorem tot_right : ∀ {l : List Rn} {f : Int}, chk f l = true → f ≤ 65538 → (tot l : Int) + f ≤ 65538
  | [], f, _, h => by simp only [tot]; omega
  | x :: l, f, h, _ => by
    have h0 := chk_cons.1 h
    have hx := okR_iff.1 h0.1
    have hxe : x.e = x.a + (x.t.length : Int) := rfl
    have := tot_right h0.2 (by omega)
    simp only [tot]
    omega
end Go.Proofs.YtmbmjdogfjmlpaaDoor.Sp
