/- Lists of extents in plain words: which is right, what lies at a block, lists put together, and that two lists that tell the same of each block are the same. -/
import Derived.Test.YtkhenchhafmlmaaMem
namespace Go.Proofs.Ytkhenchhafmlmaa.Ex
set_option maxRecDepth 20000

structure X where
  (a s n : Int)
  (u : Bool)
  deriving DecidableEq
def x0 : X := ⟨0, 0, 0, false⟩
def X.may (x : X) : Bool := decide (0 ≤ x.a ∧ 1 ≤ x.s ∧ 1 ≤ x.n ∧ x.a + x.n ≤ 256 ∧ x.s + x.n ≤ 1024)
def goes (x e : X) : Bool := decide (e.a = x.a + x.n ∧ e.s = x.s + x.n ∧ e.u = x.u)
def meet (a n b m : Int) : Bool := decide (a < b + m ∧ b < a + n)
def fol (x e : X) : Bool := decide (x.a + x.n ≤ e.a) && !goes x e
def folB (p : List X) (e : X) : Bool := match p.getLast? with | none => true | some x => fol x e
def apartB (p : List X) (e : X) : Bool := p.all fun x => !meet x.s x.n e.s e.n
def okB (p : List X) (e : X) : Bool := e.may && folB p e && apartB p e
/-- The extents from place p on may stand behind those of p. -/
def rightFrom : List X → List X → Bool
  | _, [] => true
  | p, e :: l => okB p e && rightFrom (p ++ [e]) l
def right (l : List X) : Bool := decide (l.length ≤ 60) && rightFrom [] l

theorem rightFrom_at : ∀ (l p : List X), rightFrom p l = true ↔ ∀ j, (h : j < l.length) → okB (p ++ l.take j) l[j] = true
  | [], p => by simp [rightFrom]
  | e :: l, p => by
    unfold rightFrom
    rw [Bool.and_eq_true, rightFrom_at l (p ++ [e])]
    refine ⟨fun ⟨h1, h2⟩ j hj => ?_, fun h => ⟨by have := h 0 (by simp); simp only [List.take_zero, List.append_nil, List.getElem_cons_zero] at this; exact this, fun j hj => by have := h (j + 1) (by simpa using hj); simp only [List.take_succ_cons, List.getElem_cons_succ] at this; rw [List.append_assoc]; exact this⟩⟩
    match j with
    | 0 => simpa using h1
    | j + 1 => simpa using h2 j (by simpa using hj)
theorem right_at (l : List X) : right l = true ↔ l.length ≤ 60 ∧ ∀ j, (h : j < l.length) → okB (l.take j) l[j] = true := by
  unfold right
  rw [Bool.and_eq_true, rightFrom_at l [], decide_eq_true_iff]
  simp
theorem right_no {l : List X} {k : Nat} (h : k < l.length) (hn : okB (l.take k) l[k] = false) : right l = false := by
  cases hr : right l with
  | false => rfl
  | true => rw [((right_at l).1 hr).2 k h] at hn; cases hn

theorem right_noE {l : List X} {k : Nat} {e : X} (h : k < l.length) (he : e = l[k]) (hn : okB (l.take k) e = false) : right l = false := right_no h (he ▸ hn)

/-- What lies at a block of the file: its device block, and whether it is unwritten. -/
def at_ : List X → Int → Option (Int × Bool)
  | [], _ => none
  | x :: l, b => if x.a ≤ b ∧ b < x.a + x.n then some (x.s + b - x.a, x.u) else at_ l b
/-- In order, and none empty. -/
def Lin : List X → Prop
  | [] => True
  | x :: l => (0 ≤ x.a ∧ 1 ≤ x.n ∧ x.a + x.n ≤ 256) ∧ (∀ y ∈ l, x.a + x.n ≤ y.a) ∧ Lin l
/-- None goes on where the one ahead ends. -/
def NoGo : List X → Prop
  | x :: y :: l => goes x y = false ∧ NoGo (y :: l)
  | _ => True

theorem Lin.mem : ∀ {l : List X}, Lin l → ∀ x ∈ l, 0 ≤ x.a ∧ 1 ≤ x.n ∧ x.a + x.n ≤ 256
  | y :: l, h, x, hx => by
    rcases List.mem_cons.1 hx with e | e
    · rw [e]; exact h.1
    · exact Lin.mem h.2.2 x e
theorem lin_append : ∀ {l m : List X}, Lin (l ++ m) ↔ Lin l ∧ Lin m ∧ ∀ x ∈ l, ∀ y ∈ m, x.a + x.n ≤ y.a
  | [], m => by simp [Lin]
  | x :: l, m => by
    rw [List.cons_append]
    show (_ ∧ _ ∧ Lin (l ++ m)) ↔ (_ ∧ _ ∧ Lin l) ∧ _
    rw [lin_append (l := l) (m := m)]
    constructor
    · rintro ⟨h1, h2, h3, h4, h5⟩
      refine ⟨⟨h1, fun y hy => h2 y (List.mem_append.2 (.inl hy)), h3⟩, h4, fun z hz y hy => ?_⟩
      rcases List.mem_cons.1 hz with e | e
      · rw [e]; exact h2 y (List.mem_append.2 (.inr hy))
      · exact h5 z e y hy
    · rintro ⟨⟨h1, h2, h3⟩, h4, h5⟩
      refine ⟨h1, fun y hy => ?_, h3, h4, fun z hz y hy => h5 z (List.mem_cons_of_mem _ hz) y hy⟩
      rcases List.mem_append.1 hy with e | e
      · exact h2 y e
      · exact h5 x List.mem_cons_self y e
theorem lin_one {e : X} (h : 0 ≤ e.a ∧ 1 ≤ e.n ∧ e.a + e.n ≤ 256) : Lin [e] := ⟨h, (fun y hy => by cases hy), trivial⟩
theorem at_append : ∀ (l m : List X) (b : Int), at_ (l ++ m) b = (at_ l b).or (at_ m b)
  | [], m, b => by simp [at_]
  | x :: l, m, b => by
    rw [List.cons_append]
    have e1 : ∀ k : List X, at_ (x :: k) b = if x.a ≤ b ∧ b < x.a + x.n then some (x.s + b - x.a, x.u) else at_ k b := fun _ => rfl
    rw [e1, e1, at_append l m b]
    split <;> rfl
theorem at_none {l : List X} {b : Int} (h : ∀ x ∈ l, ¬ (x.a ≤ b ∧ b < x.a + x.n)) : at_ l b = none := by
  induction l with
  | nil => rfl
  | cons x l ih =>
    unfold at_
    rw [if_neg (h x List.mem_cons_self)]
    exact ih fun y hy => h y (List.mem_cons_of_mem _ hy)
theorem at_some {l : List X} {b : Int} {v : Int × Bool} (h : at_ l b = some v) : ∃ x ∈ l, x.a ≤ b ∧ b < x.a + x.n ∧ v = (x.s + b - x.a, x.u) := by
  induction l with
  | nil => cases h
  | cons x l ih =>
    unfold at_ at h
    split at h
    · rename_i hc
      injection h with h
      exact ⟨x, List.mem_cons_self, hc.1, hc.2, h.symm⟩
    · obtain ⟨y, hy, e⟩ := ih h
      exact ⟨y, List.mem_cons_of_mem _ hy, e⟩
theorem at_of {l : List X} (hl : Lin l) {x : X} (hx : x ∈ l) {b : Int} (h1 : x.a ≤ b) (h2 : b < x.a + x.n) : at_ l b = some (x.s + b - x.a, x.u) := by
  induction l with
  | nil => cases hx
  | cons y l ih =>
    obtain ⟨g1, g2, g3⟩ := hl
    unfold at_
    rcases List.mem_cons.1 hx with e | e
    · subst e
      rw [if_pos ⟨h1, h2⟩]
    · have := g2 x e
      rw [if_neg (by omega)]
      exact ih g3 e
theorem at_range {l : List X} (hl : Lin l) {b : Int} {v : Int × Bool} (h : at_ l b = some v) : 0 ≤ b ∧ b < 256 := by
  obtain ⟨x, hx, h1, h2, _⟩ := at_some h
  have := hl.mem x hx
  omega
theorem NoGo.tail {x : X} {l : List X} (h : NoGo (x :: l)) : NoGo l := by
  cases l with
  | nil => trivial
  | cons y l => exact h.2

/-- Two lists that tell the same of each block are the same. -/
theorem lin_unique : ∀ (l m : List X), Lin l → NoGo l → Lin m → NoGo m → (∀ b, at_ l b = at_ m b) → l = m
  | [], [], _, _, _, _, _ => rfl
  | [], y :: m, _, _, hm, _, h => by
    have h1 := h y.a
    have := hm.1
    rw [at_of hm List.mem_cons_self (Int.le_refl _) (by omega)] at h1
    cases h1
  | x :: l, [], hl, _, _, _, h => by
    have h1 := h x.a
    have := hl.1
    rw [at_of hl List.mem_cons_self (Int.le_refl _) (by omega)] at h1
    cases h1
  | x :: l, y :: m, hl, hnl, hm, hnm, h => by
    have hx := hl.1
    have hy := hm.1
    have key : ∀ (x y : X) (l m : List X), Lin (x :: l) → Lin (y :: m) → (∀ b, at_ (x :: l) b = at_ (y :: m) b) → y.a ≤ x.a := fun x y l m hl hm h => by
      have hx := hl.1
      have h1 := h x.a
      rw [at_of hl List.mem_cons_self (Int.le_refl _) (by omega)] at h1
      obtain ⟨z, hz, e1, e2, _⟩ := at_some h1.symm
      rcases List.mem_cons.1 hz with e | e
      · rw [← e]; exact e1
      · have := hm.2.1 z e
        have := hm.1
        omega
    have ha : x.a = y.a := Int.le_antisymm (key y x m l hm hl (fun b => (h b).symm)) (key x y l m hl hm h)
    have h1 := h x.a
    rw [at_of hl List.mem_cons_self (Int.le_refl _) (by omega), at_of hm List.mem_cons_self (by omega) (by omega)] at h1
    injection h1 with h1
    have hs : x.s = y.s := by have := congrArg Prod.fst h1; dsimp only at this; omega
    have hu : x.u = y.u := congrArg Prod.snd h1
    have key2 : ∀ (x y : X) (l m : List X), Lin (x :: l) → NoGo (x :: l) → Lin (y :: m) → x.a = y.a → x.s = y.s → x.u = y.u → (∀ b, at_ (x :: l) b = at_ (y :: m) b) → ¬ x.n < y.n := fun x y l m hl hn hm ha hs hu h hlt => by
      have hx := hl.1
      have h1 := h (x.a + x.n)
      rw [at_of hm List.mem_cons_self (by omega) (by omega)] at h1
      obtain ⟨z, hz, e1, e2, e3⟩ := at_some h1
      rcases List.mem_cons.1 hz with e | e
      · rw [e] at e2; omega
      · cases l with
        | nil => cases e
        | cons z1 l =>
          have g1 := hl.2.1 z1 List.mem_cons_self
          have hz1 : z = z1 := by
            rcases List.mem_cons.1 e with e | e
            · exact e
            · have := hl.2.2.2.1 z e
              have := hl.2.2.1
              omega
          subst hz1
          have hg := hn.1
          unfold goes at hg
          rw [decide_eq_false_iff_not] at hg
          have e4 := congrArg Prod.fst e3
          have e5 := congrArg Prod.snd e3
          dsimp only at e4 e5
          exact hg ⟨by omega, by omega, by rw [← e5, hu]⟩
    have hnn : x.n = y.n := by
      rcases Int.lt_trichotomy x.n y.n with e | e | e
      · exact absurd e (key2 x y l m hl hnl hm ha hs hu h)
      · exact e
      · exact absurd e (key2 y x m l hm hnm hl ha.symm hs.symm hu.symm (fun b => (h b).symm))
    have hxy : x = y := by
      obtain ⟨a, b, c, d⟩ := x
      obtain ⟨a', b', c', d'⟩ := y
      simp only at ha hs hu hnn
      rw [ha, hs, hu, hnn]
    subst hxy
    have := lin_unique l m hl.2.2 hnl.tail hm.2.2 hnm.tail (fun b => by
      have h1 := h b
      unfold at_ at h1
      by_cases hb : x.a ≤ b ∧ b < x.a + x.n
      · have hno : ∀ (l : List X), (∀ y ∈ l, x.a + x.n ≤ y.a) → at_ l b = none := fun l hl => at_none fun z hz => by have := hl z hz; omega
        rw [hno l hl.2.1, hno m hm.2.1]
      · rw [if_neg hb, if_neg hb] at h1
        exact h1)
    rw [this]

/-- One more behind the others, put together with the last where it goes on. -/
def join (l : List X) (e : X) : List X :=
  match l.getLast? with
  | none => l ++ [e]
  | some x => if goes x e then l.dropLast ++ [⟨x.a, x.s, x.n + e.n, x.u⟩] else l ++ [e]
def pack (r : List X) : List X := r.foldl join []
theorem pack_snoc (r : List X) (e : X) : pack (r ++ [e]) = join (pack r) e := by simp [pack, List.foldl_append]
theorem join_snoc (p : List X) (x e : X) : join (p ++ [x]) e = if goes x e then p ++ [⟨x.a, x.s, x.n + e.n, x.u⟩] else p ++ [x] ++ [e] := by
  unfold join
  simp
theorem join_nil (e : X) : join [] e = [e] := rfl
theorem list_snoc {α : Type} (l : List α) : l = [] ∨ ∃ p x, l = p ++ [x] := by
  rcases List.eq_nil_or_concat l with h | ⟨p, x, h⟩
  · exact .inl h
  · exact .inr ⟨p, x, by simpa using h⟩
theorem nogo_snoc : ∀ (p : List X) (x e : X), NoGo (p ++ [x] ++ [e]) ↔ NoGo (p ++ [x]) ∧ goes x e = false
  | [], x, e => by simp [NoGo]
  | [y], x, e => by simp [NoGo]
  | y :: z :: p, x, e => by
    have := nogo_snoc (z :: p) x e
    simp only [List.cons_append, NoGo] at this ⊢
    rw [this, and_assoc]
theorem nogo_last : ∀ (p : List X) (x x' : X), x.a = x'.a → x.s = x'.s → x.u = x'.u → NoGo (p ++ [x]) → NoGo (p ++ [x'])
  | [], x, x', _, _, _, _ => trivial
  | [y], x, x', h1, h2, h3, h => by
    simp only [List.cons_append, List.nil_append, NoGo] at h ⊢
    refine ⟨?_, trivial⟩
    have := h.1
    unfold goes at this ⊢
    rw [← h1, ← h2, ← h3]
    exact this
  | y :: z :: p, x, x', h1, h2, h3, h => by
    have := nogo_last (z :: p) x x' h1 h2 h3
    simp only [List.cons_append, NoGo] at this h ⊢
    exact ⟨h.1, this h.2⟩
def X.ok (e : X) : Prop := 0 ≤ e.a ∧ 1 ≤ e.n ∧ e.a + e.n ≤ 256
theorem join_ok {l : List X} {e : X} (hl : Lin l) (hn : NoGo l) (he : e.ok) (hb : ∀ x ∈ l, x.a + x.n ≤ e.a) :
    Lin (join l e) ∧ NoGo (join l e) ∧ (∀ b, at_ (join l e) b = (at_ l b).or (at_ [e] b)) ∧ ∀ x ∈ join l e, x.a + x.n ≤ e.a + e.n := by
  obtain ⟨he1, he2, he3⟩ := he
  rcases list_snoc l with rfl | ⟨p, x, rfl⟩
  · rw [join_nil]
    exact ⟨lin_one ⟨he1, he2, he3⟩, trivial, fun b => by simp [at_], fun x hx => by rw [List.mem_singleton.1 hx]; omega⟩
  · rw [join_snoc]
    obtain ⟨l1, l2, l3⟩ := lin_append.1 hl
    have hx := l2.1
    cases hg : goes x e with
    | false =>
      rw [if_neg (by simp)]
      refine ⟨lin_append.2 ⟨hl, lin_one ⟨he1, he2, he3⟩, fun z hz y hy => by rw [List.mem_singleton.1 hy]; exact hb z hz⟩, (nogo_snoc p x e).2 ⟨hn, hg⟩, fun b => at_append _ _ b, fun z hz => ?_⟩
      rcases List.mem_append.1 hz with h | h
      · have := hb z h; omega
      · rw [List.mem_singleton.1 h]; omega
    | true =>
      rw [if_pos rfl]
      obtain ⟨g1, g2, g3⟩ := of_decide_eq_true hg
      have hlin : Lin (p ++ [⟨x.a, x.s, x.n + e.n, x.u⟩]) := lin_append.2 ⟨l1, lin_one (by dsimp only; omega), fun z hz y hy => by rw [List.mem_singleton.1 hy]; exact l3 z hz x (by simp)⟩
      refine ⟨hlin, nogo_last p x _ rfl rfl rfl hn, fun b => ?_, fun z hz => ?_⟩
      · rw [at_append, at_append]
        cases at_ p b with
        | some v => rfl
        | none =>
          simp only [Option.none_or]
          unfold at_
          dsimp only
          by_cases c1 : x.a ≤ b ∧ b < x.a + x.n
          · rw [if_pos c1, if_pos (by omega)]; rfl
          · rw [if_neg c1]
            by_cases c2 : e.a ≤ b ∧ b < e.a + e.n
            · rw [if_pos (by omega)]
              simp only [at_, if_pos c2, Option.none_or]
              rw [g3, show x.s + b - x.a = e.s + b - e.a by omega]
            · rw [if_neg (by omega)]
              simp only [at_, if_neg c2, Option.none_or]
      · rcases List.mem_append.1 hz with h | h
        · have := hb z (List.mem_append.2 (.inl h)); omega
        · rw [List.mem_singleton.1 h]; dsimp only; omega
theorem join_len (l : List X) (e : X) : (join l e).length ≤ l.length + 1 := by
  rcases list_snoc l with rfl | ⟨p, x, rfl⟩
  · simp [join_nil]
  · rw [join_snoc]; split <;> simp
theorem pack_len (r : List X) : (pack r).length ≤ r.length := by
  rcases list_snoc r with rfl | ⟨p, x, rfl⟩
  · simp [pack]
  · have h1 := pack_len p
    rw [pack_snoc]
    have h2 := join_len (pack p) x
    simp only [List.length_append, List.length_cons, List.length_nil]
    omega
termination_by r.length
decreasing_by simp_all
theorem pack_ok (r : List X) (hr : Lin r) : Lin (pack r) ∧ NoGo (pack r) ∧ (∀ b, at_ (pack r) b = at_ r b) ∧ ∀ e : X, (∀ x ∈ r, x.a + x.n ≤ e.a) → ∀ x ∈ pack r, x.a + x.n ≤ e.a := by
  rcases list_snoc r with rfl | ⟨p, e, rfl⟩
  · exact ⟨trivial, trivial, fun _ => rfl, fun e _ x hx => by cases hx⟩
  · obtain ⟨l1, l2, l3⟩ := lin_append.1 hr
    obtain ⟨i1, i2, i3, i4⟩ := pack_ok p l1
    rw [pack_snoc]
    obtain ⟨j1, j2, j3, j4⟩ := join_ok i1 i2 (e := e) l2.1 (i4 e fun x hx => l3 x hx e (by simp))
    refine ⟨j1, j2, fun b => by rw [j3 b, i3 b, at_append], fun y hy x hx => ?_⟩
    have := j4 x hx
    have := hy e (by simp)
    omega
termination_by r.length
decreasing_by simp_all

/-! ### What is right -/
def Dev (l : List X) : Prop := ∀ b d u, at_ l b = some (d, u) → 1 ≤ d ∧ d < 1024
def Inj (l : List X) : Prop := ∀ b b' d u u', at_ l b = some (d, u) → at_ l b' = some (d, u') → b = b'
theorem folB_snoc (p : List X) (x e : X) : folB (p ++ [x]) e = fol x e := by unfold folB; simp
theorem may_iff {x : X} : x.may = true ↔ 0 ≤ x.a ∧ 1 ≤ x.s ∧ 1 ≤ x.n ∧ x.a + x.n ≤ 256 ∧ x.s + x.n ≤ 1024 := by unfold X.may; rw [decide_eq_true_iff]
theorem rightFrom_iff : ∀ (l p : List X), (∀ x ∈ p, x.may = true) → Lin p → NoGo p → p.Pairwise (fun x y => meet x.s x.n y.s y.n = false) →
    (rightFrom p l = true ↔ (∀ x ∈ p ++ l, x.may = true) ∧ Lin (p ++ l) ∧ NoGo (p ++ l) ∧ (p ++ l).Pairwise (fun x y => meet x.s x.n y.s y.n = false))
  | [], p, h1, h2, h3, h4 => by simp only [rightFrom, List.append_nil, true_iff]; exact ⟨h1, h2, h3, h4⟩
  | e :: l, p, h1, h2, h3, h4 => by
    unfold rightFrom
    have hap : p ++ e :: l = (p ++ [e]) ++ l := by simp
    rw [Bool.and_eq_true, hap]
    have key : okB p e = true ↔ e.may = true ∧ Lin (p ++ [e]) ∧ NoGo (p ++ [e]) ∧ (p ++ [e]).Pairwise (fun x y => meet x.s x.n y.s y.n = false) := by
      have hpw : (p ++ [e]).Pairwise (fun x y => meet x.s x.n y.s y.n = false) ↔ apartB p e = true := by
        rw [List.pairwise_append]
        unfold apartB
        rw [List.all_eq_true]
        constructor
        · rintro ⟨_, _, h⟩ x hx
          rw [h x hx e (by simp)]; rfl
        · intro h
          refine ⟨h4, List.pairwise_singleton _ _, fun x hx y hy => ?_⟩
          rw [List.mem_singleton.1 hy]
          simpa using h x hx
      unfold okB
      rw [hpw, Bool.and_eq_true, Bool.and_eq_true]
      constructor
      · rintro ⟨⟨k1, k2⟩, k3⟩
        have hm := may_iff.1 k1
        refine ⟨k1, ?_, ?_, k3⟩
        · refine lin_append.2 ⟨h2, lin_one (by omega), fun x hx y hy => ?_⟩
          rw [List.mem_singleton.1 hy]
          rcases list_snoc p with rfl | ⟨q, z, rfl⟩
          · cases hx
          · rw [folB_snoc] at k2
            unfold fol at k2
            rw [Bool.and_eq_true, decide_eq_true_iff] at k2
            obtain ⟨_, g2, g3⟩ := lin_append.1 h2
            rcases List.mem_append.1 hx with e1 | e1
            · have := g3 x e1 z (by simp)
              have := g2.1
              omega
            · rw [List.mem_singleton.1 e1]; exact k2.1
        · rcases list_snoc p with rfl | ⟨q, z, rfl⟩
          · trivial
          · rw [folB_snoc] at k2
            unfold fol at k2
            rw [Bool.and_eq_true] at k2
            exact (nogo_snoc q z e).2 ⟨h3, by simpa using k2.2⟩
      · rintro ⟨k1, k2, k3, k4⟩
        refine ⟨⟨k1, ?_⟩, k4⟩
        rcases list_snoc p with rfl | ⟨q, z, rfl⟩
        · rfl
        · rw [folB_snoc]
          unfold fol
          rw [Bool.and_eq_true, decide_eq_true_iff]
          exact ⟨(lin_append.1 k2).2.2 z (by simp) e (by simp), by rw [((nogo_snoc q z e).1 k3).2]; rfl⟩
    constructor
    · rintro ⟨k1, k2⟩
      obtain ⟨m1, m2, m3, m4⟩ := key.1 k1
      refine (rightFrom_iff l (p ++ [e]) (fun x hx => ?_) m2 m3 m4).1 k2
      rcases List.mem_append.1 hx with h | h
      · exact h1 x h
      · rw [List.mem_singleton.1 h]; exact m1
    · rintro ⟨k1, k2, k3, k4⟩
      have m2 := (lin_append.1 k2).1
      have m4 := (List.pairwise_append.1 k4).1
      have m3 : NoGo (p ++ [e]) := by
        have key3 : ∀ (l p : List X), NoGo (p ++ l) → NoGo p := by
          intro l p
          induction p with
          | nil => intro _; trivial
          | cons x p ih =>
            intro h
            cases p with
            | nil => trivial
            | cons y p => exact ⟨h.1, ih h.2⟩
        exact key3 l _ k3
      have m1 : e.may = true := k1 e (by simp)
      refine ⟨key.2 ⟨m1, m2, m3, m4⟩, (rightFrom_iff l (p ++ [e]) (fun x hx => k1 x (List.mem_append.2 (.inl hx))) m2 m3 m4).2 ⟨k1, k2, k3, k4⟩⟩
theorem right_iff (l : List X) : right l = true ↔ l.length ≤ 60 ∧ (∀ x ∈ l, x.may = true) ∧ Lin l ∧ NoGo l ∧ l.Pairwise (fun x y => meet x.s x.n y.s y.n = false) := by
  unfold right
  rw [Bool.and_eq_true, decide_eq_true_iff, rightFrom_iff l [] (fun x hx => by cases hx) trivial trivial List.Pairwise.nil]
  rfl
theorem inj_of {l : List X} (hl : Lin l) (hp : l.Pairwise (fun x y => meet x.s x.n y.s y.n = false)) : Inj l := by
  intro b b' d u u' h h'
  obtain ⟨x, hx, a1, a2, a3⟩ := at_some h
  obtain ⟨y, hy, b1, b2, b3⟩ := at_some h'
  have e1 := congrArg Prod.fst a3
  have e2 := congrArg Prod.fst b3
  dsimp only at e1 e2
  by_cases hxy : x = y
  · subst hxy; omega
  · exfalso
    have : ∀ x ∈ l, ∀ y ∈ l, x ≠ y → meet x.s x.n y.s y.n = false := by
      clear hx hy hxy h h' a1 a2 a3 b1 b2 b3 e1 e2
      induction l with
      | nil => intro x hx; cases hx
      | cons z l ih =>
        obtain ⟨p1, p2⟩ := List.pairwise_cons.1 hp
        intro x hx y hy hne
        rcases List.mem_cons.1 hx with e | e <;> rcases List.mem_cons.1 hy with e' | e'
        · exact absurd (e.trans e'.symm) hne
        · rw [e]; exact p1 y e'
        · rw [e']
          have := p1 x e
          unfold meet at this ⊢
          rw [decide_eq_false_iff_not] at this ⊢
          omega
        · exact ih hl.2.2 p2 x e y e' hne
    have := this x hx y hy hxy
    unfold meet at this
    rw [decide_eq_false_iff_not] at this
    omega
theorem right_of {l : List X} (h1 : l.length ≤ 60) (hl : Lin l) (hn : NoGo l) (hd : Dev l) (hi : Inj l) : right l = true := by
  refine (right_iff l).2 ⟨h1, fun x hx => ?_, hl, hn, ?_⟩
  · have hx' := hl.mem x hx
    have d1 := hd _ _ _ (at_of hl hx (b := x.a) (by omega) (by omega))
    have d2 := hd _ _ _ (at_of hl hx (b := x.a + x.n - 1) (by omega) (by omega))
    exact may_iff.2 (by omega)
  · clear h1 hd hn
    have hinj : ∀ x ∈ l, ∀ y ∈ l, meet x.s x.n y.s y.n = true → ∃ b, (x.a ≤ b ∧ b < x.a + x.n) ∧ (y.a ≤ b ∧ b < y.a + y.n) := fun x hx y hy hm => by
      obtain ⟨m1, m2⟩ := of_decide_eq_true hm
      have hx' := hl.mem x hx
      have hy' := hl.mem y hy
      obtain ⟨d, hd⟩ : ∃ d, d = max x.s y.s := ⟨_, rfl⟩
      have e1 := at_of hl hx (b := x.a + (d - x.s)) (by omega) (by omega)
      have e2 := at_of hl hy (b := y.a + (d - y.s)) (by omega) (by omega)
      rw [show x.s + (x.a + (d - x.s)) - x.a = d by omega] at e1
      rw [show y.s + (y.a + (d - y.s)) - y.a = d by omega] at e2
      have := hi _ _ _ _ _ e1 e2
      exact ⟨x.a + (d - x.s), by omega, by omega⟩
    clear hi
    induction l with
    | nil => exact List.Pairwise.nil
    | cons x l ih =>
      refine List.pairwise_cons.2 ⟨fun y hy => ?_, ih hl.2.2 fun x hx y hy => hinj x (List.mem_cons_of_mem _ hx) y (List.mem_cons_of_mem _ hy)⟩
      cases hm : meet x.s x.n y.s y.n with
      | false => rfl
      | true =>
        obtain ⟨b, b1, b2⟩ := hinj x List.mem_cons_self y (List.mem_cons_of_mem _ hy) hm
        have := hl.2.1 y hy
        omega
theorem dev_of {l : List X} (h : ∀ x ∈ l, x.may = true) : Dev l := by
  intro b d u hb
  obtain ⟨x, hx, h1, h2, h3⟩ := at_some hb
  have := may_iff.1 (h x hx)
  have := congrArg Prod.fst h3
  dsimp only at this
  omega

/-! ### Find, Put, Cut and Mark -/
def findL (l : List X) (b : Int) : Int × Bool × Bool := if right l then (match at_ l b with | some (d, u) => (d, !u, true) | none => (0, false, false)) else (0, false, false)
def ahead (l : List X) (e : X) : Nat := (l.filter fun x => decide (x.a < e.a)).length
def putRaw (l : List X) (e : X) : List X := l.take (ahead l e) ++ e :: l.drop (ahead l e)
def meets (l : List X) (e : X) : Bool := l.any fun x => meet x.a x.n e.a e.n || meet x.s x.n e.s e.n
def fits (r : List X) : List X × Int := if (pack r).length ≤ 60 then (pack r, 0) else ([], 9)
def putL (l : List X) (e : X) : List X × Int := if right l && e.may then (if meets l e then ([], 4) else fits (putRaw l e)) else ([], 1)
def clampI (v lo hi : Int) : Int := min (max v lo) hi
def part (x : X) (f t : Int) : X := ⟨f, x.s + f - x.a, t - f, x.u⟩
def cuts1 (x : X) (f t : Int) : List (X × Bool) :=
  [(part x x.a (clampI f x.a (x.a + x.n)), false), (part x (clampI f x.a (x.a + x.n)) (clampI t x.a (x.a + x.n)), true), (part x (clampI t x.a (x.a + x.n)) (x.a + x.n), false)].filter fun p => decide (0 < p.1.n)
def cuts (l : List X) (f t : Int) : List (X × Bool) := l.flatMap fun x => cuts1 x f t
def leftR (ps : List (X × Bool)) : List X := (ps.filter fun p => !p.2).map (·.1)
def gone (ps : List (X × Bool)) : List (Int × Int) := (ps.filter fun p => p.2).map fun p => (p.1.s, p.1.n)
def markR (ps : List (X × Bool)) : List X := ps.map fun p => ⟨p.1.a, p.1.s, p.1.n, p.1.u && !p.2⟩
def bnds (f t : Int) : Bool := decide (0 ≤ f ∧ f ≤ t)
def cutL (l : List X) (f t : Int) : List X × List (Int × Int) × Int :=
  if right l && bnds f t then (if (pack (leftR (cuts l f t))).length ≤ 60 then (pack (leftR (cuts l f t)), gone (cuts l f t), 0) else ([], [], 9)) else ([], [], 1)
def markL (l : List X) (f t : Int) : List X × Int := if right l && bnds f t then fits (markR (cuts l f t)) else ([], 1)

theorem right_lin {l : List X} (h : right l = true) : Lin l ∧ NoGo l ∧ Dev l ∧ Inj l ∧ l.length ≤ 60 := by
  obtain ⟨h1, h2, h3, h4, h5⟩ := (right_iff l).1 h
  exact ⟨h3, h4, dev_of h2, inj_of h3 h5, h1⟩
/-- What is put together of parts that lie in order. -/
theorem fits_ok {r : List X} (hr : Lin r) (hd : Dev r) (hi : Inj r) : fits r = ([], 9) ∨ (fits r = (pack r, 0) ∧ right (pack r) = true ∧ ∀ b, at_ (pack r) b = at_ r b) := by
  unfold fits
  by_cases h : (pack r).length ≤ 60
  · rw [if_pos h]
    obtain ⟨p1, p2, p3, _⟩ := pack_ok r hr
    exact .inr ⟨rfl, right_of h p1 p2 (fun b d u hb => hd b d u (by rw [← p3]; exact hb)) (fun b b' d u u' hb hb' => hi b b' d u u' (by rw [← p3]; exact hb) (by rw [← p3]; exact hb')), p3⟩
  · rw [if_neg h]; exact .inl rfl
end Go.Proofs.Ytkhenchhafmlmaa.Ex
