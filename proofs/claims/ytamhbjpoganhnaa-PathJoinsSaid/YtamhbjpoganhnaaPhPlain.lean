/- Paths in plain words: the pieces between strokes, the parts, a path of parts, parts without going up. -/
import Derived.Test.YtamhbjpoganhnaaLfName
namespace Go.Proofs.Ytamhbjpoganhnaa.Ph
set_option maxRecDepth 20000
open Go.Proofs.Ytamhbjpoganhnaa.Lf

/-- What stands ahead of the first stroke, and behind it. -/
def hd (t : List UInt8) : List UInt8 := t.takeWhile fun c => !(c == 47)
def tl (t : List UInt8) : List UInt8 := (t.dropWhile fun c => !(c == 47)).drop 1
theorem tl_lt : ∀ t : List UInt8, t.contains 47 = true → (tl t).length < t.length
  | [], h => by cases h
  | c :: t, h => by
    unfold tl
    rw [List.dropWhile_cons]
    cases hc : (c == 47) with
    | true => simp
    | false =>
      rw [List.contains_cons] at h
      have h2 : t.contains 47 = true := by
        have : (47 == c) = false := by
          rw [beq_eq_false_iff_ne] at hc ⊢
          exact fun e => hc e.symm
        rw [this] at h
        simpa using h
      have := tl_lt t h2
      unfold tl at this
      simp only [Bool.not_false, if_true, List.length_cons]
      omega
/-- The pieces between strokes. -/
def sp : (n : Nat) → List UInt8 → List (List UInt8)
  | 0, _ => []
  | n + 1, t => hd t :: (if t.contains 47 then sp n (tl t) else [])
def pcs (t : List UInt8) : List (List UInt8) := sp (t.length + 1) t
theorem sp_more : ∀ (n m : Nat) (t : List UInt8), t.length < n → t.length < m → sp n t = sp m t
  | 0, _, _, h, _ => by omega
  | _, 0, _, _, h => by omega
  | n + 1, m + 1, t, hn, hm => by
    unfold sp
    cases hc : t.contains 47 with
    | false => rfl
    | true =>
      have := tl_lt t hc
      rw [if_pos rfl, if_pos rfl, sp_more n m (tl t) (by omega) (by omega)]
theorem pcs_eq (t : List UInt8) : pcs t = hd t :: (if t.contains 47 then pcs (tl t) else []) := by
  unfold pcs
  rw [sp]
  cases hc : t.contains 47 with
  | false => rfl
  | true =>
    have := tl_lt t hc
    rw [if_pos rfl, if_pos rfl, sp_more t.length ((tl t).length + 1) (tl t) this (by omega)]
theorem pcs_last {t : List UInt8} (h : t.contains 47 = false) : pcs t = [hd t] := by rw [pcs_eq, h]; rfl
theorem pcs_on {t : List UInt8} (h : t.contains 47 = true) : pcs t = hd t :: pcs (tl t) := by rw [pcs_eq, h]; rfl
theorem cons_no {c : UInt8} {t : List UInt8} (h : (c :: t).contains 47 = false) : (c == 47) = false ∧ t.contains 47 = false := by
  rw [List.contains_cons, Bool.or_eq_false_iff] at h
  refine ⟨?_, h.2⟩
  have := h.1
  rw [beq_eq_false_iff_ne] at this ⊢
  exact fun e => this e.symm
theorem hd_all : ∀ {t : List UInt8}, t.contains 47 = false → hd t = t
  | [], _ => rfl
  | c :: t, h => by
    obtain ⟨h1, h2⟩ := cons_no h
    have := hd_all h2
    unfold hd at this ⊢
    rw [List.takeWhile_cons, h1, this]
    rfl
theorem hd_tl : ∀ {t : List UInt8}, t.contains 47 = true → t = hd t ++ 47 :: tl t
  | [], h => by cases h
  | c :: t, h => by
    unfold hd tl
    rw [List.takeWhile_cons, List.dropWhile_cons]
    cases hc : (c == 47) with
    | true =>
      rw [beq_iff_eq] at hc
      subst hc
      rfl
    | false =>
      rw [List.contains_cons] at h
      have h2 : t.contains 47 = true := by
        have : (47 == c) = false := by
          rw [beq_eq_false_iff_ne] at hc ⊢
          exact fun e => hc e.symm
        rw [this] at h
        simpa using h
      have := hd_tl h2
      unfold hd tl at this
      simp only [Bool.not_false, if_true, List.cons_append]
      rw [← this]
theorem hd_no : ∀ t : List UInt8, (hd t).contains 47 = false
  | [] => rfl
  | c :: t => by
    have h2 := hd_no t
    unfold hd at h2 ⊢
    rw [List.takeWhile_cons]
    cases hc : (c == 47) with
    | true => rfl
    | false =>
      have : (47 == c) = false := by
        rw [beq_eq_false_iff_ne] at hc ⊢
        exact fun e => hc e.symm
      simp only [Bool.not_false, if_true]
      rw [List.contains_cons, this, h2]
      rfl
theorem pcs_len (t : List UInt8) : (pcs t).length ≤ t.length + 1 := by
  generalize hn : t.length = n
  induction n using Nat.strongRecOn generalizing t with
  | _ n ih =>
    rw [pcs_eq]
    cases hc : t.contains 47 with
    | false => simp
    | true =>
      have h1 := tl_lt t hc
      have := ih _ (by omega) (tl t) rfl
      simp only [if_true, List.length_cons]
      omega
theorem pcs_ne (t : List UInt8) : pcs t ≠ [] := by rw [pcs_eq]; simp
/-- Pieces of a text with a stroke in it. -/
theorem pcs_join (a b : List UInt8) (h : a.contains 47 = false) : pcs (a ++ 47 :: b) = a :: pcs b := by
  have hc : (a ++ 47 :: b).contains 47 = true := by simp
  have ha : ∀ c ∈ a, (!(c == 47)) = true := fun c hc => by
    cases he : (c == 47) with
    | false => rfl
    | true =>
      rw [beq_iff_eq] at he
      subst he
      rw [← Bool.not_eq_true, List.contains_iff_mem] at h
      exact absurd hc h
  have h1 : hd (a ++ 47 :: b) = a := by
    unfold hd
    rw [List.takeWhile_append_of_pos ha]
    simp
  have h2 : tl (a ++ 47 :: b) = b := by
    unfold tl
    rw [List.dropWhile_append_of_pos ha]
    simp
  rw [pcs_on hc, h1, h2]

def kp (x : List UInt8) : Bool := !(x == []) && !(x == [46])
def kept (l : List (List UInt8)) : List (List UInt8) := l.filter kp
def isDir (x : List UInt8) : Bool := (x == []) || ((x == [46]) || (x == [46, 46]))
def tooLong (l : List (List UInt8)) : Bool := l.any fun x => decide (32 < x.length)
def lastP (l : List (List UInt8)) : List UInt8 := l.getLastD []
def bad1 (p : List UInt8) : Bool := !(p.take 1 == [47]) || p.contains 0
/-- What Split tells. -/
def splitP (p : List UInt8) : List (List UInt8) × Bool × Int :=
  if bad1 p then ([], false, 1) else if 256 < p.length then ([], false, 2)
  else if tooLong (pcs (p.drop 1)) then ([], false, 2) else (kept (pcs (p.drop 1)), isDir (lastP (pcs (p.drop 1))), 0)
/-- Each part with a stroke ahead. -/
def joinB (l : List (List UInt8)) : List UInt8 := l.flatMap fun x => 47 :: x
def okP (x : List UInt8) : Bool := (x == [46, 46]) || may x
/-- What Join tells. -/
def joinP (l : List (List UInt8)) : List UInt8 × Int :=
  if l.all okP then (if 256 < (joinB l).length then ([], 2) else (if l = [] then [47] else joinB l, 0)) else ([], 1)
/-- What Plain tells, of what is told already. -/
def plainS (acc : List (List UInt8)) (x : List UInt8) : List (List UInt8) := if x = [46, 46] then acc.dropLast else acc ++ [x]
def plainP (l : List (List UInt8)) : List (List UInt8) := l.foldl plainS []
end Go.Proofs.Ytamhbjpoganhnaa.Ph
