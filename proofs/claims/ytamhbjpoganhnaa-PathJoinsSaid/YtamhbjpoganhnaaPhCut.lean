/- The library's strings.Cut at a stroke, and strings.HasPrefix of one. -/
import Derived.Test.YtamhbjpoganhnaaPhMay
import Derived.Test.YtamhbjpoganhnaaPhPlain
namespace Go.Proofs.Ytamhbjpoganhnaa.Ph
set_option maxRecDepth 20000
open Go.RowKit Go.Lib
open Go.Proofs.Ytamhbjpoganhnaa.Lf Go.Proofs.Ytamhbjpoganhnaa.Mem Go.Proofs.Ytamhbjpoganhnaa.Reg

theorem ext_front (s : ByteArray) (k : Nat) : s.extract 0 k = ⟨(s.data.toList.take k).toArray⟩ := by
  apply ByteArray.ext
  apply Array.ext'
  rw [Lib.extract_data]
  simp
theorem ext_back (s : ByteArray) (k : Nat) : s.extract k s.size = ⟨(s.data.toList.drop k).toArray⟩ := by
  apply ByteArray.ext
  apply Array.ext'
  rw [Lib.extract_data]
  rw [List.take_of_length_le (by rw [List.length_drop, ← Lib.size_eq]; exact Nat.le_refl _)]
theorem idx_none {t : List UInt8} (h : t.contains 47 = false) : Lib.indexByte t 47 = -1 := by
  rw [Lib.contains_iff_indexByte, decide_eq_false_iff_not] at h
  have := Lib.indexByte_ge t 47
  omega
theorem idx_some : ∀ {t : List UInt8}, t.contains 47 = true → Lib.indexByte t 47 = ((hd t).length : Int)
  | [], h => by cases h
  | c :: t, h => by
    unfold Lib.indexByte hd
    rw [List.takeWhile_cons]
    cases hc : (c == 47) with
    | true => rfl
    | false =>
      rw [List.contains_cons] at h
      have h2 : t.contains 47 = true := by
        have : (47 == c) = false := by
          rw [beq_eq_false_iff_ne] at hc ⊢
          exact fun e => hc e.symm
        rw [this] at h
        simpa using h
      have := idx_some h2
      unfold hd at this
      rw [this]
      have h3 : (((t.takeWhile fun c => !(c == 47)).length : Int) == -1) = false := by
        rw [beq_eq_false_iff_ne]; omega
      rw [h3]
      simp
theorem take_hd {t : List UInt8} (h : t.contains 47 = true) : t.take (hd t).length = hd t := by
  conv => lhs; rw [hd_tl h]
  rw [List.take_left']
  rw [← hd_tl h]
theorem drop_hd {t : List UInt8} (h : t.contains 47 = true) : t.drop ((hd t).length + 1) = tl t := by
  have e := hd_tl h
  generalize hd t = a at *
  generalize tl t = b at *
  subst e
  rw [show a ++ 47 :: b = (a ++ [47]) ++ b by simp, List.drop_left' (by simp)]
def hasS (t : List UInt8) : Bool := t.contains 47
def tlc (t : List UInt8) : List UInt8 := if hasS t then tl t else []
theorem hasS_eq (t : List UInt8) : hasS t = t.contains 47 := rfl
/-- What Cut tells of a text. -/
def cutV (t : List UInt8) : Value := .tuple #[.string ⟨(hd t).toArray⟩, .string ⟨(tlc t).toArray⟩, .bool (hasS t)]
set_option maxHeartbeats 1000000 in
theorem litecut_any (t : List UInt8) (ht : t.length ≤ maxLen) (w : World) :
    Calls Try.prog 30 #[.string ⟨t.toArray⟩, .string ⟨#[47]⟩] w fun e w' => e = .returned (cutV t) ∧ Below w.heap.size w w' := by
  unfold maxLen at ht
  cases hc : t.contains 47 with
  | false =>
    have hi : Lib.indexByte t 47 = -1 := idx_none hc
    have hv : cutV t = .tuple #[.string ⟨t.toArray⟩, .string ⟨#[]⟩, .bool false] := by
      unfold cutV tlc
      rw [hasS_eq, hc, hd_all hc]
      rfl
    rw [hv]
    have hI := fun W => liteIndex_any ⟨t.toArray⟩ 47 W
    simp only [hi] at hI
    have HI := Lib.hid hI; clear hI hv hc
    go_enter Try.func30, Try.ntmps30
    go_wp2_with (with_reducible refine (HI.out _).mono ?_; rintro e w' ⟨rfl, rfl⟩)
    go_ret3
    exact ⟨rfl, Below.refl _ _⟩
  | true =>
    have hi : Lib.indexByte t 47 = ((hd t).length : Int) := idx_some hc
    obtain ⟨k, hk⟩ : ∃ k, k = (hd t).length := ⟨_, rfl⟩
    rw [← hk] at hi
    have hkt : k + 1 ≤ t.length := by
      have := congrArg List.length (hd_tl hc)
      rw [List.length_append, List.length_cons] at this
      omega
    have e1 : (⟨t.toArray⟩ : ByteArray).extract 0 k = ⟨(hd t).toArray⟩ := by
      rw [ext_front]
      show (⟨(t.take k).toArray⟩ : ByteArray) = _
      rw [hk, take_hd hc]
    have e2 : (⟨t.toArray⟩ : ByteArray).extract (k + 1) t.length = ⟨(tl t).toArray⟩ := by
      have := ext_back ⟨t.toArray⟩ (k + 1)
      rw [show (⟨t.toArray⟩ : ByteArray).size = t.length from by simp [ByteArray.size]] at this
      rw [this]
      show (⟨(t.drop (k + 1)).toArray⟩ : ByteArray) = _
      rw [hk, drop_hd hc]
    have hv : cutV t = .tuple #[.string ⟨(hd t).toArray⟩, .string ⟨(tl t).toArray⟩, .bool true] := by
      unfold cutV tlc
      rw [hasS_eq, hc]
      rfl
    rw [hv]
    rw [← e1, ← e2]
    have hI := fun W => liteIndex_any ⟨t.toArray⟩ 47 W
    simp only [hi] at hI
    have HI := Lib.hid hI; clear hI hv hc e1 e2 hk
    have hs : (⟨t.toArray⟩ : ByteArray).size = t.length := by simp [ByteArray.size]
    have hk0 : (0 : Int) ≤ (k : Int) := by omega
    have hkn : (k : Int) ≤ (t.length : Int) := by omega
    have hkn2 : (k : Int) + 1 ≤ (t.length : Int) := by omega
    go_enter Try.func30, Try.ntmps30
    go_wp2_with (with_reducible refine (HI.out _).mono ?_; rintro e w' ⟨rfl, rfl⟩)
    go_region
    all_goals go_wp2
    all_goals go_ret3
    all_goals exact ⟨rfl, (Below.refl _ _).drew⟩
theorem cut_any (t : List UInt8) (ht : t.length ≤ maxLen) (w : World) :
    Calls Try.prog 25 #[.string ⟨t.toArray⟩, .string ⟨#[47]⟩] w fun e w' => e = .returned (cutV t) ∧ Below w.heap.size w w' := by
  have hL := fun W => litecut_any t ht W
  have HP : Hid (∀ W, cutV t = .tuple #[.string ⟨(hd t).toArray⟩, .string ⟨(tlc t).toArray⟩, .bool (hasS t)] ∧ Below w.heap.size W W) := Lib.hid fun W => ⟨rfl, Below.refl _ _⟩
  unfold cutV at hL ⊢
  generalize hd t = a at *
  generalize tlc t = b at *
  generalize hasS t = c at *
  have HL := Lib.hid hL; clear hL
  go_enter Try.func25, Try.ntmps25
  go_wp2_with (with_reducible refine (HL.out _).mono ?_; rintro e w' ⟨rfl, hb⟩; have HB := Lib.hid hb; clear hb)
  go_ret3
  exact ⟨rfl, HB.out⟩
set_option maxHeartbeats 1000000 in
theorem liteprefix_any (t : List UInt8) (w : World) :
    Calls Try.prog 22 #[.string ⟨t.toArray⟩, .string ⟨#[47]⟩] w fun e w' => e = .returned (.bool (t.take 1 == [47])) ∧ w' = w := by
  match t with
  | [] =>
    go_enter Try.func22, Try.ntmps22
    go_wp2
    go_ret
    exact ⟨rfl, rfl⟩
  | c :: r =>
    have e1 : (⟨(c :: r).toArray⟩ : ByteArray).extract 0 1 = ⟨#[c]⟩ := by
      rw [ext_front]
      rfl
    have hs : (⟨(c :: r).toArray⟩ : ByteArray).size = r.length + 1 := by simp [ByteArray.size]
    have hq : ((⟨#[c]⟩ : ByteArray) == (⟨#[47]⟩ : ByteArray)) = (c == 47) := by
      rw [show ((⟨#[c]⟩ : ByteArray) == (⟨#[47]⟩ : ByteArray)) = (#[c] == #[47]) from rfl]
      simp
    have hl : ((c :: r).take 1 == [47]) = (c == 47) := by
      show ([c] == [47]) = _
      cases h : (c == 47) with
      | true => rw [beq_iff_eq] at h; subst h; rfl
      | false =>
        rw [beq_eq_false_iff_ne] at h ⊢
        simpa using h
    rw [hl]
    have HL := Lib.hid hl; clear hl
    generalize (⟨(c :: r).toArray⟩ : ByteArray) = S at *
    have h1 : (1 : Int) ≤ (r.length : Int) + 1 := by omega
    have h2 : (1 : Int) ≤ ((r.length + 1 : Nat) : Int) := by omega
    go_enter Try.func22, Try.ntmps22
    go_wp2
    go_ret
    exact ⟨rfl, rfl⟩
theorem prefix_any (t : List UInt8) (w : World) :
    Calls Try.prog 16 #[.string ⟨t.toArray⟩, .string ⟨#[47]⟩] w fun e w' => e = .returned (.bool (t.take 1 == [47])) ∧ w' = w := by
  have hL := fun W => liteprefix_any t W
  generalize (t.take 1 == [47]) = q at *
  have HL := Lib.hid hL; clear hL
  go_enter Try.func16, Try.ntmps16
  go_wp2_with (with_reducible refine (HL.out _).mono ?_; rintro e w' ⟨rfl, rfl⟩)
  go_ret
  exact ⟨rfl, rfl⟩
end Go.Proofs.Ytamhbjpoganhnaa.Ph
