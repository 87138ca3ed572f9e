/- The library's strings.Contains, strings.Cut and strings.TrimLeft at a byte 0. -/
import Derived.Test.YtmbmjdogfjmlpaaDoorSpRow
import Derived.Test.YtmbmjdogfjmlpaaDoorRegC
import Derived.Lib.Walk
import Derived.Lib.Strings
import Derived.Lib.Bytealg
import Derived.Lib.IndexAny
import Derived.Laws.Strings
import Derived.Laws.Strings2
import Derived.Laws.Strings3
import Derived.LoopTactic
namespace Go.Proofs.YtmbmjdogfjmlpaaDoor.Sp
set_option maxRecDepth 20000
open Go.RowKit Go.Lib
open Go.Proofs.YtmbmjdogfjmlpaaDoor.Mem Go.Proofs.YtmbmjdogfjmlpaaDoor.Reg

theorem indexByte_any (s : ByteArray) (c : Int) (w : World) :
    Calls Tryd.prog 44 #[.string s, .int .u8 c] w fun e w' => e = .returned (.int .i64 (Lib.indexByte s.data.toList c.toNat.toUInt8)) ∧ w' = w := by
  go_enter Tryd.func44, Tryd.ntmps44
  go_wp2
  rw [run_callFunc_extern Tryd.func50 (by kernel_rfl) (by kernel_rfl) (by kernel_rfl) (e := Extern.BytealgIndexByte.indexByte) (by kernel_rfl), Lib.run_indexByteString]
  simp only [Result.andThen]
  rw [Oper.upon_value]
  go_wp2
  go_ret
  exact ⟨rfl, rfl⟩
set_option maxHeartbeats 1000000 in
theorem liteIndex_any (s : ByteArray) (c : UInt8) (w : World) :
    Calls Tryd.prog 40 #[.string s, .string ⟨#[c]⟩] w fun e w' => e = .returned (.int .i64 (Lib.indexByte s.data.toList c)) ∧ w' = w := by
  cases he : ([c] == s.toList) with
  | true =>
    have h0 : Lib.indexByte s.data.toList c = 0 := by
      have h1 := beq_iff_eq.1 he
      rw [← ByteArray.toList_eq, ← h1]
      simp [Lib.indexByte]
    rw [h0]
    go_enter Tryd.func40, Tryd.ntmps40
    go_wp2
    go_ret
    exact ⟨rfl, rfl⟩
  | false =>
    go_enter Tryd.func40, Tryd.ntmps40
    go_wp2_with (with_reducible refine (indexByte_any s _ _).mono ?_; rintro e w' ⟨rfl, rfl⟩)
    go_ret
    exact ⟨rfl, rfl⟩
theorem index_any (s : ByteArray) (c : UInt8) (w : World) :
    Calls Tryd.prog 34 #[.string s, .string ⟨#[c]⟩] w fun e w' => e = .returned (.int .i64 (Lib.indexByte s.data.toList c)) ∧ w' = w := by
  go_enter Tryd.func34, Tryd.ntmps34
  go_wp2_with (with_reducible refine (liteIndex_any s c _).mono ?_; rintro e w' ⟨rfl, rfl⟩)
  go_ret
  exact ⟨rfl, rfl⟩
theorem contains_any (s : ByteArray) (c : UInt8) (w : World) :
    Calls Tryd.prog 30 #[.string s, .string ⟨#[c]⟩] w fun e w' => e = .returned (.bool (s.data.toList.contains c)) ∧ w' = w := by
  rw [Lib.contains_iff_indexByte]
  go_enter Tryd.func30, Tryd.ntmps30
  go_wp2_with (with_reducible refine (index_any s c _).mono ?_; rintro e w' ⟨rfl, rfl⟩)
  go_ret
  exact ⟨rfl, rfl⟩

def hd (t : List UInt8) : List UInt8 := t.takeWhile fun c => !(c == 0)
def tl (t : List UInt8) : List UInt8 := (t.dropWhile fun c => !(c == 0)).drop 1
theorem tl_lt : ∀ t : List UInt8, t.contains 0 = true → (tl t).length < t.length
  | [], h => by cases h
  | c :: t, h => by
    unfold tl
    rw [List.dropWhile_cons]
    cases hc : (c == 0) with
    | true => simp
    | false =>
      rw [List.contains_cons] at h
      have h2 : t.contains 0 = true := by
        have : (0 == c) = false := by
          rw [beq_eq_false_iff_ne] at hc ⊢
          exact fun e => hc e.symm
        rw [this] at h
        simpa using h
      have := tl_lt t h2
      unfold tl at this
      simp only [Bool.not_false, if_true, List.length_cons]
      omega
/-- The pieces between strokes. -/
def sp : (n : Nat) → List UInt8 → List (List UInt8)
  | 0, _ => []
  | n + 1, t => hd t :: (if t.contains 0 then sp n (tl t) else [])
def pcs (t : List UInt8) : List (List UInt8) := sp (t.length + 1) t
theorem sp_more : ∀ (n m : Nat) (t : List UInt8), t.length < n → t.length < m → sp n t = sp m t
  | 0, _, _, h, _ => by omega
  | _, 0, _, _, h => by omega
  | n + 1, m + 1, t, hn, hm => by
    unfold sp
    cases hc : t.contains 0 with
    | false => rfl
    | true =>
      have := tl_lt t hc
      rw [if_pos rfl, if_pos rfl, sp_more n m (tl t) (by omega) (by omega)]
theorem pcs_eq (t : List UInt8) : pcs t = hd t :: (if t.contains 0 then pcs (tl t) else []) := by
  unfold pcs
  rw [sp]
  cases hc : t.contains 0 with
  | false => rfl
  | true =>
    have := tl_lt t hc
    rw [if_pos rfl, if_pos rfl, sp_more t.length ((tl t).length + 1) (tl t) this (by omega)]
theorem pcs_last {t : List UInt8} (h : t.contains 0 = false) : pcs t = [hd t] := by rw [pcs_eq, h]; rfl
theorem pcs_on {t : List UInt8} (h : t.contains 0 = true) : pcs t = hd t :: pcs (tl t) := by rw [pcs_eq, h]; rfl
theorem cons_no {c : UInt8} {t : List UInt8} (h : (c :: t).contains 0 = false) : (c == 0) = false ∧ t.contains 0 = false := by
  rw [List.contains_cons, Bool.or_eq_false_iff] at h
  refine ⟨?_, h.2⟩
  have := h.1
  rw [beq_eq_false_iff_ne] at this ⊢
  exact fun e => this e.symm
theorem hd_all : ∀ {t : List UInt8}, t.contains 0 = false → hd t = t
  | [], _ => rfl
  | c :: t, h => by
    obtain ⟨h1, h2⟩ := cons_no h
    have := hd_all h2
    unfold hd at this ⊢
    rw [List.takeWhile_cons, h1, this]
    rfl
theorem hd_tl : ∀ {t : List UInt8}, t.contains 0 = true → t = hd t ++ 0 :: tl t
  | [], h => by cases h
  | c :: t, h => by
    unfold hd tl
    rw [List.takeWhile_cons, List.dropWhile_cons]
    cases hc : (c == 0) with
    | true =>
      rw [beq_iff_eq] at hc
      subst hc
      rfl
    | false =>
      rw [List.contains_cons] at h
      have h2 : t.contains 0 = true := by
        have : (0 == c) = false := by
          rw [beq_eq_false_iff_ne] at hc ⊢
          exact fun e => hc e.symm
        rw [this] at h
        simpa using h
      have := hd_tl h2
      unfold hd tl at this
      simp only [Bool.not_false, if_true, List.cons_append]
      rw [← this]
theorem hd_no : ∀ t : List UInt8, (hd t).contains 0 = false
  | [] => rfl
  | c :: t => by
    have h2 := hd_no t
    unfold hd at h2 ⊢
    rw [List.takeWhile_cons]
    cases hc : (c == 0) with
    | true => rfl
    | false =>
      have : (0 == c) = false := by
        rw [beq_eq_false_iff_ne] at hc ⊢
        exact fun e => hc e.symm
      simp only [Bool.not_false, if_true]
      rw [List.contains_cons, this, h2]
      rfl
theorem ext_front (s : ByteArray) (k : Nat) : s.extract 0 k = ⟨(s.data.toList.take k).toArray⟩ := by
  apply ByteArray.ext
  apply Array.ext'
  rw [Lib.extract_data]
  simp
theorem ext_back (s : ByteArray) (k : Nat) : s.extract k s.size = ⟨(s.data.toList.drop k).toArray⟩ := by
  apply ByteArray.ext
  apply Array.ext'
  rw [Lib.extract_data]
  rw [List.take_of_length_le (by rw [List.length_drop, ← Lib.size_eq]; exact Nat.le_refl _)]
theorem idx_none {t : List UInt8} (h : t.contains 0 = false) : Lib.indexByte t 0 = -1 := by
  rw [Lib.contains_iff_indexByte, decide_eq_false_iff_not] at h
  have := Lib.indexByte_ge t 0
  omega
theorem idx_some : ∀ {t : List UInt8}, t.contains 0 = true → Lib.indexByte t 0 = ((hd t).length : Int)
  | [], h => by cases h
  | c :: t, h => by
    unfold Lib.indexByte hd
    rw [List.takeWhile_cons]
    cases hc : (c == 0) with
    | true => rfl
    | false =>
      rw [List.contains_cons] at h
      have h2 : t.contains 0 = true := by
        have : (0 == c) = false := by
          rw [beq_eq_false_iff_ne] at hc ⊢
          exact fun e => hc e.symm
        rw [this] at h
        simpa using h
      have := idx_some h2
      unfold hd at this
      rw [this]
      have h3 : (((t.takeWhile fun c => !(c == 0)).length : Int) == -1) = false := by
        rw [beq_eq_false_iff_ne]; omega
      rw [h3]
      simp
theorem take_hd {t : List UInt8} (h : t.contains 0 = true) : t.take (hd t).length = hd t := by
  conv => lhs; rw [hd_tl h]
  rw [List.take_left']
  rw [← hd_tl h]
theorem drop_hd {t : List UInt8} (h : t.contains 0 = true) : t.drop ((hd t).length + 1) = tl t := by
  have e := hd_tl h
  generalize hd t = a at *
  generalize tl t = b at *
  subst e
  rw [show a ++ 0 :: b = (a ++ [0]) ++ b by simp, List.drop_left' (by simp)]
def hasS (t : List UInt8) : Bool := t.contains 0
def tlc (t : List UInt8) : List UInt8 := if hasS t then tl t else []
theorem hasS_eq (t : List UInt8) : hasS t = t.contains 0 := rfl
/-- What Cut tells of a text. -/
def cutV (t : List UInt8) : Value := .tuple #[.string ⟨(hd t).toArray⟩, .string ⟨(tlc t).toArray⟩, .bool (hasS t)]
set_option maxHeartbeats 1000000 in
theorem litecut_any (t : List UInt8) (ht : t.length ≤ maxLen) (w : World) :
    Calls Tryd.prog 39 #[.string ⟨t.toArray⟩, .string ⟨#[0]⟩] w fun e w' => e = .returned (cutV t) ∧ Below w.heap.size w w' := by
  unfold maxLen at ht
  cases hc : t.contains 0 with
  | false =>
    have hi : Lib.indexByte t 0 = -1 := idx_none hc
    have hv : cutV t = .tuple #[.string ⟨t.toArray⟩, .string ⟨#[]⟩, .bool false] := by
      unfold cutV tlc
      rw [hasS_eq, hc, hd_all hc]
      rfl
    rw [hv]
    have hI := fun W => liteIndex_any ⟨t.toArray⟩ 0 W
    simp only [hi] at hI
    have HI := Lib.hid hI; clear hI hv hc
    go_enter Tryd.func39, Tryd.ntmps39
    go_wp2_with (with_reducible refine (HI.out _).mono ?_; rintro e w' ⟨rfl, rfl⟩)
    go_ret3
    exact ⟨rfl, Below.refl _ _⟩
  | true =>
    have hi : Lib.indexByte t 0 = ((hd t).length : Int) := idx_some hc
    obtain ⟨k, hk⟩ : ∃ k, k = (hd t).length := ⟨_, rfl⟩
    rw [← hk] at hi
    have hkt : k + 1 ≤ t.length := by
      have := congrArg List.length (hd_tl hc)
      rw [List.length_append, List.length_cons] at this
      omega
    have e1 : (⟨t.toArray⟩ : ByteArray).extract 0 k = ⟨(hd t).toArray⟩ := by
      rw [ext_front]
      show (⟨(t.take k).toArray⟩ : ByteArray) = _
      rw [hk, take_hd hc]
    have e2 : (⟨t.toArray⟩ : ByteArray).extract (k + 1) t.length = ⟨(tl t).toArray⟩ := by
      have := ext_back ⟨t.toArray⟩ (k + 1)
      rw [show (⟨t.toArray⟩ : ByteArray).size = t.length from by simp [ByteArray.size]] at this
      rw [this]
      show (⟨(t.drop (k + 1)).toArray⟩ : ByteArray) = _
      rw [hk, drop_hd hc]
    have hv : cutV t = .tuple #[.string ⟨(hd t).toArray⟩, .string ⟨(tl t).toArray⟩, .bool true] := by
      unfold cutV tlc
      rw [hasS_eq, hc]
      rfl
    rw [hv]
    rw [← e1, ← e2]
    have hI := fun W => liteIndex_any ⟨t.toArray⟩ 0 W
    simp only [hi] at hI
    have HI := Lib.hid hI; clear hI hv hc e1 e2 hk
    have hs : (⟨t.toArray⟩ : ByteArray).size = t.length := by simp [ByteArray.size]
    have hk0 : (0 : Int) ≤ (k : Int) := by omega
    have hkn : (k : Int) ≤ (t.length : Int) := by omega
    have hkn2 : (k : Int) + 1 ≤ (t.length : Int) := by omega
    go_enter Tryd.func39, Tryd.ntmps39
    go_wp2_with (with_reducible refine (HI.out _).mono ?_; rintro e w' ⟨rfl, rfl⟩)
    go_region
    all_goals go_wp2
    all_goals go_ret3
    all_goals exact ⟨rfl, (Below.refl _ _).drew⟩
theorem cut_any (t : List UInt8) (ht : t.length ≤ maxLen) (w : World) :
    Calls Tryd.prog 33 #[.string ⟨t.toArray⟩, .string ⟨#[0]⟩] w fun e w' => e = .returned (cutV t) ∧ Below w.heap.size w w' := by
  have hL := fun W => litecut_any t ht W
  have HP : Hid (∀ W, cutV t = .tuple #[.string ⟨(hd t).toArray⟩, .string ⟨(tlc t).toArray⟩, .bool (hasS t)] ∧ Below w.heap.size W W) := Lib.hid fun W => ⟨rfl, Below.refl _ _⟩
  unfold cutV at hL ⊢
  generalize hd t = a at *
  generalize tlc t = b at *
  generalize hasS t = c at *
  have HL := Lib.hid hL; clear hL
  go_enter Tryd.func33, Tryd.ntmps33
  go_wp2_with (with_reducible refine (HL.out _).mono ?_; rintro e w' ⟨rfl, hb⟩; have HB := Lib.hid hb; clear hb)
  go_ret3
  exact ⟨rfl, HB.out⟩

/-! ### TrimLeft -/
theorem run_index_at (S : ByteArray) (k : Nat) (h : k < S.size) (W : World) : (Instr.index 9 (.string S) (.int .i64 (k : Int))).run Tryd.prog W = .ok (.int .u8 (S[k].toNat : Int)) W := by
  rw [run_index_string W _ _ _ _ Tryd.underlying9]
  simp [h]
def trim (t : List UInt8) : List UInt8 := t.dropWhile fun c => c == 0
theorem trim_split (t : List UInt8) : ∃ z, t = List.replicate z 0 ++ trim t ∧ z + (trim t).length = t.length := by
  induction t with
  | nil => exact ⟨0, rfl, rfl⟩
  | cons c t ih =>
    obtain ⟨z, h1, h2⟩ := ih
    unfold trim at h1 h2 ⊢
    rw [List.dropWhile_cons]
    by_cases hc : (c == 0) = true
    · rw [if_pos hc]
      rw [beq_iff_eq] at hc
      refine ⟨z + 1, ?_, by rw [List.length_cons]; omega⟩
      rw [List.replicate_succ, List.cons_append, ← h1, hc]
    · rw [if_neg hc]
      exact ⟨0, rfl, by simp⟩
theorem trim_head {t : List UInt8} {c : UInt8} {r : List UInt8} (h : trim t = c :: r) : c ≠ 0 := by
  have : ¬ ((c == 0) = true) := by
    have h1 := List.head?_dropWhile_not (fun c : UInt8 => c == 0) t
    unfold trim at h
    rw [h] at h1
    simpa using h1
  intro e
  exact this (by rw [e]; rfl)
set_option maxHeartbeats 1000000 in
theorem trimbyte_any (t : List UInt8) (w : World) :
    Calls Tryd.prog 35 #[.string ⟨t.toArray⟩, .int .u8 0] w fun e w' => e = .returned (.string ⟨(trim t).toArray⟩) ∧ Below w.heap.size w w' := by
  obtain ⟨T0, hT0⟩ : ∃ T0, T0 = trim t := ⟨_, rfl⟩
  rw [← hT0]
  have HT0 := Lib.hid hT0; clear hT0
  go_enter Tryd.func35, Tryd.ntmps35
  go_wp2
  go_loopw [0] (fun i wr => ∃ u : List UInt8, u.length ≤ t.length ∧ i = .string ⟨u.toArray⟩ ∧ trim u = trim t ∧ Below w.heap.size w wr) (fun i _ => match i with | .string s => s.size | _ => 0)
  case atStart => exact ⟨t, Nat.le_refl _, rfl, rfl, Below.refl _ _⟩
  case round =>
    obtain ⟨u, hu, rfl, htu, hb⟩ := hrel
    have HB := Lib.hid hb; clear hb
    have HTU := Lib.hid htu; clear htu
    match u with
    | [] =>
      have hr : T0 = [] := by rw [HT0.out, ← HTU.out]; rfl
      have HRR := Lib.hid hr; clear hr
      go_wp2
      go_ret
      exact ⟨by rw [HRR.out]; rfl, HB.out⟩
    | c :: r =>
      have hs : (⟨(c :: r).toArray⟩ : ByteArray).size = r.length + 1 := by simp [ByteArray.size]
      rw [List.length_cons] at hu
      have hix : ∀ W, (Instr.index 9 (.string (⟨(c :: r).toArray⟩ : ByteArray)) (.int .i64 0)).run Tryd.prog W = .ok (.int .u8 (c.toNat : Int)) W := fun W => by
        have h0 : 0 < (⟨(c :: r).toArray⟩ : ByteArray).size := by rw [hs]; omega
        have := run_index_at (⟨(c :: r).toArray⟩ : ByteArray) 0 h0 W
        exact this
      have hgt : (0 : Int) < (r.length : Int) + 1 := by omega
      have hgt2 : decide ((((r.length + 1 : Nat)) : Int) > 0) = true := decide_eq_true (by omega)
      by_cases hc : c = 0
      · have q0 : ((c.toNat : Int) == 0) = true := by rw [hc]; rfl
        have hext : (⟨(c :: r).toArray⟩ : ByteArray).extract 1 (r.length + 1) = ⟨r.toArray⟩ := by
          have := ext_back ⟨(c :: r).toArray⟩ 1
          rw [hs] at this
          rw [this]
          rfl
        have hnx : trim r = trim t := by
          rw [← HTU.out, hc]
          rfl
        have HNX := Lib.hid hnx; clear hnx
        have HR : Hid (r.length + 1 ≤ t.length) := Lib.hid hu
        have HRS : Hid ((⟨r.toArray⟩ : ByteArray).size = r.length) := Lib.hid (by simp [ByteArray.size])
        generalize (⟨(c :: r).toArray⟩ : ByteArray) = S at *
        go_wp2
        go_round
        case rel => exact ⟨r, by have := HR.out; omega, by first | rfl | (congr 1), HNX.out, HB.out⟩
        case measure =>
          show (⟨r.toArray⟩ : ByteArray).size < S.size
          rw [HRS.out, hs]
          omega
      · have q0 : ((c.toNat : Int) == 0) = false := beq_false_of_ne (fun e => hc (UInt8.toNat_inj.1 (by show c.toNat = 0; omega)))
        have hr : T0 = c :: r := by
          rw [HT0.out, ← HTU.out]
          unfold trim
          rw [List.dropWhile_cons, if_neg (by simpa using hc)]
        have HRR := Lib.hid hr; clear hr
        go_wp2
        go_ret
        exact ⟨by rw [HRR.out]; rfl, HB.out⟩
set_option maxHeartbeats 1000000 in
theorem trim_any (t : List UInt8) (w : World) :
    Calls Tryd.prog 32 #[.string ⟨t.toArray⟩, .string ⟨#[0]⟩] w fun e w' => e = .returned (.string ⟨(trim t).toArray⟩) ∧ Below w.heap.size w w' := by
  match t with
  | [] =>
    go_enter Tryd.func32, Tryd.ntmps32
    go_wp2
    go_ret
    exact ⟨rfl, Below.refl _ _⟩
  | c :: r =>
    have hT := fun W => trimbyte_any (c :: r) W
    have hs : ((⟨(c :: r).toArray⟩ : ByteArray).toList == ([] : List UInt8)) = false := by rw [ByteArray.toList_eq]; rfl
    have hs2 : ((⟨(c :: r).toArray⟩ : ByteArray) == (⟨#[]⟩ : ByteArray)) = false := by rfl
    generalize (⟨(c :: r).toArray⟩ : ByteArray) = S at *
    generalize (⟨(trim (c :: r)).toArray⟩ : ByteArray) = T at *
    have hix : ∀ W, (Instr.index 9 (.string ⟨#[0]⟩) (.int .i64 0)).run Tryd.prog W = .ok (.int .u8 0) W := fun W => run_index_at ⟨#[0]⟩ 0 (by decide) W
    have HT := Lib.hid hT; clear hT
    go_enter Tryd.func32, Tryd.ntmps32
    go_wp2_with (with_reducible refine (HT.out _).mono ?_; rintro e w' ⟨rfl, hb⟩; have HB := Lib.hid hb; clear hb)
    go_ret
    exact ⟨rfl, HB.out⟩
end Go.Proofs.YtmbmjdogfjmlpaaDoor.Sp
