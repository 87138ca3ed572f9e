/- Which name may be: the program's call and the document's. -/
import Derived.Test.YtamhbjpoganhnaaPhMem
import Derived.Test.YtamhbjpoganhnaaRegC
import Derived.Lib.Walk
import Derived.Lib.Strings
import Derived.Lib.Bytealg
import Derived.Lib.IndexAny
import Derived.Laws.Strings
import Derived.Laws.Strings2
import Derived.Laws.Strings3
import Derived.LoopTactic
namespace Go.Proofs.Ytamhbjpoganhnaa.Ph
set_option maxRecDepth 20000
open Go.RowKit Go.Lib
open Go.Proofs.Ytamhbjpoganhnaa.Lf Go.Proofs.Ytamhbjpoganhnaa.Mem  Go.Proofs.Ytamhbjpoganhnaa.Reg

theorem indexByte_any (s : ByteArray) (c : Int) (w : World) :
    Calls Try.prog 33 #[.string s, .int .u8 c] w fun e w' => e = .returned (.int .i64 (Lib.indexByte s.data.toList c.toNat.toUInt8)) ∧ w' = w := by
  go_enter Try.func33, Try.ntmps33
  go_wp2
  rw [run_callFunc_extern Try.func39 (by kernel_rfl) (by kernel_rfl) (by kernel_rfl) (e := Extern.BytealgIndexByte.indexByte) (by kernel_rfl), Lib.run_indexByteString]
  simp only [Result.andThen]
  rw [Oper.upon_value]
  go_wp2
  go_ret
  exact ⟨rfl, rfl⟩
set_option maxHeartbeats 1000000 in
theorem liteIndex_any (s : ByteArray) (c : UInt8) (w : World) :
    Calls Try.prog 29 #[.string s, .string ⟨#[c]⟩] w fun e w' => e = .returned (.int .i64 (Lib.indexByte s.data.toList c)) ∧ w' = w := by
  cases he : ([c] == s.toList) with
  | true =>
    have h0 : Lib.indexByte s.data.toList c = 0 := by
      have h1 := beq_iff_eq.1 he
      rw [← ByteArray.toList_eq, ← h1]
      simp [Lib.indexByte]
    rw [h0]
    go_enter Try.func29, Try.ntmps29
    go_wp2
    go_ret
    exact ⟨rfl, rfl⟩
  | false =>
    go_enter Try.func29, Try.ntmps29
    go_wp2_with (with_reducible refine (indexByte_any s _ _).mono ?_; rintro e w' ⟨rfl, rfl⟩)
    go_ret
    exact ⟨rfl, rfl⟩
theorem index_any (s : ByteArray) (c : UInt8) (w : World) :
    Calls Try.prog 23 #[.string s, .string ⟨#[c]⟩] w fun e w' => e = .returned (.int .i64 (Lib.indexByte s.data.toList c)) ∧ w' = w := by
  go_enter Try.func23, Try.ntmps23
  go_wp2_with (with_reducible refine (liteIndex_any s c _).mono ?_; rintro e w' ⟨rfl, rfl⟩)
  go_ret
  exact ⟨rfl, rfl⟩
theorem contains_any (s : ByteArray) (c : UInt8) (w : World) :
    Calls Try.prog 17 #[.string s, .string ⟨#[c]⟩] w fun e w' => e = .returned (.bool (s.data.toList.contains c)) ∧ w' = w := by
  rw [Lib.contains_iff_indexByte]
  go_enter Try.func17, Try.ntmps17
  go_wp2_with (with_reducible refine (index_any s c _).mono ?_; rintro e w' ⟨rfl, rfl⟩)
  go_ret
  exact ⟨rfl, rfl⟩

theorem may_of (t : List UInt8) (a b c0 c47 : Bool) (ha : (t == [46]) = a) (hb : (t == [46, 46]) = b) (h0 : t.contains 0 = c0) (h47 : t.contains 47 = c47) :
    may t = (decide (1 ≤ t.length ∧ t.length ≤ 32) && (!a && (!b && (!c0 && !c47)))) := by
  have e : ∀ u : List UInt8, decide (t ≠ u) = !(t == u) := fun u => by
    by_cases h : t = u
    · rw [decide_eq_false (fun k => k h), beq_iff_eq.2 h]; rfl
    · rw [decide_eq_true h, beq_false_of_ne h]; rfl
  unfold may
  rw [e, e, ha, hb, h0, h47]
set_option maxHeartbeats 1000000 in
theorem may_any (S : ByteArray) (hS : S.size ≤ maxLen) (w : World) :
    Calls Try.prog 19 #[.string S] w fun e w' => e = .returned (.bool (may S.data.toList)) ∧ w' = w := by
  obtain ⟨a, ha⟩ : ∃ a, (S.data.toList == [46]) = a := ⟨_, rfl⟩
  obtain ⟨b, hb⟩ : ∃ a, (S.data.toList == [46, 46]) = a := ⟨_, rfl⟩
  obtain ⟨c0, h0⟩ : ∃ a, S.data.toList.contains 0 = a := ⟨_, rfl⟩
  obtain ⟨c47, h47⟩ : ∃ a, S.data.toList.contains 47 = a := ⟨_, rfl⟩
  rw [may_of _ a b c0 c47 ha hb h0 h47]
  have hC0 : ∀ W, Calls Try.prog 17 #[.string S, .string ⟨#[0]⟩] W fun e w' => e = .returned (.bool c0) ∧ w' = W := fun W => h0 ▸ contains_any S 0 W
  have hC47 : ∀ W, Calls Try.prog 17 #[.string S, .string ⟨#[47]⟩] W fun e w' => e = .returned (.bool c47) ∧ w' = W := fun W => h47 ▸ contains_any S 47 W
  have e : S.data.toList.length = S.size := Array.length_toList
  rw [e]
  rw [← ByteArray.toList_eq] at ha hb
  have H0 := Lib.hid hC0; clear hC0
  have H47 := Lib.hid hC47; clear hC47
  clear h0 h47 e
  unfold maxLen at hS
  cases a with
  | true =>
    go_enter Try.func19, Try.ntmps19
    go_wp2
    go_ret
    exact ⟨by simp, rfl⟩
  | false =>
  cases b with
  | true =>
    go_enter Try.func19, Try.ntmps19
    go_wp2
    go_ret
    exact ⟨by simp, rfl⟩
  | false =>
  rcases Decidable.em (1 ≤ S.size) with h1 | h1
  rotate_left
  · have hd : decide (1 ≤ S.size ∧ S.size ≤ 32) = false := decide_eq_false (fun e => h1 e.1)
    have hd2 : decide ((1 : Int) ≤ (S.size : Int)) = false := decide_eq_false (by omega)
    rw [hd]
    go_enter Try.func19, Try.ntmps19
    go_wp2
    go_ret
    exact ⟨by simp, rfl⟩
  rcases Decidable.em (S.size ≤ 32) with h2 | h2
  rotate_left
  · have hd : decide (1 ≤ S.size ∧ S.size ≤ 32) = false := decide_eq_false (fun e => h2 e.2)
    rw [hd]
    go_enter Try.func19, Try.ntmps19
    go_wp2
    go_ret
    exact ⟨by simp, rfl⟩
  have hd : decide (1 ≤ S.size ∧ S.size ≤ 32) = true := decide_eq_true ⟨h1, h2⟩
  rw [hd]
  clear hd
  cases c0 with
  | true =>
    go_enter Try.func19, Try.ntmps19
    go_wp2_with (with_reducible refine (H0.out _).mono ?_; rintro e w' ⟨rfl, rfl⟩)
    go_ret
    exact ⟨rfl, rfl⟩
  | false =>
  cases c47 with
  | true =>
    go_enter Try.func19, Try.ntmps19
    go_wp2_with (first | (with_reducible refine (H0.out _).mono ?_; rintro e w' ⟨rfl, rfl⟩) | (with_reducible refine (H47.out _).mono ?_; rintro e w' ⟨rfl, rfl⟩))
    go_ret
    exact ⟨rfl, rfl⟩
  | false =>
    go_enter Try.func19, Try.ntmps19
    go_wp2_with (first | (with_reducible refine (H0.out _).mono ?_; rintro e w' ⟨rfl, rfl⟩) | (with_reducible refine (H47.out _).mono ?_; rintro e w' ⟨rfl, rfl⟩))
    go_ret
    exact ⟨rfl, rfl⟩
theorem bytes_get (S : ByteArray) (k : Nat) (h : k < S.size) : S.data.toList[k]? = some (S[k]) := by
  rw [Array.getElem?_toList, Array.getElem?_eq_getElem (by exact h)]; rfl
theorem clean_all (t : List UInt8) (h : ∀ j, j < t.length → t.getD j 0 ≠ 0 ∧ t.getD j 0 ≠ 47) : t.contains 0 = false ∧ t.contains 47 = false := by
  have key : ∀ c : UInt8, (∀ j, j < t.length → t.getD j 0 ≠ c) → t.contains c = false := fun c hc => by
    cases hb : t.contains c with
    | false => rfl
    | true =>
      have hm : c ∈ t := List.contains_iff_mem.1 hb
      obtain ⟨j, hj, e⟩ := List.getElem_of_mem hm
      have := hc j hj
      rw [List.getD_eq_getElem?_getD, List.getElem?_eq_getElem hj, Option.getD_some] at this
      exact absurd e this
  exact ⟨key 0 (fun j hj => (h j hj).1), key 47 (fun j hj => (h j hj).2)⟩
theorem clean_not (t : List UInt8) (k : Nat) (hk : k < t.length) (c : UInt8) (h : t.getD k 0 = c) : t.contains c = true := by
  rw [List.contains_iff_mem]
  rw [List.getD_eq_getElem?_getD, List.getElem?_eq_getElem hk, Option.getD_some] at h
  rw [← h]
  exact List.getElem_mem hk
theorem run_index_at (S : ByteArray) (k : Nat) (h : k < S.size) (W : World) : (Instr.index 9 (.string S) (.int .i64 (k : Int))).run Try.prog W = .ok (.int .u8 (S[k].toNat : Int)) W := by
  rw [run_index_string W _ _ _ _ Try.underlying9]
  simp [h]
set_option maxHeartbeats 1000000 in
theorem rmay_any (S : ByteArray) (hS : S.size ≤ maxLen) (w : World) :
    Calls Try.prog 21 #[.string S] w fun e w' => e = .returned (.bool (may S.data.toList)) ∧ w' = w := by
  obtain ⟨a, ha⟩ : ∃ a, (S.data.toList == [46]) = a := ⟨_, rfl⟩
  obtain ⟨b, hb⟩ : ∃ a, (S.data.toList == [46, 46]) = a := ⟨_, rfl⟩
  obtain ⟨r, hr⟩ : ∃ r, r = may S.data.toList := ⟨_, rfl⟩
  rw [← hr]
  have e : S.data.toList.length = S.size := Array.length_toList
  have HR : Hid (r = (decide (1 ≤ S.size ∧ S.size ≤ 32) && (!a && (!b && (!S.data.toList.contains 0 && !S.data.toList.contains 47))))) := Lib.hid (by rw [hr, may_of _ a b _ _ ha hb rfl rfl, e])
  clear hr
  have E := Lib.hid e; clear e
  rw [← ByteArray.toList_eq] at ha hb
  unfold maxLen at hS
  rcases Decidable.em (1 ≤ S.size) with h1 | h1
  rotate_left
  · have hr : r = false := by rw [HR.out, decide_eq_false (fun e => h1 e.1)]; rfl
    have h1' : S.size < 1 := by omega
    rw [hr]; clear HR hr
    go_enter Try.func21, Try.ntmps21
    go_wp2
    go_ret
    exact ⟨rfl, rfl⟩
  rcases Decidable.em (S.size ≤ 32) with h2 | h2
  rotate_left
  · have hr : r = false := by rw [HR.out, decide_eq_false (fun e => h2 e.2)]; rfl
    rw [hr]; clear HR hr
    go_enter Try.func21, Try.ntmps21
    go_wp2
    go_ret
    exact ⟨rfl, rfl⟩
  have hq1 : ¬ (S.size : Int) < 1 := by omega
  have hq2 : ¬ (32 : Int) < (S.size : Int) := by omega
  cases a with
  | true =>
    have hr : r = false := by rw [HR.out]; simp
    rw [hr]; clear HR hr
    go_enter Try.func21, Try.ntmps21
    go_wp2
    go_ret
    exact ⟨rfl, rfl⟩
  | false =>
  cases b with
  | true =>
    have hr : r = false := by rw [HR.out]; simp
    rw [hr]; clear HR hr
    go_enter Try.func21, Try.ntmps21
    go_wp2
    go_ret
    exact ⟨rfl, rfl⟩
  | false =>
  have HR2 : Hid (r = (!S.data.toList.contains 0 && !S.data.toList.contains 47)) := Lib.hid (by rw [HR.out, decide_eq_true ⟨h1, h2⟩]; rfl)
  clear HR h1
  go_enter Try.func21, Try.ntmps21
  go_wp2
  go_loopw [3] (fun i wr => ∃ k : Nat, k ≤ S.size ∧ i = .int .i64 (k : Int) ∧ (∀ j, j < k → S.data.toList.getD j 0 ≠ 0 ∧ S.data.toList.getD j 0 ≠ 47) ∧ wr = w) (fun i _ => S.size - (RowKit.intOf i).toNat)
  case atStart => exact ⟨0, Nat.zero_le _, rfl, fun j h => absurd h (by omega), by trivial⟩
  case round =>
    obtain ⟨k, hk, rfl, hok, hwr⟩ := hrel
    obtain ⟨w, rfl⟩ : ∃ w', w' = wr := ⟨_, rfl⟩
    have HWR := Lib.hid hwr; clear hwr
    have HOK := Lib.hid hok; clear hok
    rcases Nat.lt_or_ge k S.size with hlt | hge
    · obtain ⟨u, hu⟩ : ∃ u, u = S[k] := ⟨_, rfl⟩
      have hix : ∀ W, (Instr.index 9 (.string S) (.int .i64 (k : Int))).run Try.prog W = .ok (.int .u8 (u.toNat : Int)) W := fun W => by rw [hu]; exact run_index_at S k hlt W
      have hg : S.data.toList.getD k 0 = u := by rw [List.getD_eq_getElem?_getD, bytes_get S k hlt, hu]; rfl
      have hl : k < S.data.toList.length := by have := E.out; omega
      have HG := Lib.hid hg; clear hg
      have HL := Lib.hid hl; clear hl hu
      have hul := u.toNat_lt
      rcases Decidable.em (u.toNat = 0) with hz | hz
      · have hr : r = false := by
          rw [HR2.out, clean_not _ k HL.out 0 (by rw [HG.out]; exact UInt8.toNat_inj.1 hz)]; rfl
        have HRR := Lib.hid hr; clear hr
        have q0 : ((u.toNat : Int) == 0) = true := beq_iff_eq.2 (by omega)
        clear hz
        go_wp2
        go_ret
        exact ⟨by rw [HRR.out]; rfl, HWR.out⟩
      · rcases Decidable.em (u.toNat = 47) with hs | hs
        · have hr : r = false := by
            rw [HR2.out, clean_not _ k HL.out 47 (by rw [HG.out]; exact UInt8.toNat_inj.1 hs)]; simp
          have HRR := Lib.hid hr; clear hr
          have q0 : ((u.toNat : Int) == 0) = false := beq_false_of_ne (by omega)
          have q47 : ((u.toNat : Int) == 47) = true := beq_iff_eq.2 (by omega)
          clear hz hs
          go_wp2
          go_ret
          exact ⟨by rw [HRR.out]; rfl, HWR.out⟩
        · have hnext : ∀ j, j < k + 1 → S.data.toList.getD j 0 ≠ 0 ∧ S.data.toList.getD j 0 ≠ 47 := fun j hj => by
            rcases Nat.lt_or_ge j k with h | h
            · exact HOK.out j h
            · obtain rfl : j = k := by omega
              rw [HG.out]
              exact ⟨fun e => hz (congrArg UInt8.toNat e), fun e => hs (congrArg UInt8.toNat e)⟩
          have HN := Lib.hid hnext; clear hnext
          have q0 : ((u.toNat : Int) == 0) = false := beq_false_of_ne (by omega)
          have q47 : ((u.toNat : Int) == 47) = false := beq_false_of_ne (by omega)
          clear hz hs
          go_wp2
          go_round
          case rel => exact ⟨k + 1, by omega, by go_num, HN.out, HWR.out⟩
          case measure => simp [RowKit.intOf]; omega
    · have hkn : ¬ (k : Int) < (S.size : Int) := by omega
      have hr : r = true := by
        have h3 := clean_all S.data.toList (fun j hj => HOK.out j (by have := E.out; omega))
        rw [HR2.out, h3.1, h3.2]; rfl
      have HRR := Lib.hid hr; clear hr HR2
      go_wp2
      go_ret
      exact ⟨by rw [HRR.out]; rfl, HWR.out⟩
end Go.Proofs.Ytamhbjpoganhnaa.Ph
