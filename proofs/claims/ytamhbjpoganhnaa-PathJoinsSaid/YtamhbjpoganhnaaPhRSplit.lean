/- Split: the document's. -/
import Derived.Test.YtamhbjpoganhnaaPhSplit
import Derived.Test.YtamhbjpoganhnaaPhPlainC
namespace Go.Proofs.Ytamhbjpoganhnaa.Ph
set_option maxRecDepth 20000
set_option linter.unusedSimpArgs false
open Go Go.RowKit
open Go.Proofs.Ytamhbjpoganhnaa.Lf Go.Proofs.Ytamhbjpoganhnaa.Mem Go.Proofs.Ytamhbjpoganhnaa.Reg

theorem ext_mid (p : List UInt8) (a b : Nat) : (⟨p.toArray⟩ : ByteArray).extract a b = ⟨((p.drop a).take (b - a)).toArray⟩ := by
  apply ByteArray.ext
  apply Array.ext'
  rw [Lib.extract_data]
theorem pc_on {p : List UInt8} {f i : Nat} (hf : f ≤ i) (hi : i < p.length) (h : p[i] = 47) (hno : ((p.drop f).take (i - f)).contains 47 = false) : pcs (p.drop f) = (p.drop f).take (i - f) :: pcs (p.drop (i + 1)) := by
  have e1 : p.drop i = 47 :: p.drop (i + 1) := by rw [List.drop_eq_getElem_cons hi, h]
  have e2 : p.drop f = (p.drop f).take (i - f) ++ 47 :: p.drop (i + 1) := by
    rw [← e1, show p.drop i = (p.drop f).drop (i - f) by rw [List.drop_drop]; congr 1; omega, List.take_append_drop]
  conv => lhs; rw [e2]
  exact pcs_join _ _ hno
theorem pc_end {p : List UInt8} {f : Nat} (hno : ((p.drop f).take (p.length - f)).contains 47 = false) : pcs (p.drop f) = [(p.drop f).take (p.length - f)] := by
  have e : (p.drop f).take (p.length - f) = p.drop f := List.take_of_length_le (by rw [List.length_drop]; exact Nat.le_refl _)
  rw [e] at hno ⊢
  rw [pcs_last hno, hd_all hno]
theorem no_succ {p : List UInt8} {f i : Nat} (hf : f ≤ i) (hi : i < p.length) (h : ¬ p[i] = 47) (hno : ((p.drop f).take (i - f)).contains 47 = false) : ((p.drop f).take (i + 1 - f)).contains 47 = false := by
  rw [show i + 1 - f = (i - f) + 1 by omega, List.take_succ_eq_append_getElem (by rw [List.length_drop]; omega), List.getElem_drop]
  rw [← Bool.not_eq_true, List.contains_iff_mem] at hno ⊢
  intro hm
  rcases List.mem_append.1 hm with hm | hm
  · exact hno hm
  · rw [List.mem_singleton] at hm
    simp only [show f + (i - f) = i by omega] at hm
    exact h hm.symm
theorem byte_at (p : List UInt8) (k : Nat) (h : k < p.length) (W : World) : (Instr.index 9 (.string ⟨p.toArray⟩) (.int .i64 (k : Int))).run Try.prog W = .ok (.int .u8 ((p[k]).toNat : Int)) W := by
  have hs : k < (⟨p.toArray⟩ : ByteArray).size := by simpa [ByteArray.size] using h
  have := run_index_at ⟨p.toArray⟩ k hs W
  rw [this]
  rfl
theorem u8_ne {u : UInt8} {c : UInt8} (h : ¬ u = c) : ¬ u.toNat = c.toNat := fun e => h (UInt8.toNat_inj.1 e)
theorem no0_succ {p : List UInt8} {k : Nat} (hk : k < p.length) (h : (p.take k).contains 0 = false) (h0 : ¬ p[k] = 0) : (p.take (k + 1)).contains 0 = false := by
  rw [List.take_succ_eq_append_getElem hk]
  rw [← Bool.not_eq_true, List.contains_iff_mem] at h ⊢
  intro hm
  rcases List.mem_append.1 hm with hm | hm
  · exact h hm
  · rw [List.mem_singleton] at hm
    exact h0 hm.symm
theorem long_mem {l a b : List (List UInt8)} {x : List UInt8} (h : l = a ++ x :: b) (hx : 32 < x.length) : tooLong l = true := by
  unfold tooLong
  rw [List.any_eq_true]
  exact ⟨x, by rw [h]; simp, by simpa using hx⟩
/-- Between two rounds: what is told, and what is left. -/
structure Rs (p : List UInt8) (w : World) (k f L cl : Nat) (Al : Option Addr) (d : Bool) (done : List (List UInt8)) (wr : World) : Prop where
  len : L = (kept done).length
  own : OwnC SK wr w.heap.size (.slice Al L cl) (kept done)
  bel : Below w.heap.size w wr
  fine : tooLong done = false
  dir : done ≠ [] → d = isDir (lastP done)
  rest : k ≤ p.length → f ≤ k ∧ pcs (p.drop 1) = done ++ pcs (p.drop f) ∧ ((p.drop f).take (k - f)).contains 47 = false
  all : k = p.length + 1 → done = pcs (p.drop 1)
set_option maxHeartbeats 8000000 in
theorem rsplit_any (p : List UInt8) (hp : p.length ≤ maxLen) (w : World) : Calls Try.prog 10 #[.string ⟨p.toArray⟩] w (Split3 w (splitP p)) := by
  unfold maxLen at hp
  obtain ⟨post, hpost⟩ : ∃ post, post = Split3 w (splitP p) := ⟨_, rfl⟩
  rw [← hpost]
  have HPO := Lib.hid hpost; clear hpost
  have hsz : (⟨p.toArray⟩ : ByteArray).size = p.length := by simp [ByteArray.size]
  rcases Nat.eq_zero_or_pos p.length with h0 | h0
  · have hpn : p = [] := List.eq_nil_of_length_eq_zero h0
    subst hpn
    go_enter Try.func10, Try.ntmps10
    go_wp2
    go_ret3
    rw [HPO.out]
    exact ⟨_, rfl, OwnC.nil SK _ _, Below.refl _ _⟩
  have hix0 : ∀ W, (Instr.index 9 (.string ⟨p.toArray⟩) (.int .i64 0)).run Try.prog W = .ok (.int .u8 ((p[0]).toNat : Int)) W := fun W => byte_at p 0 h0 W
  have htk : p.take 1 = [p[0]] := by
    cases p with
    | nil => cases h0
    | cons c t => rfl
  have hpne : ¬ (p.length : Int) = 0 := by omega
  have hpe : ((p.length : Int) == 0) = false := by rw [beq_eq_false_iff_ne]; omega
  have hpe2 : (p.length == 0) = false := by rw [beq_eq_false_iff_ne]; omega
  by_cases hc0 : p[0] = 47
  rotate_left
  · have hr : post = Split3 w ([], false, 1) := by
      rw [HPO.out]
      unfold splitP
      have : bad1 p = true := by
        unfold bad1
        rw [htk, show ([p[0]] == [(47 : UInt8)]) = false by rw [beq_eq_false_iff_ne]; simpa using hc0]
        rfl
      rw [this]
      rfl
    have HRR := Lib.hid hr; clear hr
    have hu := u8_ne hc0
    rw [show (47 : UInt8).toNat = 47 from rfl] at hu
    generalize p[0].toNat = u at *
    have hu2 : ¬ (u : Int) = 47 := by omega
    have hu3 : ((u : Int) == 47) = false := by rw [beq_eq_false_iff_ne]; omega
    clear htk hc0
    generalize (⟨p.toArray⟩ : ByteArray) = S at *
    go_enter Try.func10, Try.ntmps10
    go_wp2
    go_ret3
    rw [HRR.out]
    exact ⟨_, rfl, OwnC.nil SK _ _, Below.refl _ _⟩
  have hbad : bad1 p = p.contains 0 := by
    unfold bad1
    rw [htk, hc0]
    simp
  rw [hc0] at hix0
  clear htk hc0
  have HIX : Hid (∀ k (h : k < p.length) W, (Instr.index 9 (.string ⟨p.toArray⟩) (.int .i64 (k : Int))).run Try.prog W = .ok (.int .u8 ((p[k]).toNat : Int)) W) := Lib.hid (byte_at p)
  have HBAD := Lib.hid hbad; clear hbad
  have HEX : Hid (∀ a b, (⟨p.toArray⟩ : ByteArray).extract a b = ⟨((p.drop a).take (b - a)).toArray⟩) := Lib.hid (ext_mid p)
  have hix1 : ∀ W, (Instr.index 9 (.string ⟨p.toArray⟩) (.int .i64 0)).run Try.prog W = .ok (.int .u8 47) W := hix0
  clear hix0
  go_enter Try.func10, Try.ntmps10
  go_wp2
  go_loopw [5] (fun i wr => ∃ k : Nat, k ≤ p.length ∧ i = .int .i64 (k : Int) ∧ Hid ((p.take k).contains 0 = false) ∧ wr = w) (fun i _ => p.length - (intOf i).toNat)
  case atStart => exact ⟨0, Nat.zero_le _, rfl, Lib.hid (by simp), by trivial⟩
  case round =>
    obtain ⟨k, hk, rfl, HZ, hwr⟩ := hrel
    obtain ⟨U1, hU1⟩ : ∃ U1, U1 = wr := ⟨_, rfl⟩
    subst hU1
    have HWR := Lib.hid hwr; clear hwr
    rcases Nat.lt_or_ge k p.length with hlt | hge
    · have hix := HIX.out k hlt
      have hk0 : (0 : Int) ≤ (k : Int) := by omega
      have hkn : (k : Int) < (p.length : Int) := by omega
      by_cases hz : p[k] = 0
      · rw [hz] at hix
        have hix2 : ∀ W, (Instr.index 9 (.string ⟨p.toArray⟩) (.int .i64 (k : Int))).run Try.prog W = .ok (.int .u8 0) W := hix
        clear hix
        have hr : post = Split3 w ([], false, 1) := by
          rw [HPO.out]
          unfold splitP
          have : bad1 p = true := by
            rw [HBAD.out, List.contains_iff_mem, ← hz]
            exact List.getElem_mem hlt
          rw [this]
          rfl
        have HRR := Lib.hid hr; clear hr hz
        go_wp2
        go_ret3
        rw [HRR.out]
        exact ⟨_, rfl, OwnC.nil SK _ _, by rw [HWR.out]; exact Below.refl _ _⟩
      · have hz2 := no0_succ hlt HZ.out hz
        have HZ2 := Lib.hid hz2; clear hz2
        have hu := u8_ne hz
        rw [show (0 : UInt8).toNat = 0 from rfl] at hu
        generalize p[k].toNat = u at *
        have hu2 : ¬ (u : Int) = 0 := by omega
        have hu3 : ((u : Int) == 0) = false := by rw [beq_eq_false_iff_ne]; omega
        clear hz hu
        go_wp2
        exact ⟨⟨k + 1, by omega, by go_num, HZ2, HWR.out⟩, by simp [intOf]; omega⟩
    · have hall : p.contains 0 = false := by
        have := HZ.out
        rwa [List.take_of_length_le hge] at this
      have HALL := Lib.hid hall; clear hall
      have hge' : ¬ (k : Int) < (p.length : Int) := by omega
      have hw0 := HWR.out.symm
      clear HWR
      subst hw0
      rcases Nat.lt_or_ge 256 p.length with hlong | hshort
      · have hr : post = Split3 w ([], false, 2) := by
          rw [HPO.out]
          unfold splitP
          rw [HBAD.out, HALL.out, if_neg (by simp), if_pos hlong]
        have HRR := Lib.hid hr; clear hr
        have hl2 : (256 : Int) < (p.length : Int) := by omega
        go_wp2
        go_ret3
        rw [HRR.out]
        exact ⟨_, rfl, OwnC.nil SK _ _, Below.refl _ _⟩
      have hl2 : ¬ (256 : Int) < (p.length : Int) := by omega
      have hpo2 : post = Split3 w (if tooLong (pcs (p.drop 1)) then ([], false, 2) else (kept (pcs (p.drop 1)), isDir (lastP (pcs (p.drop 1))), 0)) := by
        rw [HPO.out]
        unfold splitP
        rw [HBAD.out, HALL.out, if_neg (by simp), if_neg (by omega)]
      clear HPO
      have HPO := Lib.hid hpo2; clear hpo2 HALL HBAD
      have hN : (pcs (p.drop 1)).length ≤ 257 := by
        have := pcs_len (p.drop 1)
        rw [List.length_drop] at this
        omega
      go_wp2
      go_loopw [6, 7, 8, 9] (fun lv dv fv i wr => ∃ (k f L cl : Nat) (Al : Option Addr) (d : Bool) (done : List (List UInt8)), 1 ≤ k ∧ k ≤ p.length + 1 ∧ i = .int .i64 (k : Int) ∧ lv = .slice Al L cl ∧ dv = .bool d ∧ fv = .int .i64 (f : Int) ∧ Hid (Rs p w k f L cl Al d done wr)) (fun _ _ _ i _ => p.length + 1 - (intOf i).toNat)
      case atStart => exact ⟨1, 1, 0, 0, none, false, [], Nat.le_refl _, by omega, rfl, rfl, rfl, rfl, Lib.hid ⟨rfl, OwnC.nil SK _ _, Below.refl _ _, rfl, fun h => absurd rfl h, fun _ => ⟨Nat.le_refl _, rfl, by simp⟩, fun e => by omega⟩⟩
      case round =>
        obtain ⟨U0, hU0⟩ : ∃ U0, U0 = wr := ⟨_, rfl⟩
        subst hU0
        obtain ⟨k, f, L, cl, Al, d, done, hk1, hk2, rfl, rfl, rfl, rfl, HR⟩ := hrel
        have R := HR.out
        clear HR
        rcases Nat.lt_or_ge p.length k with hkn | hkn
        · have hk : k = p.length + 1 := by omega
          have hdone := R.all hk
          have hne : done ≠ [] := by rw [hdone]; exact pcs_ne _
          have hr : post = Split3 w (kept done, d, 0) := by
            rw [HPO.out, ← hdone, R.fine, R.dir hne]
            rfl
          have HRR := Lib.hid hr; clear hr hdone hne
          have HO := Lib.hid R.own
          have HBR := Lib.hid R.bel
          clear R
          have hkn2 : ¬ (k : Int) ≤ (p.length : Int) := by omega
          go_wp2
          go_ret3
          rw [HRR.out]
          exact ⟨_, rfl, HO.out, HBR.out⟩
        obtain ⟨hfk, hre, hno⟩ := R.rest hkn
        have hk0 : (0 : Int) ≤ (k : Int) := by omega
        rcases Nat.lt_or_ge k p.length with hkl | hkl
        · have hkn1 : (k : Int) < (p.length : Int) := by omega
          by_cases h47 : p[k] = 47
          · have hix := HIX.out k hkl
            rw [h47] at hix
            have hix2 : ∀ W, (Instr.index 9 (.string ⟨p.toArray⟩) (.int .i64 (k : Int))).run Try.prog W = .ok (.int .u8 47) W := hix
            clear hix
            have hpc : ∃ rest, pcs (p.drop 1) = done ++ (p.drop f).take (k - f) :: rest ∧ (k + 1 ≤ p.length → rest = pcs (p.drop (k + 1))) ∧ (k + 1 = p.length + 1 → rest = []) := by
              refine ⟨_, by rw [hre, pc_on hfk hkl h47 hno], fun _ => rfl, fun e => by omega⟩
            obtain ⟨rest, hp1, hp2, hp3⟩ := hpc
            have hext := ext_mid p f k
            have hdl : done.length ≤ 257 := by
              have h1 := congrArg List.length hp1
              rw [List.length_append] at h1
              omega
            have hxl : ((p.drop f).take (k - f)).length = k - f := by rw [List.length_take, List.length_drop]; omega
            generalize (p.drop f).take (k - f) = x at *
            have htl := text_tl x
            have hxs : (⟨x.toArray⟩ : ByteArray).size = x.length := by simp [ByteArray.size]
            obtain ⟨X, hX⟩ : ∃ X : ByteArray, X = ⟨x.toArray⟩ := ⟨_, rfl⟩
            rw [← hX] at hext htl hxs
            have HX := Lib.hid hX; clear hX
            have hf0 : (0 : Int) ≤ (f : Int) := by omega
            have hfk' : (f : Int) ≤ (k : Int) := by omega
            have hkn2 : (k : Int) ≤ (p.length : Int) := by omega
            clear hre hno
            rw [hsz] at *
            rcases Nat.lt_or_ge 32 x.length with hlong | hshort
            · have hr : post = Split3 w ([], false, 2) := by rw [HPO.out, long_mem hp1 hlong]; rfl
              have HRR := Lib.hid hr; clear hr hp1 hp2 hp3 htl
              have hxs2 : (32 : Int) < (x.length : Int) := by omega
              go_wp2
              go_ret3
              rw [HRR.out]
              exact ⟨_, rfl, OwnC.nil SK _ _, R.bel⟩
            have hxs2 : ¬ (32 : Int) < (x.length : Int) := by omega
            have hnext : ∀ (L2 c2 : Nat) (A2 : Option Addr) (W : World), OwnC SK W w.heap.size (.slice A2 L2 c2) (kept (done ++ [x])) → Below w.heap.size w W → L2 = (kept (done ++ [x])).length → Rs p w (k + 1) (k + 1) L2 c2 A2 (isDir x) (done ++ [x]) W := fun L2 c2 A2 W h1 h2 h3 => by
              refine ⟨h3, h1, h2, ?_, fun _ => by rw [last_snoc], fun e => ⟨Nat.le_refl _, by rw [hp1, ← hp2 e]; simp, by simp⟩, fun e => by rw [hp1, hp3 e]⟩
              rw [long_snoc, R.fine]
              simp
              omega
            have HNX := Lib.hid hnext; clear hnext hp1 hp2 hp3
            have hks := kept_snoc done x
            rcases Decidable.em (x = []) with hx | x0
            · subst hx
              have hks2 : kept (done ++ [[]]) = kept done := by rw [hks]; rfl
              have hfin := HNX.out L cl Al U0 (by rw [hks2]; exact R.own) R.bel (by rw [hks2]; exact R.len)
              have HF := Lib.hid hfin; clear hfin hks hks2 HNX
              go_wp2
              exact ⟨⟨k + 1, k + 1, L, cl, Al, true, _, by omega, by omega, by go_num, rfl, rfl, by go_num, HF⟩, by simp [intOf]; omega⟩
            have t0 : X.toList.isEmpty = false := by rw [htl]; cases x with | nil => exact absurd rfl x0 | cons => rfl
            have t0' : ¬ X.toList = [] := by rw [htl]; exact x0
            rcases Decidable.em (x = [46]) with hx | x1
            · subst hx
              have hks2 : kept (done ++ [[46]]) = kept done := by rw [hks]; rfl
              have hfin := HNX.out L cl Al U0 (by rw [hks2]; exact R.own) R.bel (by rw [hks2]; exact R.len)
              have HF := Lib.hid hfin; clear hfin hks hks2 HNX x0
              go_wp2
              exact ⟨⟨k + 1, k + 1, L, cl, Al, true, _, by omega, by omega, by go_num, rfl, rfl, by go_num, HF⟩, by simp [intOf]; omega⟩
            have t1 : (X.toList == [46]) = false := by rw [htl]; exact beq_false_of_ne x1
            have t1' : ¬ X.toList = [46] := by rw [htl]; exact x1
            have hk1 : kp x = true := by unfold kp; rw [beq_false_of_ne x0, beq_false_of_ne x1]; rfl
            rw [hk1, if_pos rfl] at hks
            obtain ⟨v', W', hrun, ho, hg⟩ := run_appS U0 w.heap.size (.slice Al L cl) (kept done) R.own x 23 (by have := kept_len done; omega) R.bel.size
            rw [← hks] at ho
            obtain ⟨A2, c2, hv⟩ := ho.shape
            have hL2 : (kept (done ++ [x])).length = L + 1 := by rw [hks, List.length_append, ← R.len]; rfl
            rw [hL2] at hv
            subst hv
            have hbl := R.bel.trans (hg.below R.bel.size (fun q hq => (R.own.lt q hq).1))
            have hfin := HNX.out (L + 1) c2 A2 W' ho hbl hL2.symm
            have HF := Lib.hid hfin
            rw [← HX.out] at hrun
            clear hfin HNX ho hbl hg hL2 hks hk1
            rcases Decidable.em (x = [46, 46]) with hx | x2
            · subst hx
              clear x0 x1
              go_wp2_with (at_builtin; refine wpList_apprun rfl _ _ _ _ (by rfl) _ _ (by rfl) (by rfl) _ _ hrun ?_)
              exact ⟨⟨k + 1, k + 1, L + 1, c2, A2, true, _, by omega, by omega, by go_num, rfl, rfl, by go_num, HF⟩, by simp [intOf]; omega⟩
            have t2 : (X.toList == [46, 46]) = false := by rw [htl]; exact beq_false_of_ne x2
            have t2' : ¬ X.toList = [46, 46] := by rw [htl]; exact x2
            have hd : isDir x = false := by
              unfold isDir
              rw [beq_false_of_ne x0, beq_false_of_ne x1, beq_false_of_ne x2]
              rfl
            rw [hd] at HF
            clear x0 x1 x2 hd htl
            go_wp2_with (at_builtin; refine wpList_apprun rfl _ _ _ _ (by rfl) _ _ (by rfl) (by rfl) _ _ hrun ?_)
            exact ⟨⟨k + 1, k + 1, L + 1, c2, A2, false, _, by omega, by omega, by go_num, rfl, rfl, by go_num, HF⟩, by simp [intOf]; omega⟩
          · have hix := HIX.out k hkl
            have hn2 := no_succ hfk hkl h47 hno
            have hfin : Rs p w (k + 1) f L cl Al d done U0 := ⟨R.len, R.own, R.bel, R.fine, R.dir, fun _ => ⟨by omega, hre, hn2⟩, fun e => by omega⟩
            have HF := Lib.hid hfin; clear hfin hn2 hre hno
            have hu := u8_ne h47
            rw [show (47 : UInt8).toNat = 47 from rfl] at hu
            generalize p[k].toNat = u at *
            have hu2 : ¬ (u : Int) = 47 := by omega
            have hu3 : ((u : Int) == 47) = false := by rw [beq_eq_false_iff_ne]; omega
            clear h47 hu R
            have hkn2 : (k : Int) ≤ (p.length : Int) := by omega
            go_wp2
            exact ⟨⟨k + 1, f, L, cl, Al, d, done, by omega, by omega, by go_num, rfl, rfl, rfl, HF⟩, by simp [intOf]; omega⟩
        · have hkl : k = p.length := by omega
          have hkn1 : ¬ (k : Int) < (p.length : Int) := by omega
          have hpc : ∃ rest, pcs (p.drop 1) = done ++ (p.drop f).take (k - f) :: rest ∧ (k + 1 ≤ p.length → rest = pcs (p.drop (k + 1))) ∧ (k + 1 = p.length + 1 → rest = []) := by
            subst hkl
            refine ⟨[], by rw [hre, pc_end hno], fun e => by omega, fun _ => rfl⟩
          clear hkl
          obtain ⟨rest, hp1, hp2, hp3⟩ := hpc
          have hext := ext_mid p f k
          have hdl : done.length ≤ 257 := by
            have h1 := congrArg List.length hp1
            rw [List.length_append] at h1
            omega
          have hxl : ((p.drop f).take (k - f)).length = k - f := by rw [List.length_take, List.length_drop]; omega
          generalize (p.drop f).take (k - f) = x at *
          have htl := text_tl x
          have hxs : (⟨x.toArray⟩ : ByteArray).size = x.length := by simp [ByteArray.size]
          obtain ⟨X, hX⟩ : ∃ X : ByteArray, X = ⟨x.toArray⟩ := ⟨_, rfl⟩
          rw [← hX] at hext htl hxs
          have HX := Lib.hid hX; clear hX
          have hf0 : (0 : Int) ≤ (f : Int) := by omega
          have hfk' : (f : Int) ≤ (k : Int) := by omega
          have hkn2 : (k : Int) ≤ (p.length : Int) := by omega
          clear hre hno
          rw [hsz] at *
          rcases Nat.lt_or_ge 32 x.length with hlong | hshort
          · have hr : post = Split3 w ([], false, 2) := by rw [HPO.out, long_mem hp1 hlong]; rfl
            have HRR := Lib.hid hr; clear hr hp1 hp2 hp3 htl
            have hxs2 : (32 : Int) < (x.length : Int) := by omega
            go_wp2
            go_ret3
            rw [HRR.out]
            exact ⟨_, rfl, OwnC.nil SK _ _, R.bel⟩
          have hxs2 : ¬ (32 : Int) < (x.length : Int) := by omega
          have hnext : ∀ (L2 c2 : Nat) (A2 : Option Addr) (W : World), OwnC SK W w.heap.size (.slice A2 L2 c2) (kept (done ++ [x])) → Below w.heap.size w W → L2 = (kept (done ++ [x])).length → Rs p w (k + 1) (k + 1) L2 c2 A2 (isDir x) (done ++ [x]) W := fun L2 c2 A2 W h1 h2 h3 => by
            refine ⟨h3, h1, h2, ?_, fun _ => by rw [last_snoc], fun e => ⟨Nat.le_refl _, by rw [hp1, ← hp2 e]; simp, by simp⟩, fun e => by rw [hp1, hp3 e]⟩
            rw [long_snoc, R.fine]
            simp
            omega
          have HNX := Lib.hid hnext; clear hnext hp1 hp2 hp3
          have hks := kept_snoc done x
          rcases Decidable.em (x = []) with hx | x0
          · subst hx
            have hks2 : kept (done ++ [[]]) = kept done := by rw [hks]; rfl
            have hfin := HNX.out L cl Al U0 (by rw [hks2]; exact R.own) R.bel (by rw [hks2]; exact R.len)
            have HF := Lib.hid hfin; clear hfin hks hks2 HNX
            go_wp2
            exact ⟨⟨k + 1, k + 1, L, cl, Al, true, _, by omega, by omega, by go_num, rfl, rfl, by go_num, HF⟩, by simp [intOf]; omega⟩
          have t0 : X.toList.isEmpty = false := by rw [htl]; cases x with | nil => exact absurd rfl x0 | cons => rfl
          have t0' : ¬ X.toList = [] := by rw [htl]; exact x0
          rcases Decidable.em (x = [46]) with hx | x1
          · subst hx
            have hks2 : kept (done ++ [[46]]) = kept done := by rw [hks]; rfl
            have hfin := HNX.out L cl Al U0 (by rw [hks2]; exact R.own) R.bel (by rw [hks2]; exact R.len)
            have HF := Lib.hid hfin; clear hfin hks hks2 HNX x0
            go_wp2
            exact ⟨⟨k + 1, k + 1, L, cl, Al, true, _, by omega, by omega, by go_num, rfl, rfl, by go_num, HF⟩, by simp [intOf]; omega⟩
          have t1 : (X.toList == [46]) = false := by rw [htl]; exact beq_false_of_ne x1
          have t1' : ¬ X.toList = [46] := by rw [htl]; exact x1
          have hk1 : kp x = true := by unfold kp; rw [beq_false_of_ne x0, beq_false_of_ne x1]; rfl
          rw [hk1, if_pos rfl] at hks
          obtain ⟨v', W', hrun, ho, hg⟩ := run_appS U0 w.heap.size (.slice Al L cl) (kept done) R.own x 23 (by have := kept_len done; omega) R.bel.size
          rw [← hks] at ho
          obtain ⟨A2, c2, hv⟩ := ho.shape
          have hL2 : (kept (done ++ [x])).length = L + 1 := by rw [hks, List.length_append, ← R.len]; rfl
          rw [hL2] at hv
          subst hv
          have hbl := R.bel.trans (hg.below R.bel.size (fun q hq => (R.own.lt q hq).1))
          have hfin := HNX.out (L + 1) c2 A2 W' ho hbl hL2.symm
          have HF := Lib.hid hfin
          rw [← HX.out] at hrun
          clear hfin HNX ho hbl hg hL2 hks hk1
          rcases Decidable.em (x = [46, 46]) with hx | x2
          · subst hx
            clear x0 x1
            go_wp2_with (at_builtin; refine wpList_apprun rfl _ _ _ _ (by rfl) _ _ (by rfl) (by rfl) _ _ hrun ?_)
            exact ⟨⟨k + 1, k + 1, L + 1, c2, A2, true, _, by omega, by omega, by go_num, rfl, rfl, by go_num, HF⟩, by simp [intOf]; omega⟩
          have t2 : (X.toList == [46, 46]) = false := by rw [htl]; exact beq_false_of_ne x2
          have t2' : ¬ X.toList = [46, 46] := by rw [htl]; exact x2
          have hd : isDir x = false := by
            unfold isDir
            rw [beq_false_of_ne x0, beq_false_of_ne x1, beq_false_of_ne x2]
            rfl
          rw [hd] at HF
          clear x0 x1 x2 hd htl
          go_wp2_with (at_builtin; refine wpList_apprun rfl _ _ _ _ (by rfl) _ _ (by rfl) (by rfl) _ _ hrun ?_)
          exact ⟨⟨k + 1, k + 1, L + 1, c2, A2, false, _, by omega, by omega, by go_num, rfl, rfl, by go_num, HF⟩, by simp [intOf]; omega⟩
end Go.Proofs.Ytamhbjpoganhnaa.Ph
