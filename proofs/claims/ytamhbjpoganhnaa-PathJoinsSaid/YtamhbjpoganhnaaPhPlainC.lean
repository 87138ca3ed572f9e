/- Plain: parts without going up; the program's and the document's. -/
import Derived.Test.YtamhbjpoganhnaaPhCut
namespace Go.Proofs.Ytamhbjpoganhnaa.Ph
set_option maxRecDepth 20000
open Go Go.RowKit
open Go.Proofs.Ytamhbjpoganhnaa.Lf Go.Proofs.Ytamhbjpoganhnaa.Mem Go.Proofs.Ytamhbjpoganhnaa.Reg

theorem text_tl2 (a : List UInt8) : (⟨a.toArray⟩ : ByteArray).toList = a := by rw [ByteArray.toList_eq]
theorem plain_succ (l : List (List UInt8)) (k : Nat) (h : k < l.length) : plainP (l.take (k + 1)) = plainS (plainP (l.take k)) l[k] := by
  unfold plainP
  rw [List.take_succ_eq_append_getElem h, List.foldl_append]
  rfl
theorem plainS_len (a : List (List UInt8)) (x : List UInt8) : (plainS a x).length ≤ a.length + 1 := by
  unfold plainS
  split
  · rw [List.length_dropLast]; omega
  · simp
theorem foldl_len : ∀ (l a : List (List UInt8)), (l.foldl plainS a).length ≤ a.length + l.length
  | [], a => by simp
  | x :: l, a => by
    rw [List.foldl_cons]
    have := foldl_len l (plainS a x)
    have := plainS_len a x
    simp only [List.length_cons]
    omega
theorem plain_len (l : List (List UInt8)) : (plainP l).length ≤ l.length := by
  have := foldl_len l []
  simp at this
  exact this
theorem plainS_no (a : List (List UInt8)) (x : List UInt8) (h : ¬ x = [46, 46]) : plainS a x = a ++ [x] := by unfold plainS; rw [if_neg h]
theorem plainS_up (a : List (List UInt8)) : plainS a [46, 46] = a.dropLast := by unfold plainS; rw [if_pos rfl]
/-- What Plain's answer is. -/
def Plain1 (w : World) (m : List (List UInt8)) (e : Ending) (w' : World) : Prop := ∃ v, e = .returned v ∧ OwnC SK w' w.heap.size v m ∧ Below w.heap.size w w'
theorem run_slS (W : World) (g N c m : Nat) (hl : m ≤ c) (h0 : 0 < c) :
    (Instr.slice 23 (.slice (some ⟨g, 0, none⟩) N c) none (some (.int .i64 (m : Int))) none).run Try.prog W = .ok (.slice (some ⟨g, 0, none⟩) m c) W := by
  have h := run_slice_h (P := Try.prog) W 23 (some ⟨g, 0, none⟩) N c (by rw [show Try.prog.elem 23 = 9 by kernel_rfl]; exact skOk.und) .i64 (m : Int) (by omega) (by omega)
  have hs : (sizeOf (Try.prog.elem 23)).run Try.prog W = .ok 1 W := by rfl
  rw [h, hs]
  simp only [Result.andThen, sliced, Int.toNat_natCast]
  rw [if_neg (by omega)]
  simp [Addr.add_mid]
set_option maxHeartbeats 4000000 in
theorem plain_any (A : Option Addr) (n c B : Nat) (l : List (List UInt8)) (w : World) (h : HoldsC SK w B A n l) (hB : B ≤ w.heap.size) (hn : n ≤ 8796093021952) :
    Calls Try.prog 14 #[.slice A n c] w (Plain1 w (plainP l)) := by
  obtain ⟨post, hpost⟩ : ∃ post, post = Plain1 w (plainP l) := ⟨_, rfl⟩
  rw [← hpost]
  have HPO := Lib.hid hpost; clear hpost
  have H := Lib.hid h
  have HLN := Lib.hid h.1
  clear h
  go_enter Try.func14, Try.ntmps14
  go_wp2
  go_loopw [3, 8] (fun lv i wr => ∃ (k L cl : Nat) (Al : Option Addr), k ≤ n ∧ i = .int .i64 (k : Int) ∧ lv = .slice Al L cl ∧ Hid (L = (plainP (l.take k)).length) ∧ Hid (OwnC SK wr w.heap.size (.slice Al L cl) (plainP (l.take k))) ∧ Hid (Below w.heap.size w wr)) (fun _ i _ => n - (intOf i).toNat)
  case atStart => exact ⟨0, 0, 0, none, Nat.zero_le _, rfl, rfl, Lib.hid rfl, Lib.hid (OwnC.nil SK _ _), Lib.hid (Below.refl _ _)⟩
  case round =>
    obtain ⟨U0, hU0⟩ : ∃ U0, U0 = wr := ⟨_, rfl⟩
    subst hU0
    obtain ⟨k, L, cl, Al, hk, rfl, rfl, HL, HO, HBR⟩ := hrel
    rcases Nat.lt_or_ge k n with hlt | hge
    rotate_left
    · have hkn : ¬ (k : Int) < (n : Int) := by omega
      have hall : l.take k = l := List.take_of_length_le (by have := HLN.out; omega)
      rw [hall] at HO
      clear HL hall
      go_wp2
      rw [HPO.out]
      exact ⟨_, rfl, HO.out, HBR.out⟩
    · obtain ⟨b, off, rfl, hbB⟩ := H.out.addr (by omega)
      have hkl : k < l.length := by have := HLN.out; omega
      have hcell := sk_cell (H.out.below (HBR.out.mono hB)) k hkl
      have hsucc := plain_succ l k hkl
      have hpl := plain_len (l.take k)
      rw [List.length_take] at hpl
      have hLk : L ≤ k := by have := HL.out; omega
      have htl := text_tl2 l[k]
      have hk0 : (0 : Int) ≤ (k : Int) := by omega
      have hkn : (k : Int) < (n : Int) := by omega
      have HSUC := Lib.hid hsucc; clear hsucc hpl
      generalize l[k] = x at *
      obtain ⟨X, hX⟩ : ∃ X : ByteArray, X = ⟨x.toArray⟩ := ⟨_, rfl⟩
      rw [← hX] at hcell htl
      have HX := Lib.hid hX; clear hX
      rcases Decidable.em (x = [46, 46]) with hx | hx
      · subst hx
        rw [plainS_up] at HSUC
        rcases Nat.eq_zero_or_pos L with h0 | h0
        · subst h0
          have hnil : plainP (l.take k) = [] := List.eq_nil_of_length_eq_zero HL.out.symm
          have hnx : plainP (l.take (k + 1)) = plainP (l.take k) := by rw [HSUC.out, hnil]; rfl
          have HNX := Lib.hid hnx; clear hnx
          have HNIL := Lib.hid hnil; clear hnil
          go_wp2
          exact ⟨⟨k + 1, 0, cl, Al, by omega, by go_num, rfl, Lib.hid (by rw [HNX.out]; exact HL.out), Lib.hid (by rw [HNX.out]; exact HO.out), HBR⟩, by simp [intOf]; omega⟩
        · obtain ⟨g, rfl, _, _⟩ := HO.out.form h0
          obtain ⟨m, rfl⟩ : ∃ m, L = m + 1 := ⟨L - 1, by omega⟩
          have hfit := HO.out.fits
          have hrun := run_slS
          have hsl : ∀ W, (Instr.slice 23 (.slice (some ⟨g, 0, none⟩) (m + 1) cl) none (some (.int .i64 (m : Int))) none).run Try.prog W = .ok (.slice (some ⟨g, 0, none⟩) m cl) W := fun W => run_slS W g (m + 1) cl m (by omega) (by omega)
          have hcut := HO.out.cut m (by omega)
          have hdl : (plainP (l.take k)).take m = plainP (l.take (k + 1)) := by
            rw [HSUC.out, List.dropLast_eq_take, ← HL.out]
            rfl
          rw [hdl] at hcut
          have HCUT := Lib.hid hcut; clear hcut
          have hpos : (0 : Int) < ((m : Int) + 1) := by omega
          have hpos2 : (0 : Int) < ((m + 1 : Nat) : Int) := by omega
          have hsub : ((m : Int) + 1) - 1 = (m : Int) := by omega
          have HDL := Lib.hid hdl; clear hdl hrun hfit
          have hmb : m < 8796093021952 := by omega
          have hlen : Hid (m = (plainP (l.take (k + 1))).length) := Lib.hid (by have := HCUT.out.fits; exact this.1)
          go_wp2
          exact ⟨⟨k + 1, m, cl, some ⟨g, 0, none⟩, by omega, by go_num, rfl, hlen, HCUT, HBR⟩, by simp [intOf]; omega⟩
      · rw [plainS_no _ _ hx] at HSUC
        obtain ⟨v', W', hrun, ho, hg⟩ := run_appS U0 w.heap.size (.slice Al L cl) (plainP (l.take k)) HO.out x 23 (by have := HL.out; omega) HBR.out.size
        rw [← HSUC.out] at ho
        obtain ⟨A2, c2, hv⟩ := ho.shape
        have hL2 : (plainP (l.take (k + 1))).length = L + 1 := by rw [HSUC.out, List.length_append, ← HL.out]; rfl
        rw [hL2] at hv
        subst hv
        have hbl := HBR.out.trans (hg.below HBR.out.size (fun q hq => (HO.out.lt q hq).1))
        have e2 : (X.toList == [46, 46]) = false := by rw [htl]; exact beq_false_of_ne hx
        have e3 : ¬ X.toList = [46, 46] := by rw [htl]; exact hx
        rw [← HX.out] at hrun
        have HHO := Lib.hid ho; clear ho
        have HBL := Lib.hid hbl; clear hbl hg
        have HL2 := Lib.hid hL2; clear hL2 htl hx
        go_wp2_with (at_builtin; refine wpList_apprun rfl _ _ _ _ (by rfl) _ _ (by rfl) (by rfl) _ _ hrun ?_)
        exact ⟨⟨k + 1, L + 1, c2, A2, by omega, by go_num, rfl, Lib.hid HL2.out.symm, HHO, HBL⟩, by simp [intOf]; omega⟩
set_option maxHeartbeats 4000000 in
theorem rplain_any (A : Option Addr) (n c B : Nat) (l : List (List UInt8)) (w : World) (h : HoldsC SK w B A n l) (hB : B ≤ w.heap.size) (hn : n ≤ 8796093021952) :
    Calls Try.prog 15 #[.slice A n c] w (Plain1 w (plainP l)) := by
  obtain ⟨post, hpost⟩ : ∃ post, post = Plain1 w (plainP l) := ⟨_, rfl⟩
  rw [← hpost]
  have HPO := Lib.hid hpost; clear hpost
  have H := Lib.hid h
  have HLN := Lib.hid h.1
  clear h
  go_enter Try.func15, Try.ntmps15
  go_wp2
  go_loopw [3, 4] (fun lv i wr => ∃ (k L cl : Nat) (Al : Option Addr), k ≤ n ∧ i = .int .i64 (k : Int) ∧ lv = .slice Al L cl ∧ Hid (L = (plainP (l.take k)).length) ∧ Hid (OwnC SK wr w.heap.size (.slice Al L cl) (plainP (l.take k))) ∧ Hid (Below w.heap.size w wr)) (fun _ i _ => n - (intOf i).toNat)
  case atStart => exact ⟨0, 0, 0, none, Nat.zero_le _, rfl, rfl, Lib.hid rfl, Lib.hid (OwnC.nil SK _ _), Lib.hid (Below.refl _ _)⟩
  case round =>
    obtain ⟨U0, hU0⟩ : ∃ U0, U0 = wr := ⟨_, rfl⟩
    subst hU0
    obtain ⟨k, L, cl, Al, hk, rfl, rfl, HL, HO, HBR⟩ := hrel
    rcases Nat.lt_or_ge k n with hlt | hge
    rotate_left
    · have hkn : ¬ (k : Int) < (n : Int) := by omega
      have hall : l.take k = l := List.take_of_length_le (by have := HLN.out; omega)
      rw [hall] at HO
      clear HL hall
      go_wp2
      rw [HPO.out]
      exact ⟨_, rfl, HO.out, HBR.out⟩
    · obtain ⟨b, off, rfl, hbB⟩ := H.out.addr (by omega)
      have hkl : k < l.length := by have := HLN.out; omega
      have hcell := sk_cell (H.out.below (HBR.out.mono hB)) k hkl
      have hsucc := plain_succ l k hkl
      have hpl := plain_len (l.take k)
      rw [List.length_take] at hpl
      have hLk : L ≤ k := by have := HL.out; omega
      have htl := text_tl2 l[k]
      have hk0 : (0 : Int) ≤ (k : Int) := by omega
      have hkn : (k : Int) < (n : Int) := by omega
      have HSUC := Lib.hid hsucc; clear hsucc hpl
      generalize l[k] = x at *
      obtain ⟨X, hX⟩ : ∃ X : ByteArray, X = ⟨x.toArray⟩ := ⟨_, rfl⟩
      rw [← hX] at hcell htl
      have HX := Lib.hid hX; clear hX
      rcases Decidable.em (x = [46, 46]) with hx | hx
      · subst hx
        rw [plainS_up] at HSUC
        rcases Nat.eq_zero_or_pos L with h0 | h0
        · subst h0
          have hnil : plainP (l.take k) = [] := List.eq_nil_of_length_eq_zero HL.out.symm
          have hnx : plainP (l.take (k + 1)) = plainP (l.take k) := by rw [HSUC.out, hnil]; rfl
          have HNX := Lib.hid hnx; clear hnx
          have HNIL := Lib.hid hnil; clear hnil
          go_wp2
          exact ⟨⟨k + 1, 0, cl, Al, by omega, by go_num, rfl, Lib.hid (by rw [HNX.out]; exact HL.out), Lib.hid (by rw [HNX.out]; exact HO.out), HBR⟩, by simp [intOf]; omega⟩
        · obtain ⟨g, rfl, _, _⟩ := HO.out.form h0
          obtain ⟨m, rfl⟩ : ∃ m, L = m + 1 := ⟨L - 1, by omega⟩
          have hfit := HO.out.fits
          have hrun := run_slS
          have hsl : ∀ W, (Instr.slice 23 (.slice (some ⟨g, 0, none⟩) (m + 1) cl) none (some (.int .i64 (m : Int))) none).run Try.prog W = .ok (.slice (some ⟨g, 0, none⟩) m cl) W := fun W => run_slS W g (m + 1) cl m (by omega) (by omega)
          have hcut := HO.out.cut m (by omega)
          have hdl : (plainP (l.take k)).take m = plainP (l.take (k + 1)) := by
            rw [HSUC.out, List.dropLast_eq_take, ← HL.out]
            rfl
          rw [hdl] at hcut
          have HCUT := Lib.hid hcut; clear hcut
          have hpos : (0 : Int) < ((m : Int) + 1) := by omega
          have hpos2 : (0 : Int) < ((m + 1 : Nat) : Int) := by omega
          have hsub : ((m : Int) + 1) - 1 = (m : Int) := by omega
          have HDL := Lib.hid hdl; clear hdl hrun hfit
          have hmb : m < 8796093021952 := by omega
          have hlen : Hid (m = (plainP (l.take (k + 1))).length) := Lib.hid (by have := HCUT.out.fits; exact this.1)
          go_wp2
          exact ⟨⟨k + 1, m, cl, some ⟨g, 0, none⟩, by omega, by go_num, rfl, hlen, HCUT, HBR⟩, by simp [intOf]; omega⟩
      · rw [plainS_no _ _ hx] at HSUC
        obtain ⟨v', W', hrun, ho, hg⟩ := run_appS U0 w.heap.size (.slice Al L cl) (plainP (l.take k)) HO.out x 23 (by have := HL.out; omega) HBR.out.size
        rw [← HSUC.out] at ho
        obtain ⟨A2, c2, hv⟩ := ho.shape
        have hL2 : (plainP (l.take (k + 1))).length = L + 1 := by rw [HSUC.out, List.length_append, ← HL.out]; rfl
        rw [hL2] at hv
        subst hv
        have hbl := HBR.out.trans (hg.below HBR.out.size (fun q hq => (HO.out.lt q hq).1))
        have e2 : (X.toList == [46, 46]) = false := by rw [htl]; exact beq_false_of_ne hx
        have e3 : ¬ X.toList = [46, 46] := by rw [htl]; exact hx
        rw [← HX.out] at hrun
        have HHO := Lib.hid ho; clear ho
        have HBL := Lib.hid hbl; clear hbl hg
        have HL2 := Lib.hid hL2; clear hL2 htl hx
        go_wp2_with (at_builtin; refine wpList_apprun rfl _ _ _ _ (by rfl) _ _ (by rfl) (by rfl) _ _ hrun ?_)
        exact ⟨⟨k + 1, L + 1, c2, A2, by omega, by go_num, rfl, Lib.hid HL2.out.symm, HHO, HBL⟩, by simp [intOf]; omega⟩
end Go.Proofs.Ytamhbjpoganhnaa.Ph
