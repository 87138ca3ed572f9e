/- Whether a list is right: the document's Check. -/
import Derived.Test.YtmbmjdogfjmlpaaDoorSpCalls
namespace Go.Proofs.YtmbmjdogfjmlpaaDoor.Sp
set_option maxRecDepth 20000
open Go.RowKit
open Go.Proofs.YtmbmjdogfjmlpaaDoor.Mem Go.Proofs.YtmbmjdogfjmlpaaDoor.Rec Go.Proofs.YtmbmjdogfjmlpaaDoor.Reg
attribute [local go_sem ↓] ldX_eq stX_eq

theorem clean_iff (t : List UInt8) (h : ∀ j, j < t.length → t.getD j 0 ≠ 0) : t.contains 0 = false := by
  cases hb : t.contains 0 with
  | false => rfl
  | true =>
    have hm : (0 : UInt8) ∈ t := List.contains_iff_mem.1 hb
    obtain ⟨j, hj, e⟩ := List.getElem_of_mem hm
    have := h j hj
    rw [List.getD_eq_getElem?_getD, List.getElem?_eq_getElem hj, Option.getD_some] at this
    exact absurd e this
theorem dirty_of (t : List UInt8) (k : Nat) (hk : k < t.length) (h : t.getD k 0 = 0) : t.contains 0 = true := by
  rw [List.contains_iff_mem]
  rw [List.getD_eq_getElem?_getD, List.getElem?_eq_getElem hk, Option.getD_some] at h
  rw [← h]
  exact List.getElem_mem hk
theorem text_getD (S : ByteArray) (k : Nat) (h : k < S.size) : S.data.toList.getD k 0 = S[k] := by
  rw [List.getD_eq_getElem?_getD, Array.getElem?_toList, Array.getElem?_eq_getElem (by exact h)]; rfl
set_option maxRecDepth 100000 in
set_option maxHeartbeats 8000000 in
theorem rcheck_any (A : Option Addr) (n c B : Nat) (l : List Rn) (w : World) (h : HoldsX w B A n l) (hn : n ≤ 8796093022208) (hrep : ∀ x ∈ l, x.rep) :
    Calls Tryd.prog 17 #[.slice A n c] w fun e w' => e = .returned (.int .i64 (if right l = true then 0 else 1)) ∧ w' = w := by
  have hln := h.1
  have H := Lib.hid h; clear h
  have HLN := Lib.hid hln; clear hln
  obtain ⟨r, hr⟩ : ∃ r : Int, r = if right l = true then 0 else 1 := ⟨_, rfl⟩
  rw [← hr]
  have HRT := Lib.hid hr; clear hr
  go_enter Tryd.func17, Tryd.ntmps17
  go_wp2
  go_loopw [3, 4] (fun f i wr => ∃ (k : Nat) (q : Int), k ≤ n ∧ -1 ≤ q ∧ q ≤ 65536 ∧ f = .int .i64 q ∧ i = .int .i64 (k : Int) ∧ right l = chk (q + 1) (l.drop k) ∧ wr = w) (fun _ i _ => n - (intOf i).toNat)
  case atStart => exact ⟨0, -1, Nat.zero_le _, by omega, by omega, rfl, rfl, rfl, by trivial⟩
  case round =>
    obtain ⟨k, q, hk, hq0, hq1, rfl, rfl, hok, hwr⟩ := hrel
    obtain ⟨w, rfl⟩ : ∃ w', w' = wr := ⟨_, rfl⟩
    have HWR := Lib.hid hwr; clear hwr
    have HOK := Lib.hid hok; clear hok
    rcases Nat.lt_or_ge k n with hlt | hge
    rotate_left
    · have hf : r = 0 := by rw [HRT.out, HOK.out, List.drop_of_length_le (by have := HLN.out; omega)]; rfl
      have HF := Lib.hid hf; clear hf
      have hkn : ¬ (k : Int) < (n : Int) := by omega
      go_wp2
      go_ret
      exact ⟨by rw [HF.out]; rfl, HWR.out⟩
    · obtain ⟨b, off, rfl, hbB⟩ := H.out.addr (by omega)
      have hkl : k < l.length := by have := HLN.out; omega
      obtain ⟨e, he⟩ : ∃ e, e = l[k] := ⟨_, rfl⟩
      have her : e.rep := by rw [he]; exact hrep _ (List.getElem_mem hkl)
      have hok2 : right l = (okR (q + 1) e && chk (e.e + 1) (l.drop (k + 1))) := by
        rw [HOK.out, List.drop_eq_getElem_cons hkl, ← he]
        rfl
      have HOK2 := Lib.hid hok2; clear hok2 HOK
      have hcell : w.cell? ⟨b, off + k * 2, none⟩ = some (.int .i64 e.a) ∧ w.cell? ⟨b, off + k * 2 + 1, none⟩ = some (.string ⟨e.t.toArray⟩) := by
        have := (HWR.out.symm ▸ H.out).cell k hkl
        rw [← he] at this
        exact this
      obtain ⟨q0, q1⟩ := hcell
      have hk0 : (0 : Int) ≤ (k : Int) := by omega
      have hkn : (k : Int) < (n : Int) := by omega
      have hex : e.e = e.a + (e.t.length : Int) := rfl
      have hokr := @okR_iff (q + 1) e
      have hi := her.i
      have ht := her.t
      unfold maxLen at ht
      obtain ⟨S, hS⟩ : ∃ S : ByteArray, S = ⟨e.t.toArray⟩ := ⟨_, rfl⟩
      have hSs : S.size = e.t.length := by rw [hS, text_size]
      have hSd : S.data.toList = e.t := by rw [hS]
      rw [← hS] at q1
      rw [← hSs] at hex ht
      obtain ⟨a, ha⟩ : ∃ a, a = e.a := ⟨_, rfl⟩
      rw [← ha] at q0 hex hi hokr
      obtain ⟨ee, hee⟩ : ∃ ee, ee = e.e := ⟨_, rfl⟩
      simp only [← hee] at hex hokr HOK2
      have HOKR := Lib.hid hokr; clear hokr
      have HEX := Lib.hid hex; clear hex
      have HSD := Lib.hid hSd; clear hSd
      have HSS := Lib.hid hSs; clear hSs
      clear hS ha hee her he
      have hno : okR (q + 1) e = false → r = 1 := fun hf => by
        rw [HRT.out, HOK2.out, hf]; rfl
      have HNO := Lib.hid hno; clear hno
      rcases Int.lt_or_le q a with h1 | h1
      rotate_left
      · have hr : r = 1 := HNO.out (by
          cases hf : okR (q + 1) e with
          | false => rfl
          | true => have := (HOKR.out.1 hf).1; omega)
        have HR := Lib.hid hr; clear hr
        go_wp2
        go_ret
        exact ⟨by rw [HR.out]; rfl, HWR.out⟩
      have h1' : ¬ a ≤ q := by omega
      rcases Nat.eq_zero_or_pos S.size with h3 | h3
      · have hr : r = 1 := HNO.out (by
          cases hf : okR (q + 1) e with
          | false => rfl
          | true => have := (HOKR.out.1 hf).2.2.1; have := HSS.out; omega)
        have HR := Lib.hid hr; clear hr
        have hz : ((S.size : Int) == 0) = true := beq_iff_eq.2 (by omega)
        have HS3 := Lib.hid h3; clear h3
        go_wp2
        go_ret
        exact ⟨by rw [HR.out]; rfl, HWR.out⟩
      have hz : ((S.size : Int) == 0) = false := beq_false_of_ne (by omega)
      rcases Nat.lt_or_ge 65536 S.size with h4 | h4
      · have hr : r = 1 := HNO.out (by
          cases hf : okR (q + 1) e with
          | false => rfl
          | true => have := (HOKR.out.1 hf).1; have := (HOKR.out.1 hf).2.1; have := HEX.out; omega)
        have HR := Lib.hid hr; clear hr
        have h4' : (65536 : Int) < (S.size : Int) := by omega
        go_wp2
        go_ret
        exact ⟨by rw [HR.out]; rfl, HWR.out⟩
      have h4' : ¬ (65536 : Int) < (S.size : Int) := by omega
      rcases Int.lt_or_le (65536 - (S.size : Int)) a with h2 | h2
      · have hr : r = 1 := HNO.out (by
          cases hf : okR (q + 1) e with
          | false => rfl
          | true => have := (HOKR.out.1 hf).2.1; have := HEX.out; omega)
        have HR := Lib.hid hr; clear hr
        go_wp2
        go_ret
        exact ⟨by rw [HR.out]; rfl, HWR.out⟩
      have h2' : ¬ 65536 - (S.size : Int) < a := by omega
      have hyes : e.t.contains 0 = false → right l = chk (ee + 1) (l.drop (k + 1)) := fun hc => by
        rw [HOK2.out, HOKR.out.2 ⟨by omega, by have := HEX.out; omega, by have := HSS.out; omega, hc⟩]
        rfl
      have hnoz : e.t.contains 0 = true → r = 1 := fun hc => HNO.out (by
        cases hf : okR (q + 1) e with
        | false => rfl
        | true => rw [(HOKR.out.1 hf).2.2.2] at hc; cases hc)
      have HYES := Lib.hid hyes; clear hyes
      have HNOZ := Lib.hid hnoz; clear hnoz
      have hee1 : -9223372036854775808 ≤ a + (S.size : Int) := by omega
      have hee2 : a + (S.size : Int) ≤ 9223372036854775807 := by omega
      go_wp2
      go_loopw [6] (fun i wi => ∃ j : Nat, j ≤ S.size ∧ i = .int .i64 (j : Int) ∧ (∀ u, u < j → S.data.toList.getD u 0 ≠ 0) ∧ wi = w) (fun i _ => S.size - (intOf i).toNat)
      case atStart => exact ⟨0, Nat.zero_le _, rfl, fun u hu => absurd hu (by omega), rfl⟩
      case round =>
        obtain ⟨j, hj, rfl, hcl, rfl⟩ := hrel
        have HCL := Lib.hid hcl; clear hcl
        rcases Nat.lt_or_ge j S.size with hjl | hjge
        · obtain ⟨u, hu⟩ : ∃ u, u = S[j] := ⟨_, rfl⟩
          have hix : ∀ W, (Instr.index 9 (.string S) (.int .i64 (j : Int))).run Tryd.prog W = .ok (.int .u8 (u.toNat : Int)) W := fun W => by rw [hu]; exact run_index_at S j hjl W
          have hg : S.data.toList.getD j 0 = u := by rw [text_getD S j hjl, hu]
          have HG := Lib.hid hg; clear hg hu
          have hjj : (j : Int) < (S.size : Int) := by omega
          rcases Decidable.em (u = 0) with hz0 | hz0
          · have hr : r = 1 := HNOZ.out (by rw [← HSD.out]; exact dirty_of _ j (by rw [HSD.out, ← HSS.out]; exact hjl) (by rw [HG.out, hz0]))
            have HR := Lib.hid hr; clear hr
            have q00 : ((u.toNat : Int) == 0) = true := by rw [hz0]; rfl
            clear hz0
            go_wp2
            go_ret
            exact ⟨by rw [HR.out]; rfl, HWR.out⟩
          · have q00 : ((u.toNat : Int) == 0) = false := beq_false_of_ne (fun e => hz0 (UInt8.toNat_inj.1 (by show u.toNat = 0; omega)))
            have hnx : ∀ v, v < j + 1 → S.data.toList.getD v 0 ≠ 0 := fun v hv => by
              rcases Nat.lt_or_ge v j with hh | hh
              · exact HCL.out v hh
              · rw [show v = j by omega, HG.out]; exact hz0
            have HNX := Lib.hid hnx; clear hnx hz0
            go_wp2
            go_roundw
            case rel => exact ⟨j + 1, by omega, by go_num, HNX.out, by trivial⟩
            case measure => simp [intOf]; omega
        · have hjj : ¬ (j : Int) < (S.size : Int) := by omega
          have hc : e.t.contains 0 = false := by
            rw [← HSD.out]
            exact clean_iff _ fun v hv => HCL.out v (by rw [HSD.out, ← HSS.out] at hv; omega)
          have hy := HYES.out hc
          have HY := Lib.hid hy; clear hy hc
          have hea : a + (S.size : Int) = ee := by have := HEX.out; omega
          have hle1 : ee ≤ 65536 := by omega
          have hge1 : 0 ≤ ee := by omega
          go_wp2
          go_roundw
          case rel => exact ⟨k + 1, ee, by omega, by omega, by omega, by first | rfl | (congr 1), by go_num, HY.out, HWR.out⟩
          case measure => simp [intOf]; omega
end Go.Proofs.YtmbmjdogfjmlpaaDoor.Sp
