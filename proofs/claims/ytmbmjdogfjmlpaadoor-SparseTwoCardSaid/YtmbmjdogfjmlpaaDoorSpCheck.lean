/- Whether a list is right: the program's Check; where a run ends; places too far. -/
import Derived.Test.YtmbmjdogfjmlpaaDoorSpCut
import Derived.Test.YtmbmjdogfjmlpaaDoorRegF
namespace Go.Proofs.YtmbmjdogfjmlpaaDoor.Sp
set_option maxRecDepth 20000
open Go.RowKit
open Go.Proofs.YtmbmjdogfjmlpaaDoor.Mem Go.Proofs.YtmbmjdogfjmlpaaDoor.Rec Go.Proofs.YtmbmjdogfjmlpaaDoor.Reg
attribute [local go_sem ↓] ldX_eq stX_eq

theorem behind_any (x : Rn) (hx : x.rep) (he : x.e ≤ 9223372036854775807) (w : World) :
    Calls Tryd.prog 31 #[.agg x.c] w fun e w' => e = .returned (.int .i64 x.e) ∧ Below w.heap.size w w' := by
  obtain ⟨w0, hw0⟩ : ∃ w0, w0 = w.alloc (.cells x.c 33) := ⟨_, rfl⟩
  have hv : VarX w0 w.heap.size x := by rw [hw0]; exact VarX.new w x
  have hb : Below w.heap.size w w0 := by rw [hw0]; exact (Below.refl _ w).alloc (Nat.le_refl _) _
  obtain ⟨q0, q1⟩ := hv.cells
  have hxe : x.e = x.a + (x.t.length : Int) := rfl
  obtain ⟨S, hS⟩ : ∃ S : ByteArray, S = ⟨x.t.toArray⟩ := ⟨_, rfl⟩
  have hs : S.size = x.t.length := by rw [hS, text_size]
  rw [← hS] at q1
  rw [← hs] at hxe
  obtain ⟨a, ha⟩ : ∃ a, a = x.a := ⟨_, rfl⟩
  obtain ⟨e, hE⟩ : ∃ e, e = x.e := ⟨_, rfl⟩
  have hi := hx.i
  rw [← ha] at q0 hxe hi
  rw [← hE] at hxe he ⊢
  obtain ⟨C, hC⟩ : ∃ C, C = x.c := ⟨_, rfl⟩
  rw [← hC] at hw0 ⊢
  have HB := Lib.hid hb; clear hb hC hv hs hS ha hE
  have HW0 := Lib.hid hw0
  rw [hw0] at q0 q1
  clear hw0
  have hr1 : -9223372036854775808 ≤ a + (S.size : Int) := by omega
  have hr2 : a + (S.size : Int) ≤ 9223372036854775807 := by omega
  subst hxe
  go_enter Tryd.func31, Tryd.ntmps31
  go_wp2
  go_ret
  exact ⟨rfl, HW0.out ▸ HB.out⟩
theorem beyond_any (p n : Int) (hp : 0 ≤ p ∧ p ≤ 9223372036854775807) (w : World) :
    Calls Tryd.prog 24 #[.int .i64 p, .int .i64 n] w fun e w' => e = .returned (.bool (decide (65536 - p < n))) ∧ w' = w := by
  have h1 : -9223372036854775808 ≤ 65536 - p := by omega
  have h2 : 65536 - p ≤ 9223372036854775807 := by omega
  go_enter Tryd.func24, Tryd.ntmps24
  go_wp2
  go_ret
  exact ⟨by simp, rfl⟩

set_option maxRecDepth 100000 in
set_option maxHeartbeats 4000000 in
theorem check_any (A : Option Addr) (n c B : Nat) (l : List Rn) (w : World) (h : HoldsX w B A n l) (hB : B ≤ w.heap.size) (hn : n ≤ 8796093022208) (hrep : ∀ x ∈ l, x.rep) :
    Calls Tryd.prog 16 #[.slice A n c] w fun e w' => e = .returned (.int .i64 (if right l = true then 0 else 1)) ∧ Below w.heap.size w w' := by
  have hln := h.1
  have H := Lib.hid h; clear h
  have HLN := Lib.hid hln; clear hln
  obtain ⟨r, hr⟩ : ∃ r : Int, r = if right l = true then 0 else 1 := ⟨_, rfl⟩
  rw [← hr]
  have HRT := Lib.hid hr; clear hr
  go_enter Tryd.func16, Tryd.ntmps16
  go_wp2
  go_loopw [3, 8] (fun f i wr => ∃ (k : Nat) (q : Int), k ≤ n ∧ 0 ≤ q ∧ q ≤ 65537 ∧ f = .int .i64 q ∧ i = .int .i64 (k : Int) ∧ right l = chk q (l.drop k) ∧ Below w.heap.size w wr) (fun _ i _ => n - (intOf i).toNat)
  case atStart => exact ⟨0, 0, Nat.zero_le _, by omega, by omega, rfl, rfl, rfl, Below.refl _ _⟩
  case round =>
    obtain ⟨k, q, hk, hq0, hq1, rfl, rfl, hok, hbr⟩ := hrel
    have HOK := Lib.hid hok; clear hok
    rcases Nat.lt_or_ge k n with hlt | hge
    rotate_left
    · have hf : r = 0 := by rw [HRT.out, HOK.out, List.drop_of_length_le (by have := HLN.out; omega)]; rfl
      have HF := Lib.hid hf; clear hf
      have HBR := Lib.hid hbr; clear hbr
      have hkn : ¬ (k : Int) < (n : Int) := by omega
      go_wp2
      go_ret
      exact ⟨by rw [HF.out]; rfl, HBR.out⟩
    · obtain ⟨b, off, rfl, hbB⟩ := H.out.addr (by omega)
      have hkl : k < l.length := by have := HLN.out; omega
      obtain ⟨e, he⟩ : ∃ e, e = l[k] := ⟨_, rfl⟩
      have her : e.rep := by rw [he]; exact hrep _ (List.getElem_mem hkl)
      have hok2 : right l = (okR q e && chk (e.e + 1) (l.drop (k + 1))) := by
        rw [HOK.out, List.drop_eq_getElem_cons hkl, ← he]
        rfl
      have HOK2 := Lib.hid hok2; clear hok2 HOK
      have hh := H.out.below (hbr.mono hB)
      have hld := run_ldX_at hh k hkl (off + k * 2) rfl
      rw [← he] at hld
      have hst := run_stX_new wr e
      have hvar : VarX (wr.alloc (.cells e.c 33)) wr.heap.size e := VarX.new wr e
      have hb1 : Below w.heap.size w (wr.alloc (.cells e.c 33)) := hbr.alloc hbr.size _
      have hk0 : (0 : Int) ≤ (k : Int) := by omega
      have hkn : (k : Int) < (n : Int) := by omega
      have hlds := hvar.load
      obtain ⟨q0, q1⟩ := hvar.cells
      have hex : e.e = e.a + (e.t.length : Int) := rfl
      have hokr := @okR_iff q e
      have hbh := fun (hle : e.e ≤ 9223372036854775807) V => behind_any e her hle V
      have hi := her.i
      have ht := her.t
      unfold maxLen at ht
      have HBR := Lib.hid hbr; clear hbr her he hh hvar
      obtain ⟨S, hS⟩ : ∃ S : ByteArray, S = ⟨e.t.toArray⟩ := ⟨_, rfl⟩
      have hSs : S.size = e.t.length := by rw [hS, text_size]
      have hSd : S.data.toList = e.t := by rw [hS]
      have hSl : S.toList = e.t := by rw [ByteArray.toList_eq, hSd]
      have hcon := fun V => contains_any S 0 V
      rw [← hS] at q1
      rw [hSd] at hcon
      obtain ⟨z, hz⟩ : ∃ z, z = e.t.contains 0 := ⟨_, rfl⟩
      simp only [← hz] at hcon
      rw [← hz, ← hSs] at hokr
      rw [← hSs] at hex ht
      have hemp : (S.toList == ([] : List UInt8)) = decide (S.size = 0) := by
        rw [hSl, hSs]
        cases e.t <;> simp
      obtain ⟨C, hC⟩ : ∃ C, C = e.c := ⟨_, rfl⟩
      rw [← hC] at hld hst hb1 hlds q0 q1
      simp only [← hC] at hbh
      obtain ⟨a, ha⟩ : ∃ a, a = e.a := ⟨_, rfl⟩
      rw [← ha] at q0 hex hi hokr
      obtain ⟨ee, hee⟩ : ∃ ee, ee = e.e := ⟨_, rfl⟩
      simp only [← hee] at hbh hex hokr HOK2
      have HOKR := Lib.hid hokr; clear hokr
      have HB1 := Lib.hid hb1; clear hb1
      have HCON := Lib.hid hcon; clear hcon
      have HBH := Lib.hid hbh; clear hbh
      have HEX := Lib.hid hex; clear hex
      clear hC hS hSs hSd hSl hz ha hee
      have hno : okR q e = false → r = 1 := fun hf => by
        rw [HRT.out, HOK2.out, hf]; rfl
      have HNO := Lib.hid hno; clear hno
      rcases Int.lt_or_le a q with h1 | h1
      · have hr : r = 1 := HNO.out (by
          cases hf : okR q e with
          | false => rfl
          | true => have := (HOKR.out.1 hf).1; omega)
        have HR := Lib.hid hr; clear hr
        go_wp2
        go_ret
        exact ⟨by rw [HR.out]; rfl, HB1.out⟩
      have h1' : ¬ a < q := by omega
      have hw1 : -9223372036854775808 ≤ 65536 - (S.size : Int) := by omega
      have hw2 : 65536 - (S.size : Int) ≤ 9223372036854775807 := by omega
      rcases Int.lt_or_le (65536 - (S.size : Int)) a with h2 | h2
      · have hr : r = 1 := HNO.out (by
          cases hf : okR q e with
          | false => rfl
          | true => have := (HOKR.out.1 hf).2.1; have := HEX.out; omega)
        have HR := Lib.hid hr; clear hr
        go_wp2
        go_ret
        exact ⟨by rw [HR.out]; rfl, HB1.out⟩
      have h2' : ¬ 65536 - (S.size : Int) < a := by omega
      rcases Nat.eq_zero_or_pos S.size with h3 | h3
      · have hr : r = 1 := HNO.out (by
          cases hf : okR q e with
          | false => rfl
          | true => have := (HOKR.out.1 hf).2.2.1; omega)
        have HR := Lib.hid hr; clear hr
        rw [decide_eq_true h3] at hemp
        have HS3 := Lib.hid h3; clear h3
        go_wp2
        go_ret
        exact ⟨by rw [HR.out]; rfl, HB1.out⟩
      rw [decide_eq_false (by omega)] at hemp
      cases z with
      | true =>
        have hr : r = 1 := HNO.out (by
          cases hf : okR q e with
          | false => rfl
          | true => have := (HOKR.out.1 hf).2.2.2; cases this)
        have HR := Lib.hid hr; clear hr
        go_wp2_with (with_reducible refine (HCON.out _).mono ?_; rintro E w' ⟨rfl, rfl⟩)
        go_ret
        exact ⟨by rw [HR.out]; rfl, HB1.out⟩
      | false =>
        have hyes : right l = chk (ee + 1) (l.drop (k + 1)) := by
          rw [HOK2.out, HOKR.out.2 ⟨h1, by have := HEX.out; omega, h3, rfl⟩]
          rfl
        have HYES := Lib.hid hyes; clear hyes
        have hle1 : ee ≤ 65536 := by have := HEX.out; omega
        have hge1 : 0 ≤ ee := by have := HEX.out; omega
        have hbh := HBH.out (by omega)
        have HBH2 := Lib.hid hbh; clear hbh
        go_wp2_with (first | (with_reducible refine (HCON.out _).mono ?_; rintro E w' ⟨rfl, rfl⟩) | (with_reducible refine (HBH2.out _).mono ?_; rintro E w' ⟨rfl, hb2⟩; have HB2 := Lib.hid hb2; clear hb2))
        go_roundw
        case rel => exact ⟨k + 1, ee + 1, by omega, by omega, by omega, by go_num, by go_num, HYES.out, HB1.out.trans (HB2.out.mono HB1.out.size)⟩
        case measure => simp [intOf]; omega
end Go.Proofs.YtmbmjdogfjmlpaaDoor.Sp
