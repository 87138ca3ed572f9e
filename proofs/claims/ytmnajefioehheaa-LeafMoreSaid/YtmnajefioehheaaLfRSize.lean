/- The document's Sum and Size. -/
import Derived.Test.YtmnajefioehheaaLfRRight
namespace Go.Proofs.Ytmnajefioehheaa.Lf
set_option maxRecDepth 20000
open Go.RowKit
open Go.Proofs.Ytmnajefioehheaa.Mem Go.Proofs.Ytmnajefioehheaa.Crc Go.Proofs.Ytmnajefioehheaa.Rec Go.Proofs.Ytmnajefioehheaa.Reg
attribute [local go_sem ↓] ldX_eq stX_eq

set_option maxRecDepth 100000 in
set_option maxHeartbeats 1000000 in
theorem rsum_any (A : Option Addr) (n c B : Nat) (l : List Nm) (w : World) (h : HoldsX w B A n l) (hr : right l = true) (hn : n ≤ 5864062014805) :
    Calls Try.prog 23 #[.slice A n c] w fun e w' => e = .returned (.int .i64 (sizeL l : Int)) ∧ w = w' := by
  have hln := h.1
  obtain ⟨Z, hZ⟩ : ∃ Z, Z = sizeL l := ⟨_, rfl⟩
  rw [← hZ]
  have HZ := Lib.hid hZ; clear hZ
  have H := Lib.hid h; clear h
  have HLN := Lib.hid hln; clear hln
  have HQ := Lib.hid hr; clear hr
  go_enter Try.func23, Try.ntmps23
  go_wp2
  go_loop [3, 4] (fun s i => ∃ k : Nat, k ≤ n ∧ i = .int .i64 (k : Int) ∧ s = .int .i64 (sizeL (l.take k) : Int)) (fun _ i => n - (intOf i).toNat)
  case atStart => exact ⟨0, Nat.zero_le _, rfl, rfl⟩
  case round =>
    obtain ⟨k, hk, rfl, rfl⟩ := hrel
    rcases Nat.lt_or_ge k n with hlt | hge
    rotate_left
    · have hkn : ¬ (k : Int) < (n : Int) := by omega
      have HS : Hid (sizeL (l.take k) = Z) := Lib.hid (by rw [HZ.out, List.take_of_length_le (by have := HLN.out; omega)])
      generalize sizeL (l.take k) = z at HS ⊢
      go_wp2
      go_ret
      exact ⟨by rw [← HS.out]; rfl, rfl⟩
    · obtain ⟨b, off, rfl, hbB⟩ := H.out.addr (by omega)
      have hkl : k < l.length := by have := HLN.out; omega
      obtain ⟨e, he⟩ : ∃ e, e = l[k] := ⟨_, rfl⟩
      have q0 := (H.out.cell k hkl).1
      rw [← he] at q0
      have hlen := may_len (okN_may (he ▸ right_may HQ.out hkl)).1
      have hnext := sizeL_take l k hkl
      rw [← he] at hnext
      have hfar := sizeL_far HQ.out (k + 1)
      rw [HLN.out, hnext] at hfar
      obtain ⟨S, hS⟩ : ∃ S : ByteArray, S = ⟨e.t.toArray⟩ := ⟨_, rfl⟩
      have hSs : S.size = e.t.length := by rw [hS, text_size]
      rw [← hS] at q0
      rw [← hSs] at hlen hnext hfar
      clear hS hSs he
      generalize sizeL (l.take k) = z at hnext hfar ⊢
      have HN := Lib.hid hnext; clear hnext
      have hk0 : (0 : Int) ≤ (k : Int) := by omega
      have hkn : (k : Int) < (n : Int) := by omega
      go_wp2
      go_round
      case rel => exact ⟨k + 1, by omega, by go_num, by rw [HN.out]; go_num⟩
      case measure => simp [intOf]; omega
set_option maxRecDepth 100000 in
theorem rsize_any (A : Option Addr) (n c B : Nat) (l : List Nm) (w : World) (h : HoldsX w B A n l) (hB : B ≤ w.heap.size) (hr : ∀ x ∈ l, x.rep) (hn : n ≤ 5864062014805) :
    Calls Try.prog 12 #[.slice A n c] w fun e w' => e = .returned (.tuple #[.int .i64 (size l).1, .int .i64 (size l).2]) ∧ Below w.heap.size w w' := by
  have hright := rright_any A n c B l w h hB hr hn
  obtain ⟨q, hq⟩ : ∃ q, right l = q := ⟨_, rfl⟩
  rw [hq] at hright
  have HRIGHT := Lib.hid hright; clear hright
  cases q with
  | false =>
    rw [size_not hq]
    clear h
    go_enter Try.func12, Try.ntmps12
    go_wp2_with (with_reducible refine HRIGHT.out.mono ?_; rintro E w1 ⟨rfl, hb⟩)
    have HB := Lib.hid hb; clear hb
    go_ret2
    exact ⟨rfl, HB.out⟩
  | true =>
    rw [size_yes hq]
    have hsum : ∀ V, Below w.heap.size w V → Calls Try.prog 23 #[.slice A n c] V fun e w' => e = .returned (.int .i64 (sizeL l : Int)) ∧ V = w' := fun V hV => rsum_any A n c B l V (h.below (hV.mono hB)) hq hn
    have HS := Lib.hid hsum; clear hsum h
    generalize sizeL l = Z at HS ⊢
    go_enter Try.func12, Try.ntmps12
    go_wp2_with (first | (with_reducible refine HRIGHT.out.mono ?_; rintro E w1 ⟨rfl, hb⟩) | fail)
    have hcall := HS.out _ hb
    have HB := Lib.hid hb; clear hb
    have HC := Lib.hid hcall; clear hcall HS
    go_wp2_with (with_reducible refine HC.out.mono ?_; rintro E w2 ⟨rfl, rfl⟩)
    go_ret2
    exact ⟨rfl, HB.out⟩
end Go.Proofs.Ytmnajefioehheaa.Lf
