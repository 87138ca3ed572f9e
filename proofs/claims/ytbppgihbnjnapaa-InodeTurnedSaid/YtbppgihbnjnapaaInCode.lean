/- Contract of the program's Encode. -/
import Derived.Test.YtbppgihbnjnapaaInEnc
namespace Go.Proofs.Ytbppgihbnjnapaa.Ino
set_option maxRecDepth 20000
open Go.RowKit
open Go.Proofs.Ytbppgihbnjnapaa.Mem Go.Proofs.Ytbppgihbnjnapaa.Crc Go.Proofs.Ytbppgihbnjnapaa.Rec
attribute [local go_sem ↓] Go.wp_at_zero Go.wp_at_succ ldI_eq stI_eq

/-- Bytes in new memory, and an error. -/
def Encd (L : List UInt8) (x : Int) (w : World) (e : Ending) (w' : World) : Prop :=
  ∃ A c, e = .returned (.tuple #[.slice A L.length c, .int .i64 x]) ∧ Owned w' w.heap.size (.slice A L.length c) L ∧ Below w.heap.size w w'

/-- The box of an inode, and what is known of it in later worlds. -/
structure BoxI (w : World) (x : In) (A : Option Addr) (c : Nat) (W : World) : Prop where
  row : VarI W w.heap.size x A c
  below : Below w.heap.size w W
theorem boxI (w : World) (x : In) (A : Option Addr) (c : Nat) : BoxI w x A c (w.alloc (.cells (x.c A c) 24)) := ⟨VarI.new w x A c, (Below.refl _ _).alloc (Nat.le_refl _) _⟩
theorem BoxI.next {w W W' : World} {x : In} {A : Option Addr} {c : Nat} (h : BoxI w x A c W) (hb : Below W.heap.size W W') : BoxI w x A c W' := ⟨h.row.keep hb h.row.lt, h.below.trans (hb.mono h.below.size)⟩
theorem BoxI.load {w W : World} {x : In} {A : Option Addr} {c : Nat} (h : BoxI w x A c W) : (ldI (.pointer (some ⟨w.heap.size, 0, none⟩))).run Try.prog W = .ok (.agg (x.c A c)) W := h.row.load

theorem in_nat {x : In} (h : x.may = true) : ∃ (k l s a : Nat), k ≤ 3 ∧ l ≤ 100 ∧ s ≤ 65536 ∧ a ≤ 1023 ∧ x.body.length = 60 ∧ x = ⟨k, l, s, x.inl, a, x.body⟩ := by
  obtain ⟨h1, h2, h3, h4, h5, h6, h7, h8, h9, _⟩ := of_decide_eq_true h
  obtain ⟨k, l, s, i, a, b⟩ := x
  simp only at h1 h2 h3 h4 h5 h6 h7 h8 h9
  refine ⟨k.toNat, l.toNat, s.toNat, a.toNat, by omega, by omega, by omega, by omega, h9, ?_⟩
  simp only [In.mk.injEq, true_and, and_true]
  exact ⟨by omega, by omega, by omega, by omega⟩

theorem zer_made (w : World) : Owned (w.alloc (.cells (zer.map byteV).toArray 5)) w.heap.size (.slice (some ⟨w.heap.size, 0, none⟩) 128 128) zer := by
  have := owned_made w zer w.heap.size (Nat.le_refl _) (by rw [zer_len]; unfold maxLen; omega)
  rwa [zer_len] at this
theorem make128 (W : World) : (Instr.makeSlice 22 (.int .i64 128) (.int .i64 128)).run Try.prog W = .ok (.slice (some ⟨W.heap.size, 0, none⟩) 128 128) (W.alloc (.cells (zer.map byteV).toArray 5)) := run_makeZ 128 (by omega) W

set_option maxRecDepth 100000 in
theorem encode_far (x : In) (A : Option Addr) (c : Nat) (n : Int) (w : World) (hn : ¬ (0 ≤ n ∧ n ≤ 1048576)) :
    Calls Try.prog 10 #[.agg (x.c A c), .int .i64 n] w fun e w' => e = .returned (.tuple #[.slice none 0 0, .int .i64 1]) ∧ Below w.heap.size w w' := by
  obtain ⟨C, hC⟩ : ∃ C, C = x.c A c := ⟨_, rfl⟩
  rw [← hC]
  have HB : Hid (Below w.heap.size w (w.alloc (.cells C 24))) := Lib.hid ((Below.refl _ _).alloc (Nat.le_refl _) _)
  have HN := Lib.hid hn; clear hn
  clear hC
  go_enter Try.func10, Try.ntmps10
  go_wp2_with fail
  with_reducible refine (numbered_any n _).mono ?_
  rintro e w1 ⟨rfl, rfl⟩
  rw [decide_eq_false HN.out]
  go_wp2
  go_ret2
  exact ⟨rfl, HB.out⟩

set_option maxRecDepth 100000 in
theorem encode_nil (A : Option Addr) (c : Nat) (n : Int) (w : World) (hn : 0 ≤ n ∧ n ≤ 1048576) :
    Calls Try.prog 10 #[.agg (in0.c A c), .int .i64 n] w (Encd zer 0 w) := by
  unfold Encd
  rw [zer_len]
  obtain ⟨x, hx⟩ : ∃ x, x = in0 := ⟨_, rfl⟩
  have hnil : x.nil = true := by rw [hx]; exact nil_in0
  rw [← hx]
  clear hx
  have hbx := boxI w x A c
  have l1 := hbx.load
  have HBX := Lib.hid hbx; clear hbx
  have HN := Lib.hid hn; clear hn
  have HM := fun W => make128 W
  have HMK := Lib.hid HM; clear HM
  go_enter Try.func10, Try.ntmps10
  go_wp2_with fail
  with_reducible refine (numbered_any n _).mono ?_
  rintro e w1 ⟨rfl, rfl⟩
  rw [decide_eq_true HN.out]
  go_wp2_with fail
  with_reducible refine (nil_any x A c _).mono ?_
  rintro e w2 ⟨rfl, hb⟩
  rw [hnil]
  have HB2 : Hid (Below w.heap.size w w2) := Lib.hid (HBX.out.next hb).below
  clear hb l1 hnil
  have l2 := HMK.out w2
  have HO : Hid (Owned (w2.alloc (.cells (zer.map byteV).toArray 5)) w.heap.size (.slice (some ⟨w2.heap.size, 0, none⟩) 128 128) zer) := Lib.hid (Owned.mono (zer_made w2) HB2.out.size)
  have HB3 : Hid (Below w.heap.size w (w2.alloc (.cells (zer.map byteV).toArray 5))) := Lib.hid (HB2.out.alloc HB2.out.size _)
  go_wp2
  go_ret2
  exact ⟨_, _, rfl, HO.out, HB3.out⟩

set_option maxRecDepth 100000 in
theorem encode_not (x : In) (A : Option Addr) (c : Nat) (n : Int) (w : World) (hn : 0 ≤ n ∧ n ≤ 1048576) (hnil : x.nil = false) (hm : x.may = false) :
    Calls Try.prog 10 #[.agg (x.c A c), .int .i64 n] w fun e w' => e = .returned (.tuple #[.slice none 0 0, .int .i64 1]) ∧ Below w.heap.size w w' := by
  have hbx := boxI w x A c
  have l1 := hbx.load
  have HBX := Lib.hid hbx; clear hbx
  have HN := Lib.hid hn; clear hn
  go_enter Try.func10, Try.ntmps10
  go_wp2_with fail
  with_reducible refine (numbered_any n _).mono ?_
  rintro e w1 ⟨rfl, rfl⟩
  rw [decide_eq_true HN.out]
  go_wp2_with fail
  with_reducible refine (nil_any x A c _).mono ?_
  rintro e w2 ⟨rfl, hb⟩
  rw [hnil]
  have HB2 := Lib.hid (HBX.out.next hb)
  clear hb l1
  have l2 := HB2.out.load
  go_wp2_with fail
  with_reducible refine (may_any x A c _).mono ?_
  rintro e w3 ⟨rfl, hb⟩
  rw [hm]
  have HB3 := Lib.hid (HB2.out.next hb)
  clear hb l2
  go_wp2
  go_ret2
  exact ⟨rfl, HB3.out.below⟩

set_option maxRecDepth 100000 in
theorem encode_may (x : In) (A : Option Addr) (c n B : Nat) (w : World) (hn : n ≤ 1048576) (hm : x.may = true) (hx : Holds w B A x.body.length x.body) (hB : B ≤ w.heap.size) :
    Calls Try.prog 10 #[.agg (x.c A c), .int .i64 (n : Int)] w (Encd (code x n) 0 w) := by
  unfold Encd
  have hnil := may_not_nil hm
  rw [code_len x n (may_body hm)]
  have hcod : ∀ W : World, B ≤ W.heap.size → Holds W B A x.body.length x.body → Calls Try.prog 21 #[.agg (x.c A c), .int .i64 (n : Int)] W fun e w' => ∃ A' c', e = .returned (.slice A' 128 c') ∧ Owned w' W.heap.size (.slice A' 128 c') (code x n) ∧ Below W.heap.size W w' := by
    intro W hW hh
    obtain ⟨k, l, s, a, h1, h2, h3, h4, h5, h6⟩ := in_nat hm
    rw [h5] at hh
    have := coded_any k l s a x.inl x.body A c n B W h1 h2 h3 h4 h5 hn hh hW
    rw [← h6] at this
    refine this.mono ?_
    rintro e w1 ⟨A', c', he, ho, hb⟩
    rw [code_len x n h5] at he ho
    exact ⟨A', c', he, ho, hb⟩
  have HCOD := Lib.hid hcod; clear hcod
  have HX := Lib.hid hx; clear hx
  have hbx := boxI w x A c
  have l1 := hbx.load
  have HBX := Lib.hid hbx; clear hbx
  have hn' : 0 ≤ (n : Int) ∧ (n : Int) ≤ 1048576 := by omega
  have HN := Lib.hid hn'; clear hn' hn
  go_enter Try.func10, Try.ntmps10
  go_wp2_with fail
  with_reducible refine (numbered_any (n : Int) _).mono ?_
  rintro e w1 ⟨rfl, rfl⟩
  rw [decide_eq_true HN.out]
  go_wp2_with fail
  with_reducible refine (nil_any x A c _).mono ?_
  rintro e w2 ⟨rfl, hb⟩
  rw [hnil]
  have HB2 := Lib.hid (HBX.out.next hb)
  clear hb l1
  have l2 := HB2.out.load
  go_wp2_with fail
  with_reducible refine (may_any x A c _).mono ?_
  rintro e w3 ⟨rfl, hb⟩
  rw [hm]
  have HB3 := Lib.hid (HB2.out.next hb)
  clear hb l2
  have l3 := HB3.out.load
  go_wp2_with fail
  with_reducible refine (HCOD.out w3 (Nat.le_trans hB HB3.out.below.size) (HX.out.below (HB3.out.below.mono hB))).mono ?_
  rintro e w4 ⟨A4, c4, rfl, ho, hb⟩
  have HB4 : Hid (Below w.heap.size w w4) := Lib.hid (HB3.out.next hb).below
  have HO4 : Hid (Owned w4 w.heap.size (.slice A4 128 c4) (code x n)) := Lib.hid (Owned.mono ho HB3.out.below.size)
  clear ho hb l3
  go_wp2
  go_ret2
  exact ⟨_, _, rfl, HO4.out, HB4.out⟩

/-- What Encode answers of whatever it is given. -/
theorem encode_any (x : In) (A : Option Addr) (c B : Nat) (n : Int) (w : World) (hx : Holds w B A x.body.length x.body) (hB : B ≤ w.heap.size) :
    Calls Try.prog 10 #[.agg (x.c A c), .int .i64 n] w (Encd (enc x n).1 (enc x n).2 w) := by
  by_cases hn : 0 ≤ n ∧ n ≤ 1048576
  · cases h1 : x.nil with
    | true =>
      obtain rfl := nil_eq h1
      rw [enc_in0 n hn]
      exact encode_nil A c n w hn
    | false =>
      cases h2 : x.may with
      | false =>
        rw [enc_not x n h1 h2]
        exact (encode_not x A c n w hn h1 h2).mono fun e w' ⟨he, hb⟩ => ⟨none, 0, he, World.ownsRow_nil _ _ _ _, hb⟩
      | true =>
        obtain ⟨m, rfl⟩ := Int.eq_ofNat_of_zero_le hn.1
        rw [enc_may x _ hn h2]
        exact encode_may x A c m B w (by omega) h2 hx hB
  · rw [enc_far x n hn]
    exact (encode_far x A c n w hn).mono fun e w' ⟨he, hb⟩ => ⟨none, 0, he, World.ownsRow_nil _ _ _ _, hb⟩
end Go.Proofs.Ytbppgihbnjnapaa.Ino
