/- Put is a Fill of one bit; Longest goes from First to First. -/
import Derived.Test.YtobnnflacdhjcaaBtFirst
import Derived.Test.YtobnnflacdhjcaaBtFill
import Derived.LoopTactic
namespace Go.Proofs.Ytobnnflacdhjcaa.Bits
set_option maxRecDepth 20000
open Go Go.RowKit
open Go.Proofs.Ytobnnflacdhjcaa.Mem Go.Proofs.Ytobnnflacdhjcaa.Bt Go.Proofs.Ytobnnflacdhjcaa.Rec

theorem put_of_filled {bs ys : List UInt8} {n : Nat} {i : Int} {v : Bool} (hl : bs.length = n) (hn : n ≤ 140737488355328) (h1 : -9223372036854775808 ≤ i) (h2 : i ≤ 9223372036854775807) (h : Filled bs i.toNat (hiN n (IntKind.i64.wrap (i + 1))) v ys) : IsPut bs i v ys := by
  refine ⟨h.1, fun j hj => ?_⟩
  rw [h.2 j hj]
  have e : (i.toNat ≤ j ∧ j < hiN n (IntKind.i64.wrap (i + 1))) ↔ (j : Int) = i := by
    rw [IntKind.wrap_i64]
    unfold hiN hiE
    split <;> omega
  by_cases hc : (j : Int) = i
  · rw [if_pos hc, if_pos (e.2 hc)]
  · rw [if_neg hc, if_neg (fun h => hc (e.1 h))]

set_option maxHeartbeats 1000000 in
theorem put_any (A : Option Addr) (n c B : Nat) (bs : List UInt8) (i : Int) (v : Bool) (w : World) (h : Holds w B A n bs) (hB : B ≤ w.heap.size) (hn : n ≤ 140737488351232) (h1 : -9223372036854775808 ≤ i) (h2 : i ≤ 9223372036854775807) :
    Calls Try.prog 18 #[.slice A n c, .int .i64 i, .bool v] w fun e w' => ∃ ys, IsPut bs i v ys ∧ Made w ys e w' := by
  have hf := fill_any A n c B bs i (IntKind.i64.wrap (i + 1)) v w h hB hn
  have hl := h.1
  have HP : ∀ ys, Filled bs i.toNat (hiN n (IntKind.i64.wrap (i + 1))) v ys → IsPut bs i v ys := fun ys hy => put_of_filled hl (by omega) h1 h2 hy
  obtain ⟨I, hI⟩ : ∃ I, I = IntKind.i64.wrap (i + 1) := ⟨_, rfl⟩
  rw [← hI] at hf HP
  have HF := Lib.hid hf; clear hf
  have HPP := Lib.hid HP; clear HP h hl
  have hwr : wrap64 (i + 1) = I := by rw [hI, IntKind.wrap_i64]; unfold wrap64; rfl
  clear hI
  go_enter Try.func18, Try.ntmps18
  go_wp2_with fail
  rw [hwr]
  with_reducible refine HF.out.mono ?_
  rintro e w2 ⟨ys, hy, A2, c2, rfl, ho, hb⟩
  clear HF hwr
  go_wp2
  go_ret
  exact ⟨ys, HPP.out ys hy, A2, c2, rfl, ho, hb⟩

def bit (bs : List UInt8) (i : Nat) : Bool := bt bs i
/-- Behind the runs ahead of a 0 at A. -/
def AtZero (bs : List UInt8) (a b : Nat) (x : Int) (m : Nat) (at_ : Int) : Prop :=
  (at_ = -1 ∧ IsLong (bt bs) a b x m) ∨ ∃ A : Nat, at_ = (A : Int) ∧ a ≤ A ∧ A < b ∧ bt bs A = false ∧ IsLong (bt bs) a A x m ∧ (A = a ∨ bt bs (A - 1) = true)
theorem zero_of_fst {bs : List UInt8} {a b e : Nat} {x : Int} {m : Nat} {r : Int} (h : IsLong (bt bs) a e x m) (hae : a ≤ e) (heb : e ≤ b) (hr : IsFst (fun i => bt bs i == false) e b r) (hedge : e = a ∨ e = b ∨ bt bs e = true) : AtZero bs a b x m r := by
  rcases hr with ⟨rfl, h1⟩ | ⟨A, rfl, h1, h2, h3, h4⟩
  · refine .inl ⟨rfl, long_ones h heb fun i k1 k2 => ?_⟩
    have := h1 i k1 k2
    simpa using this
  · have hA : bt bs A = false := by simpa using h3
    refine .inr ⟨A, rfl, by omega, h2, hA, long_ones h h1 (fun i k1 k2 => by have := h4 i k1 k2; simpa using this), ?_⟩
    rcases Nat.lt_or_ge e A with hl | hl
    · have := h4 (A - 1) (by omega) (by omega)
      exact .inr (by simpa using this)
    · have : A = e := by omega
      subst this
      rcases hedge with e1 | e1 | e1
      · exact .inl e1
      · omega
      · rw [hA] at e1; cases e1
theorem zero_empty {bs : List UInt8} {a b : Nat} {r : Int} (h : b ≤ a) (hr : IsFst (fun i => bt bs i == false) a b r) : r = -1 ∧ IsLong (bt bs) a b (-1) 0 := by
  rcases hr with ⟨rfl, h1⟩ | ⟨A, rfl, h1, h2, _⟩
  · exact ⟨rfl, .inl ⟨rfl, rfl, fun i k1 k2 => by omega⟩⟩
  · omega
theorem long_start {bs : List UInt8} {a b : Nat} {r : Int} (hr : IsFst (fun i => bt bs i == false) a b r) : AtZero bs a b (-1) 0 r := by
  rcases Nat.lt_or_ge a b with hl | hl
  · exact zero_of_fst (long_none _ a) (Nat.le_refl _) (by omega) hr (.inl rfl)
  · obtain ⟨e1, e2⟩ := zero_empty hl hr
    exact .inl ⟨e1, e2⟩
/-- A run from A to E - 1 is gone through. -/
theorem long_turn {bs : List UInt8} {a A E : Nat} {x : Int} {m : Nat} (h : IsLong (bt bs) a A x m) (haA : a ≤ A) (hE : A < E) (hfree : ∀ i, A ≤ i → i < E → (bt bs i == true) = false) (hedge : A = a ∨ bt bs (A - 1) = true) :
    IsLong (bt bs) a E (if m < E - A then (A : Int) else x) (if m < E - A then E - A else m) :=
  long_ext h (by omega) haA (Nat.le_refl _) hE (fun i k1 k2 => by have := hfree i k1 (by omega); simpa using this) hedge

def leftM (b : Nat) (x : Int) : Nat := if x < 0 then 0 else b + 1 - x.toNat
theorem leftM_lt {b A' E : Nat} {r : Int} (h : r = -1 ∨ ∃ A3 : Nat, r = (A3 : Int) ∧ E ≤ A3 ∧ A3 < b) (h1 : A' < E) (h2 : E ≤ b) : leftM b r < leftM b (A' : Int) := by
  unfold leftM
  rcases h with rfl | ⟨A3, rfl, e2, e3⟩
  · rw [if_pos (by omega), if_neg (by omega)]; omega
  · rw [if_neg (by omega), if_neg (by omega)]; omega
theorem long_le {f : Nat → Bool} {a e : Nat} {x : Int} {m : Nat} (h : IsLong f a e x m) : m ≤ e ∧ -1 ≤ x ∧ x ≤ e := by
  rcases h with ⟨rfl, rfl, _⟩ | ⟨A, rfl, h0, h1, h2, _⟩
  · omega
  · omega
set_option maxRecDepth 100000 in
set_option maxHeartbeats 4000000 in
theorem long_any (A : Option Addr) (n c B : Nat) (bs : List UInt8) (fr to : Int) (w : World) (h : Holds w B A n bs) (hB : B ≤ w.heap.size) (hn : n ≤ 140737488355328) :
    Calls Try.prog 10 #[.slice A n c, .int .i64 fr, .int .i64 to] w fun e w' => ∃ (x : Int) (m : Nat), IsLong (bt bs) fr.toNat (hiN n to) x m ∧ e = .returned (.tuple #[.int .i64 x, .int .i64 (m : Int)]) ∧ Below w.heap.size w w' := by
  have hhi := hiN_le n to
  have hmin : ∀ (ts : Array TypeId) (t : TypeId) (W : World), (Builtin.min_ ts t #[.int .i64 to, .int .i64 (8 * (n : Int))]).run Try.prog W = .ok (.int .i64 (hiE n to)) W := fun ts t W => by
    rw [run_min_int2]; rfl
  have H1 := fun (V : World) (hb : Below w.heap.size w V) (f : Int) (v : Bool) => first_any A n c B bs f to v V (h.below (hb.mono hB)) (Nat.le_trans hB hb.size) hn
  obtain ⟨a, ha⟩ : ∃ a, a = fr.toNat := ⟨_, rfl⟩
  obtain ⟨b, hb⟩ : ∃ b, b = hiN n to := ⟨_, rfl⟩
  have hbE : 0 < b → hiE n to = (b : Int) := fun h0 => by rw [hb]; unfold hiN at *; omega
  have H0 := H1 w (Below.refl _ _) fr false
  rw [← ha, ← hb] at H0 ⊢
  rw [← hb] at hhi
  simp only [← hb] at H1
  have HFST := Lib.hid H1; clear H1
  have HF0 := Lib.hid H0; clear H0
  have HBE := Lib.hid hbE; clear hbE
  clear ha hb h
  obtain ⟨bE, hbEe⟩ : ∃ bE, bE = hiE n to := ⟨_, rfl⟩
  rw [← hbEe] at hmin HBE
  clear hbEe
  go_enter Try.func10, Try.ntmps10
  go_wp2_with fail
  with_reducible refine HF0.out.mono ?_
  rintro e w1 ⟨r, hr, rfl, hb1⟩
  have hz := long_start hr
  have HZ := Lib.hid hz; clear hz hr HF0
  have HB1 := Lib.hid hb1; clear hb1
  go_wp2
  go_loopw [8, 9, 10, 11] (fun lon mos at_ _ wr => ∃ (x : Int) (m : Nat) (r : Int), lon = .int .i64 x ∧ mos = .int .i64 (m : Int) ∧ at_ = .int .i64 r ∧ AtZero bs a b x m r ∧ Below w.heap.size w wr) (fun _ _ t _ _ => leftM b (intOf t))
  case atStart => exact ⟨-1, 0, r, rfl, rfl, rfl, HZ.out, HB1.out⟩
  case round =>
    obtain ⟨x, m, r, rfl, rfl, rfl, hz, hb⟩ := hrel
    rcases hz with ⟨rfl, hL⟩ | ⟨A', rfl, hA1, hA2, hA3, hL, hed⟩
    · have HL := Lib.hid hL; clear hL
      have HB := Lib.hid hb; clear hb
      go_wp2
      refine bodyPost_ret (results_tmp2 rfl _ _ _) rfl ?_
      exact ⟨x, m, HL.out, rfl, HB.out⟩
    · have hA0 : (0 : Int) ≤ (A' : Int) := by omega
      have hF1 := HFST.out wr hb (A' : Int) true
      rw [Int.toNat_natCast] at hF1
      have HF1 := Lib.hid hF1; clear hF1
      go_wp2_with fail
      with_reducible refine HF1.out.mono ?_
      rintro e w2 ⟨r2, hr2, rfl, hb2⟩
      clear HF1
      rcases hr2 with ⟨rfl, hno⟩ | ⟨E, rfl, hE1', hE2', hE3, hE4⟩
      · have hbe := HBE.out (by omega)
        obtain ⟨E, hEb⟩ : ∃ E, E = b := ⟨_, rfl⟩
        have hE1 : A' < E := by omega
        have hE2 : E ≤ b := by omega
        have hfree : ∀ i, A' ≤ i → i < E → (bt bs i == true) = false := fun i k1 k2 => hno i k1 (by omega)
        have hedge : E = a ∨ E = b ∨ bt bs E = true := .inr (.inl hEb)
        rw [hbe, ← hEb] at hmin
        clear hno hbe hEb
        have hle := long_le hL
        have hnew := long_turn hL hA1 hE1 hfree hed
        obtain ⟨d, hd⟩ : ∃ d, d = E - A' := ⟨_, rfl⟩
        rw [← hd] at hnew
        have hdE : (E : Int) - (A' : Int) = (d : Int) := by omega
        have HE := Lib.hid hd; clear hd
        have HNEW := Lib.hid hnew; clear hnew hL
        have HEDGE := Lib.hid hedge; clear hedge hed hA3 hfree
        have HB2 := Lib.hid (hb.trans (hb2.mono hb.size)); clear hb hb2
        have hF2 := HFST.out w2 HB2.out (E : Int) false
        rw [Int.toNat_natCast] at hF2
        have HF2 := Lib.hid hF2; clear hF2
        by_cases hm : m < d
        · rw [if_pos hm, if_pos hm] at HNEW
          have hmi : (m : Int) < (d : Int) := by omega
          go_wp2_with fail
          with_reducible refine HF2.out.mono ?_
          rintro e w3 ⟨r3, hr3, rfl, hb3⟩
          have hz3 := zero_of_fst HNEW.out (by omega) hE2 hr3 HEDGE.out
          have HB3 := Lib.hid (HB2.out.trans (hb3.mono HB2.out.size)); clear hb3 HF2 HB2 HEDGE HNEW
          have hms : (r3 = -1 ∨ ∃ A3 : Nat, r3 = (A3 : Int) ∧ E ≤ A3 ∧ A3 < b) := by
            rcases hr3 with ⟨e1, _⟩ | ⟨A3, e1, e2, e3, _⟩
            · exact .inl e1
            · exact .inr ⟨A3, e1, e2, e3⟩
          have HZ3 := Lib.hid hz3; clear hz3 hr3
          have HMS := Lib.hid hms; clear hms
          go_wp2
          go_roundw
          case rel => exact ⟨_, _, _, rfl, rfl, rfl, HZ3.out, HB3.out⟩
          case measure =>
            exact leftM_lt HMS.out hE1 hE2
        · rw [if_neg hm, if_neg hm] at HNEW
          have hmi : ¬ (m : Int) < (d : Int) := by omega
          go_wp2_with fail
          with_reducible refine HF2.out.mono ?_
          rintro e w3 ⟨r3, hr3, rfl, hb3⟩
          have hz3 := zero_of_fst HNEW.out (by omega) hE2 hr3 HEDGE.out
          have HB3 := Lib.hid (HB2.out.trans (hb3.mono HB2.out.size)); clear hb3 HF2 HB2 HEDGE HNEW
          have hms : (r3 = -1 ∨ ∃ A3 : Nat, r3 = (A3 : Int) ∧ E ≤ A3 ∧ A3 < b) := by
            rcases hr3 with ⟨e1, _⟩ | ⟨A3, e1, e2, e3, _⟩
            · exact .inl e1
            · exact .inr ⟨A3, e1, e2, e3⟩
          have HZ3 := Lib.hid hz3; clear hz3 hr3
          have HMS := Lib.hid hms; clear hms
          go_wp2
          go_roundw
          case rel => exact ⟨_, _, _, rfl, rfl, rfl, HZ3.out, HB3.out⟩
          case measure =>
            exact leftM_lt HMS.out hE1 hE2
      · have hE1 : A' < E := by
          rcases Nat.lt_or_ge A' E with hl | hl
          · exact hl
          · have : E = A' := by omega
            subst this
            simp [hA3] at hE3
        have hE2 : E ≤ b := by omega
        have hE0 : ¬ (E : Int) < 0 := by omega
        have hfree : ∀ i, A' ≤ i → i < E → (bt bs i == true) = false := fun i k1 k2 => hE4 i k1 k2
        have hedge : E = a ∨ E = b ∨ bt bs E = true := .inr (.inr (by simpa using hE3))
        clear hE3 hE4 hE1' hE2'
        have hle := long_le hL
        have hnew := long_turn hL hA1 hE1 hfree hed
        obtain ⟨d, hd⟩ : ∃ d, d = E - A' := ⟨_, rfl⟩
        rw [← hd] at hnew
        have hdE : (E : Int) - (A' : Int) = (d : Int) := by omega
        have HE := Lib.hid hd; clear hd
        have HNEW := Lib.hid hnew; clear hnew hL
        have HEDGE := Lib.hid hedge; clear hedge hed hA3 hfree
        have HB2 := Lib.hid (hb.trans (hb2.mono hb.size)); clear hb hb2
        have hF2 := HFST.out w2 HB2.out (E : Int) false
        rw [Int.toNat_natCast] at hF2
        have HF2 := Lib.hid hF2; clear hF2
        by_cases hm : m < d
        · rw [if_pos hm, if_pos hm] at HNEW
          have hmi : (m : Int) < (d : Int) := by omega
          go_wp2_with fail
          with_reducible refine HF2.out.mono ?_
          rintro e w3 ⟨r3, hr3, rfl, hb3⟩
          have hz3 := zero_of_fst HNEW.out (by omega) hE2 hr3 HEDGE.out
          have HB3 := Lib.hid (HB2.out.trans (hb3.mono HB2.out.size)); clear hb3 HF2 HB2 HEDGE HNEW
          have hms : (r3 = -1 ∨ ∃ A3 : Nat, r3 = (A3 : Int) ∧ E ≤ A3 ∧ A3 < b) := by
            rcases hr3 with ⟨e1, _⟩ | ⟨A3, e1, e2, e3, _⟩
            · exact .inl e1
            · exact .inr ⟨A3, e1, e2, e3⟩
          have HZ3 := Lib.hid hz3; clear hz3 hr3
          have HMS := Lib.hid hms; clear hms
          go_wp2
          go_roundw
          case rel => exact ⟨_, _, _, rfl, rfl, rfl, HZ3.out, HB3.out⟩
          case measure =>
            exact leftM_lt HMS.out hE1 hE2
        · rw [if_neg hm, if_neg hm] at HNEW
          have hmi : ¬ (m : Int) < (d : Int) := by omega
          go_wp2_with fail
          with_reducible refine HF2.out.mono ?_
          rintro e w3 ⟨r3, hr3, rfl, hb3⟩
          have hz3 := zero_of_fst HNEW.out (by omega) hE2 hr3 HEDGE.out
          have HB3 := Lib.hid (HB2.out.trans (hb3.mono HB2.out.size)); clear hb3 HF2 HB2 HEDGE HNEW
          have hms : (r3 = -1 ∨ ∃ A3 : Nat, r3 = (A3 : Int) ∧ E ≤ A3 ∧ A3 < b) := by
            rcases hr3 with ⟨e1, _⟩ | ⟨A3, e1, e2, e3, _⟩
            · exact .inl e1
            · exact .inr ⟨A3, e1, e2, e3⟩
          have HZ3 := Lib.hid hz3; clear hz3 hr3
          have HMS := Lib.hid hms; clear hms
          go_wp2
          go_roundw
          case rel => exact ⟨_, _, _, rfl, rfl, rfl, HZ3.out, HB3.out⟩
          case measure =>
            exact leftM_lt HMS.out hE1 hE2
end Go.Proofs.Ytobnnflacdhjcaa.Bits
