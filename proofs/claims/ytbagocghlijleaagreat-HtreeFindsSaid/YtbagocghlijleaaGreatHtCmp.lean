/- Comparing texts and numbers: the library's cmp. -/
import Derived.Test.YtbagocghlijleaaGreatHtPlain
import Derived.Test.YtbagocghlijleaaGreatLfRight
import Derived.Shelf.SlSortCmp.WholeK
namespace Go.Proofs.YtbagocghlijleaaGreat.Ht
set_option maxRecDepth 20000
open Go.RowKit Go.Sort
open Go.Proofs.YtbagocghlijleaaGreat.Mem Go.Proofs.YtbagocghlijleaaGreat.Crc Go.Proofs.YtbagocghlijleaaGreat.Rec Go.Proofs.YtbagocghlijleaaGreat.Reg Go.Proofs.YtbagocghlijleaaGreat.Lf

def cmpT (a b : List UInt8) : Int := if less a b = true then -1 else if less b a = true then 1 else 0
def cmpN (a b : Nat) : Int := if a < b then -1 else if b < a then 1 else 0
def orI (a b : Int) : Int := if a ≠ 0 then a else b
def cmpX (x y : Nm) : Int := cmpT x.t y.t
def cmpE (x y : Nm) : Int := orI (cmpN (Crc.sum x.t) (Crc.sum y.t)) (cmpT x.t y.t)
theorem cmpT_neg {a b : List UInt8} : cmpT a b < 0 ↔ less a b = true := by
  unfold cmpT
  by_cases h : less a b = true
  · simp [h]
  · rw [if_neg h]
    split <;> simp [h]
theorem cmpX_lt : ltOf cmpX = ordN := by
  funext x y
  unfold ltOf cmpX ordN
  cases h : less x.t y.t with
  | true => exact decide_eq_true (cmpT_neg.2 h)
  | false => exact decide_eq_false (fun hn => by rw [cmpT_neg.1 hn] at h; cases h)
theorem cmpE_neg (x y : Nm) : cmpE x y < 0 ↔ bel x.t y.t = true := by
  rw [bel_iff]
  unfold cmpE orI cmpN
  by_cases h : Crc.sum x.t < Crc.sum y.t
  · simp [h]
  · rw [if_neg h]
    by_cases h2 : Crc.sum y.t < Crc.sum x.t
    · rw [if_pos h2, if_pos (by decide)]
      constructor
      · intro hn; omega
      · rintro (h3 | ⟨h3, _⟩) <;> omega
    · rw [if_neg h2, if_neg (by simp)]
      rw [cmpT_neg]
      constructor
      · intro hl; exact .inr ⟨by omega, hl⟩
      · rintro (h3 | ⟨_, h3⟩)
        · omega
        · exact h3
theorem cmpE_lt : ltOf cmpE = ordB := by
  funext x y
  unfold ltOf ordB
  cases h : bel x.t y.t with
  | true => exact decide_eq_true ((cmpE_neg x y).2 h)
  | false => exact decide_eq_false (fun hn => by rw [(cmpE_neg x y).1 hn] at h; cases h)
theorem cmpE_zero (x y : Nm) : cmpE x y = 0 ↔ x.t = y.t := by
  constructor
  · intro h
    refine bel_total ?_ ?_
    · cases hb : bel x.t y.t with
      | false => rfl
      | true => have := (cmpE_neg x y).2 hb; omega
    · cases hb : bel y.t x.t with
      | false => rfl
      | true =>
        exfalso
        have h1 : ¬ cmpE x y < 0 := by omega
        rw [cmpE_neg, bel_iff] at h1
        rw [bel_iff] at hb
        unfold cmpE orI at h
        by_cases hs : cmpN (Crc.sum x.t) (Crc.sum y.t) ≠ 0
        · rw [if_pos hs] at h; exact hs h
        · rw [if_neg hs] at h
          have hs2 : Crc.sum x.t = Crc.sum y.t := by
            unfold cmpN at hs
            by_cases ha : Crc.sum x.t < Crc.sum y.t
            · rw [if_pos ha] at hs; exact absurd (by decide) hs
            · by_cases hb2 : Crc.sum y.t < Crc.sum x.t
              · rw [if_neg ha, if_pos hb2] at hs; exact absurd (by decide) hs
              · omega
          rcases hb with hb | ⟨_, hl⟩
          · omega
          · unfold cmpT at h
            rw [if_neg (by rw [less_asym hl]; decide), if_pos hl] at h
            cases h
  · intro h
    unfold cmpE orI cmpN cmpT
    rw [h]
    simp [less_irrefl]
theorem swo_X : SWO (ltOf cmpX) where
  irrefl x := by rw [cmpX_lt]; exact less_irrefl x.t
  trans x y z h1 h2 := by rw [cmpX_lt] at *; exact less_trans _ _ _ h1 h2
  ntrans x y z h1 h2 := by
    rw [cmpX_lt] at *
    unfold ordN at *
    cases h : less x.t z.t with
    | false => rfl
    | true =>
      exfalso
      cases h3 : less z.t y.t with
      | true => have := less_trans _ _ _ h h3; rw [h1] at this; cases this
      | false =>
        have := less_total _ _ h2 h3
        rw [← this, h1] at h
        cases h
theorem swo_E : SWO (ltOf cmpE) where
  irrefl x := by rw [cmpE_lt]; exact bel_irrefl x.t
  trans x y z h1 h2 := by rw [cmpE_lt] at *; exact bel_trans h1 h2
  ntrans x y z h1 h2 := by
    rw [cmpE_lt] at *
    unfold ordB at *
    cases h : bel x.t z.t with
    | false => rfl
    | true =>
      exfalso
      cases h3 : bel z.t y.t with
      | true => have := bel_trans h h3; rw [h1] at this; cases this
      | false =>
        have := bel_total h2 h3
        rw [← this, h1] at h
        cases h

theorem nanS_any (S : ByteArray) (w : World) : Calls Tryz.prog 78 #[.string S] w fun e w' => e = .returned (.bool false) ∧ w = w' := by
  go_enter Tryz.func78, Tryz.ntmps78
  go_wp2
  go_ret
  exact ⟨by simp, rfl⟩
theorem nanN_any (n : Int) (w : World) : Calls Tryz.prog 91 #[.int .u32 n] w fun e w' => e = .returned (.bool false) ∧ w = w' := by
  go_enter Tryz.func91, Tryz.ntmps91
  go_wp2
  go_ret
  exact ⟨by simp, rfl⟩
theorem less_gtr (a b : List UInt8) : (!(Op.bytesLess a b || a == b)) = less b a := by
  cases h : less b a with
  | true =>
    have h1 := less_asym h
    have h2 : (a == b) = false := by
      rw [beq_eq_false_iff_ne]
      intro e; rw [e, less_irrefl] at h; cases h
    unfold less at h1
    rw [h1, h2]; rfl
  | false =>
    cases h1 : less a b with
    | true => unfold less at h1; rw [h1]; rfl
    | false =>
      have := less_total _ _ h1 h
      rw [this]; simp
set_option maxHeartbeats 1000000 in
theorem cmpS_any (a b : List UInt8) (w : World) : Calls Tryz.prog 50 #[.string ⟨a.toArray⟩, .string ⟨b.toArray⟩] w fun e w' => e = .returned (.int .i64 (cmpT a b)) ∧ w = w' := by
  have hl : Op.bytesLess (⟨a.toArray⟩ : ByteArray).toList (⟨b.toArray⟩ : ByteArray).toList = less a b := by rw [ByteArray.toList_eq, ByteArray.toList_eq]; rfl
  have hg : ∀ W, (binOp .gtr 9 (.string ⟨a.toArray⟩) (.string ⟨b.toArray⟩)).run Tryz.prog W = .ok (.bool (less b a)) W := fun W => by
    rw [run_gtr, ByteArray.toList_eq, ByteArray.toList_eq]
    exact congrArg (fun x => Result.ok (Value.bool x) W) (less_gtr a b)
  have n1 := fun W => nanS_any ⟨a.toArray⟩ W
  have n2 := fun W => nanS_any ⟨b.toArray⟩ W
  unfold cmpT
  obtain ⟨x, hx⟩ : ∃ x, x = less a b := ⟨_, rfl⟩
  obtain ⟨y, hy⟩ : ∃ y, y = less b a := ⟨_, rfl⟩
  obtain ⟨S, hS⟩ : ∃ S : ByteArray, S = ⟨a.toArray⟩ := ⟨_, rfl⟩
  obtain ⟨R, hR⟩ : ∃ S : ByteArray, S = ⟨b.toArray⟩ := ⟨_, rfl⟩
  rw [← hx, ← hS, ← hR] at hl
  rw [← hy, ← hS, ← hR] at hg
  rw [← hS] at n1
  rw [← hR] at n2
  rw [← hx, ← hy, ← hS, ← hR]
  clear hx hy hS hR
  go_enter Tryz.func50, Tryz.ntmps50
  cases x <;> cases y <;> (go_wp2_with (first | (with_reducible refine (n1 _).mono ?_; rintro E w' ⟨rfl, rfl⟩) | (with_reducible refine (n2 _).mono ?_; rintro E w' ⟨rfl, rfl⟩)); go_ret; exact ⟨rfl, rfl⟩)
set_option maxHeartbeats 1000000 in
theorem cmpN_any (a b : Nat) (w : World) : Calls Tryz.prog 65 #[.int .u32 (a : Int), .int .u32 (b : Int)] w fun e w' => e = .returned (.int .i64 (cmpN a b)) ∧ w = w' := by
  have n1 := fun W => nanN_any a W
  have n2 := fun W => nanN_any b W
  unfold cmpN
  go_enter Tryz.func65, Tryz.ntmps65
  by_cases h : a < b
  · have h' : (a : Int) < (b : Int) := by omega
    rw [if_pos h]
    go_wp2_with (first | (with_reducible refine (n1 _).mono ?_; rintro E w' ⟨rfl, rfl⟩) | (with_reducible refine (n2 _).mono ?_; rintro E w' ⟨rfl, rfl⟩))
    go_ret; exact ⟨rfl, rfl⟩
  · have h' : ¬ (a : Int) < (b : Int) := by omega
    rw [if_neg h]
    by_cases h2 : b < a
    · have h2' : (b : Int) < (a : Int) := by omega
      rw [if_pos h2]
      go_wp2_with (first | (with_reducible refine (n1 _).mono ?_; rintro E w' ⟨rfl, rfl⟩) | (with_reducible refine (n2 _).mono ?_; rintro E w' ⟨rfl, rfl⟩))
      go_ret; exact ⟨rfl, rfl⟩
    · have h2' : ¬ (b : Int) < (a : Int) := by omega
      rw [if_neg h2]
      go_wp2_with (first | (with_reducible refine (n1 _).mono ?_; rintro E w' ⟨rfl, rfl⟩) | (with_reducible refine (n2 _).mono ?_; rintro E w' ⟨rfl, rfl⟩))
      go_ret; exact ⟨rfl, rfl⟩
end Go.Proofs.YtbagocghlijleaaGreat.Ht
