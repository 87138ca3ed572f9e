/- The document's Count, First and Longest of a map: bit by bit. -/
import Derived.Test.YtobnnflacdhjcaaBtLong
namespace Go.Proofs.Ytobnnflacdhjcaa.Bits
set_option maxRecDepth 20000
open Go Go.RowKit
open Go.Proofs.Ytobnnflacdhjcaa.Mem Go.Proofs.Ytobnnflacdhjcaa.Bt Go.Proofs.Ytobnnflacdhjcaa.Rec

set_option maxHeartbeats 1000000 in
theorem rends_any (A : Option Addr) (n c : Nat) (fr to : Int) (w : World) (hn : n ≤ 140737488355328) :
    Calls Try.prog 22 #[.slice A n c, .int .i64 fr, .int .i64 to] w fun e w' => e = .returned (.tuple #[.int .i64 (loE fr), .int .i64 (hiE n to)]) ∧ w = w' := by
  have r1 : ∀ (ts : Array TypeId) (t : TypeId) (W : World), (Builtin.max_ ts t #[.int .i64 fr, .int .i64 0]).run Try.prog W = .ok (.int .i64 (loE fr)) W := fun ts t W => by
    rw [run_max_int2]; rfl
  have r2 : ∀ (ts : Array TypeId) (t : TypeId) (W : World), (Builtin.min_ ts t #[.int .i64 to, .int .i64 (8 * (n : Int))]).run Try.prog W = .ok (.int .i64 (hiE n to)) W := fun ts t W => by
    rw [run_min_int2]; rfl
  generalize loE fr = a at r1 ⊢
  generalize hiE n to = b at r2 ⊢
  go_enter Try.func22, Try.ntmps22
  go_wp2
  refine bodyPost_ret (results_tmp2 rfl _ _ _) rfl ?_
  exact ⟨rfl, rfl⟩

/-- How far a loop over a part has come. -/
def Come (a b : Nat) (q : Nat) : Prop := a ≤ q ∧ (q = a ∨ q ≤ b)
theorem come_end {a b q : Nat} {bI : Int} (hb : b = bI.toNat) (h : Come a b q) (he : ¬ (q : Int) < bI) : q - a = b - a := by unfold Come at h; omega
theorem come_step {a b q : Nat} {bI : Int} (hb : b = bI.toNat) (h : Come a b q) (he : (q : Int) < bI) : Come a b (q + 1) ∧ q < b := by unfold Come at *; omega

set_option maxRecDepth 100000 in
set_option maxHeartbeats 2000000 in
theorem rcount_any (A : Option Addr) (n c B : Nat) (bs : List UInt8) (fr to : Int) (w : World) (h : Holds w B A n bs) (hB : B ≤ w.heap.size) (hn : n ≤ 140737488355328) :
    Calls Try.prog 15 #[.slice A n c, .int .i64 fr, .int .i64 to] w fun e w' => e = .returned (.int .i64 (cnt (bt bs) fr.toNat (hiN n to - fr.toNat) : Int)) ∧ Below w.heap.size w w' := by
  have hends := rends_any A n c fr to w hn
  have hhi := hiN_le n to
  rw [loE_nat] at hends
  obtain ⟨a, ha⟩ : ∃ a, a = fr.toNat := ⟨_, rfl⟩
  obtain ⟨bI, hbI⟩ : ∃ bI, bI = hiE n to := ⟨_, rfl⟩
  obtain ⟨b, hb⟩ : ∃ b, b = hiN n to := ⟨_, rfl⟩
  have hbb : b = bI.toNat := by rw [hb, hbI]; rfl
  rw [← ha, ← hbI] at hends
  rw [← ha, ← hb]
  rw [← hb] at hhi
  have hget : ∀ (V : World) (q : Nat), Below w.heap.size w V → q < b → Calls Try.prog 13 #[.slice A n c, .int .i64 (q : Int)] V fun e w' => e = .returned (.bool (bt bs q)) ∧ V = w' := fun V q hV hq => by
    have := rget_any A n c B bs (q : Int) V (h.below (hV.mono hB)) (by omega)
    rwa [getB_nat] at this
  have HE := Lib.hid hends; clear hends
  have HG := Lib.hid hget; clear hget
  have HBB := Lib.hid hbb; clear hbb
  clear ha hbI hb h
  go_enter Try.func15, Try.ntmps15
  go_wp2_with fail
  with_reducible refine HE.out.mono ?_
  rintro e w1 ⟨rfl, rfl⟩
  clear HE
  go_wp2
  go_loopw [9, 10] (fun nn i wr => ∃ q N : Nat, nn = .int .i64 (N : Int) ∧ i = .int .i64 (q : Int) ∧ Come a b q ∧ N = cnt (bt bs) a (q - a) ∧ Below w.heap.size w wr) (fun _ i _ => b - (intOf i).toNat)
  case atStart => exact ⟨a, 0, rfl, rfl, ⟨Nat.le_refl _, .inl rfl⟩, by rw [Nat.sub_self]; rfl, Below.refl _ _⟩
  case round =>
    obtain ⟨q, N, rfl, rfl, hc, hN, hb⟩ := hrel
    by_cases hlt : (q : Int) < bI
    · obtain ⟨hc', hqb⟩ := come_step HBB.out hc hlt
      have hg := HG.out wr q hb hqb
      have hst : cnt (bt bs) a (q + 1 - a) = N + one (bt bs q) := by
        have ha' : a ≤ q := hc.1
        rw [show q + 1 - a = q - a + 1 by omega, hN]
        show cnt (bt bs) a (q - a) + one (bt bs (a + (q - a))) = _
        rw [show a + (q - a) = q by omega]
      have hNle : N ≤ q := by rw [hN]; have := cnt_le (bt bs) a (q - a); omega
      have HC := Lib.hid hc'; clear hc' hc
      have HN := Lib.hid hN; clear hN
      have HGG := Lib.hid hg; clear hg
      have HB := Lib.hid hb; clear hb
      have HST := Lib.hid hst; clear hst
      go_wp2_with fail
      with_reducible refine HGG.out.mono ?_
      rintro e w2 ⟨rfl, rfl⟩
      clear HGG
      cases hbit : bt bs q
      · rw [hbit] at HST
        go_wp2
        go_roundw
        case rel => exact ⟨q + 1, N, rfl, by go_num, HC.out, by rw [HST.out]; rfl, HB.out⟩
        case measure => simp [intOf]; omega
      · rw [hbit] at HST
        go_wp2
        go_roundw
        case rel => exact ⟨q + 1, N + 1, by go_num, by go_num, HC.out, by rw [HST.out]; rfl, HB.out⟩
        case measure => simp [intOf]; omega
    · have he := come_end HBB.out hc hlt
      rw [he] at hN
      have HN := Lib.hid hN; clear hN hc he
      have HB := Lib.hid hb; clear hb
      go_wp2
      go_ret
      exact ⟨by rw [← HN.out]; rfl, HB.out⟩

set_option maxRecDepth 100000 in
set_option maxHeartbeats 2000000 in
theorem rfirst_any (A : Option Addr) (n c B : Nat) (bs : List UInt8) (fr to : Int) (v : Bool) (w : World) (h : Holds w B A n bs) (hB : B ≤ w.heap.size) (hn : n ≤ 140737488355328) :
    Calls Try.prog 17 #[.slice A n c, .int .i64 fr, .int .i64 to, .bool v] w fun e w' => ∃ r, IsFst (fun i => bt bs i == v) fr.toNat (hiN n to) r ∧ e = .returned (.int .i64 r) ∧ Below w.heap.size w w' := by
  have hends := rends_any A n c fr to w hn
  have hhi := hiN_le n to
  rw [loE_nat] at hends
  obtain ⟨a, ha⟩ : ∃ a, a = fr.toNat := ⟨_, rfl⟩
  obtain ⟨bI, hbI⟩ : ∃ bI, bI = hiE n to := ⟨_, rfl⟩
  obtain ⟨b, hb⟩ : ∃ b, b = hiN n to := ⟨_, rfl⟩
  have hbb : b = bI.toNat := by rw [hb, hbI]; rfl
  rw [← ha, ← hbI] at hends
  rw [← ha, ← hb]
  rw [← hb] at hhi
  have hget : ∀ (V : World) (q : Nat), Below w.heap.size w V → q < b → Calls Try.prog 13 #[.slice A n c, .int .i64 (q : Int)] V fun e w' => e = .returned (.bool (bt bs q)) ∧ V = w' := fun V q hV hq => by
    have := rget_any A n c B bs (q : Int) V (h.below (hV.mono hB)) (by omega)
    rwa [getB_nat] at this
  have HE := Lib.hid hends; clear hends
  have HG := Lib.hid hget; clear hget
  have HBB := Lib.hid hbb; clear hbb
  clear ha hbI hb h
  go_enter Try.func17, Try.ntmps17
  go_wp2_with fail
  with_reducible refine HE.out.mono ?_
  rintro e w1 ⟨rfl, rfl⟩
  clear HE
  go_wp2
  go_loopw [11] (fun i wr => ∃ q : Nat, i = .int .i64 (q : Int) ∧ Come a b q ∧ (∀ j, a ≤ j → j < q → (bt bs j == v) = false) ∧ Below w.heap.size w wr) (fun i _ => b - (intOf i).toNat)
  case atStart => exact ⟨a, rfl, ⟨Nat.le_refl _, .inl rfl⟩, fun j k1 k2 => by omega, Below.refl _ _⟩
  case round =>
    obtain ⟨q, rfl, hc, hno, hb⟩ := hrel
    by_cases hlt : (q : Int) < bI
    · obtain ⟨hc', hqb⟩ := come_step HBB.out hc hlt
      have hg := HG.out wr q hb hqb
      have HC := Lib.hid hc'; clear hc'
      have HC0 := Lib.hid hc; clear hc
      have HNO := Lib.hid hno; clear hno
      have HGG := Lib.hid hg; clear hg
      have HB := Lib.hid hb; clear hb
      obtain ⟨x, hx⟩ : ∃ x, x = bt bs q := ⟨_, rfl⟩
      rw [← hx] at HGG
      have HX := Lib.hid hx; clear hx
      go_wp2_with fail
      with_reducible refine HGG.out.mono ?_
      rintro e w2 ⟨rfl, rfl⟩
      clear HGG
      have heq : ∀ W, (binOp .eql 4 (.bool x) (.bool v)).run Try.prog W = .ok (.bool (x == v)) W := fun W => run_eql_bool W 4 x v Try.underlying4
      cases hbit : (x == v)
      · rw [hbit] at heq
        go_wp2
        go_roundw
        case rel => exact ⟨q + 1, by go_num, HC.out, fun j k1 k2 => by
          rcases Nat.lt_or_ge j q with hl | hl
          · exact HNO.out j k1 hl
          · obtain rfl : j = q := by omega
            rw [← HX.out]; exact hbit, HB.out⟩
        case measure => simp [intOf]; omega
      · rw [hbit] at heq
        go_wp2
        go_ret
        exact ⟨_, .inr ⟨q, rfl, HC0.out.1, hqb, by show (bt bs q == v) = true; rw [← HX.out]; exact hbit, HNO.out⟩, rfl, HB.out⟩
    · have hfin : IsFst (fun i => bt bs i == v) a b (-1) := .inl ⟨rfl, fun j k1 k2 => hno j k1 (by have := come_end HBB.out hc hlt; have := hc.1; omega)⟩
      have HF := Lib.hid hfin; clear hfin hno hc
      have HB := Lib.hid hb; clear hb
      go_wp2
      go_ret
      exact ⟨_, HF.out, rfl, HB.out⟩

/-- How the document goes on: a run R that ends at q. -/
def RunAt (bs : List UInt8) (a q R : Nat) : Prop := R ≤ q - a ∧ Free (bt bs) (q - R) R ∧ (q - R = a ∨ bt bs (q - R - 1) = true)

set_option maxRecDepth 100000 in
set_option maxHeartbeats 4000000 in
theorem rlong_any (A : Option Addr) (n c B : Nat) (bs : List UInt8) (fr to : Int) (w : World) (h : Holds w B A n bs) (hB : B ≤ w.heap.size) (hn : n ≤ 140737488355328) :
    Calls Try.prog 11 #[.slice A n c, .int .i64 fr, .int .i64 to] w fun e w' => ∃ (x : Int) (m : Nat), IsLong (bt bs) fr.toNat (hiN n to) x m ∧ e = .returned (.tuple #[.int .i64 x, .int .i64 (m : Int)]) ∧ Below w.heap.size w w' := by
  have hends := rends_any A n c fr to w hn
  have hhi := hiN_le n to
  rw [loE_nat] at hends
  obtain ⟨a, ha⟩ : ∃ a, a = fr.toNat := ⟨_, rfl⟩
  obtain ⟨bI, hbI⟩ : ∃ bI, bI = hiE n to := ⟨_, rfl⟩
  obtain ⟨b, hb⟩ : ∃ b, b = hiN n to := ⟨_, rfl⟩
  have hbb : b = bI.toNat := by rw [hb, hbI]; rfl
  rw [← ha, ← hbI] at hends
  rw [← ha, ← hb]
  rw [← hb] at hhi
  have hget : ∀ (V : World) (q : Nat), Below w.heap.size w V → q < b → Calls Try.prog 13 #[.slice A n c, .int .i64 (q : Int)] V fun e w' => e = .returned (.bool (bt bs q)) ∧ V = w' := fun V q hV hq => by
    have := rget_any A n c B bs (q : Int) V (h.below (hV.mono hB)) (by omega)
    rwa [getB_nat] at this
  have HE := Lib.hid hends; clear hends
  have HG := Lib.hid hget; clear hget
  have HBB := Lib.hid hbb; clear hbb
  clear ha hbI hb h
  go_enter Try.func11, Try.ntmps11
  go_wp2_with fail
  with_reducible refine HE.out.mono ?_
  rintro e w1 ⟨rfl, rfl⟩
  clear HE
  go_wp2
  go_loopw [10, 11, 12, 13] (fun at_ mos run i wr => ∃ (x : Int) (m R q : Nat), at_ = .int .i64 x ∧ mos = .int .i64 (m : Int) ∧ run = .int .i64 (R : Int) ∧ i = .int .i64 (q : Int) ∧ Come a b q ∧ IsLong (bt bs) a q x m ∧ RunAt bs a q R ∧ Below w.heap.size w wr) (fun _ _ _ i _ => b - (intOf i).toNat)
  case atStart => exact ⟨-1, 0, 0, a, rfl, rfl, rfl, rfl, ⟨Nat.le_refl _, .inl rfl⟩, long_none _ a, ⟨Nat.zero_le _, fun i k1 k2 => by omega, .inl (Nat.sub_zero _)⟩, Below.refl _ _⟩
  case round =>
    obtain ⟨x, m, R, q, rfl, rfl, rfl, rfl, hc, hL, hR, hb⟩ := hrel
    by_cases hlt : (q : Int) < bI
    · obtain ⟨hc', hqb⟩ := come_step HBB.out hc hlt
      have hg := HG.out wr q hb hqb
      have haq : a ≤ q := hc.1
      have hmq := long_le hL
      have hRq : R ≤ q - a := hR.1
      have HC := Lib.hid hc'; clear hc' hc
      have HL := Lib.hid hL; clear hL
      have HRR := Lib.hid hR; clear hR
      have HGG := Lib.hid hg; clear hg
      have HB := Lib.hid hb; clear hb
      go_wp2_with fail
      with_reducible refine HGG.out.mono ?_
      rintro e w2 ⟨rfl, rfl⟩
      clear HGG
      cases hbit : bt bs q
      · have hfree : Free (bt bs) (q - R) (q + 1 - (q - R)) := fun i k1 k2 => by
          rcases Nat.lt_or_ge i q with hl | hl
          · exact HRR.out.2.1 i k1 (by omega)
          · obtain rfl : i = q := by omega
            exact hbit
        have hnew := long_ext HL.out (Nat.le_succ q) (show a ≤ q - R by omega) (by omega) (by omega) hfree HRR.out.2.2
        have hrun : RunAt bs a (q + 1) (R + 1) := ⟨by omega, by rw [show q + 1 - (R + 1) = q - R by omega]; intro i k1 k2; exact hfree i k1 (by omega), by rw [show q + 1 - (R + 1) = q - R by omega]; exact HRR.out.2.2⟩
        rw [show q + 1 - (q - R) = R + 1 by omega] at hnew
        have hS : ((q - R : Nat) : Int) = (q : Int) - ((R : Int) + 1) + 1 := by omega
        rw [hS] at hnew
        have HNEW := Lib.hid hnew; clear hnew
        have HRUN := Lib.hid hrun; clear hrun hfree hS
        by_cases hm : m < R + 1
        · rw [if_pos hm, if_pos hm] at HNEW
          have hmi : (m : Int) < (R : Int) + 1 := by omega
          go_wp2
          go_roundw
          case rel => exact ⟨_, R + 1, R + 1, q + 1, by go_num, by go_num, by go_num, by go_num, HC.out, HNEW.out, HRUN.out, HB.out⟩
          case measure => simp [intOf]; omega
        · rw [if_neg hm, if_neg hm] at HNEW
          have hmi : ¬ (m : Int) < (R : Int) + 1 := by omega
          go_wp2
          go_roundw
          case rel => exact ⟨x, m, R + 1, q + 1, rfl, rfl, by go_num, by go_num, HC.out, HNEW.out, HRUN.out, HB.out⟩
          case measure => simp [intOf]; omega
      · have hnew := long_ones HL.out (Nat.le_succ q) (fun i k1 k2 => by
          obtain rfl : i = q := by omega
          exact hbit)
        have hrun : RunAt bs a (q + 1) 0 := ⟨Nat.zero_le _, fun i k1 k2 => by omega, .inr (by simpa using hbit)⟩
        have HNEW := Lib.hid hnew; clear hnew
        have HRUN := Lib.hid hrun; clear hrun
        have hmi : ¬ (m : Int) < 0 := by omega
        go_wp2
        go_roundw
        case rel => exact ⟨x, m, 0, q + 1, rfl, rfl, rfl, by go_num, HC.out, HNEW.out, HRUN.out, HB.out⟩
        case measure => simp [intOf]; omega
    · have hfin : IsLong (bt bs) a b x m := by
        have he := come_end HBB.out hc hlt
        have haq := hc.1
        rcases Nat.lt_or_ge a b with hl | hl
        · have : q = b := by omega
          rw [← this]; exact hL
        · have : q = a := by omega
          subst this
          rcases hL with ⟨rfl, rfl, _⟩ | ⟨A1, _, h0, h1, h2, _⟩
          · exact .inl ⟨rfl, rfl, fun i k1 k2 => by omega⟩
          · omega
      have HF := Lib.hid hfin; clear hfin hL hR hc
      have HB := Lib.hid hb; clear hb
      go_wp2
      refine bodyPost_ret (results_tmp2 rfl _ _ _) rfl ?_
      exact ⟨_, _, HF.out, rfl, HB.out⟩
end Go.Proofs.Ytobnnflacdhjcaa.Bits
