/- The document's Count, First and Longest of a map: bit by bit. -/
import Derived.Test.YtnkiblifnknbkaaBtLong
namespace Go.Proofs.Ytnkiblifnknbkaa.Bits
set_option maxRecDepth 20000
open Go Go.RowKit
open Go.Proofs.Ytnkiblifnknbkaa.Mem Go.Proofs.Ytnkiblifnknbkaa.Bt Go.Proofs.Ytnkiblifnknbkaa.Rec

set_option maxHeartbeats 1000000 in
theorem rends_any (A : Option Addr) (n c : Nat) (fr to : Int) (w : World) (hn : n ≤ 140737488355328) :
    Calls Try.prog 35 #[.slice A n c, .int .i64 fr, .int .i64 to] w fun e w' => e = .returned (.tuple #[.int .i64 (loE fr), .int .i64 (hiE n to)]) ∧ w = w' := by
  have r1 : ∀ (ts : Array TypeId) (t : TypeId) (W : World), (Builtin.max_ ts t #[.int .i64 fr, .int .i64 0]).run Try.prog W = .ok (.int .i64 (loE fr)) W := fun ts t W => by
    rw [run_max_int2]; rfl
  have r2 : ∀ (ts : Array TypeId) (t : TypeId) (W : World), (Builtin.min_ ts t #[.int .i64 to, .int .i64 (8 * (n : Int))]).run Try.prog W = .ok (.int .i64 (hiE n to)) W := fun ts t W => by
    rw [run_min_int2]; rfl
  generalize loE fr = a at r1 ⊢
  generalize hiE n to = b at r2 ⊢
  go_enter Try.func35, Try.ntmps35
  go_wp2
  refine bodyPost_ret (results_tmp2 rfl _ _ _) rfl ?_
  exact ⟨rfl, rfl⟩

/-- How far a loop over a part has come. -/
def Come (a b : Nat) (q : Nat) : Prop := a ≤ q ∧ (q = a ∨ q ≤ b)
theorem come_end {a b q : Nat} {bI : Int} (hb : b = bI.toNat) (h : Come a b q) (he : ¬ (q : Int) < bI) : q - a = b - a := by unfold Come at h; omega
theorem come_step {a b q : Nat} {bI : Int} (hb : b = bI.toNat) (h : Come a b q) (he : (q : Int) < bI) : Come a b (q + 1) ∧ q < b := by unfold Come at *; omega

set_option maxRecDepth 100000 in
set_option maxHeartbeats 2000000 in
theorem rcount_any (A : Option Addr) (n c B : Nat) (bs : List UInt8) (fr to : Int) (w : World) (h : Holds w B A n bs) (hB : B ≤ w.heap.size) (hn : n ≤ 140737488355328) :
    Calls Try.prog 30 #[.slice A n c, .int .i64 fr, .int .i64 to] w fun e w' => e = .returned (.int .i64 (cnt (bt bs) fr.toNat (hiN n to - fr.toNat) : Int)) ∧ Below w.heap.size w w' := by
  have hends := rends_any A n c fr to w hn
  have hhi := hiN_le n to
  rw [loE_nat] at hends
  obtain ⟨a, ha⟩ : ∃ a, a = fr.toNat := ⟨_, rfl⟩
  obtain ⟨bI, hbI⟩ : ∃ bI, bI = hiE n to := ⟨_, rfl⟩
  obtain ⟨b, hb⟩ : ∃ b, b = hiN n to := ⟨_, rfl⟩
  have hbb : b = bI.toNat := by rw [hb, hbI]; rfl
  rw [← ha, ← hbI] at hends
  rw [← ha, ← hb]
  rw [← hb] at hhi
  have hget : ∀ (V : World) (q : Nat), Below w.heap.size w V → q < b → Calls Try.prog 38 #[.slice A n c, .int .i64 (q : Int)] V fun e w' => e = .returned (.bool (bt bs q)) ∧ V = w' := fun V q hV hq => by
    have := rget_any A n c B bs (q : Int) V (h.below (hV.mono hB)) (by omega)
    rwa [getB_nat] at this
  have HE := Lib.hid hends; clear hends
  have HG := Lib.hid hget; clear hget
  have HBB := Lib.hid hbb; clear hbb
  clear ha hbI hb h
  go_enter Try.func30, Try.ntmps30
  go_wp2_with fail
  with_reducible refine HE.out.mono ?_
  rintro e w1 ⟨rfl, rfl⟩
  clear HE
  go_wp2
  go_loopw [9, 10] (fun nn i wr => ∃ q N : Nat, nn = .int .i64 (N : Int) ∧ i = .int .i64 (q : Int) ∧ Come a b q ∧ N = cnt (bt bs) a (q - a) ∧ Below w.heap.size w wr) (fun _ i _ => b - (intOf i).toNat)
  case atStart => exact ⟨a, 0, rfl, rfl, ⟨Nat.le_refl _, .inl rfl⟩, by rw [Nat.sub_self]; rfl, Below.refl _ _⟩
  case round =>
    obtain ⟨q, N, rfl, rfl, hc, hN, hb⟩ := hrel
    by_cases hlt : (q : Int) < bI
    · obtain ⟨hc', hqb⟩ := come_step HBB.out hc hlt
      have hg := HG.out wr q hb hqb
      have hst : cnt (bt bs) a (q + 1 - a) = N + one (bt bs q) := by
        have ha' : a ≤ q := hc.1
        rw [show q + 1 - a = q - a + 1 by omega, hN]
        show cnt (bt bs) a (q - a) + one (bt bs (a + (q - a))) = _
        rw [show a + (q - a) = q by omega]
      have hNle : N ≤ q := by rw [hN]; have := cnt_le (bt bs) a (q - a); omega
      have HC := Lib.hid hc'; clear hc' hc
      have HN := Lib.hid hN; clear hN
      have HGG := Lib.hid hg; clear hg
      have HB := Lib.hid hb; clear hb
      have HST := Lib.hid hst; clear hst
      go_wp2_with fail
      with_reducible refine HGG.out.mono ?_
      rintro e w2 ⟨rfl, rfl⟩
      clear HGG
      cases hbit : bt bs q
      · rw [hbit] at HST
        go_wp2
        go_roundw
        case rel => exact ⟨q + 1, N, rfl, by go_num, HC.out, by rw [HST.out]; rfl, HB.out⟩
        case measure => simp [intOf]; omega
      · rw [hbit] at HST
        go_wp2
        go_roundw
        case rel => exact ⟨q + 1, N + 1, by go_num, by go_num, HC.out, by rw [HST.out]; rfl, HB.out⟩
        case measure => simp [intOf]; omega
    · have he := come_end HBB.out hc hlt
      rw [he] at hN
      have HN := Lib.hid hN; clear hN hc he
      have HB := Lib.hid hb; clear hb
      go_wp2
      go_ret
      exact ⟨by rw [← HN.out]; rfl, HB.out⟩


/-- How the document goes on: a run R that ends at q. -/
def RunAt (bs : List UInt8) (a q R : Nat) : Prop := R ≤ q - a ∧ Free (bt bs) (q - R) R ∧ (q - R = a ∨ bt bs (q - R - 1) = true)

end Go.Proofs.Ytnkiblifnknbkaa.Bits
