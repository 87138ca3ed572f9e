/- The document's Put and Fill of a map. -/
import Derived.Test.YtnkiblifnknbkaaBtRef
namespace Go.Proofs.Ytnkiblifnknbkaa.Bits
set_option maxRecDepth 20000
open Go Go.RowKit
open Go.Proofs.Ytnkiblifnknbkaa.Mem Go.Proofs.Ytnkiblifnknbkaa.Bt Go.Proofs.Ytnkiblifnknbkaa.Rec
attribute [local go_sem ↓] quoN_eq remN_eq shrB_eq shlB_eq andB_eq orB_eq clrB_eq subB_eq notB_eq

theorem mk_one (s : Nat) (hs : s < 8) : ((2 ^ s : Nat) : Int) % 256 = (mk s (s + 1) : Int) := by
  have h : ∀ s : Fin 8, ((2 ^ s.1 : Nat) : Int) % 256 = (mk s.1 (s.1 + 1) : Int) := by decide +kernel
  exact h ⟨s, hs⟩
/-- One bit of a byte is turned to 0, or to 1. -/
theorem put_bits (bs : List UInt8) (k : Nat) (v : Bool) (hk : k / 8 < bs.length) (u : UInt8) (hu : u.toNat.testBit (k % 8) = v) (ho : ∀ t, t < 8 → t ≠ k % 8 → u.toNat.testBit t = (bs.getD (k / 8) 0).toNat.testBit t) : IsPut bs (k : Int) v (bs.set (k / 8) u) := by
  refine ⟨by simp, fun j hj => ?_⟩
  rw [bt_set _ _ _ _ hk]
  by_cases hq : j / 8 = k / 8
  · rw [if_pos hq]
    by_cases hjk : j = k
    · subst hjk; rw [if_pos rfl]; exact hu
    · rw [if_neg (by omega), ho (j % 8) (by omega) (by omega)]
      unfold bt
      rw [hq]
  · rw [if_neg hq, if_neg (by omega)]
theorem put_false (bs : List UInt8) (k : Nat) (hk : k / 8 < bs.length) : IsPut bs (k : Int) false (bs.set (k / 8) (turn false (bs.getD (k / 8) 0) (k % 8) (k % 8 + 1))) := by
  refine put_bits bs k false hk _ ?_ (fun t ht hne => ?_)
  · rw [turn_bit _ _ _ _ _ (by omega) (by omega) (by omega) (by omega), if_pos (by omega)]
  · rw [turn_bit _ _ _ _ _ (by omega) (by omega) (by omega) ht, if_neg (by omega)]
theorem put_true (bs : List UInt8) (k : Nat) (hk : k / 8 < bs.length) : IsPut bs (k : Int) true (bs.set (k / 8) (turn true (turn false (bs.getD (k / 8) 0) (k % 8) (k % 8 + 1)) (k % 8) (k % 8 + 1))) := by
  refine put_bits bs k true hk _ ?_ (fun t ht hne => ?_)
  · rw [turn_bit _ _ _ _ _ (by omega) (by omega) (by omega) (by omega), if_pos (by omega)]
  · rw [turn_bit _ _ _ _ _ (by omega) (by omega) (by omega) ht, if_neg (by omega), turn_bit _ _ _ _ _ (by omega) (by omega) (by omega) ht, if_neg (by omega)]
theorem put_far (bs : List UInt8) (i : Int) (v : Bool) (h : ¬ (0 ≤ i ∧ i < 8 * (bs.length : Int))) : IsPut bs i v bs :=
  ⟨rfl, fun j hj => by rw [if_neg (by omega)]⟩

set_option maxRecDepth 100000 in
set_option maxHeartbeats 4000000 in
theorem rput_any (A : Option Addr) (n c B : Nat) (bs : List UInt8) (i : Int) (v : Bool) (w : World) (h : Holds w B A n bs) (hB : B ≤ w.heap.size) (hn : n ≤ 140737488351232) (hi : i < 9223372036854775808) :
    Calls Try.prog 36 #[.slice A n c, .int .i64 i, .bool v] w fun e w' => ∃ ys, IsPut bs i v ys ∧ Made w ys e w' := by
  have hl := h.1
  have ho0 := owned_made w [] w.heap.size (Nat.le_refl _) (by unfold maxLen; simp)
  have H := Lib.hid h; clear h
  have HO0 := Lib.hid ho0; clear ho0
  have HL := Lib.hid hl; clear hl
  go_enter Try.func36, Try.ntmps36
  go_wp2_with (at_builtin; refine wpList_addall rfl (.tmp 8) (.tmp 9) rfl w.heap.size _ [] rfl HO0.out B A n c bs rfl ?c1 ?c2 ?c3 ?_)
  case c1 => exact H.out.below ((Below.refl B w).alloc hB _)
  case c2 => simp; omega
  case c3 => simp
  intro V w2 ho2 hb2
  have hb2' : Below w.heap.size w w2 := ((Below.refl _ w).alloc (Nat.le_refl _) _).trans hb2
  clear hb2 HO0
  obtain ⟨A2, c2, rfl, -⟩ := Owned.holds ho2
  have HB2 := Lib.hid hb2'; clear hb2'
  by_cases hin : 0 ≤ i ∧ i < 8 * (n : Int)
  · obtain ⟨k, rfl⟩ : ∃ k : Nat, i = (k : Int) := ⟨i.toNat, by omega⟩
    have q1 := run_quo8 k (by omega)
    have q2 := run_rem8 k (by omega)
    have hPl : k / 8 < bs.length := by rw [HL.out]; omega
    have hpf := put_false bs k hPl
    have hpt := put_true bs k hPl
    obtain ⟨g, cap, hv, hg1, hg2, hcap, hrow⟩ := Owned.row ho2 (by omega)
    injection hv with e1 _ e3
    subst e1 e3
    obtain ⟨r1, r2, r3⟩ := hrow (k / 8) hPl
    have hgd := getD_len HL.out (show k / 8 < n by omega)
    obtain ⟨u, hu⟩ : ∃ u, u = bs[k / 8] := ⟨_, rfl⟩
    rw [← hu] at r1 hgd
    rw [hgd] at hpf hpt
    have hlen : bs.length = n := HL.out
    obtain ⟨P, hP⟩ : ∃ P, P = k / 8 := ⟨_, rfl⟩
    obtain ⟨s, hs⟩ : ∃ s, s = k % 8 := ⟨_, rfl⟩
    rw [← hP] at q1 hpf hpt r1 r2 r3 hPl
    rw [← hs] at q2 hpf hpt
    have hs8 : s < 8 := by omega
    have q3 := run_shlB s (by omega)
    rw [mk_one s hs8] at q3
    have hm := mk_lt s (s + 1) (by omega)
    have q4 := run_clrB u.toNat (mk s (s + 1)) u.toNat_lt hm
    have ht1 := turn_nat false u s (s + 1) (by omega)
    rw [if_neg (by simp)] at ht1
    rw [← ht1] at q4
    obtain ⟨u1, hu1⟩ : ∃ u1, u1 = turn false u s (s + 1) := ⟨_, rfl⟩
    rw [← hu1] at q4 hpf hpt
    have q5 := run_orB u1.toNat (mk s (s + 1)) u1.toNat_lt hm
    have ht2 := turn_nat true u1 s (s + 1) (by omega)
    rw [if_pos rfl] at ht2
    rw [← ht2] at q5
    obtain ⟨u2, hu2⟩ : ∃ u2, u2 = turn true u1 s (s + 1) := ⟨_, rfl⟩
    rw [← hu2] at q5 hpt
    obtain ⟨mm, hmm⟩ : ∃ mm, mm = mk s (s + 1) := ⟨_, rfl⟩
    rw [← hmm] at q3 q4 q5
    have HMM := Lib.hid hmm
    obtain ⟨ho3, hb3⟩ := r3 u1
    unfold byteV at r1 ho3 hb3
    have hPn : (P : Int) < (n : Int) := by omega
    have hPb : (P : Int) < (bs.length : Int) := by omega
    have hP0 : (0 : Int) ≤ (P : Int) := by omega
    have x1 : w2.drew.cell? ⟨g, P, none⟩ = some (.int .u8 (u.toNat : Int)) := r1
    have x2 : w2.drew.frozen? ⟨g, P, none⟩ = false := r2
    have HO3 : Hid (Owned (w2.setCell ⟨g, P, none⟩ (.int .u8 (u1.toNat : Int))).drew w.heap.size (.slice (some ⟨g, 0, none⟩) bs.length c2) (bs.set P u1)) := Lib.hid (Owned.keep ho3 (Below.refl _ _).drew (Nat.le_refl _))
    have HB3 : Hid (Below w.heap.size w (w2.setCell ⟨g, P, none⟩ (.int .u8 (u1.toNat : Int))).drew) := Lib.hid (HB2.out.trans hb3).drew
    have HPF := Lib.hid hpf; clear hpf
    have HPT := Lib.hid hpt; clear hpt
    clear hu hu1 hu2 hmm hP hs hgd ht1 ht2 hm ho3 hb3 r3 ho2 hlen hcap
    go_wp2
    go_region
    all_goals
      cases v
      · clear q5
        go_wp2
        go_ret
        refine ⟨_, HPF.out, some ⟨g, 0, none⟩, c2, by simp, ?_, HB3.out⟩
        have h3 := HO3.out
        rw [List.length_set]
        exact h3
      · clear q4 q3
        have q3 := run_shlB s (by omega)
        rw [mk_one s hs8, ← HMM.out] at q3
        generalize (w2.setCell ⟨g, P, none⟩ (.int .u8 (u1.toNat : Int))).drew = W3 at HO3 HB3 ⊢
        obtain ⟨g', cap', hv', -, hg2', -, hrow'⟩ := Owned.row HO3.out (by rw [List.length_set]; omega)
        obtain rfl : g' = g := by injection hv' with e1 _ _; injection e1 with e1; injection e1 with e1; exact e1.symm
        obtain ⟨y1, y2, y3⟩ := hrow' P (by rw [List.length_set]; exact hPl)
        obtain ⟨ho4, hb4⟩ := y3 u2
        rw [List.set_set] at ho4
        have e1 : (bs.set P u1)[P]'(by rw [List.length_set]; exact hPl) = u1 := by simp
        rw [e1] at y1
        unfold byteV at y1 ho4 hb4
        have x3 : W3.drew.cell? ⟨g', P, none⟩ = some (.int .u8 (u1.toNat : Int)) := y1
        have x4 : W3.drew.frozen? ⟨g', P, none⟩ = false := y2
        have HO4 : Hid (Owned (W3.setCell ⟨g', P, none⟩ (.int .u8 (u2.toNat : Int))).drew w.heap.size _ _) := Lib.hid (Owned.keep ho4 (Below.refl _ _).drew (Nat.le_refl _))
        have HB4 : Hid (Below w.heap.size w (W3.setCell ⟨g', P, none⟩ (.int .u8 (u2.toNat : Int))).drew) := Lib.hid (HB3.out.trans hb4).drew
        clear ho4 hb4 y3 hrow' hv' HO3 HB3 x1 x2 r1 r2 e1
        go_wp2
        go_region
        all_goals
          go_wp2
          go_ret
          refine ⟨_, HPT.out, some ⟨g', 0, none⟩, c2, by simp, ?_, HB4.out⟩
          have h3 := HO4.out
          rw [List.length_set]
          exact h3
  · have hpf := put_far bs i v (by rw [HL.out]; exact hin)
    have HPF := Lib.hid hpf; clear hpf
    have HO2 := Lib.hid ho2; clear ho2
    by_cases h0 : 0 ≤ i
    · obtain ⟨k, rfl⟩ : ∃ k : Nat, i = (k : Int) := ⟨i.toNat, by omega⟩
      have q1 := run_quo8 k (by omega)
      obtain ⟨P, hP⟩ : ∃ P, P = k / 8 := ⟨_, rfl⟩
      rw [← hP] at q1
      have hPn : ¬ (P : Int) < (n : Int) := by omega
      clear hP hin
      go_wp2
      go_ret
      exact ⟨_, HPF.out, A2, c2, rfl, HO2.out, HB2.out⟩
    · clear hin
      go_wp2
      go_ret
      exact ⟨_, HPF.out, A2, c2, rfl, HO2.out, HB2.out⟩

theorem filled_step {bs ys zs : List UInt8} {a q : Nat} {v : Bool} (h : Filled bs a q v ys) (hp : IsPut ys (q : Int) v zs) (haq : a ≤ q) : Filled bs a (q + 1) v zs := by
  refine ⟨hp.1.trans h.1, fun i hi => ?_⟩
  rw [hp.2 i (by rw [h.1]; exact hi), h.2 i hi]
  by_cases e : (i : Int) = (q : Int)
  · rw [if_pos e, if_pos (by omega)]
  · rw [if_neg e]
    by_cases e2 : a ≤ i ∧ i < q
    · rw [if_pos e2, if_pos (by omega)]
    · rw [if_neg e2, if_neg (by omega)]
theorem filled_none {bs ys : List UInt8} {a q b : Nat} {v : Bool} (h : Filled bs a q v ys) (e : q - a = b - a) (haq : a ≤ q) : Filled bs a b v ys := by
  refine ⟨h.1, fun i hi => ?_⟩
  rw [h.2 i hi]
  by_cases e2 : a ≤ i ∧ i < q
  · rw [if_pos e2, if_pos (by omega)]
  · rw [if_neg e2, if_neg (by omega)]

set_option maxRecDepth 100000 in
set_option maxHeartbeats 4000000 in
theorem rfill_any (A : Option Addr) (n c B : Nat) (bs : List UInt8) (fr to : Int) (v : Bool) (w : World) (h : Holds w B A n bs) (hB : B ≤ w.heap.size) (hn : n ≤ 140737488351232) :
    Calls Try.prog 27 #[.slice A n c, .int .i64 fr, .int .i64 to, .bool v] w fun e w' => ∃ ys, Filled bs fr.toNat (hiN n to) v ys ∧ Made w ys e w' := by
  have hends := rends_any A n c fr to
  have hhi := hiN_le n to
  rw [loE_nat] at hends
  obtain ⟨a, ha⟩ : ∃ a, a = fr.toNat := ⟨_, rfl⟩
  obtain ⟨bI, hbI⟩ : ∃ bI, bI = hiE n to := ⟨_, rfl⟩
  obtain ⟨b, hb⟩ : ∃ b, b = hiN n to := ⟨_, rfl⟩
  have hbb : b = bI.toNat := by rw [hb, hbI]; rfl
  rw [← ha, ← hbI] at hends
  rw [← ha, ← hb]
  rw [← hb] at hhi
  have hl := h.1
  have ho0 := owned_made w [] w.heap.size (Nat.le_refl _) (by unfold maxLen; simp)
  have HE := Lib.hid hends; clear hends
  have HBB := Lib.hid hbb; clear hbb
  have H := Lib.hid h; clear h
  have HO0 := Lib.hid ho0; clear ho0
  have HL := Lib.hid hl; clear hl
  clear ha hbI hb
  go_enter Try.func27, Try.ntmps27
  go_wp2_with (at_builtin; refine wpList_addall rfl (.tmp 13) (.tmp 14) rfl w.heap.size _ [] rfl HO0.out B A n c bs rfl ?c1 ?c2 ?c3 ?_)
  case c1 => exact H.out.below ((Below.refl B w).alloc hB _)
  case c2 => simp; omega
  case c3 => simp
  intro V w2 ho2 hb2
  have hb2' : Below w.heap.size w w2 := ((Below.refl _ w).alloc (Nat.le_refl _) _).trans hb2
  clear hb2 HO0
  obtain ⟨A2, c2, rfl, -⟩ := Owned.holds ho2
  have HB2 := Lib.hid hb2'; clear hb2'
  have HO2 := Lib.hid ho2; clear ho2
  go_wp2_with fail
  with_reducible refine (HE.out w2 (by omega)).mono ?_
  rintro e w3 ⟨rfl, rfl⟩
  clear HE
  have hlen : bs.length = n := HL.out
  have hz0 := HO2.out
  rw [hlen] at hz0 ⊢
  have HO3 := Lib.hid hz0; clear hz0 HO2 hlen
  go_wp2
  go_loopw [9, 12] (fun cc i wr => ∃ (q : Nat) (A3 : Option Addr) (c3 : Nat) (ys : List UInt8), cc = .slice A3 n c3 ∧ i = .int .i64 (q : Int) ∧ Come a b q ∧ Filled bs a q v ys ∧ Owned wr w.heap.size (.slice A3 n c3) ys ∧ Below w.heap.size w wr) (fun _ i _ => b - (intOf i).toNat)
  case atStart => exact ⟨a, A2, c2, bs, rfl, rfl, ⟨Nat.le_refl _, .inl rfl⟩, Filled.refl _ _ _, HO3.out, HB2.out⟩
  case round =>
    obtain ⟨q, A3, c3, ys, rfl, rfl, hc, hf, ho, hb⟩ := hrel
    by_cases hlt : (q : Int) < bI
    · obtain ⟨hc', hqb⟩ := come_step HBB.out hc hlt
      have hp := rput_any A3 n c3 wr.heap.size ys (q : Int) v wr (Owned.reads ho) (Nat.le_refl _) hn (by omega)
      have haq : a ≤ q := hc.1
      have HC := Lib.hid hc'; clear hc' hc
      have HF := Lib.hid hf; clear hf
      have HP := Lib.hid hp; clear hp
      have HB := Lib.hid hb; clear hb
      clear ho
      go_wp2_with fail
      with_reducible refine HP.out.mono ?_
      rintro e w4 ⟨zs, hz, A4, c4, rfl, ho4, hb4⟩
      have hl4 : zs.length = n := hz.1.trans (HF.out.1.trans HL.out)
      rw [hl4] at ho4 ⊢
      have hf4 := filled_step HF.out hz haq
      have ho5 : Owned w4 w.heap.size (.slice A4 n c4) zs := Owned.mono ho4 HB.out.size
      have HF4 := Lib.hid hf4; clear hf4 hz
      have HO5 := Lib.hid ho5; clear ho5 ho4 hl4
      have HB4 := Lib.hid (HB.out.trans (hb4.mono HB.out.size)); clear hb4 HP
      go_wp2
      go_roundw
      case rel => exact ⟨q + 1, A4, c4, zs, rfl, by go_num, HC.out, HF4.out, HO5.out, HB4.out⟩
      case measure => simp [intOf]; omega
    · have hfin := filled_none hf (come_end HBB.out hc hlt) hc.1
      have HF := Lib.hid hfin; clear hfin hf hc
      have HB := Lib.hid hb; clear hb
      have HO := Lib.hid ho; clear ho
      go_wp2
      go_ret
      have hl5 : ys.length = n := HF.out.1.trans HL.out
      exact ⟨ys, HF.out, A3, c3, by rw [hl5]; rfl, by rw [hl5]; exact HO.out, HB.out⟩
end Go.Proofs.Ytnkiblifnknbkaa.Bits
