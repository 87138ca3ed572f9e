/- BitsPuts: for every list of bytes, every number and every bool, a bit that the program puts is got where it is there, no other one is turned, and putting back what was there makes the map that was. -/
import Derived.Test.YtobnnflacdhjcaaBtTold
import Derived.Test.YtobnnflacdhjcaaLift
namespace Go.Proofs.Ytobnnflacdhjcaa.BitsPuts
set_option maxRecDepth 20000
open Go Go.ChangeShapes Go.WideShapes Go.ChangeAt Go.RowKit
open Go.Proofs.Ytobnnflacdhjcaa.Mem Go.Proofs.Ytobnnflacdhjcaa.Bt Go.Proofs.Ytobnnflacdhjcaa.Rec Go.Proofs.Ytobnnflacdhjcaa.Bits Go.Proofs.Ytobnnflacdhjcaa.Lift

theorem cnt_put {bs ys : List UInt8} {k : Nat} {v : Bool} (h : IsPut bs (k : Int) v ys) (hk : k < 8 * bs.length) : cnt (bt ys) 0 (8 * bs.length) + one (bt bs k) = cnt (bt bs) 0 (8 * bs.length) + one v := by
  obtain ⟨m, hm⟩ : ∃ m, 8 * bs.length = k + (1 + m) := ⟨8 * bs.length - k - 1, by omega⟩
  have h2 : ∀ j, j < k + (1 + m) → bt ys j = if j = k then v else bt bs j := fun j hj => by
    rw [h.2 j (by omega)]
    by_cases e : j = k
    · subst e; simp
    · rw [if_neg e, if_neg (by omega)]
  rw [hm, cnt_add, cnt_add, cnt_add, cnt_add]
  have e1 : cnt (bt ys) 0 k = cnt (bt bs) 0 k := cnt_congr fun j hj => by rw [h2 (0 + j) (by omega), if_neg (by omega)]
  have e3 : cnt (bt ys) (0 + k + 1) m = cnt (bt bs) (0 + k + 1) m := cnt_congr fun j hj => by rw [h2 (0 + k + 1 + j) (by omega), if_neg (by omega)]
  have e2 : ∀ f : Nat → Bool, cnt f (0 + k) 1 = one (f k) := fun f => by simp [cnt]
  rw [e1, e3, e2, e2, h2 k (by omega), if_pos rfl]
  omega
theorem put_back {bs ys : List UInt8} {i : Int} {v : Bool} (h : IsPut bs i v ys) : IsPut ys i (getB bs i) bs :=
  ⟨h.1.symm, fun j hj => by
    rw [h.1] at hj
    by_cases e : (j : Int) = i
    · subst e; rw [if_pos rfl, getB_nat]
    · rw [if_neg e, h.2 j hj, if_neg e]⟩
theorem put_not {bs ys : List UInt8} {i : Int} {v : Bool} (h : IsPut bs i v ys) (hi : ¬ (0 ≤ i ∧ i < 8 * (bs.length : Int))) : ys = bs :=
  bt_ext h.1 fun j hj => by
    rw [h.1] at hj
    rw [h.2 j hj, if_neg (by omega)]

set_option maxRecDepth 100000 in
set_option maxHeartbeats 4000000 in
theorem walk (A : Option Addr) (n c : Nat) (bs : List UInt8) (i : Int) (v : Bool) (w : World) (h : Holds w w.heap.size A n bs) (hc : n ≤ c) (hm : c ≤ 140737488351232) (f1 : -9223372036854775808 ≤ i) (f2 : i ≤ 9223372036854775807) :
    Calls Try.prog 8 #[.slice A n c, .int .i64 i, .bool v] w fun e w' => e = .returned (.bool true) ∧ Below w.heap.size w w' := by
  obtain rfl : bs.length = n := h.1
  have hn : bs.length ≤ 140737488351232 := by omega
  have HM := fun (V : World) (hb : Below w.heap.size w V) => h.below hb
  have H := Lib.hid HM; clear HM h
  have hput := putL_ok bs i v (by omega) f1 f2
  obtain ⟨ys, hys⟩ : ∃ ys, ys = putL bs i v := ⟨_, rfl⟩
  rw [← hys] at hput
  have hyl : ys.length = bs.length := hput.1
  have hlen8 : hiN bs.length (8 * (bs.length : Int)) = 8 * bs.length := by unfold hiN hiE; split <;> omega
  go_enter Try.func8, Try.ntmps8
  go_wp2_with fail
  with_reducible refine (alive_any w).mono ?_
  rintro e w1 ⟨rfl, hb1⟩
  have HB1 := Lib.hid hb1; clear hb1
  go_wp2_with fail
  with_reducible refine (put_told A bs.length c w.heap.size bs v w1 i (H.out _ HB1.out) HB1.out.size (by omega) f1 f2).mono ?_
  rintro e w2 ⟨A2, c2, rfl, hb2, ho2, -⟩
  rw [← hys] at ho2
  have HG := fun (V : World) (hb : Below w2.heap.size w2 V) => (Owned.reads ho2).below hb
  have G := Lib.hid HG; clear HG
  have HB2 := Lib.hid (HB1.out.trans (hb2.mono HB1.out.size)); clear hb2 ho2 HB1
  have hget := get_any A2 bs.length c2 w2.heap.size ys i w2 (G.out _ (Below.refl _ _)) (by omega)
  have hgetm := get_any A bs.length c w.heap.size bs i w2 (H.out _ HB2.out) (by omega)
  have hcy := fun (V : World) (hb : Below w2.heap.size w2 V) => count_any A2 bs.length c2 w2.heap.size ys 0 (8 * (bs.length : Int)) V (G.out _ hb) hb.size (by omega)
  have hcm := fun (V : World) (hb : Below w2.heap.size w2 V) => count_any A bs.length c w.heap.size bs 0 (8 * (bs.length : Int)) V (H.out _ (HB2.out.trans (hb.mono HB2.out.size))) (HB2.out.trans (hb.mono HB2.out.size)).size (by omega)
  simp only [hlen8, Int.toNat_zero, Nat.sub_zero] at hcy hcm
  have hback : ∀ b : Bool, b = getB bs i → putL ys i b = bs := fun b hb => by
    subst hb
    exact IsPut.one (putL_ok ys i _ (by omega) f1 f2) (put_back hput)
  have hpb := fun (V : World) (b : Bool) (hb : Below w2.heap.size w2 V) (hbb : b = getB bs i) => (hback b hbb) ▸ put_told A2 bs.length c2 w2.heap.size ys b V i (G.out V hb) hb.size (by omega) f1 f2
  have K1le := cnt_le (bt ys) 0 (8 * bs.length)
  have K0le := cnt_le (bt bs) 0 (8 * bs.length)
  have hkeys : (0 ≤ i ∧ i < 8 * (bs.length : Int)) → getB ys i = v ∧ cnt (bt ys) 0 (8 * bs.length) + one (getB bs i) = cnt (bt bs) 0 (8 * bs.length) + one v := fun hh => by
    obtain ⟨k, rfl⟩ : ∃ k : Nat, i = (k : Int) := ⟨i.toNat, by omega⟩
    refine ⟨?_, ?_⟩
    · rw [getB_nat, hput.2 k (by omega), if_pos rfl]
    · rw [getB_nat]; exact cnt_put hput (by omega)
  have hkeyn : ¬ (0 ≤ i ∧ i < 8 * (bs.length : Int)) → getB ys i = false ∧ getB bs i = false ∧ cnt (bt ys) 0 (8 * bs.length) = cnt (bt bs) 0 (8 * bs.length) := fun hh => by
    have e := put_not hput hh
    rw [e]
    exact ⟨getB_far bs i hh, getB_far bs i hh, rfl⟩
  generalize hK1 : cnt (bt ys) 0 (8 * bs.length) = K1 at *
  generalize hK0 : cnt (bt bs) 0 (8 * bs.length) = K0 at *
  generalize hg1 : getB ys i = g1 at *
  have hgm := fun (V : World) (hb : Below w2.heap.size w2 V) => get_any A bs.length c w.heap.size bs i V (H.out _ (HB2.out.trans (hb.mono HB2.out.size))) (by omega)
  generalize hg0 : getB bs i = g0 at *
  have HGM := Lib.hid hgm; clear hgm
  have HGET := Lib.hid hget; clear hget
  have HGETM := Lib.hid hgetm; clear hgetm
  have HCY := Lib.hid hcy; clear hcy
  have HCM := Lib.hid hcm; clear hcm
  have HPB := Lib.hid hpb; clear hpb hback hput hys hK1 hK0 hg1 hg0 hlen8
  have HN := Lib.hid (⟨hn, K1le, K0le⟩ : bs.length ≤ 140737488351232 ∧ K1 ≤ 8 * bs.length ∧ K0 ≤ 8 * bs.length)
  have HYL := Lib.hid hyl; clear hyl
  clear K1le K0le
  by_cases hth : 0 ≤ i ∧ i < 8 * (bs.length : Int)
  · obtain ⟨rfl, hk⟩ := hkeys hth
    clear hkeys hkeyn
    obtain ⟨ht1, ht2⟩ := hth
    have hS0 : Below w2.heap.size w2 w2.drew := (Below.refl _ _).drew
    cases g1 <;> cases g0
    · simp [one] at hk
      have hwl : IntKind.i64.wrap (8 * (bs.length : Int)) = 8 * (bs.length : Int) := by have := HN.out.1; rw [IntKind.wrap_i64]; omega
      have hlt : ∀ x : Int, -1 ≤ x → x ≤ 8 * (bs.length : Int) → IntKind.i64.wrap x = x := fun x h1 h2 => by have := HN.out.1; rw [IntKind.wrap_i64]; omega
      have hN2 := HN.out.2
      obtain rfl : K1 = K0 := by omega
      have hE1 : IntKind.i64.wrap ((K1 : Int) - 0) = (K1 : Int) := by rw [hlt _ (by omega) (by omega)]; omega
      have hE2 : IntKind.i64.wrap ((K1 : Int) + 0) = (K1 : Int) := by rw [hlt _ (by omega) (by omega)]; omega
      have hE3 : IntKind.i64.wrap (K1 : Int) = (K1 : Int) := hlt _ (by omega) (by omega)
      clear hlt hN2
      have HK := Lib.hid hk; clear hk
      go_wp2_with fail
      with_reducible refine HGET.out.mono ?_
      rintro e w3 ⟨rfl, rfl⟩
      go_wp2_with fail
      with_reducible refine HGETM.out.mono ?_
      rintro e w3 ⟨rfl, rfl⟩
      go_wp2_with fail
      go_region_held (fun V => Below w2.heap.size w2 V) (assumption)
        (first
          | (go_at_call 18
             have hcall := HPB.out _ _ hS3 rfl
             with_reducible refine hcall.mono ?_
             rintro e V4 ⟨B4, k4, rfl, g4, -, t4⟩
             clear hcall
             have u4 := t4 V4 (Below.refl _ _)
             have hS4 := hS3.trans (g4.mono hS3.size)
             have hW4 := HB2.out.trans (hS4.mono HB2.out.size)
             have u5 := run_text V4 w.heap.size A bs.length c bs (H.out V4 hW4)
             clear t4)
          | (go_at_call 12
             have hcall := HGM.out _ hS2
             with_reducible refine hcall.mono ?_
             rintro e V3 ⟨rfl, rfl⟩
             clear hcall
             have hS3 := hS2)
          | (go_at_call 14
             have hcall := HCY.out _ hS0
             with_reducible refine hcall.mono ?_
             rintro e V1 ⟨rfl, g1⟩
             clear hcall
             have hS1 := hS0.trans (g1.mono hS0.size))
          | (go_at_call 14
             have hcall := HCM.out _ hS1
             with_reducible refine hcall.mono ?_
             rintro e V2 ⟨rfl, g2⟩
             clear hcall
             have hS2 := hS1.trans (g2.mono hS1.size)
             have hW2 := HB2.out.trans (hS2.mono HB2.out.size)
             have u52 := run_text V2 w.heap.size A bs.length c bs (H.out V2 hW2)))
      all_goals
        go_wp2
        go_ret
        exact ⟨rfl, by assumption⟩
    · simp [one] at hk
      have hwl : IntKind.i64.wrap (8 * (bs.length : Int)) = 8 * (bs.length : Int) := by have := HN.out.1; rw [IntKind.wrap_i64]; omega
      have hlt : ∀ x : Int, -1 ≤ x → x ≤ 8 * (bs.length : Int) → IntKind.i64.wrap x = x := fun x h1 h2 => by have := HN.out.1; rw [IntKind.wrap_i64]; omega
      have hN2 := HN.out.2
      have hE1 : IntKind.i64.wrap ((K0 : Int) - 1) = (K1 : Int) := by rw [hlt _ (by omega) (by omega)]; omega
      have hE2 : IntKind.i64.wrap ((K1 : Int) + 0) = (K1 : Int) := by rw [hlt _ (by omega) (by omega)]; omega
      have hE3 : IntKind.i64.wrap (K1 : Int) = (K1 : Int) := hlt _ (by omega) (by omega)
      clear hlt hN2
      have HK := Lib.hid hk; clear hk
      go_wp2_with fail
      with_reducible refine HGET.out.mono ?_
      rintro e w3 ⟨rfl, rfl⟩
      go_wp2_with fail
      with_reducible refine HGETM.out.mono ?_
      rintro e w3 ⟨rfl, rfl⟩
      go_wp2_with fail
      go_region_held (fun V => Below w2.heap.size w2 V) (assumption)
        (first
          | (go_at_call 18
             have hcall := HPB.out _ _ hS3 rfl
             with_reducible refine hcall.mono ?_
             rintro e V4 ⟨B4, k4, rfl, g4, -, t4⟩
             clear hcall
             have u4 := t4 V4 (Below.refl _ _)
             have hS4 := hS3.trans (g4.mono hS3.size)
             have hW4 := HB2.out.trans (hS4.mono HB2.out.size)
             have u5 := run_text V4 w.heap.size A bs.length c bs (H.out V4 hW4)
             clear t4)
          | (go_at_call 12
             have hcall := HGM.out _ hS2
             with_reducible refine hcall.mono ?_
             rintro e V3 ⟨rfl, rfl⟩
             clear hcall
             have hS3 := hS2)
          | (go_at_call 14
             have hcall := HCY.out _ hS0
             with_reducible refine hcall.mono ?_
             rintro e V1 ⟨rfl, g1⟩
             clear hcall
             have hS1 := hS0.trans (g1.mono hS0.size))
          | (go_at_call 14
             have hcall := HCM.out _ hS1
             with_reducible refine hcall.mono ?_
             rintro e V2 ⟨rfl, g2⟩
             clear hcall
             have hS2 := hS1.trans (g2.mono hS1.size)
             have hW2 := HB2.out.trans (hS2.mono HB2.out.size)
             have u52 := run_text V2 w.heap.size A bs.length c bs (H.out V2 hW2)))
      all_goals
        go_wp2
        go_ret
        exact ⟨rfl, by assumption⟩
    · simp [one] at hk
      have hwl : IntKind.i64.wrap (8 * (bs.length : Int)) = 8 * (bs.length : Int) := by have := HN.out.1; rw [IntKind.wrap_i64]; omega
      have hlt : ∀ x : Int, -1 ≤ x → x ≤ 8 * (bs.length : Int) → IntKind.i64.wrap x = x := fun x h1 h2 => by have := HN.out.1; rw [IntKind.wrap_i64]; omega
      have hN2 := HN.out.2
      have hE1 : IntKind.i64.wrap ((K0 : Int) - 0) = (K0 : Int) := by rw [hlt _ (by omega) (by omega)]; omega
      have hE2 : IntKind.i64.wrap ((K0 : Int) + 1) = (K1 : Int) := by rw [hlt _ (by omega) (by omega)]; omega
      have hE3 : IntKind.i64.wrap (K0 : Int) = (K0 : Int) := hlt _ (by omega) (by omega)
      clear hlt hN2
      have HK := Lib.hid hk; clear hk
      go_wp2_with fail
      with_reducible refine HGET.out.mono ?_
      rintro e w3 ⟨rfl, rfl⟩
      go_wp2_with fail
      with_reducible refine HGETM.out.mono ?_
      rintro e w3 ⟨rfl, rfl⟩
      go_wp2_with fail
      go_region_held (fun V => Below w2.heap.size w2 V) (assumption)
        (first
          | (go_at_call 18
             have hcall := HPB.out _ _ hS3 rfl
             with_reducible refine hcall.mono ?_
             rintro e V4 ⟨B4, k4, rfl, g4, -, t4⟩
             clear hcall
             have u4 := t4 V4 (Below.refl _ _)
             have hS4 := hS3.trans (g4.mono hS3.size)
             have hW4 := HB2.out.trans (hS4.mono HB2.out.size)
             have u5 := run_text V4 w.heap.size A bs.length c bs (H.out V4 hW4)
             clear t4)
          | (go_at_call 12
             have hcall := HGM.out _ hS2
             with_reducible refine hcall.mono ?_
             rintro e V3 ⟨rfl, rfl⟩
             clear hcall
             have hS3 := hS2)
          | (go_at_call 14
             have hcall := HCY.out _ hS0
             with_reducible refine hcall.mono ?_
             rintro e V1 ⟨rfl, g1⟩
             clear hcall
             have hS1 := hS0.trans (g1.mono hS0.size))
          | (go_at_call 14
             have hcall := HCM.out _ hS1
             with_reducible refine hcall.mono ?_
             rintro e V2 ⟨rfl, g2⟩
             clear hcall
             have hS2 := hS1.trans (g2.mono hS1.size)
             have hW2 := HB2.out.trans (hS2.mono HB2.out.size)
             have u52 := run_text V2 w.heap.size A bs.length c bs (H.out V2 hW2)))
      all_goals
        go_wp2
        go_ret
        exact ⟨rfl, by assumption⟩
    · simp [one] at hk
      have hwl : IntKind.i64.wrap (8 * (bs.length : Int)) = 8 * (bs.length : Int) := by have := HN.out.1; rw [IntKind.wrap_i64]; omega
      have hlt : ∀ x : Int, -1 ≤ x → x ≤ 8 * (bs.length : Int) → IntKind.i64.wrap x = x := fun x h1 h2 => by have := HN.out.1; rw [IntKind.wrap_i64]; omega
      have hN2 := HN.out.2
      obtain rfl : K1 = K0 := by omega
      obtain ⟨D, hD0⟩ : ∃ D : Int, D = (K1 : Int) - 1 := ⟨_, rfl⟩
      have hE1 : IntKind.i64.wrap ((K1 : Int) - 1) = D := by rw [hlt _ (by omega) (by omega)]; omega
      have hE2 : IntKind.i64.wrap (D + 1) = (K1 : Int) := by rw [hlt _ (by omega) (by omega)]; omega
      have HD0 := Lib.hid hD0; clear hD0
      clear hlt hN2
      have HK := Lib.hid hk; clear hk
      go_wp2_with fail
      with_reducible refine HGET.out.mono ?_
      rintro e w3 ⟨rfl, rfl⟩
      go_wp2_with fail
      with_reducible refine HGETM.out.mono ?_
      rintro e w3 ⟨rfl, rfl⟩
      go_wp2_with fail
      go_region_held (fun V => Below w2.heap.size w2 V) (assumption)
        (first
          | (go_at_call 18
             have hcall := HPB.out _ _ hS3 rfl
             with_reducible refine hcall.mono ?_
             rintro e V4 ⟨B4, k4, rfl, g4, -, t4⟩
             clear hcall
             have u4 := t4 V4 (Below.refl _ _)
             have hS4 := hS3.trans (g4.mono hS3.size)
             have hW4 := HB2.out.trans (hS4.mono HB2.out.size)
             have u5 := run_text V4 w.heap.size A bs.length c bs (H.out V4 hW4)
             clear t4)
          | (go_at_call 12
             have hcall := HGM.out _ hS2
             with_reducible refine hcall.mono ?_
             rintro e V3 ⟨rfl, rfl⟩
             clear hcall
             have hS3 := hS2)
          | (go_at_call 14
             have hcall := HCY.out _ hS0
             with_reducible refine hcall.mono ?_
             rintro e V1 ⟨rfl, g1⟩
             clear hcall
             have hS1 := hS0.trans (g1.mono hS0.size))
          | (go_at_call 14
             have hcall := HCM.out _ hS1
             with_reducible refine hcall.mono ?_
             rintro e V2 ⟨rfl, g2⟩
             clear hcall
             have hS2 := hS1.trans (g2.mono hS1.size)
             have hW2 := HB2.out.trans (hS2.mono HB2.out.size)
             have u52 := run_text V2 w.heap.size A bs.length c bs (H.out V2 hW2)))
      all_goals
        go_wp2
        go_ret
        exact ⟨rfl, by assumption⟩
  · obtain ⟨rfl, rfl, rfl⟩ := hkeyn hth
    clear hkeys hkeyn
    have hS0 : Below w2.heap.size w2 w2.drew := (Below.refl _ _).drew
    by_cases ht1 : 0 ≤ i
    · have ht2 : ¬ i < 8 * (bs.length : Int) := fun h => hth ⟨ht1, h⟩
      clear hth
      cases v
      all_goals
        have hwl : IntKind.i64.wrap (8 * (bs.length : Int)) = 8 * (bs.length : Int) := by have := HN.out.1; rw [IntKind.wrap_i64]; omega
        have hlt : ∀ x : Int, -1 ≤ x → x ≤ 8 * (bs.length : Int) → IntKind.i64.wrap x = x := fun x h1 h2 => by have := HN.out.1; rw [IntKind.wrap_i64]; omega
        have hN2 := HN.out.2
        have hE1 : IntKind.i64.wrap ((K1 : Int) - 0) = (K1 : Int) := by rw [hlt _ (by omega) (by omega)]; omega
        have hE2 : IntKind.i64.wrap ((K1 : Int) + 0) = (K1 : Int) := by rw [hlt _ (by omega) (by omega)]; omega
        have hE3 : IntKind.i64.wrap (K1 : Int) = (K1 : Int) := hlt _ (by omega) (by omega)
        clear hlt hN2
        go_wp2_with fail
        with_reducible refine HGET.out.mono ?_
        rintro e w3 ⟨rfl, rfl⟩
        go_wp2_with fail
        go_region_held (fun V => Below w2.heap.size w2 V) (assumption)
          (first
            | (go_at_call 18
               have hcall := HPB.out _ _ hS3 rfl
               with_reducible refine hcall.mono ?_
               rintro e V4 ⟨B4, k4, rfl, g4, -, t4⟩
               clear hcall
               have u4 := t4 V4 (Below.refl _ _)
               have hS4 := hS3.trans (g4.mono hS3.size)
               have hW4 := HB2.out.trans (hS4.mono HB2.out.size)
               have u5 := run_text V4 w.heap.size A bs.length c bs (H.out V4 hW4)
               clear t4)
            | (go_at_call 12
               have hcall := HGM.out _ hS2
               with_reducible refine hcall.mono ?_
               rintro e V3 ⟨rfl, rfl⟩
               clear hcall
               have hS3 := hS2)
            | (go_at_call 14
               have hcall := HCY.out _ hS0
               with_reducible refine hcall.mono ?_
               rintro e V1 ⟨rfl, g1⟩
               clear hcall
               have hS1 := hS0.trans (g1.mono hS0.size))
            | (go_at_call 14
               have hcall := HCM.out _ hS1
               with_reducible refine hcall.mono ?_
               rintro e V2 ⟨rfl, g2⟩
               clear hcall
               have hS2 := hS1.trans (g2.mono hS1.size)
               have hW2 := HB2.out.trans (hS2.mono HB2.out.size)
               have u52 := run_text V2 w.heap.size A bs.length c bs (H.out V2 hW2)))
        all_goals
          go_wp2
          go_ret
          exact ⟨rfl, by assumption⟩
    · clear hth
      cases v
      all_goals
        have hwl : IntKind.i64.wrap (8 * (bs.length : Int)) = 8 * (bs.length : Int) := by have := HN.out.1; rw [IntKind.wrap_i64]; omega
        have hlt : ∀ x : Int, -1 ≤ x → x ≤ 8 * (bs.length : Int) → IntKind.i64.wrap x = x := fun x h1 h2 => by have := HN.out.1; rw [IntKind.wrap_i64]; omega
        have hN2 := HN.out.2
        have hE1 : IntKind.i64.wrap ((K1 : Int) - 0) = (K1 : Int) := by rw [hlt _ (by omega) (by omega)]; omega
        have hE2 : IntKind.i64.wrap ((K1 : Int) + 0) = (K1 : Int) := by rw [hlt _ (by omega) (by omega)]; omega
        have hE3 : IntKind.i64.wrap (K1 : Int) = (K1 : Int) := hlt _ (by omega) (by omega)
        clear hlt hN2
        go_wp2_with fail
        with_reducible refine HGET.out.mono ?_
        rintro e w3 ⟨rfl, rfl⟩
        go_wp2_with fail
        go_region_held (fun V => Below w2.heap.size w2 V) (assumption)
          (first
            | (go_at_call 18
               have hcall := HPB.out _ _ hS3 rfl
               with_reducible refine hcall.mono ?_
               rintro e V4 ⟨B4, k4, rfl, g4, -, t4⟩
               clear hcall
               have u4 := t4 V4 (Below.refl _ _)
               have hS4 := hS3.trans (g4.mono hS3.size)
               have hW4 := HB2.out.trans (hS4.mono HB2.out.size)
               have u5 := run_text V4 w.heap.size A bs.length c bs (H.out V4 hW4)
               clear t4)
            | (go_at_call 12
               have hcall := HGM.out _ hS2
               with_reducible refine hcall.mono ?_
               rintro e V3 ⟨rfl, rfl⟩
               clear hcall
               have hS3 := hS2)
            | (go_at_call 14
               have hcall := HCY.out _ hS0
               with_reducible refine hcall.mono ?_
               rintro e V1 ⟨rfl, g1⟩
               clear hcall
               have hS1 := hS0.trans (g1.mono hS0.size))
            | (go_at_call 14
               have hcall := HCM.out _ hS1
               with_reducible refine hcall.mono ?_
               rintro e V2 ⟨rfl, g2⟩
               clear hcall
               have hS2 := hS1.trans (g2.mono hS1.size)
               have hW2 := HB2.out.trans (hS2.mono HB2.out.size)
               have u52 := run_text V2 w.heap.size A bs.length c bs (H.out V2 hW2)))
        all_goals
          go_wp2
          go_ret
          exact ⟨rfl, by assumption⟩

theorem walks : Walks 8 Try.f8 All := by
  intro H enc W base args ds p hval hA hsz _
  rw [Try.params8] at hA hval hsz
  obtain ⟨v0, vs0, d0, ds0, p0, q0, hargs, rfl, rfl, h0, r0⟩ := trodAll_cons hA
  obtain ⟨v1, vs1, d1, ds1, p1, q1, rfl, rfl, rfl, h1, r1⟩ := trodAll_cons r0
  obtain ⟨v2, vs2, d2, ds2, p2, q2, rfl, rfl, rfl, h2, r2⟩ := trodAll_cons r1
  obtain ⟨rfl, rfl, rfl⟩ := trodAll_nil r2
  obtain rfl : args = #[v0, v1, v2] := by cases args; simp_all
  obtain ⟨A, n, c, bs, rfl, hb, hn, hc⟩ := open_bytesC (hval 0 _ v0 rfl rfl) h0 _ (reach_bytes hsz (j := 0) rfl rfl)
  obtain ⟨x1, rfl, rfl, rfl, hx1⟩ := open_int Try.underlying3 (hval 1 _ v1 rfl rfl) h1
  have bx1 := bounds_i64 hx1
  obtain ⟨x2, rfl, rfl, rfl⟩ := open_bool Try.underlying4 (hval 2 _ v2 rfl rfl) h2
  exact walk A n c bs x1 x2 W hb hn hc (by omega) (by omega)

set_option maxRecDepth 100000 in
theorem proved : Rows.BitsPutsSaid :=
  OpenClaim.holds_of_wide 8 Try.f8 rfl rfl rfl rfl rfl rfl rfl ⟨rfl, rfl, rfl, rfl, rfl⟩ rfl rfl rfl rfl rfl (by kernel_rfl) Try.func8 (by kernel_rfl)
    (of_decide_eq_true (by kernel_rfl)) (by unfold Func.isWrapper; first | (rw [if_pos (by decide +kernel)]; kernel_rfl) | (rw [if_neg (by decide +kernel)]; exact ⟨rfl, rfl⟩))
    (fun os started H enc _ => lifted (s := Rows.bitsPutsSpec) walks (by kernel_rfl) rfl rfl (fun H ds hl => by match ds, hl with | [d1, d2, d3], _ => rfl) (by kernel_rfl) Try.func8 os started H enc
      (ChangeSpec.witness6 (enc := enc) (C := Try.checked) false ⟨#[], #[.slice none 0 0, .int .i64 0, .bool false], []⟩ 8 (by kernel_rfl) (by kernel_rfl) (by kernel_rfl) (by kernel_rfl)))
#print axioms proved
end Go.Proofs.Ytobnnflacdhjcaa.BitsPuts
