/- The document's calls: Bytes. -/
import Derived.Test.YtmbmjdogfjmlpaaDoorSpRCalls
namespace Go.Proofs.YtmbmjdogfjmlpaaDoor.Sp
set_option maxRecDepth 20000
open Go.RowKit
open Go.Proofs.YtmbmjdogfjmlpaaDoor.Mem Go.Proofs.YtmbmjdogfjmlpaaDoor.Rec Go.Proofs.YtmbmjdogfjmlpaaDoor.Reg
attribute [local go_sem ↓] ldX_eq stX_eq

/-- The first i of n bytes that stand from q on; 0 behind. -/
def part (a : List UInt8) (q n i : Nat) : List UInt8 := (List.range n).map fun j => if j < i then a.getD (q + j) 0 else 0
theorem part_len (a : List UInt8) (q n i : Nat) : (part a q n i).length = n := by unfold part; simp
theorem part_get (a : List UInt8) (q n i j : Nat) (h : j < n) : (part a q n i).getD j 0 = if j < i then a.getD (q + j) 0 else 0 := by
  unfold part
  rw [List.getD_eq_getElem?_getD, List.getElem?_map, List.getElem?_range h]
  rfl
theorem part_zero (a : List UInt8) (q n : Nat) : part a q n 0 = List.replicate n 0 := by
  refine list_getD (by rw [part_len, List.length_replicate]) fun j hj => ?_
  rw [part_len] at hj
  rw [part_get _ _ _ _ _ hj, if_neg (by omega), getD_rep]
theorem part_next (a : List UInt8) (q n i : Nat) (h : i < n) : (part a q n i).set i (a.getD (q + i) 0) = part a q n (i + 1) := by
  refine list_getD (by rw [List.length_set, part_len, part_len]) fun j hj => ?_
  rw [List.length_set, part_len] at hj
  rw [part_get _ _ _ _ _ hj, List.getD_eq_getElem?_getD, List.getElem?_set]
  by_cases hij : i = j
  · subst hij
    rw [if_pos rfl, if_pos (by rw [part_len]; exact h), if_pos (by omega)]
    rfl
  · rw [if_neg hij, ← List.getD_eq_getElem?_getD, part_get _ _ _ _ _ hj]
    by_cases h2 : j < i
    · rw [if_pos h2, if_pos (by omega)]
    · rw [if_neg h2, if_neg (by omega)]
theorem part_done {l : List Rn} (hl : right l = true) (q n i : Nat) (h : n ≤ i ∨ (spr [] l).length ≤ q + i) : part (spr [] l) q n i = bytesL l (q : Int) n := by
  refine list_getD (by rw [part_len, bytesL_len]) fun j hj => ?_
  rw [part_len] at hj
  rw [part_get _ _ _ _ _ hj, bytesL_get _ _ _ _ hj]
  have hc := (spr0 hl).2 (q + j)
  rw [show (((q + j : Nat)) : Int) = (q : Int) + (j : Int) by omega] at hc
  by_cases h2 : j < i
  · rw [if_pos h2, hc]
  · rw [if_neg h2, ← hc, getD_off (by omega)]
set_option maxRecDepth 100000 in
set_option maxHeartbeats 16000000 in
theorem rBytes_any (A : Option Addr) (n c B : Nat) (l : List Rn) (p m : Int) (w : World) (h : HoldsX w B A n l) (hB : B ≤ w.heap.size) (hn : n ≤ 8796093022208) (hrep : ∀ x ∈ l, x.rep)
    (hp : p ≤ 9223372036854775807) (hm : m ≤ 9223372036854775807) :
    Calls Tryd.prog 21 #[.slice A n c, .int .i64 p, .int .i64 m] w (Text2 w (bytesA l p m)) := by
  obtain ⟨post, hpost⟩ : ∃ post, post = Text2 w (bytesA l p m) := ⟨_, rfl⟩
  rw [← hpost]
  have HP := Lib.hid hpost; clear hpost
  have hck := rcheck_any A n c B l w h hn hrep
  cases hr : right l with
  | false =>
    have he : bytesA l p m = ([], 1) := by unfold bytesA; rw [if_pos (.inr (.inr hr))]
    rw [he] at HP
    rw [hr, if_neg (by decide)] at hck
    clear he h hr
    have HCK := Lib.hid hck; clear hck
    go_enter Tryd.func21, Tryd.ntmps21
    go_wp2_with fail
    with_reducible refine HCK.out.mono ?_
    rintro E w1 ⟨rfl, rfl⟩
    go_wp2
    rw [HP.out]
    exact ⟨rfl, Below.refl _ _⟩
  | true =>
  rw [hr, if_pos rfl] at hck
  rcases Int.lt_or_le p 0 with h1 | h1
  · have he : bytesA l p m = ([], 1) := by unfold bytesA; rw [if_pos (.inl h1)]
    rw [he] at HP
    clear he h hr
    have HCK := Lib.hid hck; clear hck
    go_enter Tryd.func21, Tryd.ntmps21
    go_wp2_with fail
    with_reducible refine HCK.out.mono ?_
    rintro E w1 ⟨rfl, rfl⟩
    go_wp2
    rw [HP.out]
    exact ⟨rfl, Below.refl _ _⟩
  have h1' : ¬ p < 0 := by omega
  rcases Int.lt_or_le m 0 with h2 | h2
  · have he : bytesA l p m = ([], 1) := by unfold bytesA; rw [if_pos (.inr (.inl h2))]
    rw [he] at HP
    clear he h hr
    have HCK := Lib.hid hck; clear hck
    go_enter Tryd.func21, Tryd.ntmps21
    go_wp2_with fail
    with_reducible refine HCK.out.mono ?_
    rintro E w1 ⟨rfl, rfl⟩
    go_wp2
    rw [HP.out]
    exact ⟨rfl, Below.refl _ _⟩
  have h2' : ¬ m < 0 := by omega
  rcases Int.lt_or_le (65536 - p) m with h3 | h3
  · have he : bytesA l p m = ([], 10) := by unfold bytesA; rw [if_neg (by rw [hr]; simp; omega), if_pos h3]
    rw [he] at HP
    clear he h hr
    have HCK := Lib.hid hck; clear hck
    rcases Int.lt_or_le 65536 p with h4 | h4
    · clear h3
      go_enter Tryd.func21, Tryd.ntmps21
      go_wp2_with fail
      with_reducible refine HCK.out.mono ?_
      rintro E w1 ⟨rfl, rfl⟩
      go_wp2
      rw [HP.out]
      exact ⟨rfl, Below.refl _ _⟩
    have h4' : ¬ 65536 < p := by omega
    rcases Int.lt_or_le 65536 m with h5 | h5
    · clear h3
      go_enter Tryd.func21, Tryd.ntmps21
      go_wp2_with fail
      with_reducible refine HCK.out.mono ?_
      rintro E w1 ⟨rfl, rfl⟩
      go_wp2
      rw [HP.out]
      exact ⟨rfl, Below.refl _ _⟩
    have h5' : ¬ 65536 < m := by omega
    have h6 : 65536 - m < p := by omega
    go_enter Tryd.func21, Tryd.ntmps21
    go_wp2_with fail
    with_reducible refine HCK.out.mono ?_
    rintro E w1 ⟨rfl, rfl⟩
    go_wp2
    rw [HP.out]
    exact ⟨rfl, Below.refl _ _⟩
  obtain ⟨q, rfl⟩ : ∃ q : Nat, p = (q : Int) := ⟨p.toNat, by omega⟩
  obtain ⟨N, rfl⟩ : ∃ N : Nat, m = (N : Int) := ⟨m.toNat, by omega⟩
  have hqN : q + N ≤ 65536 := by omega
  have h4' : ¬ (65536 : Int) < (q : Int) := by omega
  have h5' : ¬ (65536 : Int) < (N : Int) := by omega
  have h6' : ¬ 65536 - (N : Int) < (q : Int) := by omega
  have he : bytesA l (q : Int) (N : Int) = (bytesL l (q : Int) N, 0) := by unfold bytesA; rw [if_neg (by rw [hr]; simp), if_neg (by omega), show ((N : Int)).toNat = N by omega]
  rw [he] at HP
  have hnn : n ≤ 65538 := by rw [← h.1]; exact right_len hr
  have hsp := rspread_any A n c B l w h hB (by omega) hr
  have hsl := (spr0 hr).1
  have hdone := fun i => part_done hr q N i
  clear he h hr
  generalize spr [] l = b0 at *
  generalize bytesL l (q : Int) N = R at *
  have HSP := Lib.hid hsp; clear hsp
  have HCK := Lib.hid hck; clear hck
  have HDONE := Lib.hid hdone; clear hdone
  have hmk := fun W => run_makeZ N (by omega) W
  obtain ⟨Z, hZ⟩ : ∃ Z, Z = (((List.replicate N (0 : UInt8)).map byteV).toArray) := ⟨_, rfl⟩
  have hown0 : ∀ W : World, Owned (W.alloc (.cells Z 5)) W.heap.size (.slice (some ⟨W.heap.size, 0, none⟩) N N) (part b0 q N 0) := fun W => by
    have := owned_made W (List.replicate N 0) W.heap.size (Nat.le_refl _) (by rw [List.length_replicate]; unfold maxLen; omega)
    rw [List.length_replicate] at this
    rw [hZ, part_zero]; exact this
  simp only [← hZ] at hmk
  have HOWN0 := Lib.hid hown0; clear hown0 hZ
  go_enter Tryd.func21, Tryd.ntmps21
  go_wp2_with fail
  with_reducible refine HCK.out.mono ?_
  rintro E w1 ⟨rfl, rfl⟩
  go_wp2_with fail
  with_reducible refine HSP.out.mono ?_
  rintro E w2 ⟨A2, c2, rfl, ho2, hb2⟩
  have HO2 := Lib.hid ho2; clear ho2
  have HB2 := Lib.hid hb2; clear hb2
  obtain ⟨bl, hbl⟩ : ∃ bl, bl = b0.length := ⟨_, rfl⟩
  rw [← hbl] at HO2 hsl HDONE ⊢
  have HBL := Lib.hid hbl; clear hbl
  go_wp2
  obtain ⟨g, hg⟩ : ∃ g, g = w2.heap.size := ⟨_, rfl⟩
  obtain ⟨w3, hw3⟩ : ∃ w3, w3 = w2.alloc (.cells Z 5) := ⟨_, rfl⟩
  have hb3 : Below w1.heap.size w1 w3 := by rw [hw3]; exact HB2.out.alloc HB2.out.size _
  have ho3 : Owned w3 w1.heap.size (.slice (some ⟨g, 0, none⟩) N N) (part b0 q N 0) := by rw [hw3, hg]; exact Owned.mono (HOWN0.out w2) HB2.out.size
  have hgw : w1.heap.size ≤ g := by rw [hg]; exact HB2.out.size
  have ha3 : Holds w3 g A2 bl b0 := by rw [hw3, hg]; exact (Owned.reads HO2.out).below ((Below.refl _ w2).alloc (Nat.le_refl _) _)
  rw [← hw3, ← hg]
  have HB3 := Lib.hid hb3; clear hb3
  have HO3 := Lib.hid ho3; clear ho3
  have HG := Lib.hid hgw; clear hgw
  have HA3 := Lib.hid ha3; clear ha3 hg hw3 hmk
  have hform : 0 < bl → ∃ ga, A2 = some ⟨ga, 0, none⟩ := fun h0 => owned_form HO2.out h0
  have HFORM := Lib.hid hform; clear hform
  go_loopw [10] (fun iv wi => ∃ i : Nat, i ≤ N ∧ iv = .int .i64 (i : Int) ∧ Owned wi w1.heap.size (.slice (some ⟨g, 0, none⟩) N N) (part b0 q N i) ∧ Holds wi g A2 bl b0 ∧ Below w1.heap.size w1 wi) (fun iv _ => N - (intOf iv).toNat)
  case atStart => exact ⟨0, Nat.zero_le _, rfl, HO3.out, HA3.out, HB3.out⟩
  case round =>
    obtain ⟨i, hiN, rfl, hown, hall, hbr⟩ := hrel
    have HO := Lib.hid hown; clear hown
    have HBR := Lib.hid hbr; clear hbr
    have HALL := Lib.hid hall; clear hall
    have hi0 : (0 : Int) ≤ (i : Int) := by omega
    obtain ⟨x, hx⟩ : ∃ x : Nat, x = q + i := ⟨_, rfl⟩
    have hxi : (q : Int) + (i : Int) = (x : Int) := by omega
    have hx6 : (x : Int) ≤ 65536 := by omega
    have fin : (N ≤ i ∨ bl ≤ q + i) → (convert 41 9 (.slice (some ⟨g, 0, none⟩) N N)).run Tryd.prog wr = .ok (.string ⟨R.toArray⟩) wr := fun hh => by
      have htx := run_text wr _ _ N N _ (Owned.reads HO.out)
      rwa [HDONE.out i hh] at htx
    rcases Nat.lt_or_ge i N with hi | hi
    rotate_left
    · have hit : ¬ (i : Int) < (N : Int) := by omega
      have htx := fin (.inl hi)
      clear fin hx hxi
      go_wp2
      rw [HP.out]
      exact ⟨rfl, HBR.out⟩
    have hit : (i : Int) < (N : Int) := by omega
    rcases Nat.lt_or_ge x bl with hxb | hxb
    rotate_left
    · have hib : ¬ (x : Int) < (bl : Int) := by omega
      have htx := fin (.inr (by rw [← hx]; exact hxb))
      clear fin hx
      go_wp2
      rw [HP.out]
      exact ⟨rfl, HBR.out⟩
    · have hib : (x : Int) < (bl : Int) := by omega
      have hx0 : (0 : Int) ≤ (x : Int) := by omega
      obtain ⟨ga, rfl⟩ := HFORM.out (by omega)
      have hcell : wr.cell? ⟨ga, x, none⟩ = some (.int .u8 ((b0.getD x 0).toNat : Int)) := by
        obtain ⟨b', off', e, _, hcc⟩ := HALL.out.2 (by omega)
        injection e with e
        injection e with e1 e2
        subst e1 e2
        have hjl : x < b0.length := by rw [← HBL.out]; exact hxb
        have := hcc x hjl
        rw [Nat.zero_add] at this
        rw [this, List.getD_eq_getElem?_getD, List.getElem?_eq_getElem hjl, Option.getD_some]
      obtain ⟨g1, cap, e1, hg1, hg2, hcap, hrow⟩ := Owned.row HO.out (by rw [part_len]; omega)
      rw [part_len] at e1
      injection e1 with e1 e2 e3
      injection e1 with e1
      injection e1 with e1
      subst e1 e3
      obtain ⟨q1, q2, q3⟩ := hrow i (by rw [part_len]; exact hi)
      obtain ⟨q4, q5⟩ := q3 (b0.getD x 0)
      rw [hx, part_next _ _ _ _ hi, ← hx] at q4
      have q6 : Holds (wr.setCell ⟨g, i, none⟩ (byteV (b0.getD x 0))) g (some ⟨ga, 0, none⟩) bl b0 := HALL.out.below ((Below.refl g wr).setCell (Nat.le_refl _) _)
      have q1' : ∃ u, wr.cell? ⟨g, i, none⟩ = some u := ⟨_, q1⟩
      clear q1 hrow q3 hcap fin
      obtain ⟨u, q1⟩ := q1'
      obtain ⟨v, hv⟩ : ∃ v : UInt8, v = b0.getD x 0 := ⟨_, rfl⟩
      rw [← hv] at hcell q4 q5 q6
      unfold byteV at q4 q5 q6
      have HO5 := Lib.hid q4; clear q4
      have HA5 := Lib.hid q6; clear q6
      have HB5 := Lib.hid (HBR.out.trans (q5.mono (Nat.le_refl _))); clear q5 hv hx
      go_wp2
      go_roundw
      case rel => exact ⟨i + 1, by omega, by go_num, HO5.out, HA5.out, HB5.out⟩
      case measure => simp [intOf]; omega
end Go.Proofs.YtmbmjdogfjmlpaaDoor.Sp
