/- The program's calls: Of, Put, Zero, End. -/
import Derived.Test.YtmbmjdogfjmlpaaDoorSpJoined
namespace Go.Proofs.YtmbmjdogfjmlpaaDoor.Sp
set_option maxRecDepth 20000
open Go.RowKit
open Go.Proofs.YtmbmjdogfjmlpaaDoor.Mem Go.Proofs.YtmbmjdogfjmlpaaDoor.Rec Go.Proofs.YtmbmjdogfjmlpaaDoor.Reg
attribute [local go_sem ↓] ldX_eq stX_eq

/-- A list of runs made anew, and an error's number. -/
def Runs2 (w : World) (r : List Rn × Int) (e : Ending) (w' : World) : Prop :=
  ∃ A c, e = .returned (.tuple #[.slice A r.1.length c, .int .i64 r.2]) ∧ OwnX w' w.heap.size (.slice A r.1.length c) r.1 ∧ Below w.heap.size w w'
def ofA (t : List UInt8) : List Rn × Int := if t.length ≤ 65536 then (gat 0 t, 0) else ([], 10)
def putA (l : List Rn) (p : Int) (d : List UInt8) : List Rn × Int := if p < 0 ∨ right l = false then ([], 1) else if 65536 - p < (d.length : Int) then ([], 10) else (putL l p d, 0)
def zeroA (l : List Rn) (f t : Int) : List Rn × Int := if f < 0 ∨ t < f ∨ right l = false then ([], 1) else (zeroL l f t, 0)
def bytesA (l : List Rn) (p n : Int) : List UInt8 × Int := if p < 0 ∨ n < 0 ∨ right l = false then ([], 1) else if 65536 - p < n then ([], 10) else (bytesL l p n.toNat, 0)
def endA (l : List Rn) : Int := if right l = true then endL l else 0
theorem holdsP2 {w : World} {A1 A2 : Option Addr} {n1 n2 c1 c2 : Nat} {p1 p2 : List Rn} (h1 : HoldsX w w.heap.size A1 n1 p1) (h2 : HoldsX w w.heap.size A2 n2 p2) :
    HoldsP (w.alloc (.cells #[.slice A1 n1 c1, .slice A2 n2 c2] 22)) (w.heap.size + 1) (some ⟨w.heap.size, 0, none⟩) 2 [p1, p2] := by
  have e1 := h1.1
  have e2 := h2.1
  subst e1 e2
  have hb := (Below.refl w.heap.size w).alloc (Nat.le_refl _) (.cells #[.slice A1 p1.length c1, .slice A2 p2.length c2] 22)
  refine ⟨rfl, fun _ => ⟨w.heap.size, 0, rfl, by omega, fun k hk => ?_⟩⟩
  match k, hk with
  | 0, _ => exact ⟨A1, c1, cell_of_row _ _ _ _ _ _ (heap_alloc_new w _), (h1.below hb).more (by omega)⟩
  | 1, _ => exact ⟨A2, c2, cell_of_row _ _ _ _ _ _ (heap_alloc_new w _), (h2.below hb).more (by omega)⟩
theorem holdsP3 {w : World} {A1 A2 A3 : Option Addr} {n1 n2 n3 c1 c2 c3 : Nat} {p1 p2 p3 : List Rn} (h1 : HoldsX w w.heap.size A1 n1 p1) (h2 : HoldsX w w.heap.size A2 n2 p2) (h3 : HoldsX w w.heap.size A3 n3 p3) :
    HoldsP (w.alloc (.cells #[.slice A1 n1 c1, .slice A2 n2 c2, .slice A3 n3 c3] 22)) (w.heap.size + 1) (some ⟨w.heap.size, 0, none⟩) 3 [p1, p2, p3] := by
  have e1 := h1.1
  have e2 := h2.1
  have e3 := h3.1
  subst e1 e2 e3
  have hb := (Below.refl w.heap.size w).alloc (Nat.le_refl _) (.cells #[.slice A1 p1.length c1, .slice A2 p2.length c2, .slice A3 p3.length c3] 22)
  refine ⟨rfl, fun _ => ⟨w.heap.size, 0, rfl, by omega, fun k hk => ?_⟩⟩
  match k, hk with
  | 0, _ => exact ⟨A1, c1, cell_of_row _ _ _ _ _ _ (heap_alloc_new w _), (h1.below hb).more (by omega)⟩
  | 1, _ => exact ⟨A2, c2, cell_of_row _ _ _ _ _ _ (heap_alloc_new w _), (h2.below hb).more (by omega)⟩
  | 2, _ => exact ⟨A3, c3, cell_of_row _ _ _ _ _ _ (heap_alloc_new w _), (h3.below hb).more (by omega)⟩
theorem gat_len {t : List UInt8} {p : Int} (h0 : 0 ≤ p) (h : p + (t.length : Int) ≤ 65536) : (gat p t).length ≤ 65538 := by
  have := chk_len (chk_gat t p h) (by omega)
  omega
set_option maxHeartbeats 4000000 in
theorem Of_any (t : List UInt8) (ht : t.length ≤ maxLen) (w : World) :
    Calls Tryd.prog 13 #[.string ⟨t.toArray⟩] w (Runs2 w (ofA t)) := by
  obtain ⟨post, hpost⟩ : ∃ post, post = Runs2 w (ofA t) := ⟨_, rfl⟩
  rw [← hpost]
  have HP := Lib.hid hpost; clear hpost
  have hs : (⟨t.toArray⟩ : ByteArray).size = t.length := text_size t
  unfold maxLen at ht
  by_cases h : t.length ≤ 65536
  · have hr := fun V => runs_any t 0 (by omega) (by omega) V
    have he : ofA t = (gat 0 t, 0) := by unfold ofA; rw [if_pos h]
    rw [he] at HP
    clear he
    generalize (⟨t.toArray⟩ : ByteArray) = T at *
    generalize gat 0 t = l at *
    have HR := Lib.hid hr; clear hr
    have h1 : ¬ (65536 : Int) < (T.size : Int) := by omega
    go_enter Tryd.func13, Tryd.ntmps13
    go_wp2_with fail
    with_reducible refine (HR.out w).mono ?_
    rintro E w1 ⟨A1, c1, rfl, ho1, hb1⟩
    have HO1 := Lib.hid ho1; clear ho1
    have HB1 := Lib.hid hb1; clear hb1
    go_wp2
    rw [HP.out]
    exact ⟨A1, c1, rfl, HO1.out, HB1.out⟩
  · have he : ofA t = ([], 10) := by unfold ofA; rw [if_neg h]
    rw [he] at HP
    clear he
    generalize (⟨t.toArray⟩ : ByteArray) = T at *
    have h1 : (65536 : Int) < (T.size : Int) := by omega
    go_enter Tryd.func13, Tryd.ntmps13
    go_wp2
    rw [HP.out]
    exact ⟨none, 0, rfl, OwnX.nil _ _, Below.refl _ _⟩

set_option maxRecDepth 100000 in
set_option maxHeartbeats 8000000 in
theorem Put_any (A : Option Addr) (n c B : Nat) (l : List Rn) (p : Int) (d : List UInt8) (w : World) (h : HoldsX w B A n l) (hB : B ≤ w.heap.size) (hn : n ≤ 8796093022208) (hrep : ∀ x ∈ l, x.rep)
    (hp : -9223372036854775808 ≤ p ∧ p ≤ 9223372036854775807) :
    Calls Tryd.prog 11 #[.slice A n c, .int .i64 p, .string ⟨d.toArray⟩] w (Runs2 w (putA l p d)) := by
  obtain ⟨post, hpost⟩ : ∃ post, post = Runs2 w (putA l p d) := ⟨_, rfl⟩
  rw [← hpost]
  have HP := Lib.hid hpost; clear hpost
  have hs : (⟨d.toArray⟩ : ByteArray).size = d.length := text_size d
  have hck := check_any A n c B l w h hB hn hrep
  have H := Lib.hid h
  rcases Int.lt_or_le p 0 with h1 | h1
  · have he : putA l p d = ([], 1) := by unfold putA; rw [if_pos (.inl h1)]
    rw [he] at HP
    clear he hck h
    go_enter Tryd.func11, Tryd.ntmps11
    go_wp2
    rw [HP.out]
    exact ⟨none, 0, rfl, OwnX.nil _ _, Below.refl _ _⟩
  have h1' : ¬ p < 0 := by omega
  cases hr : right l with
  | false =>
    have he : putA l p d = ([], 1) := by unfold putA; rw [if_pos (.inr hr)]
    rw [he] at HP
    rw [hr, if_neg (by decide)] at hck
    clear he h hr
    have HCK := Lib.hid hck; clear hck
    go_enter Tryd.func11, Tryd.ntmps11
    go_wp2_with fail
    with_reducible refine HCK.out.mono ?_
    rintro E w1 ⟨rfl, hb1⟩
    have HB1 := Lib.hid hb1; clear hb1
    go_wp2
    rw [HP.out]
    exact ⟨none, 0, rfl, OwnX.nil _ _, HB1.out⟩
  | true =>
    rw [hr, if_pos rfl] at hck
    have hby := fun V => beyond_any p (d.length : Int) ⟨h1, hp.2⟩ V
    have hll := right_len hr
    have hnn : n ≤ 65538 := by rw [← h.1]; exact hll
    have hok : ∀ x ∈ l, okE x := okE_right (Int.le_refl 0) hr
    rcases Int.lt_or_le (65536 - p) (d.length : Int) with h2 | h2
    · have he : putA l p d = ([], 10) := by unfold putA; rw [if_neg (by rw [hr]; simp; omega), if_pos h2]
      rw [he] at HP
      rw [← hs] at hby h2
      simp only [decide_eq_true h2] at hby
      clear he h hr hll hok
      generalize (⟨d.toArray⟩ : ByteArray) = D at *
      have HCK := Lib.hid hck; clear hck
      have HBY := Lib.hid hby; clear hby h2 hs
      go_enter Tryd.func11, Tryd.ntmps11
      go_wp2_with fail
      with_reducible refine HCK.out.mono ?_
      rintro E w1 ⟨rfl, hb1⟩
      have HB1 := Lib.hid hb1; clear hb1
      go_wp2_with fail
      with_reducible refine (HBY.out w1).mono ?_
      rintro E w2 ⟨rfl, rfl⟩
      go_wp2
      rw [HP.out]
      exact ⟨none, 0, rfl, OwnX.nil _ _, HB1.out⟩
    · have he : putA l p d = (joinP [clip 0 p l, gat p d, clip (p + (d.length : Int)) 65536 l], 0) := by unfold putA; rw [if_neg (by rw [hr]; simp; omega), if_neg (by omega)]; rfl
      rw [he] at HP
      have hd2 : p + (d.length : Int) ≤ 65536 := by omega
      have hw1 := fun V (hV : Below w.heap.size w V) => within_any A n c B l 0 p V (h.below (hV.mono hB)) (Nat.le_trans hB hV.size) (by omega) hok
      have hw2 := fun V (hV : Below w.heap.size w V) => within_any A n c B l (p + (d.length : Int)) 65536 V (h.below (hV.mono hB)) (Nat.le_trans hB hV.size) (by omega) hok
      have hru := fun V => runs_any d p h1 hd2 V
      have hk1 := chk_clip 0 p (l := l) (g := 0) hr
      have hk2 := chk_clip (p + (d.length : Int)) 65536 (l := l) (g := 0) hr
      have hlen1 := Nat.le_trans (clip_len 0 p l) hll
      have hlen2 := Nat.le_trans (clip_len (p + (d.length : Int)) 65536 l) hll
      have hlen3 := gat_len h1 hd2
      have hpok : ∀ q ∈ [clip 0 p l, gat p d, clip (p + (d.length : Int)) 65536 l], q.length ≤ 100000 ∧ ∀ x ∈ q, okE x := fun q hq => by
        simp only [List.mem_cons, List.mem_nil_iff, or_false] at hq
        rcases hq with rfl | rfl | rfl
        · exact ⟨by omega, okE_right (by omega) hk1⟩
        · exact ⟨by omega, okE_right h1 (chk_gat d p hd2)⟩
        · exact ⟨by omega, okE_right (by omega) hk2⟩
      rw [← hs] at hby h2 hd2 hw2 hpok HP
      simp only [decide_eq_false (show ¬ 65536 - p < ((⟨d.toArray⟩ : ByteArray).size : Int) by omega)] at hby
      clear he h hr hll hok hk1 hk2 hlen1 hlen2 hlen3
      generalize (⟨d.toArray⟩ : ByteArray) = D at *
      generalize clip 0 p l = l1 at *
      generalize clip (p + (D.size : Int)) 65536 l = l3 at *
      generalize gat p d = l2 at *
      have HPOK := Lib.hid hpok; clear hpok
      have HCK := Lib.hid hck; clear hck
      have HBY := Lib.hid hby; clear hby
      have HW1 := Lib.hid hw1; clear hw1
      have HW2 := Lib.hid hw2; clear hw2
      have HRU := Lib.hid hru; clear hru
      have hps : p + (D.size : Int) ≤ 9223372036854775807 := by omega
      clear hs
      go_enter Tryd.func11, Tryd.ntmps11
      go_wp2_with fail
      with_reducible refine HCK.out.mono ?_
      rintro E w1 ⟨rfl, hb1⟩
      have HB1 := Lib.hid hb1; clear hb1
      go_wp2_with fail
      with_reducible refine (HBY.out w1).mono ?_
      rintro E w2 ⟨rfl, rfl⟩
      go_wp2_with fail
      with_reducible refine (HW1.out w2 HB1.out).mono ?_
      rintro E w3 ⟨A3, c3, rfl, ho3, hb3⟩
      have HB3 : Hid (Below w.heap.size w w3) := Lib.hid (HB1.out.trans (hb3.mono HB1.out.size))
      have HO3 := Lib.hid ho3; clear ho3 hb3
      go_wp2_with fail
      with_reducible refine (HRU.out w3).mono ?_
      rintro E w4 ⟨A4, c4, rfl, ho4, hb4⟩
      have HB4 : Hid (Below w.heap.size w w4) := Lib.hid (HB3.out.trans (hb4.mono HB3.out.size))
      have HO34 := Lib.hid (HO3.out.below hb4)
      have HO4 := Lib.hid ho4; clear ho4 hb4 HO3
      go_wp2_with fail
      with_reducible refine (HW2.out w4 HB4.out).mono ?_
      rintro E w5 ⟨A5, c5, rfl, ho5, hb5⟩
      have HB5 : Hid (Below w.heap.size w w5) := Lib.hid (HB4.out.trans (hb5.mono HB4.out.size))
      have HO35 := Lib.hid (HO34.out.below hb5)
      have HO45 := Lib.hid (HO4.out.below hb5)
      have HO5 := Lib.hid ho5; clear ho5 hb5 HO34 HO4
      have hpp := holdsP3 (c1 := c3) (c2 := c4) (c3 := c5) HO35.out.reads HO45.out.reads HO5.out.reads
      have hj := joined_any _ 3 3 _ _ _ hpp (by simp) (by omega) HPOK.out
      have HJ := Lib.hid hj; clear hj hpp
      go_wp2_with fail
      with_reducible refine HJ.out.mono ?_
      rintro E w6 ⟨A6, c6, rfl, ho6, hb6⟩
      have HB6 : Hid (Below w.heap.size w w6) := Lib.hid ((HB5.out.alloc HB5.out.size _).trans (hb6.mono (Nat.le_trans HB5.out.size (by simp))))
      have HO6 := Lib.hid (OwnX.mono ho6 (Nat.le_trans HB5.out.size (by simp))); clear ho6 hb6
      go_wp2
      rw [HP.out]
      exact ⟨A6, c6, rfl, HO6.out, HB6.out⟩

set_option maxRecDepth 100000 in
set_option maxHeartbeats 8000000 in
theorem Zero_any (A : Option Addr) (n c B : Nat) (l : List Rn) (f t : Int) (w : World) (h : HoldsX w B A n l) (hB : B ≤ w.heap.size) (hn : n ≤ 8796093022208) (hrep : ∀ x ∈ l, x.rep) :
    Calls Tryd.prog 22 #[.slice A n c, .int .i64 f, .int .i64 t] w (Runs2 w (zeroA l f t)) := by
  obtain ⟨post, hpost⟩ : ∃ post, post = Runs2 w (zeroA l f t) := ⟨_, rfl⟩
  rw [← hpost]
  have HP := Lib.hid hpost; clear hpost
  have hck := check_any A n c B l w h hB hn hrep
  rcases Int.lt_or_le f 0 with h1 | h1
  · have he : zeroA l f t = ([], 1) := by unfold zeroA; rw [if_pos (.inl h1)]
    rw [he] at HP
    clear he hck h
    go_enter Tryd.func22, Tryd.ntmps22
    go_wp2
    rw [HP.out]
    exact ⟨none, 0, rfl, OwnX.nil _ _, Below.refl _ _⟩
  have h1' : ¬ f < 0 := by omega
  rcases Int.lt_or_le t f with h2 | h2
  · have he : zeroA l f t = ([], 1) := by unfold zeroA; rw [if_pos (.inr (.inl h2))]
    rw [he] at HP
    clear he hck h
    go_enter Tryd.func22, Tryd.ntmps22
    go_wp2
    rw [HP.out]
    exact ⟨none, 0, rfl, OwnX.nil _ _, Below.refl _ _⟩
  have h2' : ¬ t < f := by omega
  cases hr : right l with
  | false =>
    have he : zeroA l f t = ([], 1) := by unfold zeroA; rw [if_pos (.inr (.inr hr))]
    rw [he] at HP
    rw [hr, if_neg (by decide)] at hck
    clear he h hr
    have HCK := Lib.hid hck; clear hck
    go_enter Tryd.func22, Tryd.ntmps22
    go_wp2_with fail
    with_reducible refine HCK.out.mono ?_
    rintro E w1 ⟨rfl, hb1⟩
    have HB1 := Lib.hid hb1; clear hb1
    go_wp2
    rw [HP.out]
    exact ⟨none, 0, rfl, OwnX.nil _ _, HB1.out⟩
  | true =>
    rw [hr, if_pos rfl] at hck
    have hll := right_len hr
    have hnn : n ≤ 65538 := by rw [← h.1]; exact hll
    have hok : ∀ x ∈ l, okE x := okE_right (Int.le_refl 0) hr
    have he : zeroA l f t = (joinP [clip 0 f l, clip t 65536 l], 0) := by unfold zeroA; rw [if_neg (by rw [hr]; simp; omega)]; rfl
    rw [he] at HP
    have hw1 := fun V (hV : Below w.heap.size w V) => within_any A n c B l 0 f V (h.below (hV.mono hB)) (Nat.le_trans hB hV.size) (by omega) hok
    have hw2 := fun V (hV : Below w.heap.size w V) => within_any A n c B l t 65536 V (h.below (hV.mono hB)) (Nat.le_trans hB hV.size) (by omega) hok
    have hk1 := chk_clip 0 f (l := l) (g := 0) hr
    have hk2 := chk_clip t 65536 (l := l) (g := 0) hr
    have hlen1 := Nat.le_trans (clip_len 0 f l) hll
    have hlen2 := Nat.le_trans (clip_len t 65536 l) hll
    have hpok : ∀ q ∈ [clip 0 f l, clip t 65536 l], q.length ≤ 100000 ∧ ∀ x ∈ q, okE x := fun q hq => by
      simp only [List.mem_cons, List.mem_nil_iff, or_false] at hq
      rcases hq with rfl | rfl
      · exact ⟨by omega, okE_right (by omega) hk1⟩
      · exact ⟨by omega, okE_right (by omega) hk2⟩
    clear he h hr hll hok hk1 hk2 hlen1 hlen2
    generalize clip 0 f l = l1 at *
    generalize clip t 65536 l = l3 at *
    have HPOK := Lib.hid hpok; clear hpok
    have HCK := Lib.hid hck; clear hck
    have HW1 := Lib.hid hw1; clear hw1
    have HW2 := Lib.hid hw2; clear hw2
    go_enter Tryd.func22, Tryd.ntmps22
    go_wp2_with fail
    with_reducible refine HCK.out.mono ?_
    rintro E w1 ⟨rfl, hb1⟩
    have HB1 := Lib.hid hb1; clear hb1
    go_wp2_with fail
    with_reducible refine (HW1.out w1 HB1.out).mono ?_
    rintro E w3 ⟨A3, c3, rfl, ho3, hb3⟩
    have HB3 : Hid (Below w.heap.size w w3) := Lib.hid (HB1.out.trans (hb3.mono HB1.out.size))
    have HO3 := Lib.hid ho3; clear ho3 hb3
    go_wp2_with fail
    with_reducible refine (HW2.out w3 HB3.out).mono ?_
    rintro E w5 ⟨A5, c5, rfl, ho5, hb5⟩
    have HB5 : Hid (Below w.heap.size w w5) := Lib.hid (HB3.out.trans (hb5.mono HB3.out.size))
    have HO35 := Lib.hid (HO3.out.below hb5)
    have HO5 := Lib.hid ho5; clear ho5 hb5 HO3
    have hpp := holdsP2 (c1 := c3) (c2 := c5) HO35.out.reads HO5.out.reads
    have hj := joined_any _ 2 2 _ _ _ hpp (by simp) (by omega) HPOK.out
    have HJ := Lib.hid hj; clear hj hpp
    go_wp2_with fail
    with_reducible refine HJ.out.mono ?_
    rintro E w6 ⟨A6, c6, rfl, ho6, hb6⟩
    have HB6 : Hid (Below w.heap.size w w6) := Lib.hid ((HB5.out.alloc HB5.out.size _).trans (hb6.mono (Nat.le_trans HB5.out.size (by simp))))
    have HO6 := Lib.hid (OwnX.mono ho6 (Nat.le_trans HB5.out.size (by simp))); clear ho6 hb6
    go_wp2
    rw [HP.out]
    exact ⟨A6, c6, rfl, HO6.out, HB6.out⟩

set_option maxRecDepth 100000 in
set_option maxHeartbeats 4000000 in
theorem End_any (A : Option Addr) (n c B : Nat) (l : List Rn) (w : World) (h : HoldsX w B A n l) (hB : B ≤ w.heap.size) (hn : n ≤ 8796093022208) (hrep : ∀ x ∈ l, x.rep) :
    Calls Tryd.prog 18 #[.slice A n c] w fun e w' => e = .returned (.int .i64 (endA l)) ∧ Below w.heap.size w w' := by
  obtain ⟨r, hr⟩ : ∃ r, r = endA l := ⟨_, rfl⟩
  rw [← hr]
  have hln := h.1
  have hck := check_any A n c B l w h hB hn hrep
  rcases List.eq_nil_or_concat l with hl | ⟨l0, y, hl⟩
  · subst hl
    have hn0 : n = 0 := hln.symm
    have hr0 : r = 0 := by rw [hr]; rfl
    subst hn0
    have HR := Lib.hid hr0; clear hck hr hr0 h
    go_enter Tryd.func18, Tryd.ntmps18
    go_wp2
    go_ret
    exact ⟨by rw [HR.out]; rfl, Below.refl _ _⟩
  · have hl' : l = l0 ++ [y] := by rw [hl]; simp
    subst hl'
    clear hl
    have hnl : n = l0.length + 1 := by rw [← hln]; simp
    obtain ⟨m, hm⟩ : ∃ m, m = l0.length := ⟨_, rfl⟩
    rw [← hm] at hnl
    have hz : ((n : Int) == 0) = false := beq_false_of_ne (by omega)
    cases hrt : right (l0 ++ [y]) with
    | false =>
      have hr0 : r = 0 := by rw [hr]; unfold endA; rw [hrt]; rfl
      rw [hrt, if_neg (by decide)] at hck
      have HR := Lib.hid hr0; clear hr hr0 h hrt hm
      have HCK := Lib.hid hck; clear hck
      have HNL := Lib.hid hnl; clear hnl hln
      go_enter Tryd.func18, Tryd.ntmps18
      go_wp2_with fail
      with_reducible refine HCK.out.mono ?_
      rintro E w1 ⟨rfl, hb1⟩
      have HB1 := Lib.hid hb1; clear hb1
      go_wp2
      go_ret
      exact ⟨by rw [HR.out]; rfl, HB1.out⟩
    | true =>
      have hr0 : r = y.e := by rw [hr]; unfold endA; rw [hrt, if_pos rfl, endL_snoc]
      rw [hrt, if_pos rfl] at hck
      have hyo := okE_right (Int.le_refl 0) hrt y (by simp)
      have hby := fun V => behind_any y hyo.1 (by have := hyo.2.2; omega) V
      rw [← hr0] at hby
      obtain ⟨b, off, rfl, hbB⟩ := h.addr (by omega)
      have hld : ∀ V, Below w.heap.size w V → (ldX (.pointer (some ⟨b, off + m * 2, none⟩))).run Tryd.prog V = .ok (.agg y.c) V := fun V hV => by
        have h1 := run_ldX_at (h.below (hV.mono hB)) m (by rw [hm]; simp) (off + m * 2) rfl
        have h2 : (l0 ++ [y])[m]'(by rw [hm]; simp) = y := by simp [hm]
        rw [h2] at h1
        exact h1
      have hlast : (n : Int) - 1 = (m : Int) := by omega
      have hm0 : (0 : Int) ≤ (m : Int) := by omega
      have hmn : (m : Int) < (n : Int) := by omega
      obtain ⟨C, hC⟩ : ∃ C, C = y.c := ⟨_, rfl⟩
      simp only [← hC] at hby hld
      clear hC hr hrt hr0 hm h hyo
      have HCK := Lib.hid hck; clear hck
      have HNL := Lib.hid hnl; clear hnl hln
      have HBY := Lib.hid hby; clear hby
      have HLD := Lib.hid hld; clear hld
      go_enter Tryd.func18, Tryd.ntmps18
      go_wp2_with fail
      with_reducible refine HCK.out.mono ?_
      rintro E w1 ⟨rfl, hb1⟩
      have q := HLD.out w1 hb1
      have HB1 := Lib.hid hb1; clear hb1
      go_wp2_with fail
      with_reducible refine (HBY.out w1).mono ?_
      rintro E w2 ⟨rfl, hb2⟩
      have HB2 : Hid (Below w.heap.size w w2) := Lib.hid (HB1.out.trans (hb2.mono HB1.out.size))
      clear hb2 q
      go_wp2
      go_ret
      exact ⟨rfl, HB2.out⟩
end Go.Proofs.YtmbmjdogfjmlpaaDoor.Sp
