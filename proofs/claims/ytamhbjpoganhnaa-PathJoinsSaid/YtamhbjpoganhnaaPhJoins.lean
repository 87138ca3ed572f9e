/- Join: a path of parts; the program's and the document's. -/
import Derived.Test.YtamhbjpoganhnaaPhPlainC
import Derived.Test.YtamhbjpoganhnaaPhJoin
import Derived.Laws.Concat
namespace Go.Proofs.Ytamhbjpoganhnaa.Ph
set_option maxRecDepth 20000
set_option linter.unusedSimpArgs false
open Go Go.RowKit
open Go.Proofs.Ytamhbjpoganhnaa.Lf Go.Proofs.Ytamhbjpoganhnaa.Mem Go.Proofs.Ytamhbjpoganhnaa.Reg

theorem joinB_nil : joinB [] = [] := rfl
theorem joinB_succ (l : List (List UInt8)) (k : Nat) (h : k < l.length) : joinB (l.take (k + 1)) = joinB (l.take k) ++ 47 :: l[k] := by
  unfold joinB
  rw [List.take_succ_eq_append_getElem h, List.flatMap_append]
  simp
theorem joinB_len_succ (l : List (List UInt8)) (k : Nat) (h : k < l.length) : (joinB (l.take (k + 1))).length = (joinB (l.take k)).length + 1 + (l[k]).length := by
  rw [joinB_succ l k h, List.length_append, List.length_cons]
  omega
theorem ok_len {x : List UInt8} (h : okP x = true) : x.length ≤ 32 := by
  unfold okP at h
  rw [Bool.or_eq_true] at h
  rcases h with h | h
  · rw [beq_iff_eq] at h
    subst h
    decide
  · unfold may at h
    rw [Bool.and_eq_true, decide_eq_true_iff] at h
    exact h.1.2
theorem ok_pos {x : List UInt8} (h : okP x = true) : 1 ≤ x.length := by
  unfold okP at h
  rw [Bool.or_eq_true] at h
  rcases h with h | h
  · rw [beq_iff_eq] at h
    subst h
    decide
  · unfold may at h
    rw [Bool.and_eq_true, decide_eq_true_iff] at h
    exact h.1.1
theorem all_succ (l : List (List UInt8)) (k : Nat) (h : k < l.length) : (l.take (k + 1)).all okP = ((l.take k).all okP && okP l[k]) := by
  rw [List.take_succ_eq_append_getElem h, List.all_append]
  simp
theorem all_no {l : List (List UInt8)} {k : Nat} (h : k < l.length) (hn : okP l[k] = false) : l.all okP = false := by
  rw [← Bool.not_eq_true, List.all_eq_true]
  intro e
  rw [e _ (List.getElem_mem h)] at hn
  cases hn
theorem joinB_bound : ∀ l : List (List UInt8), l.all okP = true → (joinB l).length ≤ 33 * l.length ∧ l.length ≤ (joinB l).length
  | [], _ => ⟨by simp [joinB], by simp [joinB]⟩
  | x :: l, h => by
    rw [List.all_cons, Bool.and_eq_true] at h
    have h1 := joinB_bound l h.2
    have h2 := ok_len h.1
    unfold joinB at h1 ⊢
    rw [List.flatMap_cons, List.length_append, List.length_cons, List.length_cons]
    omega
theorem tail_eq : ∀ l : List (List UInt8), Lib.joinTail [47] l = joinB l
  | [] => rfl
  | x :: l => by
    have := tail_eq l
    unfold Lib.joinTail joinB at this ⊢
    rw [List.map_cons, List.flatten_cons, List.flatMap_cons, this]
    rfl
theorem join_eq {l : List (List UInt8)} (h : l ≠ []) : joinB l = 47 :: Lib.join l [47] := by
  cases l with
  | nil => exact absurd rfl h
  | cons x l =>
    rw [Lib.join_cons, tail_eq]
    unfold joinB
    rw [List.flatMap_cons]
    rfl
/-- What Join's answer is. -/
def Join2 (w : World) (r : List UInt8 × Int) (e : Ending) (w' : World) : Prop := e = .returned (.tuple #[.string ⟨r.1.toArray⟩, .int .i64 r.2]) ∧ Below w.heap.size w w'
theorem mk_nil : (⟨#[]⟩ : ByteArray) = ⟨([] : List UInt8).toArray⟩ := rfl
theorem libjoin_any (A : Option Addr) (n c B : Nat) (l : List (List UInt8)) (w : World) (h : HoldsC SK w B A n l) (hB : B ≤ w.heap.size) (hc : n ≤ c) (hl : (joinB l).length ≤ 256) (hn : n ≤ 256) :
    Calls Try.prog 20 #[.slice A n c, .string ⟨#[47]⟩] w fun e w' => e = .returned (.string ⟨(Lib.join l [47]).toArray⟩) ∧ Below w.heap.size w w' := by
  have hln := h.1
  rcases Nat.eq_zero_or_pos n with h0 | h0
  · subst h0
    have : l = [] := List.eq_nil_of_length_eq_zero hln
    subst this
    refine (strings_Join_none A c ⟨#[47]⟩ w).mono ?_
    rintro e w' ⟨rfl, rfl⟩
    exact ⟨rfl, Below.refl _ _⟩
  · obtain ⟨b, off, rfl, hb⟩ := h.addr h0
    have hm : (l.map (fun x : List UInt8 => (⟨x.toArray⟩ : ByteArray))).map (·.data.toList) = l := by rw [List.map_map]; exact List.map_id'' (fun x => rfl) l
    have hne : l ≠ [] := by rintro rfl; simp at hln; omega
    have := strings_Join b off c (l.map (fun x : List UInt8 => (⟨x.toArray⟩ : ByteArray))) ⟨#[47]⟩ w (fun j x hx => by
        rw [List.getElem?_map] at hx
        obtain ⟨y, hy, rfl⟩ := Option.map_eq_some_iff.1 hx
        obtain ⟨hj, rfl⟩ := List.getElem?_eq_some_iff.1 hy
        exact sk_cell h j hj) (by omega) (by simp; omega) (by simp; omega) (by
        rw [hm]
        have := congrArg List.length (join_eq hne)
        rw [List.length_cons] at this
        show (Lib.join l [47]).length ≤ _
        omega)
    rw [hm, List.length_map, hln] at this
    exact this
set_option maxHeartbeats 8000000 in
theorem join_any (A : Option Addr) (n c B : Nat) (l : List (List UInt8)) (w : World) (h : HoldsC SK w B A n l) (hB : B ≤ w.heap.size) (hn : n ≤ 8796093021952) (hc : n ≤ c) (hmx : ∀ x ∈ l, x.length ≤ maxLen) :
    Calls Try.prog 12 #[.slice A n c] w (Join2 w (joinP l)) := by
  obtain ⟨post, hpost⟩ : ∃ post, post = Join2 w (joinP l) := ⟨_, rfl⟩
  rw [← hpost]
  have HPO := Lib.hid hpost; clear hpost
  have H := Lib.hid h
  have HLN := Lib.hid h.1
  have HMX := Lib.hid hmx
  clear h hmx
  go_enter Try.func12, Try.ntmps12
  go_wp2
  go_loopw [4, 9] (fun lv i wr => ∃ (k L : Nat), k ≤ n ∧ L ≤ 33 * k ∧ i = .int .i64 (k : Int) ∧ lv = .int .i64 (L : Int) ∧ Hid (L = (joinB (l.take k)).length) ∧ Hid ((l.take k).all okP = true) ∧ Hid (Below w.heap.size w wr)) (fun _ i _ => n - (intOf i).toNat)
  case atStart => exact ⟨0, 0, Nat.zero_le _, Nat.zero_le _, rfl, rfl, Lib.hid rfl, Lib.hid rfl, Lib.hid (Below.refl _ _)⟩
  case round =>
    obtain ⟨U0, hU0⟩ : ∃ U0, U0 = wr := ⟨_, rfl⟩
    subst hU0
    obtain ⟨k, L, hk, hL33, rfl, rfl, HL, HALL, HBR⟩ := hrel
    rcases Nat.lt_or_ge k n with hlt | hge
    · obtain ⟨b, off, rfl, hbB⟩ := H.out.addr (by omega)
      have hkl : k < l.length := by have := HLN.out; omega
      have hcell := sk_cell (H.out.below (HBR.out.mono hB)) k hkl
      have hmx := HMX.out l[k] (List.getElem_mem hkl)
      have htl := text_tl2 l[k]
      have hxs : (⟨(l[k]).toArray⟩ : ByteArray).size = (l[k]).length := by simp [ByteArray.size]
      have hsu := joinB_len_succ l k hkl
      have has := all_succ l k hkl
      have han := @all_no l k hkl
      have hol := @ok_len l[k]
      have hk0 : (0 : Int) ≤ (k : Int) := by omega
      have hkn : (k : Int) < (n : Int) := by omega
      have hMay : ∀ W, Calls Try.prog 19 #[.string ⟨(l[k]).toArray⟩] W fun e w' => e = .returned (.bool (may l[k])) ∧ w' = W := fun W => may_any ⟨(l[k]).toArray⟩ (by rw [hxs]; exact hmx) W
      have hok : okP l[k] = ((l[k] == [46, 46]) || may l[k]) := rfl
      generalize l[k] = x at *
      generalize (⟨x.toArray⟩ : ByteArray) = X at *
      have HMAY := Lib.hid hMay; clear hMay
      have HSU := Lib.hid hsu; clear hsu
      have HAS := Lib.hid has; clear has
      have HAN := Lib.hid han; clear han
      rcases Decidable.em (x = [46, 46]) with hx | hx
      · subst hx
        have hokt : okP [46, 46] = true := by rw [hok]; rfl
        have hx2 : ([46, 46] : List UInt8).length = 2 := rfl
        have hal : (l.take (k + 1)).all okP = true := by rw [HAS.out, HALL.out, hokt]; rfl
        have HAL := Lib.hid hal; clear hal hok hokt hol
        rw [hx2] at hxs HSU
        have hnl : Hid (L + 3 = (joinB (l.take (k + 1))).length) := Lib.hid (by have := HL.out; have := HSU.out; omega)
        go_wp2
        exact ⟨⟨k + 1, L + 3, by omega, by omega, by go_num, by go_num, hnl, HAL, HBR⟩, by simp [intOf]; omega⟩
      have e2 : (X.toList == [46, 46]) = false := by rw [htl]; exact beq_false_of_ne hx
      have e3 : ¬ X.toList = [46, 46] := by rw [htl]; exact hx
      have hok2 : okP x = may x := by rw [hok, beq_false_of_ne hx]; rfl
      clear hok hx htl
      generalize may x = q at *
      cases q with
      | false =>
        have hr : post = Join2 w ([], 1) := by
          rw [HPO.out]
          unfold joinP
          rw [HAN.out hok2]
          rfl
        have HRR := Lib.hid hr; clear hr
        go_wp2_with (with_reducible refine (HMAY.out _).mono ?_; rintro e w' ⟨rfl, rfl⟩)
        rw [HRR.out]
        exact ⟨rfl, HBR.out⟩
      | true =>
        have hal : (l.take (k + 1)).all okP = true := by rw [HAS.out, HALL.out, hok2]; rfl
        have HAL := Lib.hid hal; clear hal
        have hx32 := hol hok2
        have hnl : Hid (L + (1 + x.length) = (joinB (l.take (k + 1))).length) := Lib.hid (by have := HL.out; have := HSU.out; omega)
        clear hok2 hol
        generalize x.length = m at *
        go_wp2_with (with_reducible refine (HMAY.out _).mono ?_; rintro e w' ⟨rfl, rfl⟩)
        exact ⟨⟨k + 1, L + (1 + m), by omega, by omega, by go_num, by go_num, hnl, HAL, HBR⟩, by simp [intOf]; omega⟩
    · have hkn : ¬ (k : Int) < (n : Int) := by omega
      have htk : l.take k = l := List.take_of_length_le (by have := HLN.out; omega)
      rw [htk] at HL HALL
      clear htk
      rcases Nat.lt_or_ge 256 L with hlong | hshort
      · have hr : post = Join2 w ([], 2) := by
          rw [HPO.out]
          unfold joinP
          rw [HALL.out, if_pos rfl, if_pos (by have := HL.out; omega)]
        have HRR := Lib.hid hr; clear hr
        have hl2 : (256 : Int) < (L : Int) := by omega
        go_wp2
        rw [HRR.out]
        exact ⟨rfl, HBR.out⟩
      have hl2 : ¬ (256 : Int) < (L : Int) := by omega
      have hr : post = Join2 w (if l = [] then [47] else joinB l, 0) := by
        rw [HPO.out]
        unfold joinP
        rw [HALL.out, if_pos rfl, if_neg (by have := HL.out; omega)]
      have HRR := Lib.hid hr; clear hr
      have hb2 := joinB_bound l HALL.out
      have hn256 : n ≤ 256 := by have := HL.out; have := HLN.out; omega
      have hj : ∀ W, Below w.heap.size w W → Calls Try.prog 20 #[.slice A n c, .string ⟨#[47]⟩] W fun e w' => e = .returned (.string ⟨(Lib.join l [47]).toArray⟩) ∧ Below W.heap.size W w' := fun W hW => libjoin_any A n c B l W (H.out.below (hW.mono hB)) (Nat.le_trans hB hW.size) hc (by have := HL.out; omega) hn256
      have HJ := Lib.hid (hj U0 HBR.out); clear hj
      have hjl : (Lib.join l [47]).length ≤ 256 := by
        rcases Decidable.em (l = []) with e | e
        · subst e; simp [Lib.join_nil]
        · have := congrArg List.length (join_eq e)
          rw [List.length_cons] at this
          have := HL.out
          omega
      have hadd : ∀ W, (Op.stringOp .add ⟨#[47]⟩ ⟨(Lib.join l [47]).toArray⟩).run Try.prog W = .ok (.string ⟨(47 :: Lib.join l [47]).toArray⟩) W := fun W => by
        have := run_string_add_sum (P := Try.prog) (w := W) ⟨#[47]⟩ ⟨(Lib.join l [47]).toArray⟩ (by simp [ByteArray.size]; omega)
        rw [this, show (⟨#[47]⟩ : ByteArray) = ⟨([47] : List UInt8).toArray⟩ from rfl, ByteArray.mk_append_mk]
        rfl
      have hval : (47 :: Lib.join l [47]) = (if l = [] then [47] else joinB l) := by
        rcases Decidable.em (l = []) with e | e
        · subst e; rfl
        · rw [if_neg e, join_eq e]
      have HVAL := Lib.hid hval; clear hval hjl hb2
      generalize 47 :: Lib.join l [47] = R at *
      generalize (⟨(Lib.join l [47]).toArray⟩ : ByteArray) = J at *
      generalize hRR : (⟨R.toArray⟩ : ByteArray) = RB at *
      go_wp2_with (with_reducible refine HJ.out.mono ?_; rintro e w' ⟨rfl, hbj⟩; have HBJ := Lib.hid hbj; clear hbj)
      rw [HRR.out, ← HVAL.out]
      subst hRR
      exact ⟨rfl, HBR.out.trans (HBJ.out.mono HBR.out.size)⟩
set_option maxHeartbeats 8000000 in
theorem rjoin_any (A : Option Addr) (n c B : Nat) (l : List (List UInt8)) (w : World) (h : HoldsC SK w B A n l) (hB : B ≤ w.heap.size) (hn : n ≤ 8796093021952) (hmx : ∀ x ∈ l, x.length ≤ maxLen) :
    Calls Try.prog 13 #[.slice A n c] w (Join2 w (joinP l)) := by
  obtain ⟨post, hpost⟩ : ∃ post, post = Join2 w (joinP l) := ⟨_, rfl⟩
  rw [← hpost]
  have HPO := Lib.hid hpost; clear hpost
  have H := Lib.hid h
  have HLN := Lib.hid h.1
  have HMX := Lib.hid hmx
  clear h hmx
  go_enter Try.func13, Try.ntmps13
  go_wp2
  go_loopw [4, 5] (fun lv i wr => ∃ (k L : Nat), k ≤ n ∧ L ≤ 33 * k ∧ i = .int .i64 (k : Int) ∧ lv = .int .i64 (L : Int) ∧ Hid (L = (joinB (l.take k)).length) ∧ Hid ((l.take k).all okP = true) ∧ Hid (Below w.heap.size w wr)) (fun _ i _ => n - (intOf i).toNat)
  case atStart => exact ⟨0, 0, Nat.zero_le _, Nat.zero_le _, rfl, rfl, Lib.hid rfl, Lib.hid rfl, Lib.hid (Below.refl _ _)⟩
  case round =>
    obtain ⟨U0, hU0⟩ : ∃ U0, U0 = wr := ⟨_, rfl⟩
    subst hU0
    obtain ⟨k, L, hk, hL33, rfl, rfl, HL, HALL, HBR⟩ := hrel
    rcases Nat.lt_or_ge k n with hlt | hge
    · obtain ⟨b, off, rfl, hbB⟩ := H.out.addr (by omega)
      have hkl : k < l.length := by have := HLN.out; omega
      have hcell := sk_cell (H.out.below (HBR.out.mono hB)) k hkl
      have hmx := HMX.out l[k] (List.getElem_mem hkl)
      have htl := text_tl2 l[k]
      have hxs : (⟨(l[k]).toArray⟩ : ByteArray).size = (l[k]).length := by simp [ByteArray.size]
      have hsu := joinB_len_succ l k hkl
      have has := all_succ l k hkl
      have han := @all_no l k hkl
      have hol := @ok_len l[k]
      have hk0 : (0 : Int) ≤ (k : Int) := by omega
      have hkn : (k : Int) < (n : Int) := by omega
      have hMay : ∀ W, Calls Try.prog 21 #[.string ⟨(l[k]).toArray⟩] W fun e w' => e = .returned (.bool (may l[k])) ∧ w' = W := fun W => rmay_any ⟨(l[k]).toArray⟩ (by rw [hxs]; exact hmx) W
      have hok : okP l[k] = ((l[k] == [46, 46]) || may l[k]) := rfl
      generalize l[k] = x at *
      generalize (⟨x.toArray⟩ : ByteArray) = X at *
      have HMAY := Lib.hid hMay; clear hMay
      have HSU := Lib.hid hsu; clear hsu
      have HAS := Lib.hid has; clear has
      have HAN := Lib.hid han; clear han
      rcases Decidable.em (x = [46, 46]) with hx | hx
      · subst hx
        have hokt : okP [46, 46] = true := by rw [hok]; rfl
        have hx2 : ([46, 46] : List UInt8).length = 2 := rfl
        have hal : (l.take (k + 1)).all okP = true := by rw [HAS.out, HALL.out, hokt]; rfl
        have HAL := Lib.hid hal; clear hal hok hokt hol
        rw [hx2] at hxs HSU
        have hnl : Hid (L + 3 = (joinB (l.take (k + 1))).length) := Lib.hid (by have := HL.out; have := HSU.out; omega)
        go_wp2
        exact ⟨⟨k + 1, L + 3, by omega, by omega, by go_num, by go_num, hnl, HAL, HBR⟩, by simp [intOf]; omega⟩
      have e2 : (X.toList == [46, 46]) = false := by rw [htl]; exact beq_false_of_ne hx
      have e3 : ¬ X.toList = [46, 46] := by rw [htl]; exact hx
      have hok2 : okP x = may x := by rw [hok, beq_false_of_ne hx]; rfl
      clear hok hx htl
      generalize may x = q at *
      cases q with
      | false =>
        have hr : post = Join2 w ([], 1) := by
          rw [HPO.out]
          unfold joinP
          rw [HAN.out hok2]
          rfl
        have HRR := Lib.hid hr; clear hr
        go_wp2_with (with_reducible refine (HMAY.out _).mono ?_; rintro e w' ⟨rfl, rfl⟩)
        rw [HRR.out]
        exact ⟨rfl, HBR.out⟩
      | true =>
        have hal : (l.take (k + 1)).all okP = true := by rw [HAS.out, HALL.out, hok2]; rfl
        have HAL := Lib.hid hal; clear hal
        have hx32 := hol hok2
        have hnl : Hid (L + (1 + x.length) = (joinB (l.take (k + 1))).length) := Lib.hid (by have := HL.out; have := HSU.out; omega)
        clear hok2 hol
        generalize x.length = m at *
        go_wp2_with (with_reducible refine (HMAY.out _).mono ?_; rintro e w' ⟨rfl, rfl⟩)
        exact ⟨⟨k + 1, L + (1 + m), by omega, by omega, by go_num, by go_num, hnl, HAL, HBR⟩, by simp [intOf]; omega⟩
    · have hkn : ¬ (k : Int) < (n : Int) := by omega
      have htk : l.take k = l := List.take_of_length_le (by have := HLN.out; omega)
      rw [htk] at HL HALL
      clear htk
      rcases Nat.lt_or_ge 256 L with hlong | hshort
      · have hr : post = Join2 w ([], 2) := by
          rw [HPO.out]
          unfold joinP
          rw [HALL.out, if_pos rfl, if_pos (by have := HL.out; omega)]
        have HRR := Lib.hid hr; clear hr
        have hl2 : (256 : Int) < (L : Int) := by omega
        go_wp2
        rw [HRR.out]
        exact ⟨rfl, HBR.out⟩
      have hl2 : ¬ (256 : Int) < (L : Int) := by omega
      have hr : post = Join2 w (if l = [] then [47] else joinB l, 0) := by
        rw [HPO.out]
        unfold joinP
        rw [HALL.out, if_pos rfl, if_neg (by have := HL.out; omega)]
      have HRR := Lib.hid hr; clear hr
      have hb2 := joinB_bound l HALL.out
      have hn256 : n ≤ 256 := by have := HL.out; have := HLN.out; omega
      go_wp2
      go_loopw [6, 7] (fun sv i wr => ∃ (k : Nat) (X : ByteArray), k ≤ n ∧ i = .int .i64 (k : Int) ∧ sv = .string X ∧ Hid (X = ⟨(joinB (l.take k)).toArray⟩) ∧ Hid (Below w.heap.size w wr)) (fun _ i _ => n - (intOf i).toNat)
      case atStart => exact ⟨0, _, Nat.zero_le _, rfl, rfl, Lib.hid rfl, HBR⟩
      case round =>
        clear HBR hkn
        obtain ⟨U1, hU1⟩ : ∃ U1, U1 = wr := ⟨_, rfl⟩
        subst hU1
        obtain ⟨j, X, hj, rfl, rfl, HX, HBR⟩ := hrel
        rcases Nat.lt_or_ge j n with hlt | hge2
        · obtain ⟨b, off, rfl, hbB⟩ := H.out.addr (by omega)
          have hjl : j < l.length := by have := HLN.out; omega
          have hcell := sk_cell (H.out.below (HBR.out.mono hB)) j hjl
          have hpre : (l.take j).all okP = true := by
            have := HALL.out
            rw [List.all_eq_true] at this ⊢
            exact fun x hx => this x (List.mem_of_mem_take hx)
          have hb3 := (joinB_bound (l.take j) hpre).1
          rw [List.length_take] at hb3
          have hx32 : (l[j]).length ≤ 32 := ok_len ((List.all_eq_true.1 HALL.out) _ (List.getElem_mem hjl))
          have hsu := joinB_succ l j hjl
          have hj0 : (0 : Int) ≤ (j : Int) := by omega
          have hjn : (j : Int) < (n : Int) := by omega
          have hadd1 : ∀ W, (Op.stringOp .add ⟨#[47]⟩ ⟨(l[j]).toArray⟩).run Try.prog W = .ok (.string ⟨(47 :: l[j]).toArray⟩) W := fun W => by
            have := run_string_add_sum (P := Try.prog) (w := W) ⟨#[47]⟩ ⟨(l[j]).toArray⟩ (by simp [ByteArray.size]; omega)
            rw [this, show (⟨#[47]⟩ : ByteArray) = ⟨([47] : List UInt8).toArray⟩ from rfl, ByteArray.mk_append_mk]
            rfl
          have hadd2 : ∀ W, (Op.stringOp .add X ⟨(47 :: l[j]).toArray⟩).run Try.prog W = .ok (.string ⟨(joinB (l.take (j + 1))).toArray⟩) W := fun W => by
            rw [HX.out]
            have := run_string_add_sum (P := Try.prog) (w := W) ⟨(joinB (l.take j)).toArray⟩ ⟨(47 :: l[j]).toArray⟩ (by simp [ByteArray.size]; omega)
            rw [this, ByteArray.mk_append_mk, hsu]
          clear hsu hb3 hpre hx32
          generalize hZ : (⟨(joinB (l.take (j + 1))).toArray⟩ : ByteArray) = Z at *
          generalize (⟨(47 :: l[j]).toArray⟩ : ByteArray) = Y at *
          generalize (⟨(l[j]).toArray⟩ : ByteArray) = P at *
          have HZ := Lib.hid hZ; clear hZ
          go_wp2
          exact ⟨⟨j + 1, Z, by omega, by go_num, rfl, Lib.hid HZ.out.symm, HBR⟩, by simp [intOf]; omega⟩
        · have hjn : ¬ (j : Int) < (n : Int) := by omega
          have htk : l.take j = l := List.take_of_length_le (by have := HLN.out; omega)
          rw [htk] at HX
          have hXl : X.toList = joinB l := by rw [HX.out]; exact text_tl2 _
          have hnil : l ≠ [] → joinB l ≠ [] := fun e => by rw [join_eq e]; simp
          clear htk
          rcases Decidable.em (l = []) with e | e
          · subst e
            have HXX : Hid (X = ⟨#[]⟩) := Lib.hid HX.out
            rw [joinB_nil] at hXl
            clear HX hnil
            go_wp2
            rw [HRR.out]
            exact ⟨rfl, HBR.out⟩
          · have hx1 : ¬ X.toList = [] := by rw [hXl]; exact hnil e
            have hx2 : X.toList.isEmpty = false := by rw [hXl]; have := hnil e; cases hq : joinB l with | nil => exact absurd hq this | cons => rfl
            have hx3 : (X.toList == []) = false := beq_false_of_ne hx1
            rw [if_neg e] at HRR
            clear hXl hnil e
            go_wp2
            rw [HRR.out, HX.out]
            exact ⟨rfl, HBR.out⟩
end Go.Proofs.Ytamhbjpoganhnaa.Ph
