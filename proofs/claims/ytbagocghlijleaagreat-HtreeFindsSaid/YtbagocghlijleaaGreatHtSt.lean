/- Set: the program's call. -/
import Derived.Test.YtbagocghlijleaaGreatHtDel
namespace Go.Proofs.YtbagocghlijleaaGreat.Ht
set_option maxRecDepth 20000
open Go.RowKit
open Go.Proofs.YtbagocghlijleaaGreat.Mem Go.Proofs.YtbagocghlijleaaGreat.Crc Go.Proofs.YtbagocghlijleaaGreat.Rec Go.Proofs.YtbagocghlijleaaGreat.Reg Go.Proofs.YtbagocghlijleaaGreat.Lf

theorem ordN_irrefl (a : Nm) : ordN a a = false := by unfold ordN; exact less_irrefl _
theorem ordB_irrefl (a : Nm) : ordB a a = false := bel_irrefl _
theorem sortN_same {l m : List Nm} (hl : apart l) (hm : apart m) (h : ∀ y, y ∈ l ↔ y ∈ m) : sortR ordN l = sortR ordN m :=
  pair_unique ordN_trans ordN_irrefl _ _ (sortR_pair ordN_trans _ (apart_N hl)) (sortR_pair ordN_trans _ (apart_N hm)) (fun y => by rw [sortR_mem, sortR_mem, h])
theorem sortB_same {l m : List Nm} (hl : l.Pairwise (fun a b => ordB a b = true)) (hm : apart m) (h : ∀ y, y ∈ l ↔ y ∈ m) : l = sortR ordB m :=
  pair_unique ordB_trans ordB_irrefl _ _ hl (sortR_pair ordB_trans _ (apart_B hm)) (fun y => by rw [sortR_mem, h])
theorem apart_of_B {l : List Nm} (h : l.Pairwise (fun a b => ordB a b = true)) : apart l := List.Pairwise.imp (fun {a b} hab e => by
  unfold ordB at hab
  rw [e, bel_irrefl] at hab
  cases hab) h
theorem put_pair (e : Nm) : ∀ (es : List Nm), es.Pairwise (fun a b => ordB a b = true) → (∀ x ∈ es, x.t ≠ e.t) → (es.take (posB es e) ++ e :: es.drop (posB es e)).Pairwise (fun a b => ordB a b = true)
  | [], _, _ => by simp [posB]
  | y :: es, hp, hn => by
    obtain ⟨hy, hp'⟩ := List.pairwise_cons.1 hp
    cases hb : ordB y e with
    | true =>
      have e1 : posB (y :: es) e = posB es e + 1 := by unfold posB; rw [List.takeWhile_cons_of_pos (by simpa using hb), List.length_cons]
      rw [e1, List.take_succ_cons, List.drop_succ_cons, List.cons_append]
      refine List.pairwise_cons.2 ⟨fun x hx => ?_, put_pair e es hp' (fun x hx => hn x (List.mem_cons_of_mem _ hx))⟩
      rcases List.mem_append.1 hx with hx | hx
      · exact hy x (List.mem_of_mem_take hx)
      · rcases List.mem_cons.1 hx with rfl | hx
        · exact hb
        · exact hy x (List.mem_of_mem_drop hx)
    | false =>
      have e1 : posB (y :: es) e = 0 := by unfold posB; rw [List.takeWhile_cons_of_neg (by simpa using hb)]; rfl
      rw [e1, List.take_zero, List.drop_zero, List.nil_append]
      have hey : ordB e y = true := by
        cases h : ordB e y with
        | true => rfl
        | false => exact absurd (bel_total hb h) (hn y List.mem_cons_self)
      exact List.pairwise_cons.2 ⟨fun x hx => by
        rcases List.mem_cons.1 hx with rfl | hx
        · exact hey
        · exact ordB_trans _ _ _ hey (hy x hx), hp⟩
theorem put_mem (es : List Nm) (e : Nm) (p : Nat) (x : Nm) : x ∈ es.take p ++ e :: es.drop p ↔ x = e ∨ x ∈ es := by
  rw [List.mem_append, List.mem_cons]
  conv => rhs; rw [← List.take_append_drop p es, List.mem_append]
  constructor
  · rintro (h | h | h)
    · exact .inr (.inl h)
    · exact .inl h
    · exact .inr (.inr h)
  · rintro (h | h | h)
    · exact .inr (.inl h)
    · exact .inl h
    · exact .inr (.inr h)
theorem apart_app {l : List Nm} (h : apart l) {e : Nm} (hn : ∀ x ∈ l, x.t ≠ e.t) : apart (l ++ [e]) := List.pairwise_append.2 ⟨h, List.pairwise_singleton _ _, fun x hx y hy => by
  rw [List.mem_singleton.1 hy]; exact hn x hx⟩
theorem apart_without {l : List Nm} (h : apart l) (k : Nat) : apart (l.take k ++ l.drop (k + 1)) := by
  rw [← List.eraseIdx_eq_take_drop_succ]
  exact List.Pairwise.sublist (List.eraseIdx_sublist l k) h
theorem apart_set {l : List Nm} (h : apart l) {k : Nat} (hk : k < l.length) {e : Nm} (he : (l[k]).t = e.t) : apart (l.set k e) := by
  have h1 : (l.map Nm.t).Pairwise (fun a b => a ≠ b) := List.pairwise_map.2 h
  have h2 : (l.set k e).map Nm.t = l.map Nm.t := by
    rw [List.map_set, ← he]
    have : (l[k]).t = (l.map Nm.t)[k]'(by simpa using hk) := by simp
    rw [this, List.set_getElem_self]
  exact List.pairwise_map.1 (h2 ▸ h1)
theorem hereB_none {T : Leaves} {t : List UInt8} (h : hereB T t = false) : ∀ x ∈ (leafAt T t).2, x.t ≠ t := fun x hx e => by
  rw [(hereB_iff T t).2 ⟨x, hx, e⟩] at h
  cases h
/-- One more. -/
theorem add_same {d : List (List UInt8)} {T : Leaves} (h : TreeOk d T) (e : Nm) (hh : hereB T e.t = false) :
    (entsAt T e.t).take (posB (entsAt T e.t) e) ++ e :: (entsAt T e.t).drop (posB (entsAt T e.t) e) = sortR ordB ((leafAt T e.t).2 ++ [e]) ∧ apart ((leafAt T e.t).2 ++ [e]) := by
  have ha := apart_app (ents_apart h e.t) (hereB_none hh)
  refine ⟨sortB_same (put_pair e _ (ents_pair h e.t) (fun x hx => hereB_none hh x ((ents_mem T e.t x).1 hx))) ha (fun y => ?_), ha⟩
  rw [put_mem, ents_mem, List.mem_append, List.mem_singleton, or_comm]
theorem sort_sort {l : List Nm} (h : apart l) : sortR ordN (sortR ordB l) = sortR ordN l := by
  have hp := sortR_pair ordB_trans _ (apart_B h)
  exact sortN_same (apart_of_B hp) h (fun y => sortR_mem _ _ _)
theorem sort_apart {l : List Nm} (h : apart l) : apart (sortR ordB l) := apart_of_B (sortR_pair ordB_trans _ (apart_B h))
/-- One out. -/
theorem rm_same {d : List (List UInt8)} {T : Leaves} (h : TreeOk d T) (t : List UInt8) (i : Int) (hh : hereB T t = true) :
    sortR ordN ((entsAt T t).take (posB (entsAt T t) ⟨t, i⟩) ++ (entsAt T t).drop (posB (entsAt T t) ⟨t, i⟩ + 1)) = sortR ordN ((leafAt T t).2.take (placeA (leafAt T t).2 t) ++ (leafAt T t).2.drop (placeA (leafAt T t).2 t + 1)) ∧
    apart ((entsAt T t).take (posB (entsAt T t) ⟨t, i⟩) ++ (entsAt T t).drop (posB (entsAt T t) ⟨t, i⟩ + 1)) := by
  obtain ⟨k1, k2⟩ := find_here h t i hh
  have hlt : placeA (leafAt T t).2 t < (leafAt T t).2.length := by unfold hereB at hh; exact of_decide_eq_true hh
  have hpe := apart_of_B (ents_pair h t)
  have hx : ((entsAt T t)[posB (entsAt T t) ⟨t, i⟩]).t = t := by
    have h1 : (entsAt T t)[posB (entsAt T t) ⟨t, i⟩] = (leafAt T t).2[placeA (leafAt T t).2 t] := by
      rw [List.getD_eq_getElem?_getD, List.getD_eq_getElem?_getD, List.getElem?_eq_getElem k2, List.getElem?_eq_getElem hlt] at k1
      exact k1
    rw [h1]; exact placeA_here _ _ hlt
  refine ⟨sortN_same (apart_without hpe _) (apart_without (ents_apart h t) _) (fun y => ?_), apart_without hpe _⟩
  rw [without_mem hpe k2, without_mem (ents_apart h t) hlt, hx, placeA_here _ _ hlt, ents_mem]
/-- One set. -/
theorem set_same {d : List (List UInt8)} {T : Leaves} (h : TreeOk d T) (e : Nm) (hh : hereB T e.t = true) :
    sortR ordN ((entsAt T e.t).set (posB (entsAt T e.t) e) e) = sortR ordN ((leafAt T e.t).2.set (placeA (leafAt T e.t).2 e.t) e) ∧
    apart ((entsAt T e.t).set (posB (entsAt T e.t) e) e) := by
  obtain ⟨k1, k2⟩ := find_here h e.t e.i hh
  have hlt : placeA (leafAt T e.t).2 e.t < (leafAt T e.t).2.length := by unfold hereB at hh; exact of_decide_eq_true hh
  have hpe := apart_of_B (ents_pair h e.t)
  have hpl := placeA_here _ _ hlt
  have hx : ((entsAt T e.t)[posB (entsAt T e.t) e]).t = e.t := by
    have h1 : (entsAt T e.t)[posB (entsAt T e.t) e] = (leafAt T e.t).2[placeA (leafAt T e.t).2 e.t] := by
      rw [List.getD_eq_getElem?_getD, List.getD_eq_getElem?_getD, List.getElem?_eq_getElem k2, List.getElem?_eq_getElem hlt] at k1
      exact k1
    rw [h1]; exact hpl
  refine ⟨sortN_same (apart_set hpe k2 hx) (apart_set (ents_apart h e.t) hlt hpl) (fun y => ?_), apart_set hpe k2 hx⟩
  have m1 := set_mem hpe k2 e.i y
  have m2 := set_mem (ents_apart h e.t) hlt e.i y
  rw [hx] at m1
  rw [hpl] at m2
  rw [m1, m2, ents_mem]
theorem remove_some {d : List (List UInt8)} {T : Leaves} (ht : TreeOk d T) (t : List UInt8) (hp : placeA (leafAt T t).2 t < (leafAt T t).2.length) :
    withL d (leafAt T t).1.b ((leafAt T t).2.take (placeA (leafAt T t).2 t) ++ (leafAt T t).2.drop (placeA (leafAt T t).2 t + 1)) = some (d.set (leafAt T t).1.b (enc (sortR ordN ((leafAt T t).2.take (placeA (leafAt T t).2 t) ++ (leafAt T t).2.drop (placeA (leafAt T t).2 t + 1)))).1) := by
  have hr := ht.right _ (ht.leaf_mem t)
  have hz := (leaf_right (ht.leaf _ (ht.leaf_mem t))).2.1
  have hr' := right_without _ (placeA (leafAt T t).2 t) hr
  have hz' := size_without _ _ hp
  have es := sortN_right hr' (right_apart hr') (fun y => Iff.rfl)
  have ee : (enc (sortR ordN ((leafAt T t).2.take (placeA (leafAt T t).2 t) ++ (leafAt T t).2.drop (placeA (leafAt T t).2 t + 1)))).2 = 0 := by rw [es, enc_yes hr' (by omega)]
  unfold withL; rw [if_pos ee]
theorem set_some {d : List (List UInt8)} {T : Leaves} (ht : TreeOk d T) (e : Nm) (hok : okN e = true) (hp : placeA (leafAt T e.t).2 e.t < (leafAt T e.t).2.length) :
    withL d (leafAt T e.t).1.b ((leafAt T e.t).2.set (placeA (leafAt T e.t).2 e.t) e) = some (d.set (leafAt T e.t).1.b (enc (sortR ordN ((leafAt T e.t).2.set (placeA (leafAt T e.t).2 e.t) e))).1) := by
  have hr := ht.right _ (ht.leaf_mem e.t)
  have hz := (leaf_right (ht.leaf _ (ht.leaf_mem e.t))).2.1
  have hh := placeA_here _ _ hp
  have hrs := right_set hr hp e.i (okN_may hok).2
  rw [hh] at hrs
  have hr' : right ((leafAt T e.t).2.set (placeA (leafAt T e.t).2 e.t) e) = true := hrs.1
  have hz' : sizeL ((leafAt T e.t).2.set (placeA (leafAt T e.t).2 e.t) e) = sizeL (leafAt T e.t).2 := hrs.2
  have es := sortN_right hr' (right_apart hr') (fun y => Iff.rfl)
  have ee : (enc (sortR ordN ((leafAt T e.t).2.set (placeA (leafAt T e.t).2 e.t) e))).2 = 0 := by rw [es, enc_yes hr' (by omega)]
  unfold withL; rw [if_pos ee]
/-- The block of a leaf is one of the directory's. -/
theorem leaf_low {d : List (List UInt8)} {T : Leaves} (ht : TreeOk d T) (t : List UInt8) : (leafAt T t).1.b < d.length := by
  obtain ⟨A, B, rfl', _⟩ := ht.around t
  have h := ht
  rw [rfl'] at h
  exact h.place.1
end Go.Proofs.YtbagocghlijleaaGreat.Ht

namespace Go.Proofs.YtbagocghlijleaaGreat.Ht
set_option maxRecDepth 20000
open Go.RowKit
open Go.Proofs.YtbagocghlijleaaGreat.Mem Go.Proofs.YtbagocghlijleaaGreat.Crc Go.Proofs.YtbagocghlijleaaGreat.Rec Go.Proofs.YtbagocghlijleaaGreat.Reg Go.Proofs.YtbagocghlijleaaGreat.Lf
attribute [local go_sem ↓] ldE_eq stE_eq ldX_eq stX_eq ldR_eq stR_eq ldQ_eq stQ_eq

/-- A directory told, or an error. -/
def Tree2 (w : World) (r : List (List UInt8) × Int) (e : Ending) (w' : World) : Prop :=
  ∃ v, e = .returned (.tuple #[v, .int .i64 r.2]) ∧ OwnN w' w.heap.size v r.1 ∧ Below w.heap.size w w'
theorem ents_rep {d : List (List UInt8)} {T : Leaves} (h : TreeOk d T) (t : List UInt8) : (∀ x ∈ entsAt T t, x.rep) ∧ (entsAt T t).length ≤ 41 := by
  have hl := leaf_rep (leafOf_iff.2 (h.leaf _ (h.leaf_mem t)))
  refine ⟨fun x hx => hl.1 x ((ents_mem T t x).1 hx), ?_⟩
  unfold entsAt
  rw [sortR_len]
  exact hl.2.1

set_option maxRecDepth 100000 in
set_option maxHeartbeats 8000000 in
theorem Remove_any (A : Option Addr) (n c B : Nat) (d : List (List UInt8)) (t : List UInt8) (ht : t.length ≤ maxLen) (w : World) (h : HoldsN w B A n d) (hB : B ≤ w.heap.size) (hn : n ≤ 5864062014634) (hsz : ∀ b ∈ d, b.length ≤ 140737488355328) :
    Calls Tryz.prog 29 #[.slice A n c, .string ⟨t.toArray⟩] w (Tree2 w (removeD d t)) := by
  have hth := there_any A n c B d ⟨t, 0⟩ ⟨⟨by show (-9223372036854775808 : Int) ≤ 0; omega, by show (0 : Int) ≤ 9223372036854775807; omega⟩, ht⟩ w h hB hn hsz
  have hec : (⟨t, 0⟩ : Nm).c = #[.string ⟨t.toArray⟩, .int .i64 0] := rfl
  rw [hec] at hth
  have HTH := Lib.hid hth
  have HH := Lib.hid h
  have HSZ := Lib.hid hsz
  clear hth h hsz hec
  obtain ⟨post, hpost⟩ : ∃ post : Ending → World → Prop, post = Tree2 w (removeD d t) := ⟨_, rfl⟩
  rw [← hpost]
  have HP := Lib.hid hpost; clear hpost
  go_enter Tryz.func29, Tryz.ntmps29
  go_wp2_with fail
  with_reducible refine HTH.out.mono ?_
  rintro E w1 hres
  unfold There2 at hres
  clear HTH
  have hfd : removeD d t = match readD d with
    | none => ([], 13)
    | some T => if okN ⟨t, 0⟩ = false then ([], 1) else if placeA (leafAt T t).2 t < (leafAt T t).2.length then (match withL d (leafAt T t).1.b ((leafAt T t).2.take (placeA (leafAt T t).2 t) ++ (leafAt T t).2.drop (placeA (leafAt T t).2 t + 1)) with | some c => (c, 0) | none => ([], 0)) else ([], 3) := rfl
  have hbad := run_stR_new w1 rvZ
  rw [zeroR_z] at hbad
  unfold zeroR at hbad
  cases hrd : readD d with
  | none =>
    rw [hrd] at hres hfd
    obtain ⟨rfl, hb⟩ := hres
    dsimp only at hfd
    rw [zeroR_z]
    have HF := Lib.hid hfd; clear hfd hrd
    have HB := Lib.hid hb; clear hb
    go_wp2
    rw [HP.out, HF.out]
    exact ⟨_, rfl, OwnN.nil _ _, HB.out.alloc HB.out.size _⟩
  | some T =>
    have HTO := Lib.hid ((readD_iff d T).1 hrd)
    rw [hrd] at hres hfd
    clear hrd
    dsimp only at hres hfd
    by_cases hok : okN ⟨t, 0⟩ = false
    · rw [if_pos hok] at hres hfd
      obtain ⟨rfl, hb⟩ := hres
      rw [zeroR_z]
      have HF := Lib.hid hfd; clear hfd hok
      have HB := Lib.hid hb; clear hb
      go_wp2
      rw [HP.out, HF.out]
      exact ⟨_, rfl, OwnN.nil _ _, HB.out.alloc HB.out.size _⟩
    · rw [if_neg hok] at hres hfd
      cases hhb : hereB T t with
      | false =>
        rw [if_pos hhb] at hres
        have hpl : ¬ placeA (leafAt T t).2 t < (leafAt T t).2.length := by unfold hereB at hhb; exact of_decide_eq_false hhb
        rw [if_neg hpl] at hfd
        obtain ⟨rfl, hb⟩ := hres
        rw [zeroR_z]
        have HF := Lib.hid hfd; clear hfd hok hhb hpl
        have HB := Lib.hid hb; clear hb
        go_wp2
        rw [HP.out, HF.out]
        exact ⟨_, rfl, OwnN.nil _ _, HB.out.alloc HB.out.size _⟩
      | true =>
        rw [if_neg (by rw [hhb]; decide)] at hres
        have hpl : placeA (leafAt T t).2 t < (leafAt T t).2.length := by unfold hereB at hhb; exact of_decide_eq_true hhb
        rw [if_pos hpl, remove_some HTO.out t hpl] at hfd
        dsimp only at hfd
        obtain ⟨y, rfl, hyw, hen, hb⟩ := hres
        obtain ⟨k1, k2⟩ := find_here HTO.out t 0 hhb
        obtain ⟨s1, s2⟩ := rm_same HTO.out t 0 hhb
        rw [← s1] at hfd
        have hyb : y.b = (leafAt T t).1.b := congrArg Rw.b hyw
        rw [← hyb] at hfd
        have hlow := leaf_low HTO.out t
        rw [← hyb] at hlow
        obtain ⟨hrep, h41⟩ := ents_rep HTO.out t
        have hst := run_stR_new w1 y
        unfold zeroR at hst
        obtain ⟨W2, hW2⟩ : ∃ W2, W2 = w1.alloc (.cells (rC y) 64) := ⟨_, rfl⟩
        have hvr : VarR W2 w1.heap.size y := by rw [hW2]; exact VarR.new w1 y
        have hbW2 : Below w1.heap.size w1 W2 := by rw [hW2]; exact (Below.refl _ w1).alloc (Nat.le_refl _) _
        rw [← hW2] at hst
        have hen2 : OwnC EN W2 w.heap.size y.v (entsAt T t) := hen.below hbW2
        obtain ⟨es, hes⟩ : ∃ es, es = entsAt T t := ⟨_, rfl⟩
        obtain ⟨pp, hpp⟩ : ∃ pp, pp = posB (entsAt T t) ⟨t, 0⟩ := ⟨_, rfl⟩
        rw [← hpp] at k2 s2 hfd ⊢
        rw [← hes] at k2 s2 hen2 hfd hrep h41
        obtain ⟨q0, q1, q2⟩ := hvr.cells
        obtain ⟨A5, c5, hyv⟩ := hen2.shape
        rw [hyv] at hen2 q2
        have hb2 : Below w.heap.size w W2 := hb.trans (hbW2.mono hb.size)
        have hdel := delE_any W2 w.heap.size A5 es.length c5 es hen2 pp k2 (by omega)
        obtain ⟨bk, hbk⟩ : ∃ bk, bk = y.b := ⟨_, rfl⟩
        rw [← hbk] at q1 hfd hlow
        obtain ⟨ln, hln⟩ : ∃ ln, ln = es.length := ⟨_, rfl⟩
        rw [← hln] at hdel q2
        have HF := Lib.hid hfd
        have HB2 := Lib.hid hb2
        have HBK := Lib.hid hbk
        have HDEL := Lib.hid hdel
        have HLN := Lib.hid hln
        have HVR := Lib.hid hvr
        have HREP := Lib.hid hrep
        have HS2 := Lib.hid s2
        have HEN := Lib.hid hen2
        have HLT : Hid (w1.heap.size < W2.heap.size) := Lib.hid hvr.lt
        have HW1 : Hid (w.heap.size ≤ w1.heap.size) := Lib.hid hb.size
        have HEG : Hid (∀ k, (Value.slice A5 ln c5).ownBlock = some k → k < w1.heap.size) := Lib.hid (by
          intro k hk
          rw [hln, ← hyv] at hk
          exact (hen.lt k hk).2)
        obtain ⟨C, hC⟩ : ∃ C, C = rC y := ⟨_, rfl⟩
        rw [← hC] at hst ⊢
        clear hok hhb hpl hen hen2 hvr k1 hyv hpp hes hfd hb hb2 hdel hrep s1 s2 hW2 hbW2 hln hC hyb hyw hbk
        go_wp2_with fail
        with_reducible refine HDEL.out.mono ?_
        rintro E3 W3 ⟨v3, rfl, ho3, hg3⟩
        have HLEN : Hid (d.length = n) := Lib.hid HH.out.1
        clear HDEL hst
        obtain ⟨A3, c3, rfl⟩ := ho3.shape
        have hvr3 : VarR W3 w1.heap.size y := (hg3.1.block _ HLT.out (fun e => by have := HEG.out _ e.symm; omega)).trans HVR.out
        have hb3 : Below w.heap.size w W3 := HB2.out.grown hg3.1 HB2.out.size (fun k hk => (HEN.out.lt k (by rw [← HLN.out]; exact hk)).1)
        have hlf := leafOf_any A3 (es.take pp ++ es.drop (pp + 1)).length c3 W3.heap.size (es.take pp ++ es.drop (pp + 1)) W3 (ho3.reads EN_ok) (Nat.le_refl _) (fun x hx => by
          rcases List.mem_append.1 hx with hx | hx
          · exact HREP.out x (List.mem_of_mem_take hx)
          · exact HREP.out x (List.mem_of_mem_drop hx)) (by rw [List.length_append, List.length_take, List.length_drop]; omega) HS2.out
        generalize (es.take pp ++ es.drop (pp + 1)).length = L3 at hlf ⊢
        have HLF := Lib.hid hlf
        have HVR3 := Lib.hid hvr3
        have HB3 := Lib.hid hb3
        clear hlf hvr3 hb3 ho3 hg3
        go_wp2_with fail
        with_reducible refine HLF.out.mono ?_
        rintro E4 W4 ⟨A4, c4, rfl, ho4, hb4⟩
        clear HLF
        have hvr4 : VarR W4 w1.heap.size y := (hb4.block _ HVR3.out.lt).trans HVR3.out
        have hq1 : W4.cell? ⟨w1.heap.size, 1, none⟩ = some (.int .i64 (bk : Int)) := by rw [HBK.out]; exact hvr4.cells.2.1
        have hbw4 : Below w.heap.size w W4 := HB3.out.trans (hb4.mono HB3.out.size)
        obtain ⟨bs, hbs⟩ : ∃ bs, bs = (enc (sortR ordN (es.take pp ++ es.drop (pp + 1)))).1 := ⟨_, rfl⟩
        rw [← hbs] at ho4 ⊢
        have htd := turned_any A n c B d W4 (HH.out.below (hbw4.mono hB)) (by have := hbw4.size; omega) hn HSZ.out bk (by have := HLEN.out; omega) w.heap.size hbw4.size A4 bs.length c4 bs rfl (Owned.mono ho4 HB3.out.size)
        have HTD := Lib.hid htd
        have HBS := Lib.hid hbs
        have HBW4 := Lib.hid hbw4
        generalize bs.length = m4 at HTD ⊢
        clear htd hvr4 hbs hbw4 ho4 hb4 q0 q1 q2
        go_wp2_with fail
        with_reducible refine HTD.out.mono ?_
        rintro E5 W5 ⟨v5, rfl, ho5, hb5⟩
        clear HTD
        have HO5 := Lib.hid ho5
        have HB5 : Hid (Below w.heap.size w W5) := Lib.hid (HBW4.out.trans (hb5.mono HBW4.out.size))
        clear ho5 hb5
        go_wp2
        rw [HP.out, HF.out]
        exact ⟨_, rfl, by rw [← HBS.out]; exact HO5.out, HB5.out⟩
end Go.Proofs.YtbagocghlijleaaGreat.Ht

namespace Go.Proofs.YtbagocghlijleaaGreat.Ht
set_option maxRecDepth 20000
open Go.RowKit
open Go.Proofs.YtbagocghlijleaaGreat.Mem Go.Proofs.YtbagocghlijleaaGreat.Crc Go.Proofs.YtbagocghlijleaaGreat.Rec Go.Proofs.YtbagocghlijleaaGreat.Reg Go.Proofs.YtbagocghlijleaaGreat.Lf
attribute [local go_sem ↓] ldE_eq stE_eq ldX_eq stX_eq ldR_eq stR_eq ldQ_eq stQ_eq

set_option maxRecDepth 100000 in
set_option maxHeartbeats 8000000 in
theorem Set_any (A : Option Addr) (n c B : Nat) (d : List (List UInt8)) (e : Nm) (he : e.rep) (w : World) (h : HoldsN w B A n d) (hB : B ≤ w.heap.size) (hn : n ≤ 5864062014634) (hsz : ∀ b ∈ d, b.length ≤ 140737488355328) :
    Calls Tryz.prog 30 #[.slice A n c, .agg e.c] w (Tree2 w (setD d e)) := by
  obtain ⟨post, hpost⟩ : ∃ post : Ending → World → Prop, post = Tree2 w (setD d e) := ⟨_, rfl⟩
  rw [← hpost]
  have HP := Lib.hid hpost; clear hpost
  obtain ⟨W0, hW0⟩ : ∃ W0, W0 = w.alloc (.cells e.c 48) := ⟨_, rfl⟩
  have hvx : VarX W0 w.heap.size e := by rw [hW0]; exact VarX.new w e
  have hz0 : W0.heap.size = w.heap.size + 1 := by rw [hW0]; simp
  have hb0 : Below w.heap.size w W0 := by rw [hW0]; exact (Below.refl _ w).alloc (Nat.le_refl _) _
  have hth := there_any A n c B d e he W0 (h.below (hb0.mono hB)) (by omega) hn hsz
  have hlx := hvx.load
  have hfd : setD d e = match readD d with
    | none => ([], 13)
    | some T => if okN e = false then ([], 1) else if placeA (leafAt T e.t).2 e.t < (leafAt T e.t).2.length then (match withL d (leafAt T e.t).1.b ((leafAt T e.t).2.set (placeA (leafAt T e.t).2 e.t) e) with | some c => (c, 0) | none => ([], 0)) else ([], 3) := rfl
  obtain ⟨X, hX⟩ : ∃ X, X = e.c := ⟨_, rfl⟩
  rw [← hX] at hW0 hlx hth ⊢
  have HTH := Lib.hid hth
  have HH := Lib.hid h
  have HSZ := Lib.hid hsz
  have HX := Lib.hid hX
  have HVX := Lib.hid hvx
  have HZ0 := Lib.hid hz0
  have HB0 := Lib.hid hb0
  have HW0 := Lib.hid hW0
  rw [hW0] at hlx
  clear hW0 hth h hsz hX hvx hz0 hb0
  go_enter Tryz.func30, Tryz.ntmps30
  go_wp2_with fail
  rw [← HW0.out]
  with_reducible refine HTH.out.mono ?_
  rintro E w1 hres
  unfold There2 at hres
  clear HTH hlx
  have hbad := run_stR_new w1 rvZ
  rw [zeroR_z] at hbad
  unfold zeroR at hbad
  cases hrd : readD d with
  | none =>
    rw [hrd] at hres hfd
    obtain ⟨rfl, hb⟩ := hres
    dsimp only at hfd
    rw [zeroR_z]
    have HF := Lib.hid hfd; clear hfd hrd
    have HB : Hid (Below w.heap.size w w1) := Lib.hid (HB0.out.trans (hb.mono HB0.out.size)); clear hb
    go_wp2
    rw [HP.out, HF.out]
    exact ⟨_, rfl, OwnN.nil _ _, HB.out.alloc HB.out.size _⟩
  | some T =>
    have HTO := Lib.hid ((readD_iff d T).1 hrd)
    rw [hrd] at hres hfd
    clear hrd
    dsimp only at hres hfd
    by_cases hok : okN e = false
    · rw [if_pos hok] at hres hfd
      obtain ⟨rfl, hb⟩ := hres
      rw [zeroR_z]
      have HF := Lib.hid hfd; clear hfd hok
      have HB : Hid (Below w.heap.size w w1) := Lib.hid (HB0.out.trans (hb.mono HB0.out.size)); clear hb
      go_wp2
      rw [HP.out, HF.out]
      exact ⟨_, rfl, OwnN.nil _ _, HB.out.alloc HB.out.size _⟩
    · rw [if_neg hok] at hres hfd
      have hok' : okN e = true := by simpa using hok
      cases hhb : hereB T e.t with
      | false =>
        rw [if_pos hhb] at hres
        have hpl : ¬ placeA (leafAt T e.t).2 e.t < (leafAt T e.t).2.length := by unfold hereB at hhb; exact of_decide_eq_false hhb
        rw [if_neg hpl] at hfd
        obtain ⟨rfl, hb⟩ := hres
        rw [zeroR_z]
        have HF := Lib.hid hfd; clear hfd hok hok' hhb hpl
        have HB : Hid (Below w.heap.size w w1) := Lib.hid (HB0.out.trans (hb.mono HB0.out.size)); clear hb
        go_wp2
        rw [HP.out, HF.out]
        exact ⟨_, rfl, OwnN.nil _ _, HB.out.alloc HB.out.size _⟩
      | true =>
        rw [if_neg (by rw [hhb]; decide)] at hres
        have hpl : placeA (leafAt T e.t).2 e.t < (leafAt T e.t).2.length := by unfold hereB at hhb; exact of_decide_eq_true hhb
        rw [if_pos hpl, set_some HTO.out e hok' hpl] at hfd
        dsimp only at hfd
        obtain ⟨y, rfl, hyw, hen, hb⟩ := hres
        obtain ⟨k1, k2⟩ := find_here HTO.out e.t e.i hhb
        obtain ⟨s1, s2⟩ := set_same HTO.out e hhb
        rw [← s1] at hfd
        have hyb : y.b = (leafAt T e.t).1.b := congrArg Rw.b hyw
        rw [← hyb] at hfd
        have hlow := leaf_low HTO.out e.t
        rw [← hyb] at hlow
        obtain ⟨hrep, h41⟩ := ents_rep HTO.out e.t
        have hst := run_stR_new w1 y
        unfold zeroR at hst
        obtain ⟨W2, hW2⟩ : ∃ W2, W2 = w1.alloc (.cells (rC y) 64) := ⟨_, rfl⟩
        have hvr : VarR W2 w1.heap.size y := by rw [hW2]; exact VarR.new w1 y
        have hbW2 : Below w1.heap.size w1 W2 := by rw [hW2]; exact (Below.refl _ w1).alloc (Nat.le_refl _) _
        rw [← hW2] at hst
        have hen2 : OwnC EN W2 W0.heap.size y.v (entsAt T e.t) := hen.below hbW2
        obtain ⟨es, hes⟩ : ∃ es, es = entsAt T e.t := ⟨_, rfl⟩
        obtain ⟨pp, hpp⟩ : ∃ pp, pp = posB (entsAt T e.t) e := ⟨_, rfl⟩
        have k2' : posB (entsAt T e.t) e < (entsAt T e.t).length := k2
        rw [← hpp] at k2' s2 hfd ⊢
        rw [← hes] at k2' s2 hen2 hfd hrep h41
        obtain ⟨q0, q1, q2⟩ := hvr.cells
        obtain ⟨A5, c5, hyv⟩ := hen2.shape
        rw [hyv] at hen2 q2
        obtain ⟨g5, rfl, hg5a, hg5b, -⟩ := hen2.form (by omega)
        have hb1 : Below w.heap.size w w1 := HB0.out.trans (hb.mono HB0.out.size)
        have hb2 : Below w.heap.size w W2 := hb1.trans (hbW2.mono hb1.size)
        have hx2 : VarX W2 w.heap.size e := (hbW2.block _ (by have := hb.size; have := HZ0.out; omega)).trans ((hb.block _ (by have := HZ0.out; omega)).trans HVX.out)
        obtain ⟨bk, hbk⟩ : ∃ bk, bk = y.b := ⟨_, rfl⟩
        rw [← hbk] at q1 hfd hlow
        have hg5w : g5 < w1.heap.size := (hen.lt g5 (by rw [hyv]; rfl)).2
        obtain ⟨ln, hln⟩ : ∃ ln, ln = es.length := ⟨_, rfl⟩
        rw [← hln] at q2 hen2
        have hcells : ∀ V, VarR V w1.heap.size y → V.cell? ⟨w1.heap.size, 2, none⟩ = some (.slice (some ⟨g5, 0, none⟩) ln c5) := fun V hV => by
          have := hV.cells.2.2
          rw [hyv, ← hln] at this
          exact this
        have HF := Lib.hid hfd
        have HB2 := Lib.hid hb2
        have HB1 := Lib.hid hb1
        have HBK := Lib.hid hbk
        have HVR := Lib.hid hvr
        have HX2 := Lib.hid hx2
        have HREP := Lib.hid hrep
        have HS2 := Lib.hid s2
        have HEN := Lib.hid hen2
        have HCELLS := Lib.hid hcells
        have HLT : Hid (w1.heap.size < W2.heap.size) := Lib.hid hvr.lt
        have HG5 : Hid (w.heap.size < g5 ∧ g5 < w1.heap.size) := Lib.hid ⟨by have := HZ0.out; omega, hg5w⟩
        have HLN := Lib.hid hln
        have HENT := Lib.hid (entryOf_any e he)
        rw [← HX.out] at HENT
        have HK2 := Lib.hid k2'
        have hlenI : (pp : Int) < (ln : Int) := by rw [hln]; omega
        have hlenN : pp < ln := by rw [hln]; omega
        have HH41 : Hid (ln ≤ 41) := Lib.hid (by rw [hln]; exact h41)
        obtain ⟨C, hC⟩ : ∃ C, C = rC y := ⟨_, rfl⟩
        rw [← hC] at hst ⊢
        clear hok hok' hhb hpl hen hen2 hvr k1 k2 k2' hyv hpp hes hfd hb hb1 hb2 hrep s1 s2 hW2 hbW2 hC hyb hyw hbk hx2 hcells q0 q1 q2 hg5w hg5a hg5b h41 hln
        have HPV : Hid (∀ V', VarX V' w.heap.size e → (ldX (.pointer (some ⟨w.heap.size, 0, none⟩))).run Tryz.prog V' = .ok (.agg X) V') := Lib.hid (fun V' hV' => by rw [HX.out]; exact hV'.load)
        go_wp2_with fail
        refine wp_region_E (fun V' => VarX V' w.heap.size e ∧ V'.cell? ⟨w1.heap.size, 2, none⟩ = some (.slice (some ⟨g5, 0, none⟩) ln c5)) 99 rfl ?_
        have hS := (show VarX W2.drew w.heap.size e ∧ W2.drew.cell? ⟨w1.heap.size, 2, none⟩ = some (.slice (some ⟨g5, 0, none⟩) ln c5) from ⟨HX2.out, HCELLS.out W2.drew HVR.out⟩)
        refine wpE_takeF 0 ⟨some 21, _, _, _, _, _⟩ (v := ?_) (by decide) rfl (by kernel_rfl) (by kernel_rfl) (by kernel_rfl) (fun _ _ _ h => h) hS (Or.inl ⟨by kernel_rfl, ?_⟩) ?_
        rotate_left
        · (intro V hSw; obtain ⟨s1, s2⟩ := hSw; have s3 := HPV.out V s1; go_simp; try with_reducible rfl)
        try simp only [Act.put]
        refine wpE_takeF 1 ⟨some 22, _, _, _, _, _⟩ (v := ?_) (by decide) rfl (by kernel_rfl) (by kernel_rfl) (by kernel_rfl) (fun _ _ _ h => h) hS (Or.inl ⟨by kernel_rfl, ?_⟩) ?_
        rotate_left
        · (intro V hSw; obtain ⟨s1, s2⟩ := hSw; have s3 := HPV.out V s1; go_simp; try with_reducible rfl)
        try simp only [Act.put]
        refine wpE_takeF 2 ⟨some 23, _, _, _, _, _⟩ (v := ?_) (by decide) rfl (by kernel_rfl) (by kernel_rfl) (by kernel_rfl) (fun _ _ _ h => h) hS (Or.inl ⟨by kernel_rfl, ?_⟩) ?_
        rotate_left
        · (intro V hSw; obtain ⟨s1, s2⟩ := hSw; have s3 := HPV.out V s1; go_simp; try with_reducible rfl)
        try simp only [Act.put]
        refine wpE_takeF 3 ⟨some 24, _, _, _, _, _⟩ (v := ?_) (by decide) rfl (by kernel_rfl) (by kernel_rfl) (by kernel_rfl) (fun _ _ _ h => h) hS (Or.inl ⟨by kernel_rfl, ?_⟩) ?_
        rotate_left
        · (intro V hSw; obtain ⟨s1, s2⟩ := hSw; have s3 := HPV.out V s1; go_simp; try with_reducible rfl)
        try simp only [Act.put]
        refine wpE_one 4 (o := ⟨some 25, _, _, _, _, _⟩) (by kernel_rfl) rfl (fun K' hK' => ?_)
        rw [if_pos (by kernel_rfl)]
        refine call_wp 38 _ _ _ _ rfl Tryz.func38 (by kernel_rfl) rfl _ ?hv _ (HENT.out _) ?_
        case hv => simp only [List.map_toArray, List.map_cons, List.map_nil]; go_simp
        rintro E V2 ⟨rfl, hb2⟩
        have hx2 : VarX V2 w.heap.size e := (hb2.block _ (by show _ < W2.heap.size; have := HLT.out; have := HG5.out; omega)).trans HX2.out
        have hr2 : VarR V2 w1.heap.size y := (hb2.block _ HLT.out).trans HVR.out
        have hS2 : VarX V2 w.heap.size e ∧ V2.cell? ⟨w1.heap.size, 2, none⟩ = some (.slice (some ⟨g5, 0, none⟩) ln c5) := ⟨hx2, HCELLS.out V2 hr2⟩
        have hb2' : Below W2.heap.size W2 V2 := ⟨hb2.os, hb2.tape, hb2.output, hb2.size, hb2.block⟩
        obtain ⟨V3, hst3, ho3, hg3, hz3⟩ := put_own EN_ok (HEN.out.below hb2') pp HK2.out e (eC e) rfl (pp * 3) rfl
        have hst3' : (stE (.pointer (some ⟨g5, pp * 3, none⟩)) (.agg (eC e))).run Tryz.prog V2 = .ok () V3 := hst3
        have hx3 : VarX V3 w.heap.size e := (hg3.block _ hx2.lt (fun e => by injection e with e; have := HG5.out; omega)).trans hx2
        have hr3 : VarR V3 w1.heap.size y := (hg3.block _ hr2.lt (fun e => by injection e with e; have := HG5.out; omega)).trans hr2
        have hS3 : VarX V3 w.heap.size e ∧ V3.cell? ⟨w1.heap.size, 2, none⟩ = some (.slice (some ⟨g5, 0, none⟩) ln c5) := ⟨hx3, HCELLS.out V3 hr3⟩
        have hbw3 : Below w.heap.size w V3 := (HB2.out.trans (hb2'.mono HB2.out.size)).grown hg3 (by have := HB2.out.size; have := hb2.size; show w.heap.size ≤ V2.heap.size; exact Nat.le_trans HB2.out.size hb2.size) (fun i hi => by injection hi with hi; have := HG5.out; omega)
        obtain ⟨EC, hEC⟩ : ∃ EC, EC = eC e := ⟨_, rfl⟩
        rw [← hEC] at hst3' ⊢
        have HO3 := Lib.hid ho3; have HR3 := Lib.hid hr3; have HBW3 := Lib.hid hbw3
        clear ho3 hr3 hbw3 hg3 hz3 hst3 hx3 hx2 hr2 hb2' hEC
        refine ⟨_, rfl, hK'.out _ _ hS2 (fun hS => ?_)⟩
        clear hK' K'
        try simp only [Act.put]
        refine wpE_takeF 5 ⟨some 26, _, _, _, _, _⟩ (v := ?_) (by decide) rfl (by kernel_rfl) (by kernel_rfl) (by kernel_rfl) (fun _ _ _ h => h) hS (Or.inl ⟨by kernel_rfl, ?_⟩) ?_
        rotate_left
        · (intro V hSw; obtain ⟨s1, s2⟩ := hSw; go_simp; try with_reducible rfl)
        try simp only [Act.put]
        try simp only [List.setIfInBounds_toArray, List.set_cons_succ, List.set_cons_zero]
        refine wpE_one 6 (by kernel_rfl) rfl (fun K' hK' => ?_)
        go_simp
        refine hK'.out _ _ hS3 (fun hS => ?_)
        clear hK' K'
        try simp only [Act.put]
        refine wpE_done (by kernel_rfl) ?_ _
        try simp only [List.setIfInBounds_toArray, List.set_cons_succ, List.set_cons_zero]
        clear hS hS2 hS3 hst3' HENT HPV
        have hq2 := HCELLS.out V3 HR3.out
        have hlf := leafOf_any (some ⟨g5, 0, none⟩) ln c5 V3.heap.size (es.set pp e) V3 (HO3.out.reads EN_ok) (Nat.le_refl _) (fun x hx => by
          rcases List.mem_or_eq_of_mem_set hx with hx | hx
          · exact HREP.out x hx
          · rw [hx]; exact he) (by have := HH41.out; omega) HS2.out
        have HLF := Lib.hid hlf
        have HLEN : Hid (d.length = n) := Lib.hid HH.out.1
        clear hlf
        go_wp2_with fail
        with_reducible refine HLF.out.mono ?_
        rintro E4 W4 ⟨A4, c4, rfl, ho4, hb4⟩
        clear HLF
        have hvr4 : VarR W4 w1.heap.size y := (hb4.block _ HR3.out.lt).trans HR3.out
        have hq1 : W4.cell? ⟨w1.heap.size, 1, none⟩ = some (.int .i64 (bk : Int)) := by rw [HBK.out]; exact hvr4.cells.2.1
        have hbw4 : Below w.heap.size w W4 := HBW3.out.trans (hb4.mono HBW3.out.size)
        obtain ⟨bs, hbs⟩ : ∃ bs, bs = (enc (sortR ordN (es.set pp e))).1 := ⟨_, rfl⟩
        rw [← hbs] at ho4 ⊢
        have htd := turned_any A n c B d W4 (HH.out.below (hbw4.mono hB)) (by have := hbw4.size; omega) hn HSZ.out bk (by have := HLEN.out; omega) w.heap.size hbw4.size A4 bs.length c4 bs rfl (Owned.mono ho4 HBW3.out.size)
        have HTD := Lib.hid htd
        have HBS := Lib.hid hbs
        have HBW4 := Lib.hid hbw4
        generalize bs.length = m4 at HTD ⊢
        clear htd hvr4 hbs hbw4 ho4 hb4 hq2
        go_wp2_with fail
        with_reducible refine HTD.out.mono ?_
        rintro E5 W5 ⟨v5, rfl, ho5, hb5⟩
        clear HTD
        have HO5 := Lib.hid ho5
        have HB5 : Hid (Below w.heap.size w W5) := Lib.hid (HBW4.out.trans (hb5.mono HBW4.out.size))
        clear ho5 hb5
        go_wp2
        rw [HP.out, HF.out]
        exact ⟨_, rfl, by rw [← HBS.out]; exact HO5.out, HB5.out⟩
end Go.Proofs.YtbagocghlijleaaGreat.Ht
