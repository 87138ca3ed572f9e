/- An index's rows, checked one behind the other; how many entries there are, by the names. In plain words. -/
import Derived.Test.YtbagocghlijleaaGreatHtDeeds
namespace Go.Proofs.YtbagocghlijleaaGreat.Ht
set_option maxRecDepth 20000
open Go.Proofs.YtbagocghlijleaaGreat.Mem Go.Proofs.YtbagocghlijleaaGreat.Crc Go.Proofs.YtbagocghlijleaaGreat.Bst Go.Proofs.YtbagocghlijleaaGreat.Lf

theorem withL_some {d : List (List UInt8)} {b : Nat} {l : List Nm} {c : List (List UInt8)} (h : withL d b l = some c) : (enc (sortR ordN l)).2 = 0 ∧ c = d.set b (enc (sortR ordN l)).1 := by
  unfold withL at h
  split at h
  · injection h with h
    exact ⟨by assumption, h.symm⟩
  · cases h
theorem TreeOk.leaf_mem {d : List (List UInt8)} {T : Leaves} (h : TreeOk d T) (t : List UInt8) : leafAt T t ∈ T := by
  obtain ⟨A, B, e, _⟩ := h.around t
  have : leafAt T t ∈ A ++ leafAt T t :: B := by simp
  rwa [← e] at this
theorem TreeOk.leaf_has {d : List (List UInt8)} {T : Leaves} (h : TreeOk d T) (t : List UInt8) {x : Nm} (hx : x ∈ (leafAt T t).2) : has T x := ⟨_, h.leaf_mem t, hx⟩
theorem TreeOk.apart_more {d : List (List UInt8)} {T : Leaves} (h : TreeOk d T) {e : Nm} (hn : ¬ placeA (leafAt T e.t).2 e.t < (leafAt T e.t).2.length) : apart ((leafAt T e.t).2 ++ [e]) := by
  unfold apart
  rw [List.pairwise_append]
  refine ⟨right_apart (h.right _ (h.leaf_mem e.t)), List.pairwise_singleton _ _, fun x hx y hy => ?_⟩
  rw [List.mem_singleton] at hy
  rw [hy]
  exact placeA_none _ _ hn x hx
/-- A leaf that is cut in two, with an entry more: all are there behind it. -/
theorem split_ok {d : List (List UInt8)} {T : Leaves} (h : TreeOk d T) {e : Nm} (hn : ¬ placeA (leafAt T e.t).2 e.t < (leafAt T e.t).2.length) {r : List (List UInt8)} (hs : splitD d T (atL (T.map Prod.fst) (sum e.t) T.length) (sortR ordB ((leafAt T e.t).2 ++ [e])) = (r, 0)) : ∃ U, TreeOk r U ∧ ∀ x, has U x ↔ x = e ∨ has T x := by
  have hap := h.apart_more hn
  obtain ⟨A, B, eT, hk, h2, h3, _⟩ := h.around e.t
  have hL := sortR_pair ordB_trans _ (apart_B hap)
  have hmem : ∀ x, x ∈ sortR ordB ((leafAt T e.t).2 ++ [e]) ↔ x ∈ (leafAt T e.t).2 ∨ x = e := fun x => by rw [sortR_mem, List.mem_append, List.mem_singleton]
  generalize hLe : sortR ordB ((leafAt T e.t).2 ++ [e]) = L at hs hL hmem
  generalize leafAt T e.t = p at eT h2 hmem
  unfold splitD at hs
  cases hc : cutL L with
  | none => rw [hc] at hs; cases hs
  | some c =>
    rw [hc] at hs
    dsimp only at hs
    split at hs
    · cases hs
    · rename_i h30
      split at hs
      · rename_i henc
        obtain ⟨c1, c2, c3⟩ := cutL_some hc
        obtain ⟨s1, s2, s3⟩ := cut_sums hL c1 c2 c3
        have eg : L.getD c n0 = L[c] := by rw [List.getD_eq_getElem?_getD, List.getElem?_eq_getElem c2]; rfl
        rw [eg] at hs
        have htd : ∀ x, x ∈ L ↔ x ∈ L.take c ∨ x ∈ L.drop c := fun x => by rw [← List.mem_append, List.take_append_drop]
        have hlow : ∀ x ∈ L, p.1.s ≤ sum x.t ∧ (∀ q ∈ B, sum x.t < q.1.s) := fun x hx => by
          rcases (hmem x).1 hx with hx | rfl
          · have hb := h.between
            have hr := h.rising
            rw [eT] at hb hr
            exact ⟨between_low hb p (by simp) x hx, fun q hq => between_far (List.pairwise_append.1 hr).2.1 (between_behind A hb) q hq x hx⟩
          · exact ⟨h2, h3⟩
        have hps : p.1.s < sum (L[c]).t := by
          have := (hlow L[c - 1] (List.getElem_mem _)).1
          omega
        split at hs
        · rename_i h1
          injection hs with hs _
          rw [← hs]
          refine ⟨_, treeOk_two (enc_eq henc.1) (enc_eq henc.2) (by omega) (sum_lt _) (fun x hx => s1 x ((sortR_mem _ _ _).1 hx)) (fun x hx => s2 x ((sortR_mem _ _ _).1 hx)), fun x => ?_⟩
          have hone : T.length = 1 := by
            rcases h.rows with ⟨_, h2⟩ | ⟨h2, _⟩
            · rw [← List.length_map (f := Prod.fst), h2]; rfl
            · omega
          rw [eT, List.length_append, List.length_cons] at hone
          have hA : A = [] := List.length_eq_zero_iff.1 (by omega)
          have hB : B = [] := List.length_eq_zero_iff.1 (by omega)
          subst hA hB
          rw [eT]
          unfold has
          simp only [List.nil_append, List.mem_cons, List.not_mem_nil, or_false, exists_eq_or_imp, exists_eq_left, sortR_mem]
          rw [← htd, hmem]
          exact Or.comm
        · rename_i h1
          injection hs with hs _
          have hr := h.rows
          rcases hr with ⟨hr, _⟩ | ⟨hr, hok, _⟩
          · exact absurd hr h1
          · have hlen := (rowsOk_iff.1 hok).1.1
            rw [List.length_map] at hlen
            have hcut := TreeOk.cut (lo := sortR ordN (L.take c)) (hi := sortR ordN (L.drop c)) (s := sum (L[c]).t) (A := A) (B := B) (p := p) (d := d) (by rw [← eT]; exact h) hr (by omega) (enc_eq henc.1) (enc_eq henc.2) hps (sum_lt _) (fun q hq => (hlow L[c] (List.getElem_mem _)).2 q hq) (fun x hx => by
              have hx := (sortR_mem _ _ _).1 hx
              exact ⟨(hlow x ((htd x).2 (.inl hx))).1, s1 x hx⟩) (fun x hx => by
              have hx := (sortR_mem _ _ _).1 hx
              exact ⟨s2 x hx, fun q hq => (hlow x ((htd x).2 (.inr hx))).2 q (List.mem_of_mem_head? hq)⟩)
            have ep : T.getD (atL (T.map Prod.fst) (sum e.t) T.length) p0 = p := by
              rw [← hk, List.getD_eq_getElem?_getD, eT, List.getElem?_append_right (Nat.le_refl _), Nat.sub_self]; rfl
            have er : (T.map Prod.fst).take (atL (T.map Prod.fst) (sum e.t) T.length + 1) ++ ((⟨sum (L[c]).t, d.length⟩ : Rw) :: (T.map Prod.fst).drop (atL (T.map Prod.fst) (sum e.t) T.length + 1)) = A.map Prod.fst ++ p.1 :: ⟨sum (L[c]).t, d.length⟩ :: B.map Prod.fst := by
              rw [← hk, eT]
              have e1 : ((A ++ p :: B).map Prod.fst) = (A.map Prod.fst ++ [p.1]) ++ B.map Prod.fst := by simp
              have e2 : A.length + 1 = (A.map Prod.fst ++ [p.1]).length := by simp
              rw [e1, e2, List.take_left' rfl, List.drop_left' rfl]
              simp
            rw [ep, er] at hs
            rw [← hs]
            refine ⟨_, hcut, fun x => ?_⟩
            rw [has_parts, eT, has_parts A B p]
            have e3 : has (A ++ (⟨sum (L[c]).t, d.length⟩, sortR ordN (L.drop c)) :: B) x ↔ x ∈ sortR ordN (L.drop c) ∨ has (A ++ B) x := has_parts A B _ x
            rw [e3, sortR_mem, sortR_mem, ← or_assoc, ← htd, hmem, ← or_assoc]
            exact or_congr_left Or.comm
      · cases hs
/-- What Add tells. -/
theorem addD_ok {d : List (List UInt8)} {T : Leaves} (h : readD d = some T) {e : Nm} {r : List (List UInt8)} (ha : addD d e = (r, 0)) : okN e = true ∧ (∀ x, has T x → x.t ≠ e.t) ∧ ∃ U, readD r = some U ∧ ∀ x, has U x ↔ x = e ∨ has T x := by
  have ht := (readD_iff d T).1 h
  unfold addD at ha
  rw [h] at ha
  dsimp only at ha
  split at ha
  · cases ha
  · rename_i hok
    split at ha
    · cases ha
    · rename_i hn
      refine ⟨by simpa using hok, fun x hx he => hn ((ht.there e.t).2 ⟨x, hx, he⟩), ?_⟩
      cases hw : withL d (leafAt T e.t).1.b ((leafAt T e.t).2 ++ [e]) with
      | some c =>
        rw [hw] at ha
        injection ha with ha _
        subst ha
        obtain ⟨w1, w2⟩ := withL_some hw
        obtain ⟨U, hU, hx⟩ := ht.other e.t w1 (fun x hx => by
          rw [sortR_mem, List.mem_append, List.mem_singleton] at hx
          exact hx.imp id (fun hx => by rw [hx]))
        refine ⟨U, by rw [w2]; exact (readD_iff _ _).2 hU, fun x => ?_⟩
        rw [hx, sortR_mem, List.mem_append, List.mem_singleton]
        constructor
        · rintro ((hx | hx) | hx)
          · exact .inr (ht.leaf_has e.t hx)
          · exact .inl hx
          · exact .inr hx.1
        · rintro (hx | hx)
          · exact .inl (.inr hx)
          · by_cases hl : x ∈ (leafAt T e.t).2
            · exact .inl (.inl hl)
            · exact .inr ⟨hx, hl⟩
      | none =>
        rw [hw] at ha
        obtain ⟨U, hU, hx⟩ := split_ok ht hn ha
        exact ⟨U, (readD_iff _ _).2 hU, hx⟩
theorem apart_other {d : List (List UInt8)} {T : Leaves} (h : TreeOk d T) (t : List UInt8) {x : Nm} (hx : has T x) (hn : x ∉ (leafAt T t).2) : x.t ≠ t := fun e => by
  obtain ⟨_, _, _, _, _, _, hh⟩ := h.around t
  exact hn ((hh x e).1 hx)
/-- What Remove tells; and what it doesn't. -/
theorem removeD_ok {d : List (List UInt8)} {T : Leaves} (h : readD d = some T) (t : List UInt8) : (okN ⟨t, 0⟩ = false ∧ removeD d t = ([], 1)) ∨ (okN ⟨t, 0⟩ = true ∧ (∀ x, has T x → x.t ≠ t) ∧ removeD d t = ([], 3)) ∨ (okN ⟨t, 0⟩ = true ∧ (∃ x, has T x ∧ x.t = t) ∧ ∃ r U, removeD d t = (r, 0) ∧ readD r = some U ∧ ∀ x, has U x ↔ has T x ∧ x.t ≠ t) := by
  have ht := (readD_iff d T).1 h
  unfold removeD
  rw [h]
  dsimp only
  by_cases hok : okN ⟨t, 0⟩ = false
  · rw [if_pos hok]
    exact .inl ⟨hok, rfl⟩
  · rw [if_neg hok]
    have hok' : okN ⟨t, 0⟩ = true := by simpa using hok
    by_cases hp : placeA (leafAt T t).2 t < (leafAt T t).2.length
    · rw [if_pos hp]
      refine .inr (.inr ⟨hok', (ht.there t).1 hp, ?_⟩)
      have hr := ht.right _ (ht.leaf_mem t)
      have hz := (leaf_right (ht.leaf _ (ht.leaf_mem t))).2.1
      have hr' := right_without _ (placeA (leafAt T t).2 t) hr
      have hz' := size_without _ _ hp
      have es := sortN_right hr' (right_apart hr') (fun y => Iff.rfl)
      have ee : (enc (sortR ordN ((leafAt T t).2.take (placeA (leafAt T t).2 t) ++ (leafAt T t).2.drop (placeA (leafAt T t).2 t + 1)))).2 = 0 := by rw [es, enc_yes hr' (by omega)]
      have hm := without_mem (right_apart hr) hp
      rw [placeA_here _ _ hp] at hm
      have hw : withL d (leafAt T t).1.b ((leafAt T t).2.take (placeA (leafAt T t).2 t) ++ (leafAt T t).2.drop (placeA (leafAt T t).2 t + 1)) = some (d.set (leafAt T t).1.b (enc (sortR ordN ((leafAt T t).2.take (placeA (leafAt T t).2 t) ++ (leafAt T t).2.drop (placeA (leafAt T t).2 t + 1)))).1) := by unfold withL; rw [if_pos ee]
      obtain ⟨U, hU, hx⟩ := ht.other t ee (fun x hx => by rw [sortR_mem] at hx; exact .inl ((hm x).1 hx).1)
      rw [hw]
      refine ⟨_, U, rfl, (readD_iff _ _).2 hU, fun x => ?_⟩
      rw [hx, sortR_mem, hm]
      constructor
      · rintro (hx | hx)
        · exact ⟨ht.leaf_has t hx.1, hx.2⟩
        · exact ⟨hx.1, apart_other ht t hx.1 hx.2⟩
      · rintro ⟨h1, h2⟩
        by_cases hl : x ∈ (leafAt T t).2
        · exact .inl ⟨hl, h2⟩
        · exact .inr ⟨h1, hl⟩
    · rw [if_neg hp]
      exact .inr (.inl ⟨hok', fun x hx he => hp ((ht.there t).2 ⟨x, hx, he⟩), rfl⟩)
/-- What Set tells; and what it doesn't. -/
theorem setD_ok {d : List (List UInt8)} {T : Leaves} (h : readD d = some T) (e : Nm) : (okN e = false ∧ setD d e = ([], 1)) ∨ (okN e = true ∧ (∀ x, has T x → x.t ≠ e.t) ∧ setD d e = ([], 3)) ∨ (okN e = true ∧ (∃ x, has T x ∧ x.t = e.t) ∧ ∃ r U, setD d e = (r, 0) ∧ readD r = some U ∧ ∀ x, has U x ↔ x = e ∨ (has T x ∧ x.t ≠ e.t)) := by
  have ht := (readD_iff d T).1 h
  unfold setD
  rw [h]
  dsimp only
  by_cases hok : okN e = false
  · rw [if_pos hok]
    exact .inl ⟨hok, rfl⟩
  · rw [if_neg hok]
    have hok' : okN e = true := by simpa using hok
    by_cases hp : placeA (leafAt T e.t).2 e.t < (leafAt T e.t).2.length
    · rw [if_pos hp]
      refine .inr (.inr ⟨hok', (ht.there e.t).1 hp, ?_⟩)
      have hr := ht.right _ (ht.leaf_mem e.t)
      have hz := (leaf_right (ht.leaf _ (ht.leaf_mem e.t))).2.1
      have hh := placeA_here _ _ hp
      have hrs := right_set hr hp e.i (okN_may hok').2
      have hm := set_mem (right_apart hr) hp e.i
      rw [hh] at hrs hm
      have hr' : right ((leafAt T e.t).2.set (placeA (leafAt T e.t).2 e.t) e) = true := hrs.1
      have hz' : sizeL ((leafAt T e.t).2.set (placeA (leafAt T e.t).2 e.t) e) = sizeL (leafAt T e.t).2 := hrs.2
      have hm' : ∀ x, x ∈ (leafAt T e.t).2.set (placeA (leafAt T e.t).2 e.t) e ↔ x = e ∨ (x ∈ (leafAt T e.t).2 ∧ x.t ≠ e.t) := hm
      have es := sortN_right hr' (right_apart hr') (fun y => Iff.rfl)
      have ee : (enc (sortR ordN ((leafAt T e.t).2.set (placeA (leafAt T e.t).2 e.t) e))).2 = 0 := by rw [es, enc_yes hr' (by omega)]
      have hw : withL d (leafAt T e.t).1.b ((leafAt T e.t).2.set (placeA (leafAt T e.t).2 e.t) e) = some (d.set (leafAt T e.t).1.b (enc (sortR ordN ((leafAt T e.t).2.set (placeA (leafAt T e.t).2 e.t) e))).1) := by unfold withL; rw [if_pos ee]
      obtain ⟨U, hU, hx⟩ := ht.other e.t ee (fun x hx => by
        rw [sortR_mem] at hx
        rcases (hm' x).1 hx with hx | hx
        · exact .inr (by rw [hx])
        · exact .inl hx.1)
      rw [hw]
      refine ⟨_, U, rfl, (readD_iff _ _).2 hU, fun x => ?_⟩
      rw [hx, sortR_mem, hm']
      constructor
      · rintro ((hx | hx) | hx)
        · exact .inl hx
        · exact .inr ⟨ht.leaf_has e.t hx.1, hx.2⟩
        · exact .inr ⟨hx.1, apart_other ht e.t hx.1 hx.2⟩
      · rintro (hx | ⟨h1, h2⟩)
        · exact .inl (.inl hx)
        · by_cases hl : x ∈ (leafAt T e.t).2
          · exact .inl (.inr ⟨hl, h2⟩)
          · exact .inr ⟨h1, hl⟩
    · rw [if_neg hp]
      exact .inr (.inl ⟨hok', fun x hx he => hp ((ht.there e.t).2 ⟨x, hx, he⟩), rfl⟩)
/-- What Find tells. -/
theorem findD_ok {d : List (List UInt8)} {T : Leaves} (h : readD d = some T) (t : List UInt8) : (okN ⟨t, 0⟩ = false ∧ findD d t = (0, 1)) ∨ (okN ⟨t, 0⟩ = true ∧ (∀ x, has T x → x.t ≠ t) ∧ findD d t = (0, 3)) ∨ (okN ⟨t, 0⟩ = true ∧ ∃ x, has T x ∧ x.t = t ∧ findD d t = (x.i, 0)) := by
  have ht := (readD_iff d T).1 h
  unfold findD
  rw [h]
  dsimp only
  by_cases hok : okN ⟨t, 0⟩ = false
  · rw [if_pos hok]
    exact .inl ⟨hok, rfl⟩
  · rw [if_neg hok]
    have hok' : okN ⟨t, 0⟩ = true := by simpa using hok
    by_cases hp : placeA (leafAt T t).2 t < (leafAt T t).2.length
    · rw [if_pos hp]
      refine .inr (.inr ⟨hok', _, ht.leaf_has t (List.getElem_mem hp), placeA_here _ _ hp, ?_⟩)
      rw [List.getD_eq_getElem?_getD, List.getElem?_eq_getElem hp]; rfl
    · rw [if_neg hp]
      exact .inr (.inl ⟨hok', fun x hx he => hp ((ht.there t).2 ⟨x, hx, he⟩), rfl⟩)
end Go.Proofs.YtbagocghlijleaaGreat.Ht

namespace Go.Proofs.YtbagocghlijleaaGreat.Ht
set_option maxRecDepth 20000
open Go.Proofs.YtbagocghlijleaaGreat.Mem Go.Proofs.YtbagocghlijleaaGreat.Crc Go.Proofs.YtbagocghlijleaaGreat.Bst Go.Proofs.YtbagocghlijleaaGreat.Lf

theorem splitD_ways (d : List (List UInt8)) (T : Leaves) (k : Nat) (l : List Nm) : splitD d T k l = ([], 9) ∨ ∃ r, splitD d T k l = (r, 0) := by
  unfold splitD
  split
  · exact .inl rfl
  · split
    · exact .inl rfl
    · split
      · split
        · exact .inr ⟨_, rfl⟩
        · exact .inr ⟨_, rfl⟩
      · exact .inl rfl
theorem addD_ways {d : List (List UInt8)} {T : Leaves} (h : readD d = some T) (e : Nm) : (okN e = false ∧ addD d e = ([], 1)) ∨ (okN e = true ∧ (∃ x, has T x ∧ x.t = e.t) ∧ addD d e = ([], 4)) ∨ (okN e = true ∧ (∀ x, has T x → x.t ≠ e.t) ∧ (addD d e = ([], 9) ∨ ∃ r U, addD d e = (r, 0) ∧ readD r = some U ∧ ∀ x, has U x ↔ x = e ∨ has T x)) := by
  have ht := (readD_iff d T).1 h
  by_cases hok : okN e = false
  · refine .inl ⟨hok, ?_⟩
    unfold addD
    rw [h]
    dsimp only
    rw [if_pos hok]
  · have hok' : okN e = true := by simpa using hok
    by_cases hp : placeA (leafAt T e.t).2 e.t < (leafAt T e.t).2.length
    · refine .inr (.inl ⟨hok', (ht.there e.t).1 hp, ?_⟩)
      unfold addD
      rw [h]
      dsimp only
      rw [if_neg hok, if_pos hp]
    · refine .inr (.inr ⟨hok', fun x hx he => hp ((ht.there e.t).2 ⟨x, hx, he⟩), ?_⟩)
      have hw : addD d e = ([], 9) ∨ ∃ r, addD d e = (r, 0) := by
        unfold addD
        rw [h]
        dsimp only
        rw [if_neg hok, if_neg hp]
        cases withL d (leafAt T e.t).1.b ((leafAt T e.t).2 ++ [e]) with
        | some c => exact .inr ⟨c, rfl⟩
        | none => exact splitD_ways _ _ _ _
      rcases hw with hw | ⟨r, hw⟩
      · exact .inl hw
      · obtain ⟨_, _, U, hU, hx⟩ := addD_ok h hw
        exact .inr ⟨r, U, hw, hU, hx⟩

/-! ### How many there are -/
theorem TreeOk.ok {d : List (List UInt8)} {T : Leaves} (h : TreeOk d T) {x : Nm} (hx : has T x) : okN x = true := by
  obtain ⟨p, hp, hx⟩ := hx
  exact ((right_iff _).1 (h.right p hp)).1 x hx
theorem TreeOk.few {d : List (List UInt8)} {T : Leaves} (h : TreeOk d T) : T.length ≤ 30 := by
  rcases h.rows with ⟨_, h2⟩ | ⟨_, h2, _⟩
  · rw [← List.length_map (f := Prod.fst), h2]; decide
  · have := (rowsOk_iff.1 h2).1
    rw [List.length_map] at this
    omega
theorem inOrder_len : ∀ {T : Leaves}, (∀ p ∈ T, p.2.length ≤ 41) → (inOrder T).length ≤ 41 * T.length
  | [], _ => Nat.zero_le _
  | p :: T, h => by
    have h1 := h p List.mem_cons_self
    have h2 := inOrder_len (fun q hq => h q (List.mem_cons_of_mem _ hq)) (T := T)
    unfold inOrder at h2 ⊢
    rw [List.flatMap_cons, List.length_append, sortR_len, List.length_cons]
    omega
theorem TreeOk.most {d : List (List UInt8)} {T : Leaves} (h : TreeOk d T) : (inOrder T).length ≤ 1230 := by
  have h1 := inOrder_len (T := T) (fun p hp => by
    have := leaf_right (h.leaf p hp)
    exact (many_enc p.2 this.1 this.2.1).2.2)
  have := h.few
  omega

/-! ### What After tells -/
theorem afterT_all {d : List (List UInt8)} {T : Leaves} (h : TreeOk d T) (n : Int) (hn : 1230 ≤ n) : afterT T [] n = inOrder T := by
  unfold afterT
  have e : (inOrder T).filter (fun x => decide (([] : List UInt8) = []) || bel [] x.t) = inOrder T := by simp
  rw [e]
  exact List.take_of_length_le (by have := h.most; omega)
theorem afterT_none (T : Leaves) (t : List UInt8) (n : Int) (hn : n ≤ 0) : afterT T t n = [] := by
  unfold afterT
  rw [show n.toNat = 0 by omega, List.take_zero]
theorem TreeOk.named {d : List (List UInt8)} {T : Leaves} (h : TreeOk d T) {x : Nm} (hx : x ∈ inOrder T) : x.t ≠ [] := fun e => by
  have := (may_len (okN_may (h.ok ((has_mem T x).2 hx))).1).1
  rw [e] at this
  exact absurd this (by decide)
/-- The name that After goes on behind, where k entries were told. -/
def onL (l : List Nm) (k : Nat) : List UInt8 := if k = 0 then [] else (l.getD (k - 1) n0).t
theorem afterT_on {d : List (List UInt8)} {T : Leaves} (h : TreeOk d T) (k : Nat) (hk : k ≤ (inOrder T).length) (n : Int) : afterT T (onL (inOrder T) k) n = ((inOrder T).drop k).take n.toNat := by
  unfold afterT onL
  by_cases h0 : k = 0
  · subst h0
    have e : (inOrder T).filter (fun x => decide (([] : List UInt8) = []) || bel [] x.t) = inOrder T := by simp
    rw [if_pos rfl, e, List.drop_zero]
  · rw [if_neg h0]
    have hl : k - 1 < (inOrder T).length := by omega
    have eg : (inOrder T).getD (k - 1) n0 = (inOrder T)[k - 1] := by rw [List.getD_eq_getElem?_getD, List.getElem?_eq_getElem hl]; rfl
    rw [eg]
    have es : inOrder T = (inOrder T).take (k - 1) ++ (inOrder T)[k - 1] :: (inOrder T).drop k := by
      have : (inOrder T).drop (k - 1) = (inOrder T)[k - 1] :: (inOrder T).drop (k - 1 + 1) := List.drop_eq_getElem_cons hl
      rw [show k - 1 + 1 = k by omega] at this
      rw [← this, List.take_append_drop]
    rw [after_split h.order es (h.named (List.getElem_mem hl))]
/-- Entries of two directories that are the same but for one name are told in the same order. -/
theorem same_but {d c : List (List UInt8)} {T U : Leaves} (h : TreeOk d T) (h' : TreeOk c U) (t : List UInt8) (hx : ∀ x, x.t ≠ t → (has U x ↔ has T x)) : (inOrder U).filter (fun x => decide (x.t ≠ t)) = (inOrder T).filter (fun x => decide (x.t ≠ t)) := by
  refine pair_unique ordB_trans (fun a => bel_irrefl a.t) _ _ (h'.order.filter _) (h.order.filter _) (fun y => ?_)
  rw [List.mem_filter, List.mem_filter, decide_eq_true_iff, ← has_mem, ← has_mem]
  constructor
  · rintro ⟨h1, h2⟩
    exact ⟨(hx y h2).1 h1, h2⟩
  · rintro ⟨h1, h2⟩
    exact ⟨(hx y h2).2 h1, h2⟩
theorem same_all {d c : List (List UInt8)} {T U : Leaves} (h : TreeOk d T) (h' : TreeOk c U) (hx : ∀ x, has U x ↔ has T x) : inOrder U = inOrder T :=
  pair_unique ordB_trans (fun a => bel_irrefl a.t) _ _ h'.order h.order (fun y => by rw [← has_mem, ← has_mem]; exact hx y)
/-- What is told behind an entry, while another name's came or went: the others, each once, in order. -/
theorem afterT_meanwhile {d c : List (List UInt8)} {T U : Leaves} (h : TreeOk d T) (h' : TreeOk c U) (t : List UInt8) (hx : ∀ x, x.t ≠ t → (has U x ↔ has T x)) (k : Nat) (hk : k < (inOrder T).length) (n : Int) (hn : 1230 ≤ n) : (afterT U ((inOrder T)[k]).t n).filter (fun x => decide (x.t ≠ t)) = ((inOrder T).drop (k + 1)).filter (fun x => decide (x.t ≠ t)) := by
  have hne := h.named (List.getElem_mem hk)
  have es : inOrder T = (inOrder T).take k ++ (inOrder T)[k] :: (inOrder T).drop (k + 1) := by
    rw [← List.drop_eq_getElem_cons hk, List.take_append_drop]
  have hb := after_split h.order es hne
  have hlen : ((inOrder U).filter (fun x => decide (((inOrder T)[k]).t = []) || bel ((inOrder T)[k]).t x.t)).length ≤ n.toNat := by
    have h1 := List.length_filter_le (fun x : Nm => decide (((inOrder T)[k]).t = []) || bel ((inOrder T)[k]).t x.t) (inOrder U)
    have h2 := h'.most
    omega
  unfold afterT
  rw [List.take_of_length_le hlen, List.filter_filter]
  conv => rhs; rw [← hb]
  rw [List.filter_filter]
  have e1 : ∀ l : List Nm, l.filter (fun x => decide (x.t ≠ t) && (decide (((inOrder T)[k]).t = []) || bel ((inOrder T)[k]).t x.t)) = (l.filter (fun x => decide (x.t ≠ t))).filter (fun x => decide (((inOrder T)[k]).t = []) || bel ((inOrder T)[k]).t x.t) := fun l => by
    rw [List.filter_filter]
    exact List.filter_congr (fun x _ => Bool.and_comm _ _)
  rw [e1, e1, same_but h h' t hx]

/-! ### Names added, in whatever order -/
/-- What a directory becomes by names that are added, each with a number of its own; the directory stays where an answer is an error. -/
def addsD (f : List UInt8 → Int) (d : List (List UInt8)) : List (List UInt8) → List (List UInt8) × Bool
  | [] => (d, true)
  | t :: l => if (addD d ⟨t, f t⟩).2 = 9 then (d, false) else addsD f (if (addD d ⟨t, f t⟩).2 = 0 then (addD d ⟨t, f t⟩).1 else d) l
theorem addsD_has (f : List UInt8 → Int) : ∀ (l : List (List UInt8)) (d : List (List UInt8)) (T : Leaves), readD d = some T → (∀ x, has T x → x.i = f x.t) → (addsD f d l).2 = true → ∃ U, readD (addsD f d l).1 = some U ∧ ∀ x, has U x ↔ has T x ∨ (x.t ∈ l ∧ x.i = f x.t ∧ okN x = true)
  | [], d, T, h, _, _ => ⟨T, h, fun x => by simp⟩
  | t :: l, d, T, h, hf, hs => by
    unfold addsD at hs ⊢
    have step : ∀ (d' : List (List UInt8)) (T' : Leaves), readD d' = some T' → (∀ x, has T' x ↔ has T x ∨ (x.t = t ∧ x.i = f x.t ∧ okN x = true)) → (addsD f d' l).2 = true → ∃ U, readD (addsD f d' l).1 = some U ∧ ∀ x, has U x ↔ has T x ∨ (x.t ∈ t :: l ∧ x.i = f x.t ∧ okN x = true) := by
      intro d' T' h' hT' hs'
      obtain ⟨U, hU, hx⟩ := addsD_has f l d' T' h' (fun x hx => by
        rcases (hT' x).1 hx with hx | hx
        · exact hf x hx
        · exact hx.2.1) hs'
      refine ⟨U, hU, fun x => ?_⟩
      rw [hx, hT', List.mem_cons]
      constructor
      · rintro ((h1 | h1) | h1)
        · exact .inl h1
        · exact .inr ⟨.inl h1.1, h1.2⟩
        · exact .inr ⟨.inr h1.1, h1.2⟩
      · rintro (h1 | ⟨h1 | h1, h2⟩)
        · exact .inl (.inl h1)
        · exact .inl (.inr ⟨h1, h2⟩)
        · exact .inr ⟨h1, h2⟩
    have eta : ∀ x : Nm, x.t = t → x.i = f x.t → x = ⟨t, f t⟩ := fun x h1 h2 => by
      cases x
      dsimp only at h1 h2
      subst h1
      rw [h2]
    rcases addD_ways h ⟨t, f t⟩ with ⟨h1, h2⟩ | ⟨h1, ⟨y, hy, hyt⟩, h2⟩ | ⟨h1, hn, h2 | ⟨r, U, h2, hU, hx⟩⟩
    · rw [h2] at hs ⊢
      refine step d T h (fun x => ⟨.inl, ?_⟩) hs
      rintro (hx | ⟨k1, k2, k3⟩)
      · exact hx
      · rw [eta x k1 k2, h1] at k3; cases k3
    · rw [h2] at hs ⊢
      refine step d T h (fun x => ⟨.inl, ?_⟩) hs
      rintro (hx | ⟨k1, k2, k3⟩)
      · exact hx
      · have : x = y := by rw [eta x k1 k2, eta y hyt (hf y hy)]
        rw [this]; exact hy
    · rw [h2] at hs
      simp at hs
    · rw [h2] at hs ⊢
      refine step r U hU (fun x => ?_) hs
      rw [hx]
      constructor
      · rintro (hx | hx)
        · rw [hx]; exact .inr ⟨rfl, rfl, h1⟩
        · exact .inl hx
      · rintro (hx | ⟨k1, k2, _⟩)
        · exact .inr hx
        · exact .inl (eta x k1 k2)
/-- The directory of one leaf without entries. -/
def newD : List (List UInt8) := [blockL []]
theorem readD_new : readD newD = some [(⟨0, 0⟩, [])] := by
  refine (readD_iff _ _).2 ⟨.inl ⟨rfl, rfl⟩, fun p hp => ?_, ⟨(fun x hx => by cases hx), (fun q hq => by cases hq), trivial⟩⟩
  rw [List.mem_singleton] at hp
  rw [hp]
  exact enc_yes rfl (by decide)
theorem has_new (x : Nm) : ¬ has [(⟨0, 0⟩, [])] x := by
  rintro ⟨p, hp, hx⟩
  rw [List.mem_singleton] at hp
  rw [hp] at hx
  cases hx
/-- The same names, in whatever order, where none was refused for space: the same entries in the same order. -/
theorem addsD_same (f : List UInt8 → Int) (l m : List (List UInt8)) (hm : ∀ t, t ∈ l ↔ t ∈ m) (h1 : (addsD f newD l).2 = true) (h2 : (addsD f newD m).2 = true) : ∃ T U, readD (addsD f newD l).1 = some T ∧ readD (addsD f newD m).1 = some U ∧ inOrder T = inOrder U := by
  obtain ⟨T, hT, kT⟩ := addsD_has f l newD _ readD_new (fun x hx => absurd hx (has_new x)) h1
  obtain ⟨U, hU, kU⟩ := addsD_has f m newD _ readD_new (fun x hx => absurd hx (has_new x)) h2
  refine ⟨T, U, hT, hU, same_all ((readD_iff _ _).1 hU) ((readD_iff _ _).1 hT) (fun x => ?_)⟩
  rw [kT, kU, hm]
end Go.Proofs.YtbagocghlijleaaGreat.Ht

namespace Go.Proofs.YtbagocghlijleaaGreat.Ht
set_option maxRecDepth 20000
open Go.Proofs.YtbagocghlijleaaGreat.Mem Go.Proofs.YtbagocghlijleaaGreat.Crc Go.Proofs.YtbagocghlijleaaGreat.Bst Go.Proofs.YtbagocghlijleaaGreat.Lf

theorem nodup_steps (l : List Nat) : l.Nodup ↔ ∀ i, (h : i < l.length) → l[i] ∉ l.take i := by
  unfold List.Nodup
  rw [List.pairwise_iff_getElem]
  constructor
  · intro h i hi hm
    obtain ⟨j, hj, e⟩ := List.mem_iff_getElem.1 hm
    rw [List.length_take] at hj
    rw [List.getElem_take] at e
    exact h j i (by omega) hi (by omega) e
  · intro h i j hi hj hij e
    refine h j hj ?_
    rw [← e]
    exact List.mem_iff_getElem.2 ⟨i, by rw [List.length_take]; omega, by rw [List.getElem_take]⟩
theorem rising_steps (l : List Nat) : l.Pairwise (· < ·) ↔ ∀ i, 0 < i → (h : i < l.length) → l[i - 1] < l[i] := by
  rw [List.pairwise_iff_getElem]
  constructor
  · intro h i h0 hi
    exact h (i - 1) i (by omega) hi (by omega)
  · intro h i j hi hj hij
    have hk : ∀ k, (hk : i + 1 + k < l.length) → l[i] < l[i + 1 + k] := by
      intro k
      induction k with
      | zero =>
        intro hk
        have := h (i + 1) (by omega) hk
        exact this
      | succ k ih =>
        intro hk
        have h1 := ih (by omega)
        have h2 := h (i + 1 + (k + 1)) (by omega) hk
        have e : i + 1 + (k + 1) - 1 = i + 1 + k := by omega
        simp only [e] at h2
        omega
    have := hk (j - (i + 1)) (by omega)
    have e : i + 1 + (j - (i + 1)) = j := by omega
    simp only [e] at this
    exact this
/-- May a row stand there, as to those ahead of it? -/
def okRow (n : Nat) (l : List Rw) (i : Nat) : Bool :=
  decide (1 ≤ (l.getD i ⟨0, 0⟩).b ∧ (l.getD i ⟨0, 0⟩).b ≤ n) && (decide ((l.getD i ⟨0, 0⟩).b ∉ (l.take i).map Rw.b) && (decide (i = 0 → (l.getD i ⟨0, 0⟩).s = 0) && decide (0 < i → (l.getD (i - 1) ⟨0, 0⟩).s < (l.getD i ⟨0, 0⟩).s)))
theorem rowsOk_steps {n : Nat} {l : List Rw} (hl : l.length = n) (h2 : 2 ≤ n) (h30 : n ≤ 30) (h32 : ∀ r ∈ l, r.s < 4294967296) : rowsOk n l = true ↔ ∀ i, i < n → okRow n l i = true := by
  have hg : ∀ i, (h : i < l.length) → l.getD i ⟨0, 0⟩ = l[i] := fun i h => by rw [List.getD_eq_getElem?_getD, List.getElem?_eq_getElem h]; rfl
  have hp : l.Pairwise (fun a b => a.s < b.s) ↔ (l.map Rw.s).Pairwise (· < ·) := by rw [List.pairwise_map]
  rw [rowsOk_iff, hp, nodup_steps, rising_steps]
  constructor
  · rintro ⟨_, k1, k2, k3, k4⟩ i hi
    unfold okRow
    simp only [Bool.and_eq_true, decide_eq_true_iff]
    have hi' : i < l.length := by omega
    refine ⟨by rw [hg i hi']; exact ⟨(k1 _ (List.getElem_mem hi')).1, (k1 _ (List.getElem_mem hi')).2.1⟩, ?_, fun h0 => ?_, fun h0 => ?_⟩
    · have := k2 i (by rw [List.length_map]; exact hi')
      rw [List.getElem_map, ← List.map_take] at this
      rw [hg i hi']; exact this
    · subst h0
      rw [hg 0 hi']
      cases l with
      | nil => simp at hi'
      | cons a l =>
        simp only [List.head?_cons, Option.map_some, Option.some.injEq] at k3
        exact k3
    · have := k4 i h0 (by rw [List.length_map]; exact hi')
      rw [List.getElem_map, List.getElem_map] at this
      rw [hg i hi', hg (i - 1) (by omega)]
      exact this
  · intro h
    have hs : ∀ i, (hi : i < l.length) → (1 ≤ (l[i]).b ∧ (l[i]).b ≤ n) ∧ (l[i]).b ∉ (l.take i).map Rw.b ∧ (i = 0 → (l[i]).s = 0) ∧ (0 < i → (l[i - 1]).s < (l[i]).s) := fun i hi => by
      have := h i (by omega)
      unfold okRow at this
      simp only [Bool.and_eq_true, decide_eq_true_iff] at this
      rw [hg i hi, hg (i - 1) (by omega)] at this
      exact this
    refine ⟨⟨hl, h2, h30⟩, fun r hr => ?_, fun i hi => ?_, ?_, fun i h0 hi => ?_⟩
    · obtain ⟨i, hi, rfl⟩ := List.mem_iff_getElem.1 hr
      exact ⟨(hs i hi).1.1, (hs i hi).1.2, h32 _ hr⟩
    · rw [List.length_map] at hi
      rw [List.getElem_map, ← List.map_take]
      exact (hs i hi).2.1
    · have h0 := (hs 0 (by omega)).2.2.1 rfl
      cases l with
      | nil => simp at hl; omega
      | cons a l =>
        simp only [List.head?_cons, Option.map_some, Option.some.injEq]
        exact h0
    · rw [List.length_map] at hi
      rw [List.getElem_map, List.getElem_map]
      exact (hs i hi).2.2.2 h0
/-- The sums that a block's rows tell are of 32 bits. -/
theorem rowsAt_32 (b : List UInt8) (n : Nat) : ∀ r ∈ rowsAt b n, r.s < 4294967296 := fun r hr => by
  unfold rowsAt at hr
  obtain ⟨i, _, rfl⟩ := List.mem_map.1 hr
  have h1 := numAt_lt ((b.drop (4 + 8 * i)).take 4) ((b.drop (4 + 8 * i)).take 4).length
  have h2 : ((b.drop (4 + 8 * i)).take 4).length ≤ 4 := by rw [List.length_take]; omega
  have h3 : 2 ^ (8 * ((b.drop (4 + 8 * i)).take 4).length) ≤ 2 ^ 32 := Nat.pow_le_pow_right (by decide) (by omega)
  exact Nat.lt_of_lt_of_le h1 h3
/-- Of a block whose rows are read. -/
theorem rowsD_head {b : List UInt8} {n : Nat} {l : List Rw} (h : rowsD b n = some l) : b.length = 256 ∧ num2 b 0 2 = n ∧ l = rowsAt b n ∧ 2 ≤ n ∧ n ≤ 30 := by
  obtain ⟨h1, h2⟩ := rowsD_some h
  obtain ⟨⟨k1, k2, k3⟩, _⟩ := rowsOk_iff.1 h1
  refine ⟨by rw [← h2]; exact indexL_len (by omega), ?_, ?_, k2, k3⟩
  · rw [← h2]
    unfold num2 indexL bodyI headI
    rw [List.drop_zero]
    simp only [List.append_assoc]
    rw [take_at (bytesL_len _ _), nmb_bytes _ _ (by omega), k1]
  · unfold rowsD at h
    split at h
    · injection h with h
      exact h.symm
    · cases h

/-! ### How many -/
theorem TreeOk.many {d : List (List UInt8)} {T : Leaves} (h : TreeOk d T) {K : List (List UInt8)} (hK : K.Nodup) (hm : ∀ t, t ∈ K ↔ ∃ x, has T x ∧ x.t = t) : (inOrder T).length = K.length := by
  have h1 : ((inOrder T).map Nm.t).Nodup := by
    unfold List.Nodup
    rw [List.pairwise_map]
    refine List.Pairwise.imp (fun {a b} hl he => ?_) h.order
    unfold ordB at hl
    rw [he, bel_irrefl] at hl
    cases hl
  have h2 : ((inOrder T).map Nm.t).Perm K := (List.perm_ext_iff_of_nodup h1 hK).2 (fun t => by
    rw [hm, List.mem_map]
    constructor
    · rintro ⟨x, hx, e⟩
      exact ⟨x, (has_mem T x).2 hx, e⟩
    · rintro ⟨x, hx, e⟩
      exact ⟨x, (has_mem T x).1 hx, e⟩)
  rw [← h2.length_eq, List.length_map]
end Go.Proofs.YtbagocghlijleaaGreat.Ht

namespace Go.Proofs.YtbagocghlijleaaGreat.Ht
set_option maxRecDepth 20000
open Go.Proofs.YtbagocghlijleaaGreat.Crc Go.Proofs.YtbagocghlijleaaGreat.Lf

theorem pig_le : ∀ (n : Nat) (l : List Nat), l.Nodup → (∀ x ∈ l, 1 ≤ x ∧ x ≤ n) → l.length ≤ n
  | 0, [], _, _ => Nat.le_refl _
  | 0, x :: l, _, h => by have := h x List.mem_cons_self; omega
  | n + 1, l, hd, h => by
    by_cases hm : n + 1 ∈ l
    · have h1 := pig_le n (l.erase (n + 1)) (hd.sublist List.erase_sublist) (fun x hx => by
        have := (List.Nodup.mem_erase_iff hd).1 hx
        have := h x this.2
        omega)
      rw [List.length_erase_of_mem hm] at h1
      omega
    · have h1 := pig_le n l hd (fun x hx => by
        have h2 := h x hx
        have : x ≠ n + 1 := fun e => hm (e ▸ hx)
        omega)
      omega
theorem pig_mem : ∀ (n : Nat) (l : List Nat), l.Nodup → (∀ x ∈ l, 1 ≤ x ∧ x ≤ n) → l.length = n → ∀ j, 1 ≤ j → j ≤ n → j ∈ l
  | 0, _, _, _, _, j, h1, h2 => by omega
  | n + 1, l, hd, h, hl, j, h1, h2 => by
    by_cases hm : n + 1 ∈ l
    · by_cases hj : j = n + 1
      · exact hj ▸ hm
      · have := pig_mem n (l.erase (n + 1)) (hd.sublist List.erase_sublist) (fun x hx => by
          have := (List.Nodup.mem_erase_iff hd).1 hx
          have := h x this.2
          omega) (by rw [List.length_erase_of_mem hm]; omega) j h1 (by omega)
        exact List.mem_of_mem_erase this
    · have h1 := pig_le n l hd (fun x hx => by
        have h2 := h x hx
        have : x ≠ n + 1 := fun e => hm (e ▸ hx)
        omega)
      omega
theorem TreeOk.sizes {d : List (List UInt8)} {T : Leaves} (h : TreeOk d T) : (∀ b ∈ d, b.length = 256) ∧ 1 ≤ d.length ∧ d.length ≤ 31 := by
  have hleaf : ∀ p ∈ T, (d.getD p.1.b []).length = 256 := fun p hp => by
    have h1 := h.leaf p hp
    have h2 : (enc p.2).2 = 0 := by rw [h1]
    obtain ⟨_, h4, h5⟩ := enc_zero h2
    have h6 : d.getD p.1.b [] = blockL p.2 := by
      have := h1.symm.trans h5
      exact congrArg Prod.fst this
    rw [h6]; exact blockL_len h4
  rcases h.rows with ⟨h1, h2⟩ | ⟨h1, h2, h3⟩
  · refine ⟨fun b hb => ?_, by omega, by omega⟩
    obtain ⟨j, hj, rfl⟩ := List.mem_iff_getElem.1 hb
    have hp : ∃ p ∈ T, p.1 = ⟨0, 0⟩ := by
      have : (⟨0, 0⟩ : Rw) ∈ T.map Prod.fst := by rw [h2]; exact List.mem_singleton.2 rfl
      obtain ⟨p, hp, e⟩ := List.mem_map.1 this
      exact ⟨p, hp, e⟩
    obtain ⟨p, hp, e⟩ := hp
    have := hleaf p hp
    rw [e] at this
    have hj0 : j = 0 := by omega
    subst hj0
    rw [List.getD_eq_getElem?_getD, List.getElem?_eq_getElem hj] at this
    exact this
  · obtain ⟨r1, r2, r3, _⟩ := rowsOk_iff.1 h2
    refine ⟨fun b hb => ?_, by omega, by omega⟩
    obtain ⟨j, hj, rfl⟩ := List.mem_iff_getElem.1 hb
    rcases Nat.eq_zero_or_pos j with hj0 | hj0
    · subst hj0
      rw [List.getD_eq_getElem?_getD, List.getElem?_eq_getElem hj] at h3
      have : d[0] = indexL (T.map Prod.fst) := h3
      rw [this]
      exact indexL_len (by omega)
    · have hm := pig_mem (d.length - 1) ((T.map Prod.fst).map Rw.b) r3 (fun x hx => by
        obtain ⟨r, hr, rfl⟩ := List.mem_map.1 hx
        exact ⟨(r2 r hr).1, (r2 r hr).2.1⟩) (by rw [List.length_map]; exact r1.1) j hj0 (by omega)
      obtain ⟨r, hr, e⟩ := List.mem_map.1 hm
      obtain ⟨p, hp, e2⟩ := List.mem_map.1 hr
      have := hleaf p hp
      rw [e2, e, List.getD_eq_getElem?_getD, List.getElem?_eq_getElem hj] at this
      exact this
end Go.Proofs.YtbagocghlijleaaGreat.Ht
