/- Store: the program's call and the document's. -/
import Derived.Test.YtkhenchhafmlmaaExNds
import Derived.Test.YtkhenchhafmlmaaExCalls
import Derived.Test.YtkhenchhafmlmaaExRCode
import Derived.Test.YtkhenchhafmlmaaExRCheck
import Derived.Lib.MinMax
namespace Go.Proofs.Ytkhenchhafmlmaa.Ex
set_option maxRecDepth 20000
open Go Go.RowKit
open Go.Proofs.Ytkhenchhafmlmaa.Mem Go.Proofs.Ytkhenchhafmlmaa.Crc Go.Proofs.Ytkhenchhafmlmaa.Rec Go.Proofs.Ytkhenchhafmlmaa.Reg
attribute [local go_sem ↓] ldX_eq stX_eq

/-- What Store answers. -/
def storeL (l : List X) (bs : List Int) : List UInt8 × List (List UInt8) × Int :=
  if decide (needL l = (bs.length : Int)) && numB bs then (if bs.length = 0 then (holdB l 60, [], 0) else (nameB bs, nodesB l, 0)) else ([], [], 1)
def StoreOut (base : Nat) (r : List UInt8) (N : List (List UInt8)) (er : Int) (w : World) : Ending → World → Prop := fun E w' => ∃ A1 c1 A2 c2, E = .returned (.tuple #[.slice A1 r.length c1, .slice A2 N.length c2, .int .i64 er]) ∧
  Owned w' base (.slice A1 r.length c1) r ∧ OwnN w' base (.slice A2 N.length c2) N ∧ Below base w w'
theorem owned_none (w : World) (base : Nat) : Owned w base (.slice none 0 0) [] := ⟨rfl, .inl ⟨rfl, rfl⟩⟩
theorem store_bad {l : List X} {bs : List Int} (h : needL l ≠ (bs.length : Int) ∨ numB bs = false) : storeL l bs = ([], [], 1) := by
  unfold storeL
  rcases h with h | h
  · simp [h]
  · simp [h]
theorem needL_right {l : List X} {k : Nat} (h : needL l = (k : Int)) : right l = true ∧ needN l.length = k := by
  unfold needL at h
  cases hr : right l with
  | true => rw [hr, if_pos rfl] at h; exact ⟨rfl, by omega⟩
  | false => rw [hr] at h; simp at h
theorem num_range {bs : List Int} (h : numB bs = true) : ∀ x ∈ bs, 1 ≤ x ∧ x < 1024 := fun x hx => by
  obtain ⟨j, hj, rfl⟩ := List.mem_iff_getElem.1 hx
  have := (numB_iff bs).1 h j hj
  exact ⟨this.1, this.2.1⟩

set_option maxRecDepth 100000 in
set_option maxHeartbeats 4000000 in
theorem store_any (A A' : Option Addr) (n c n' c' B B' : Nat) (l : List X) (bs : List Int) (w : World) (h : HoldsX w B A n l) (hB : B ≤ w.heap.size) (hr : ∀ x ∈ l, x.rep) (hc : n ≤ c) (h' : HoldsI w B' A' n' bs) (hB' : B' ≤ w.heap.size) (hc' : n' ≤ c') (hn' : n' ≤ 9223372036854775806) :
    Calls Try.prog 27 #[.slice A n c, .slice A' n' c'] w (StoreOut w.heap.size (storeL l bs).1 (storeL l bs).2.1 (storeL l bs).2.2 w) := by
  have hneed := need_any A n c B l w h hB hr hc
  have hap := fun V (hV : Below w.heap.size w V) => apart_any A' n' c' B' bs V (h'.below (hV.mono hB')) (by have := hV.size; omega) hc' hn'
  have hln := h.1
  have hln' := h'.1
  unfold StoreOut
  have HN := Lib.hid hneed; clear hneed
  by_cases hne : needL l = (n' : Int)
  · cases hnb : numB bs with
    | false =>
      rw [store_bad (.inr hnb)]
      rw [hnb] at hap
      have HAP := Lib.hid hap; clear hap
      have hne1 : ((needL l != (n' : Int)) : Bool) = false := by simp [hne]
      have hne2 : ¬ needL l ≠ (n' : Int) := by simp [hne]
      clear h h' hr hln hln' hnb
      generalize needL l = nd at HN hne hne1 hne2
      subst hne
      clear hne1 hne2
      go_enter Try.func27, Try.ntmps27
      go_wp2_with fail
      with_reducible refine HN.out.mono ?_
      rintro E V ⟨rfl, hb⟩
      have HB := Lib.hid hb; clear hb
      go_wp2_with fail
      with_reducible refine (HAP.out V HB.out).mono ?_
      rintro E V2 ⟨rfl, hb2⟩
      have HB2 : Hid (Below w.heap.size w V2) := Lib.hid (HB.out.trans (hb2.mono HB.out.size))
      clear hb2
      go_wp2
      go_ret3
      exact ⟨none, 0, none, 0, rfl, owned_none _ _, OwnN.nil _ _, HB2.out⟩
    | true =>
      obtain ⟨hright, hnn⟩ := needL_right hne
      have h60 := (right_lin hright).2.2.2.2
      have hmay := ((right_iff l).1 hright).2.1
      have hrng := num_range hnb
      have hst : storeL l bs = (if bs.length = 0 then (holdB l 60, [], 0) else (nameB bs, nodesB l, 0)) := by
        unfold storeL
        rw [hnb, hln', hne]
        simp
      rw [hst]
      clear hst
      rw [hnb] at hap
      have HAP := Lib.hid hap; clear hap
      have hn3 : n' ≤ 3 := by rw [← hnn]; unfold needN; split <;> omega
      by_cases h0 : n' = 0
      · subst h0
        have hl0 : bs = [] := List.length_eq_zero_iff.1 hln'
        subst hl0
        have h4 : n ≤ 4 := by
          rw [hln] at hnn
          unfold needN at hnn
          split at hnn
          · assumption
          · omega
        simp only [List.length_nil, if_true]
        have hhold : ∀ V, Below w.heap.size w V → Calls Try.prog 46 #[.slice A n c, .int .i64 60] V fun E w' => E = .returned (.slice (some ⟨V.heap.size, 0, none⟩) 60 60) ∧ Owned w' V.heap.size (.slice (some ⟨V.heap.size, 0, none⟩) 60 60) (holdB l 60) ∧ Below V.heap.size V w' := fun V hV => holding_any A n c B 60 l V (h.below (hV.mono hB)) (by have := hV.size; omega) hmay (by omega) (by omega)
        have hhl := holdB_len l 60 (by omega)
        obtain ⟨HBs, hHB⟩ : ∃ HBs, HBs = holdB l 60 := ⟨_, rfl⟩
        rw [← hHB] at hhold hhl ⊢
        have HHOLD := Lib.hid hhold; clear hhold
        have HHL := Lib.hid hhl; clear hhl hHB
        clear h h' hr hln hln' hnb hright hnn h60 hmay hrng hn3 h4
        generalize needL l = nd at HN hne
        subst hne
        go_enter Try.func27, Try.ntmps27
        go_wp2_with fail
        with_reducible refine HN.out.mono ?_
        rintro E V ⟨rfl, hb⟩
        have HB := Lib.hid hb; clear hb
        go_wp2_with fail
        with_reducible refine (HAP.out V HB.out).mono ?_
        rintro E V2 ⟨rfl, hb2⟩
        have HB2 : Hid (Below w.heap.size w V2) := Lib.hid (HB.out.trans (hb2.mono HB.out.size))
        clear hb2
        go_wp2_with fail
        with_reducible refine (HHOLD.out V2 HB2.out).mono ?_
        rintro E V3 ⟨rfl, ho3, hb3⟩
        have HO3 : Hid (Owned V3 w.heap.size (.slice (some ⟨V2.heap.size, 0, none⟩) 60 60) HBs) := Lib.hid (Owned.mono ho3 HB2.out.size)
        have HB3 : Hid (Below w.heap.size w V3) := Lib.hid (HB2.out.trans (hb3.mono HB2.out.size))
        clear ho3 hb3
        go_wp2
        go_ret3
        exact ⟨_, 60, none, 0, by rw [HHL.out]; rfl, by rw [HHL.out]; exact HO3.out, OwnN.nil _ _, HB3.out⟩
      · rw [if_neg (by omega)]
        have hname := fun V (hV : Below w.heap.size w V) => naming_any A' n' c' B' bs V (h'.below (hV.mono hB')) (by have := hV.size; omega) (fun x hx => by have := hrng x hx; omega) (by omega)
        have h0n : 0 < n := by
          rcases Nat.eq_zero_or_pos n with e | e
          · rw [hln, e] at hnn; unfold needN at hnn; simp at hnn; omega
          · exact e
        have hnds := fun V (hV : Below w.heap.size w V) => nodesOf_any A n c B l V (h.below (hV.mono hB)) (by have := hV.size; omega) hmay (by omega) h0n hc
        have hnl := nameB_len bs (by omega)
        obtain ⟨NB, hNB⟩ : ∃ NB, NB = nameB bs := ⟨_, rfl⟩
        obtain ⟨ND, hND⟩ : ∃ ND, ND = nodesB l := ⟨_, rfl⟩
        rw [← hNB] at hname hnl ⊢
        rw [← hND] at hnds ⊢
        have HNAME := Lib.hid hname; clear hname
        have HNDS := Lib.hid hnds; clear hnds
        have HNL := Lib.hid hnl; clear hnl hNB hND
        have h0' : ¬ (n' : Int) = 0 := by omega
        clear h h' hr hln hln' hnb hright hnn h60 hmay hrng hn3 h0n
        generalize needL l = nd at HN hne
        subst hne
        go_enter Try.func27, Try.ntmps27
        go_wp2_with fail
        with_reducible refine HN.out.mono ?_
        rintro E V ⟨rfl, hb⟩
        have HB := Lib.hid hb; clear hb
        go_wp2_with fail
        with_reducible refine (HAP.out V HB.out).mono ?_
        rintro E V2 ⟨rfl, hb2⟩
        have HB2 : Hid (Below w.heap.size w V2) := Lib.hid (HB.out.trans (hb2.mono HB.out.size))
        clear hb2
        go_wp2_with fail
        with_reducible refine (HNAME.out V2 HB2.out).mono ?_
        rintro E V3 ⟨rfl, ho3, hb3⟩
        have HO3 : Hid (Owned V3 w.heap.size (.slice (some ⟨V2.heap.size, 0, none⟩) 60 60) NB) := Lib.hid (Owned.mono ho3 HB2.out.size)
        have HB3 : Hid (Below w.heap.size w V3) := Lib.hid (HB2.out.trans (hb3.mono HB2.out.size))
        clear ho3 hb3
        go_wp2_with fail
        with_reducible refine (HNDS.out V3 HB3.out).mono ?_
        rintro E V4 ⟨A4, c4, rfl, ho4, hb4⟩
        have HO4 : Hid (OwnN V4 w.heap.size (.slice A4 ND.length c4) ND) := Lib.hid (ho4.mono HB3.out.size)
        have HO5 : Hid (Owned V4 w.heap.size (.slice (some ⟨V2.heap.size, 0, none⟩) 60 60) NB) := Lib.hid (Owned.keep HO3.out hb4 (Nat.le_refl _))
        have HB4 : Hid (Below w.heap.size w V4) := Lib.hid (HB3.out.trans (hb4.mono HB3.out.size))
        clear ho4 hb4
        obtain ⟨NN, hNN⟩ : ∃ NN, NN = ND.length := ⟨_, rfl⟩
        rw [← hNN] at HO4 ⊢
        have HNN := Lib.hid hNN; clear hNN
        go_wp2
        go_ret3
        exact ⟨_, 60, A4, c4, by rw [HNL.out, ← HNN.out]; rfl, by rw [HNL.out]; exact HO5.out, by rw [← HNN.out]; exact HO4.out, HB4.out⟩
  · rw [store_bad (.inl (by rw [hln']; exact hne))]
    clear h h' hr hln hln' hap
    generalize needL l = nd at HN hne
    go_enter Try.func27, Try.ntmps27
    go_wp2_with fail
    with_reducible refine HN.out.mono ?_
    rintro E V ⟨rfl, hb⟩
    have HB := Lib.hid hb; clear hb
    go_wp2
    go_ret3
    exact ⟨none, 0, none, 0, rfl, owned_none _ _, OwnN.nil _ _, HB.out⟩
end Go.Proofs.Ytkhenchhafmlmaa.Ex
