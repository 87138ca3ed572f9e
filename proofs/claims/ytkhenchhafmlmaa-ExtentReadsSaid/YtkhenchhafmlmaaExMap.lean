/- The document's map of a file's blocks: Spread, Gather and fit. -/
import Derived.Test.YtkhenchhafmlmaaExJoin
import Derived.Test.YtkhenchhafmlmaaExCuts
import Derived.Test.YtkhenchhafmlmaaExLaws
import Derived.Test.YtkhenchhafmlmaaRegF
namespace Go.Proofs.Ytkhenchhafmlmaa.Ex
set_option maxRecDepth 20000
open Go.RowKit
open Go.Proofs.Ytkhenchhafmlmaa.Mem Go.Proofs.Ytkhenchhafmlmaa.Crc Go.Proofs.Ytkhenchhafmlmaa.Rec Go.Proofs.Ytkhenchhafmlmaa.Reg
attribute [local go_sem ↓] ldX_eq stX_eq

/-! ### In plain words -/
/-- The extents of one block each that a map stands for, of its first k blocks. -/
def singles (T : Nat → Int) (B : Nat → Bool) (k : Nat) : List X := (List.range k).filterMap fun i => if T i = 0 then none else some ⟨i, T i, 1, B i⟩
theorem singles_succ (T : Nat → Int) (B : Nat → Bool) (k : Nat) : singles T B (k + 1) = singles T B k ++ if T k = 0 then [] else [⟨k, T k, 1, B k⟩] := by
  unfold singles
  rw [List.range_succ, List.filterMap_append]
  congr 1
  by_cases h : T k = 0
  · simp [h]
  · simp [h]
theorem singles_mem {T : Nat → Int} {B : Nat → Bool} {k : Nat} {x : X} (h : x ∈ singles T B k) : ∃ i, i < k ∧ T i ≠ 0 ∧ x = ⟨i, T i, 1, B i⟩ := by
  unfold singles at h
  obtain ⟨i, hi, hx⟩ := List.mem_filterMap.1 h
  split at hx
  · cases hx
  · rename_i h0
    injection hx with hx
    exact ⟨i, by simpa using hi, h0, hx.symm⟩
theorem singles_lin (T : Nat → Int) (B : Nat → Bool) : ∀ k, k ≤ 256 → Lin (singles T B k)
  | 0, _ => trivial
  | k + 1, hk => by
    rw [singles_succ]
    split
    · rw [List.append_nil]; exact singles_lin T B k (by omega)
    · refine lin_append.2 ⟨singles_lin T B k (by omega), lin_one (by dsimp only; omega), fun x hx y hy => ?_⟩
      obtain ⟨i, hi, _, rfl⟩ := singles_mem hx
      rw [List.mem_singleton.1 hy]
      dsimp only
      omega
theorem singles_at (T : Nat → Int) (B : Nat → Bool) : ∀ (k : Nat) (b : Int), at_ (singles T B k) b = if 0 ≤ b ∧ b < k ∧ T b.toNat ≠ 0 then some (T b.toNat, B b.toNat) else none
  | 0, b => by
    rw [if_neg (by omega)]; rfl
  | k + 1, b => by
    rw [singles_succ, at_append, singles_at T B k b]
    by_cases hb : b = (k : Int)
    · subst hb
      rw [if_neg (by omega)]
      by_cases h0 : T k = 0
      · rw [if_pos h0, if_neg (by simp [h0])]; rfl
      · rw [if_neg h0, if_pos ⟨by omega, by omega, by simpa using h0⟩]
        simp [at_]
        omega
    · have h1 : at_ (if T k = 0 then [] else [(⟨k, T k, 1, B k⟩ : X)]) b = none := by
        split
        · rfl
        · unfold at_
          rw [if_neg (by dsimp only; omega)]; rfl
      rw [h1, Option.or_none]
      by_cases hc : 0 ≤ b ∧ b < (k : Int) ∧ T b.toNat ≠ 0
      · rw [if_pos hc, if_pos ⟨hc.1, by omega, hc.2.2⟩]
      · rw [if_neg hc, if_neg (fun h => hc ⟨h.1, by omega, h.2.2⟩)]
/-- A map tells what a list tells. -/
def Same (T : Nat → Int) (B : Nat → Bool) (l : List X) : Prop := ∀ i : Nat, i < 256 → match at_ l i with | some v => T i = v.1 ∧ T i ≠ 0 ∧ B i = v.2 | none => T i = 0
theorem same_at {T : Nat → Int} {B : Nat → Bool} {l : List X} (h : Same T B l) (hr : ∀ b v, at_ l b = some v → 0 ≤ b ∧ b < 256) (b : Int) : at_ (singles T B 256) b = at_ l b := by
  rw [singles_at]
  by_cases hb : 0 ≤ b ∧ b < 256
  · have h1 := h b.toNat (by omega)
    rw [show ((b.toNat : Nat) : Int) = b by omega] at h1
    cases hv : at_ l b with
    | none =>
      rw [hv] at h1
      rw [if_neg (fun hc => hc.2.2 h1)]
    | some v =>
      rw [hv] at h1
      rw [if_pos ⟨hb.1, by omega, h1.2.1⟩, h1.1, h1.2.2]
  · rw [if_neg (fun hc => hb ⟨hc.1, by omega⟩)]
    cases hv : at_ l b with
    | none => rfl
    | some v => exact absurd (hr b v hv) hb
/-- What is put together of the map's blocks is what is put together of a list that tells the same. -/
theorem fits_same {T : Nat → Int} {B : Nat → Bool} {r : List X} (hr : Lin r) (h : Same T B r) : fits (singles T B 256) = fits r := by
  have h1 := singles_lin T B 256 (Nat.le_refl _)
  have e : pack (singles T B 256) = pack r := lin_unique _ _ (pack_ok _ h1).1 (pack_ok _ h1).2.1 (pack_ok _ hr).1 (pack_ok _ hr).2.1 fun b => by
    rw [(pack_ok _ h1).2.2.1, (pack_ok _ hr).2.2.1, same_at h (fun b v hv => at_range hr hv)]
  unfold fits
  rw [e]

/-! ### In memory -/
structure MapAt (w : World) (g : Nat) (T : Nat → Int) (B : Nat → Bool) : Prop where
  row : ∃ cur, w.heap[g]? = some (.cells cur 66 (0, 0)) ∧ cur.size = 512 ∧ (∀ i, i < 256 → cur[i]? = some (.int .i64 (T i))) ∧ ∀ i, i < 256 → cur[256 + i]? = some (.bool (B i))
theorem MapAt.lt {w : World} {g : Nat} {T : Nat → Int} {B : Nat → Bool} (h : MapAt w g T B) : g < w.heap.size := by
  obtain ⟨cur, h1, _⟩ := h.row
  exact (Array.getElem?_eq_some_iff.1 h1).1
theorem MapAt.kept {w w' : World} {g : Nat} {T : Nat → Int} {B : Nat → Bool} (h : MapAt w g T B) (hk : w'.heap[g]? = w.heap[g]?) : MapAt w' g T B := by
  obtain ⟨cur, h1, h2⟩ := h.row
  exact ⟨cur, hk.trans h1, h2⟩
theorem MapAt.to {w : World} {g : Nat} {T : Nat → Int} {B : Nat → Bool} (h : MapAt w g T B) (i : Nat) (hi : i < 256) : w.cell? ⟨g, i, none⟩ = some (.int .i64 (T i)) ∧ w.frozen? ⟨g, i, none⟩ = false := by
  obtain ⟨cur, h1, h2, h3, h4⟩ := h.row
  exact ⟨by rw [cell_of_row w g i _ _ _ h1]; exact h3 i hi, frozen_of_row w g i _ _ h1⟩
theorem MapAt.blank {w : World} {g : Nat} {T : Nat → Int} {B : Nat → Bool} (h : MapAt w g T B) (i : Nat) (hi : i < 256) : w.cell? ⟨g, 256 + i, none⟩ = some (.bool (B i)) ∧ w.frozen? ⟨g, 256 + i, none⟩ = false := by
  obtain ⟨cur, h1, h2, h3, h4⟩ := h.row
  exact ⟨by rw [cell_of_row w g (256 + i) _ _ _ h1]; exact h4 i hi, frozen_of_row w g (256 + i) _ _ h1⟩
def upd {α : Type} (f : Nat → α) (i : Nat) (v : α) : Nat → α := fun j => if j = i then v else f j
theorem MapAt.setTo {w : World} {g : Nat} {T : Nat → Int} {B : Nat → Bool} (h : MapAt w g T B) (i : Nat) (hi : i < 256) (v : Int) : MapAt (w.setCell ⟨g, i, none⟩ (.int .i64 v)) g (upd T i v) B := by
  obtain ⟨cur, h1, h2, h3, h4⟩ := h.row
  refine ⟨_, heap_setCell_same w g i _ _ _ h1, by rw [Array.size_setIfInBounds]; exact h2, fun j hj => ?_, fun j hj => ?_⟩
  · rw [Array.getElem?_setIfInBounds]
    unfold upd
    by_cases e : i = j
    · rw [if_pos e, if_pos (by omega), if_pos e.symm]
    · rw [if_neg e, if_neg (fun h => e h.symm)]; exact h3 j hj
  · rw [Array.getElem?_setIfInBounds, if_neg (by omega)]; exact h4 j hj
theorem MapAt.setBlank {w : World} {g : Nat} {T : Nat → Int} {B : Nat → Bool} (h : MapAt w g T B) (i : Nat) (hi : i < 256) (v : Bool) : MapAt (w.setCell ⟨g, 256 + i, none⟩ (.bool v)) g T (upd B i v) := by
  obtain ⟨cur, h1, h2, h3, h4⟩ := h.row
  refine ⟨_, heap_setCell_same w g (256 + i) _ _ _ h1, by rw [Array.size_setIfInBounds]; exact h2, fun j hj => ?_, fun j hj => ?_⟩
  · rw [Array.getElem?_setIfInBounds, if_neg (by omega)]; exact h3 j hj
  · rw [Array.getElem?_setIfInBounds]
    unfold upd
    by_cases e : i = j
    · rw [if_pos (by omega), if_pos (by omega), if_pos e.symm]
    · rw [if_neg (by omega), if_neg (fun h => e h.symm)]; exact h4 j hj

set_option maxRecDepth 100000 in
set_option maxHeartbeats 4000000 in
theorem gather_any (g : Nat) (T : Nat → Int) (B : Nat → Bool) (w : World) (h : MapAt w g T B) (hT : ∀ i, i < 256 → 0 ≤ T i ∧ T i ≤ 1024) :
    Calls Try.prog 63 #[.pointer (some ⟨g, 0, none⟩)] w fun E w' => ∃ A c, E = .returned (.slice A (pack (singles T B 256)).length c) ∧ OwnX w' w.heap.size (.slice A (pack (singles T B 256)).length c) (pack (singles T B 256)) ∧ Below w.heap.size w w' := by
  have hgl := h.lt
  have hsz : g < w.heap.size := hgl
  have H := Lib.hid h; clear h
  have HT := Lib.hid hT; clear hT
  have HGL := Lib.hid hgl; clear hgl
  go_enter Try.func63, Try.ntmps63
  go_wp2
  go_loopw [3, 4] (fun v i wr => ∃ (k nl : Nat) (Al : Option Addr) (cl : Nat), k ≤ 256 ∧ nl = (pack (singles T B k)).length ∧ i = .int .i64 (k : Int) ∧ v = .slice Al nl cl ∧ OwnX wr w.heap.size (.slice Al nl cl) (pack (singles T B k)) ∧ Below w.heap.size w wr) (fun _ i _ => 256 - (intOf i).toNat)
  case atStart => exact ⟨0, 0, none, 0, Nat.zero_le _, rfl, rfl, rfl, OwnX.nil _ _, Below.refl _ _⟩
  case round =>
    obtain ⟨k, nl, Al, cl, hk, hnl, rfl, rfl, hol, hbr⟩ := hrel
    rcases Nat.lt_or_ge k 256 with hlt | hge
    rotate_left
    · have hkn : k = 256 := by omega
      have HO : Hid (OwnX wr w.heap.size (.slice Al nl cl) (pack (singles T B 256))) := Lib.hid (by rw [hkn] at hol; exact hol)
      have HN : Hid (nl = (pack (singles T B 256)).length) := Lib.hid (by rw [hkn] at hnl; exact hnl)
      have HBR := Lib.hid hbr; clear hbr hol hnl
      have HKN := Lib.hid hkn; clear hkn
      have hge' : ¬ (k : Int) < 256 := by omega
      go_wp2
      go_ret
      rw [← HN.out]
      exact ⟨Al, cl, rfl, HO.out, HBR.out⟩
    · have hm := (H.out.kept (hbr.block g HGL.out))
      have hnl256 : nl ≤ 256 := by
        rw [hnl]
        have h1 := pack_len (singles T B k)
        have h2 : (singles T B k).length ≤ k := by unfold singles; exact Nat.le_trans (List.length_filterMap_le _ _) (by simp)
        omega
      have hmm : ∀ V, Below wr.heap.size wr V → V.cell? ⟨g, k, none⟩ = some (.int .i64 (T k)) ∧ V.cell? ⟨g, 256 + k, none⟩ = some (.bool (B k)) := fun V hV => by
        have h1 := hm.kept (hV.block g hm.lt)
        exact ⟨(h1.to k hlt).1, (h1.blank k hlt).1⟩
      have HMM := Lib.hid hmm; clear hmm hm
      obtain ⟨q0, -⟩ := HMM.out wr (Below.refl _ _)
      have htk := HT.out k hlt
      have hss := singles_succ T B k
      obtain ⟨tk, htke⟩ : ∃ tk, tk = T k := ⟨_, rfl⟩
      obtain ⟨bk, hbke⟩ : ∃ bk, bk = B k := ⟨_, rfl⟩
      rw [← htke, ← hbke] at hss
      rw [← htke] at q0 htk
      rw [← htke, ← hbke] at HMM
      have hk0 : (0 : Int) ≤ (k : Int) := by omega
      have hkn : (k : Int) < 256 := by omega
      have HBR := Lib.hid hbr; clear hbr
      have HNL := Lib.hid hnl; clear hnl
      have HOL := Lib.hid hol; clear hol
      have HSS := Lib.hid hss; clear hss
      clear htke hbke
      by_cases hz : tk = 0
      · have HO : Hid (OwnX wr w.heap.size (.slice Al nl cl) (pack (singles T B (k + 1)))) := Lib.hid (by rw [HSS.out, if_pos hz, List.append_nil]; exact HOL.out)
        have HN : Hid (nl = (pack (singles T B (k + 1))).length) := Lib.hid (by rw [HSS.out, if_pos hz, List.append_nil]; exact HNL.out)
        subst hz
        go_wp2
        go_roundw
        case rel => exact ⟨k + 1, nl, Al, cl, by omega, HN.out, by go_num, rfl, HO.out, HBR.out⟩
        case measure => simp [intOf]; omega
      · have hzb : (tk == 0) = false := beq_false_of_ne hz
        obtain ⟨e, he⟩ : ∃ e : X, e = ⟨(k : Int), tk, 1, bk⟩ := ⟨_, rfl⟩
        have hpk : pack (singles T B (k + 1)) = join (pack (singles T B k)) e := by rw [HSS.out, if_neg hz, pack_snoc, he]
        have hesm : e.sm := by rw [he]; exact ⟨⟨by dsimp only; omega, by dsimp only; omega⟩, ⟨by dsimp only; omega, by dsimp only; omega⟩, ⟨by simp, by simp⟩⟩
        have hpsm : ∀ y ∈ pack (singles T B k), y.sm := fun y hy => by
          have := lin_small (singles_lin T B k (by omega)) (fun z hz => by
            obtain ⟨i, hi, h0, rfl⟩ := singles_mem hz
            have := HT.out i (by omega)
            dsimp only
            omega) y hy
          exact ⟨by omega, by omega, by omega⟩
        obtain ⟨L, hL⟩ : ∃ L, L = pack (singles T B k) := ⟨_, rfl⟩
        rw [← hL] at hpk hpsm HNL HOL
        have HPK := Lib.hid hpk; clear hpk hL
        have HK2 : Hid ((pack (singles T B (k + 1))).length = (join L e).length) := Lib.hid (by rw [HPK.out])
        have hec : e.c = #[.int .i64 (k : Int), .int .i64 tk, .int .i64 1, .bool bk] := by rw [he]; rfl
        have HEC := Lib.hid hec; clear hec
        have HE := Lib.hid he; clear he
        go_wp2_with fail
        refine wp_region_E (fun V => Below wr.heap.size wr V) 99 rfl ?_
        have hS := (show Below wr.heap.size wr wr.drew from (Below.refl _ wr).drew)
        obtain ⟨U, hU⟩ : ∃ U, U = wr.drew := ⟨_, rfl⟩
        rw [← hU] at hS ⊢
        clear hU
        refine wpE_takeF 0 ⟨some 17, _, _, _, _, _⟩ (v := ?_) (by decide) rfl (by kernel_rfl) (by kernel_rfl) (by kernel_rfl) (fun _ _ _ h => h) hS (Or.inl ⟨by kernel_rfl, ?_⟩) ?_
        rotate_left
        · (intro V hSw; obtain ⟨hq1, hq2⟩ := HMM.out V hSw; go_simp; try with_reducible rfl)
        try simp only [Act.put]
        refine wpE_takeF 1 ⟨some 18, _, _, _, _, _⟩ (v := ?_) (by decide) rfl (by kernel_rfl) (by kernel_rfl) (by kernel_rfl) (fun _ _ _ h => h) hS (Or.inl ⟨by kernel_rfl, ?_⟩) ?_
        rotate_left
        · (intro V hSw; obtain ⟨hq1, hq2⟩ := HMM.out V hSw; go_simp; try with_reducible rfl)
        try simp only [Act.put]
        refine wpE_takeF 2 ⟨some 19, _, _, _, _, _⟩ (v := ?_) (by decide) rfl (by kernel_rfl) (by kernel_rfl) (by kernel_rfl) (fun _ _ _ h => h) hS (Or.inl ⟨by kernel_rfl, ?_⟩) ?_
        rotate_left
        · (intro V hSw; obtain ⟨hq1, hq2⟩ := HMM.out V hSw; go_simp; try with_reducible rfl)
        try simp only [Act.put]
        refine wpE_takeF 3 ⟨some 20, _, _, _, _, _⟩ (v := ?_) (by decide) rfl (by kernel_rfl) (by kernel_rfl) (by kernel_rfl) (fun _ _ _ h => h) hS (Or.inl ⟨by kernel_rfl, ?_⟩) ?_
        rotate_left
        · (intro V hSw; obtain ⟨hq1, hq2⟩ := HMM.out V hSw; go_simp; try with_reducible rfl)
        try simp only [Act.put]
        refine wpE_takeF 4 ⟨some 21, _, _, _, _, _⟩ (v := ?_) (by decide) rfl (by kernel_rfl) (by kernel_rfl) (by kernel_rfl) (fun _ _ _ h => h) hS (Or.inl ⟨by kernel_rfl, ?_⟩) ?_
        rotate_left
        · (intro V hSw; obtain ⟨hq1, hq2⟩ := HMM.out V hSw; go_simp; try with_reducible rfl)
        try simp only [Act.put]
        refine wpE_takeF 5 ⟨some 22, _, _, _, _, _⟩ (v := ?_) (by decide) rfl (by kernel_rfl) (by kernel_rfl) (by kernel_rfl) (fun _ _ _ h => h) hS (Or.inl ⟨by kernel_rfl, ?_⟩) ?_
        rotate_left
        · (intro V hSw; obtain ⟨hq1, hq2⟩ := HMM.out V hSw; go_simp; try with_reducible rfl)
        try simp only [Act.put]
        refine wpE_takeF 6 ⟨some 23, _, _, _, _, _⟩ (v := ?_) (by decide) rfl (by kernel_rfl) (by kernel_rfl) (by kernel_rfl) (fun _ _ _ h => h) hS (Or.inl ⟨by kernel_rfl, ?_⟩) ?_
        rotate_left
        · (intro V hSw; obtain ⟨hq1, hq2⟩ := HMM.out V hSw; go_simp; try with_reducible rfl)
        try simp only [Act.put]
        refine wpE_takeF 7 ⟨some 24, _, _, _, _, _⟩ (v := ?_) (by decide) rfl (by kernel_rfl) (by kernel_rfl) (by kernel_rfl) (fun _ _ _ h => h) hS (Or.inl ⟨by kernel_rfl, ?_⟩) ?_
        rotate_left
        · (intro V hSw; obtain ⟨hq1, hq2⟩ := HMM.out V hSw; go_simp; try with_reducible rfl)
        try simp only [Act.put]
        refine wpE_takeF 8 ⟨some 25, _, _, _, _, _⟩ (v := ?_) (by decide) rfl (by kernel_rfl) (by kernel_rfl) (by kernel_rfl) (fun _ _ _ h => h) hS (Or.inl ⟨by kernel_rfl, ?_⟩) ?_
        rotate_left
        · (intro V hSw; obtain ⟨hq1, hq2⟩ := HMM.out V hSw; go_simp; try with_reducible rfl)
        try simp only [Act.put]
        refine wpE_takeF 9 ⟨some 26, _, _, _, _, _⟩ (v := ?_) (by decide) rfl (by kernel_rfl) (by kernel_rfl) (by kernel_rfl) (fun _ _ _ h => h) hS (Or.inl ⟨by kernel_rfl, ?_⟩) ?_
        rotate_left
        · (intro V hSw; obtain ⟨hq1, hq2⟩ := HMM.out V hSw; go_simp; try with_reducible rfl)
        try simp only [Act.put]
        refine wpE_takeF 10 ⟨some 27, _, _, _, _, _⟩ (v := ?_) (by decide) rfl (by kernel_rfl) (by kernel_rfl) (by kernel_rfl) (fun _ _ _ h => h) hS (Or.inl ⟨by kernel_rfl, ?_⟩) ?_
        rotate_left
        · (intro V hSw; obtain ⟨hq1, hq2⟩ := HMM.out V hSw; go_simp; try with_reducible rfl)
        try simp only [Act.put]
        refine wpE_takeF 11 ⟨some 28, _, _, _, _, _⟩ (v := ?_) (by decide) rfl (by kernel_rfl) (by kernel_rfl) (by kernel_rfl) (fun _ _ _ h => h) hS (Or.inl ⟨by kernel_rfl, ?_⟩) ?_
        rotate_left
        · (intro V hSw; obtain ⟨hq1, hq2⟩ := HMM.out V hSw; go_simp; try with_reducible rfl)
        try simp only [Act.put]
        refine wpE_takeF 12 ⟨some 29, _, _, _, _, _⟩ (v := ?_) (by decide) rfl (by kernel_rfl) (by kernel_rfl) (by kernel_rfl) (fun _ _ _ h => h) hS (Or.inl ⟨by kernel_rfl, ?_⟩) ?_
        rotate_left
        · (intro V hSw; obtain ⟨hq1, hq2⟩ := HMM.out V hSw; go_simp; try with_reducible rfl)
        try simp only [Act.put]
        refine wpE_takeF 13 ⟨some 30, _, _, _, _, _⟩ (v := ?_) (by decide) rfl (by kernel_rfl) (by kernel_rfl) (by kernel_rfl) (fun _ _ _ h => h) hS (Or.inl ⟨by kernel_rfl, ?_⟩) ?_
        rotate_left
        · (intro V hSw; obtain ⟨hq1, hq2⟩ := HMM.out V hSw; go_simp; try with_reducible rfl)
        try simp only [Act.put]
        refine wpE_one 14 (by kernel_rfl) rfl (fun K' hK' => ?_)
        go_simp
        refine hK'.out _ _ (hS.alloc hS.size _) (fun _ => ?_)
        clear hK' K'
        try simp only [Act.put]
        have hst := run_stX_new U e
        rw [HEC.out] at hst
        obtain ⟨W1, hW1⟩ : ∃ W1, W1 = U.alloc (.cells #[.int .i64 (k : Int), .int .i64 tk, .int .i64 1, .bool bk] 24) := ⟨_, rfl⟩
        have HV1 : Hid (VarX W1 U.heap.size e) := Lib.hid (by rw [hW1]; unfold VarX; rw [HEC.out]; exact heap_alloc_new U _)
        have HB1 : Hid (Below wr.heap.size wr W1) := Lib.hid (hW1 ▸ hS.alloc hS.size _)
        rw [← hW1] at hst
        clear hW1
        refine wpE_one 15 (by kernel_rfl) rfl (fun K' hK' => ?_)
        go_simp
        refine hK'.out _ _ HB1.out (fun _ => ?_)
        clear hK' K' hst hS
        refine wpE_done (by kernel_rfl) ?_ _
        try simp only [List.setIfInBounds_toArray, List.set_cons_succ, List.set_cons_zero]
        obtain ⟨gv, hgv⟩ : ∃ gv, gv = U.heap.size := ⟨_, rfl⟩
        rw [← hgv]
        rw [← hgv] at HV1
        clear hgv q0 hzb
        -- the one block in a variable
        have hrd : ∀ V, Below W1.heap.size W1 V → (ldX (.pointer (some ⟨gv, 0, none⟩))).run Try.prog V = .ok (.agg #[.int .i64 (k : Int), .int .i64 tk, .int .i64 1, .bool bk]) V := fun V hV => by
          have := (HV1.out.keep hV HV1.out.lt).load
          rwa [HEC.out] at this
        have HRD := Lib.hid hrd; clear hrd
        have HOL1 : Hid (OwnX W1 w.heap.size (.slice Al nl cl) L) := Lib.hid (HOL.out.below HB1.out)
        have happ : ∀ V, Below W1.heap.size W1 V → ∃ v' W', (Builtin.append_ #[22, 22] 22 #[.slice Al nl cl, .slice (some ⟨V.heap.size, 0, none⟩) 1 1]).run Try.prog (V.alloc (.cells #[.int .i64 (k : Int), .int .i64 tk, .int .i64 1, .bool bk] 24)) = .ok v' W' ∧ OwnX W' w.heap.size v' (L ++ [e]) ∧ Below w.heap.size w W' := fun V hV => by
          have hVw : Below w.heap.size w V := HBR.out.trans ((HB1.out.trans (hV.mono HB1.out.size)).mono HBR.out.size)
          obtain ⟨v', W', h1, h2, h3⟩ := run_appX V w.heap.size (.slice Al nl cl) L (HOL1.out.below hV) e 22 (by rw [← HNL.out]; omega) hVw.size
          have hc : (#[.int .i64 e.a, .int .i64 e.s, .int .i64 e.n, .bool e.u] : Array Value) = #[.int .i64 (k : Int), .int .i64 tk, .int .i64 1, .bool bk] := HEC.out
          rw [hc] at h1
          exact ⟨v', W', h1, h2, hVw.trans (h3.below hVw.size (fun j hj => ((HOL1.out.below hV).lt j hj).1))⟩
        have HAPP := Lib.hid happ; clear happ
        rcases list_snoc L with hnil | ⟨pp, x, hpx⟩
        · subst hnil
          have hn0 : nl = 0 := HNL.out
          subst hn0
          have hl1 := HRD.out W1 (Below.refl _ _)
          have HJ : Hid (join [] e = [e]) := Lib.hid rfl
          go_wp2_with fail
          refine wp_region_E (fun V => Below W1.heap.size W1 V) 99 rfl ?_
          have hS := (show Below W1.heap.size W1 W1.drew from (Below.refl _ W1).drew)
          refine wpE_takeF 0 ⟨some 31, _, _, _, _, _⟩ (v := ?_) (by decide) rfl (by kernel_rfl) (by kernel_rfl) (by kernel_rfl) (fun _ _ _ h => h) hS (Or.inl ⟨by kernel_rfl, ?_⟩) ?_
          rotate_left
          · (intro V hSw; skip; go_simp; try with_reducible rfl)
          try simp only [Act.put]
          refine wpE_takeF 1 ⟨some 32, _, _, _, _, _⟩ (v := ?_) (by decide) rfl (by kernel_rfl) (by kernel_rfl) (by kernel_rfl) (fun _ _ _ h => h) hS (Or.inl ⟨by kernel_rfl, ?_⟩) ?_
          rotate_left
          · (intro V hSw; skip; go_simp; try with_reducible rfl)
          try simp only [Act.put]
          refine wpE_takeF 2 ⟨some 33, _, _, _, _, _⟩ (v := ?_) (by decide) rfl (by kernel_rfl) (by kernel_rfl) (by kernel_rfl) (fun _ _ _ h => h) hS (Or.inl ⟨by kernel_rfl, ?_⟩) ?_
          rotate_left
          · (intro V hSw; skip; go_simp; try with_reducible rfl)
          try simp only [Act.put]
          refine wpE_takeF 3 ⟨some 34, _, _, _, _, _⟩ (v := ?_) (by decide) rfl (by kernel_rfl) (by kernel_rfl) (by kernel_rfl) (fun _ _ _ h => h) hS (Or.inl ⟨by kernel_rfl, ?_⟩) ?_
          rotate_left
          · (intro V hSw; skip; go_simp; try with_reducible rfl)
          try simp only [Act.put]
          refine wpE_takeF 4 ⟨some 35, _, _, _, _, _⟩ (v := undef) (by decide) rfl (by kernel_rfl) (by kernel_rfl) (by kernel_rfl) (fun _ _ _ h => h) hS (Or.inr ⟨by kernel_rfl, rfl⟩) ?_
          try simp only [Act.put]
          refine wpE_takeF 5 ⟨some 36, _, _, _, _, _⟩ (v := undef) (by decide) rfl (by kernel_rfl) (by kernel_rfl) (by kernel_rfl) (fun _ _ _ h => h) hS (Or.inr ⟨by kernel_rfl, rfl⟩) ?_
          try simp only [Act.put]
          refine wpE_takeF 6 ⟨some 37, _, _, _, _, _⟩ (v := undef) (by decide) rfl (by kernel_rfl) (by kernel_rfl) (by kernel_rfl) (fun _ _ _ h => h) hS (Or.inr ⟨by kernel_rfl, rfl⟩) ?_
          try simp only [Act.put]
          refine wpE_takeF 7 ⟨some 38, _, _, _, _, _⟩ (v := undef) (by decide) rfl (by kernel_rfl) (by kernel_rfl) (by kernel_rfl) (fun _ _ _ h => h) hS (Or.inr ⟨by kernel_rfl, rfl⟩) ?_
          try simp only [Act.put]
          refine wpE_takeF 8 ⟨some 39, _, _, _, _, _⟩ (v := undef) (by decide) rfl (by kernel_rfl) (by kernel_rfl) (by kernel_rfl) (fun _ _ _ h => h) hS (Or.inr ⟨by kernel_rfl, rfl⟩) ?_
          try simp only [Act.put]
          refine wpE_takeF 9 ⟨some 40, _, _, _, _, _⟩ (v := undef) (by decide) rfl (by kernel_rfl) (by kernel_rfl) (by kernel_rfl) (fun _ _ _ h => h) hS (Or.inr ⟨by kernel_rfl, rfl⟩) ?_
          try simp only [Act.put]
          refine wpE_takeF 10 ⟨some 41, _, _, _, _, _⟩ (v := undef) (by decide) rfl (by kernel_rfl) (by kernel_rfl) (by kernel_rfl) (fun _ _ _ h => h) hS (Or.inr ⟨by kernel_rfl, rfl⟩) ?_
          try simp only [Act.put]
          refine wpE_takeF 11 ⟨some 42, _, _, _, _, _⟩ (v := undef) (by decide) rfl (by kernel_rfl) (by kernel_rfl) (by kernel_rfl) (fun _ _ _ h => h) hS (Or.inr ⟨by kernel_rfl, rfl⟩) ?_
          try simp only [Act.put]
          refine wpE_takeF 12 ⟨some 43, _, _, _, _, _⟩ (v := ?_) (by decide) rfl (by kernel_rfl) (by kernel_rfl) (by kernel_rfl) (fun _ _ _ h => h) hS (Or.inl ⟨by kernel_rfl, ?_⟩) ?_
          rotate_left
          · (intro V hSw; skip; go_simp; try with_reducible rfl)
          try simp only [Act.put]
          refine wpE_done (by kernel_rfl) ?_ _
          try simp only [List.setIfInBounds_toArray, List.set_cons_succ, List.set_cons_zero]
          have hl2 := HRD.out W1.drew (Below.refl _ W1).drew
          obtain ⟨v', W', hrun, ho', hb'⟩ := HAPP.out W1.drew (Below.refl _ W1).drew
          obtain ⟨A', c', rfl⟩ := ho'.shape
          have HO' : Hid (OwnX W' w.heap.size (.slice A' 1 c') (pack (singles T B (k + 1)))) := Lib.hid (by rw [HPK.out]; exact ho')
          have HB' := Lib.hid hb'; clear hb' ho' hl1
          have HN' : Hid (1 = (pack (singles T B (k + 1))).length) := Lib.hid (by rw [HPK.out]; rfl)
          dsimp only [List.nil_append, List.length_cons, List.length_nil] at hrun
          go_wp2_with (at_builtin; refine wpList_apprun rfl _ _ _ _ (by rfl) _ _ (by rfl) (by rfl) _ _ hrun ?_)
          clear hrun hl2
          go_wp2
          go_roundw
          case rel => exact ⟨k + 1, 1, A', c', by omega, HN'.out, by go_num, rfl, HO'.out, HB'.out⟩
          case measure => simp [intOf]; omega
        · subst hpx
          obtain ⟨m, hm⟩ : ∃ m, m = pp.length := ⟨_, rfl⟩
          have hnm : nl = m + 1 := by rw [HNL.out, hm]; simp
          obtain ⟨gl, rfl, hbg, hgw, -⟩ := HOL1.out.form (by omega)
          have hlast : (pp ++ [x])[m]'(by simp [hm]) = x := by subst hm; simp
          have hxs := hpsm x (by simp)
          have hS7 : ∀ V, Below W1.heap.size W1 V → (ldX (.pointer (some ⟨gl, m * 4, none⟩))).run Try.prog V = .ok (.agg x.c) V ∧ (ldX (.pointer (some ⟨gv, 0, none⟩))).run Try.prog V = .ok (.agg #[.int .i64 (k : Int), .int .i64 tk, .int .i64 1, .bool bk]) V ∧ V.cell? ⟨gl, m * 4 + 2, none⟩ = some (.int .i64 x.n) ∧ V.frozen? ⟨gl, m * 4 + 2, none⟩ = false := fun V hV => by
            have ho := HOL1.out.below hV
            have hh := ho.reads
            have h1 := run_ldX_at hh m (by simp [hm]) (m * 4) (by omega)
            have h2 := (hh.cell m (by simp [hm])).2.2.1
            rw [hlast] at h1 h2
            obtain ⟨g', e', _, _, hf⟩ := ho.form (by omega)
            injection e' with e'
            injection e' with e'
            subst e'
            exact ⟨h1, HRD.out V hV, by rw [← h2]; congr 2; omega, hf _⟩
          have hgo : ∀ V, Calls Try.prog 42 #[.agg x.c, .agg #[.int .i64 (k : Int), .int .i64 tk, .int .i64 1, .bool bk]] V fun E w' => E = .returned (.bool (goes x e)) ∧ Below V.heap.size V w' := fun V => by
            have := rgoes_any x e hxs V
            rwa [HEC.out] at this
          clear hlast
          have HXN := Lib.hid hxs.n; clear hxs
          have HS7 := Lib.hid hS7; clear hS7
          have HGO := Lib.hid hgo; clear hgo
          have HM := Lib.hid hm; clear hm
          have HNM := Lib.hid hnm
          have hn1 : (nl : Int) - 1 = (m : Int) := by omega
          have hwm : IntKind.i64.wrap (m : Int) = (m : Int) := by rw [IntKind.wrap_i64]; omega
          have hm0 : (0 : Int) ≤ (m : Int) := by omega
          have hmn : (m : Int) < (nl : Int) := by omega
          have hgt : 0 < nl := by omega
          have hjn : join (pp ++ [x]) e = if goes x e then pp ++ [⟨x.a, x.s, x.n + e.n, x.u⟩] else pp ++ [x] ++ [e] := join_snoc pp x e
          have HJN := Lib.hid hjn; clear hjn hpsm hesm hnm
          generalize hgr : goes x e = gr at HGO HJN
          generalize hXC : x.c = XC at HS7 HGO
          obtain ⟨xn, hxn⟩ : ∃ xn, xn = x.n := ⟨_, rfl⟩
          rw [← hxn] at HS7 HXN
          have HXE := Lib.hid hxn; clear hxn
          clear hgr hXC
          cases gr with
          | false =>
            have HJ2 : Hid (join (pp ++ [x]) e = pp ++ [x] ++ [e]) := Lib.hid (by rw [HJN.out]; rfl)
            go_wp2_with fail
            refine wp_region_E (fun V => Below W1.heap.size W1 V) 99 rfl ?_
            have hS := (show Below W1.heap.size W1 W1.drew from (Below.refl _ W1).drew)
            refine wpE_takeF 0 ⟨some 31, _, _, _, _, _⟩ (v := ?_) (by decide) rfl (by kernel_rfl) (by kernel_rfl) (by kernel_rfl) (fun _ _ _ h => h) hS (Or.inl ⟨by kernel_rfl, ?_⟩) ?_
            rotate_left
            · (intro V hSw; obtain ⟨hq1, hq2, hq3, hq4⟩ := HS7.out V hSw; go_simp; try with_reducible rfl)
            try simp only [Act.put]
            refine wpE_takeF 1 ⟨some 32, _, _, _, _, _⟩ (v := ?_) (by decide) rfl (by kernel_rfl) (by kernel_rfl) (by kernel_rfl) (fun _ _ _ h => h) hS (Or.inl ⟨by kernel_rfl, ?_⟩) ?_
            rotate_left
            · (intro V hSw; obtain ⟨hq1, hq2, hq3, hq4⟩ := HS7.out V hSw; go_simp; try with_reducible rfl)
            try simp only [Act.put]
            refine wpE_takeF 2 ⟨some 33, _, _, _, _, _⟩ (v := ?_) (by decide) rfl (by kernel_rfl) (by kernel_rfl) (by kernel_rfl) (fun _ _ _ h => h) hS (Or.inl ⟨by kernel_rfl, ?_⟩) ?_
            rotate_left
            · (intro V hSw; obtain ⟨hq1, hq2, hq3, hq4⟩ := HS7.out V hSw; go_simp; try with_reducible rfl)
            try simp only [Act.put]
            refine wpE_takeF 3 ⟨some 34, _, _, _, _, _⟩ (v := ?_) (by decide) rfl (by kernel_rfl) (by kernel_rfl) (by kernel_rfl) (fun _ _ _ h => h) hS (Or.inl ⟨by kernel_rfl, ?_⟩) ?_
            rotate_left
            · (intro V hSw; obtain ⟨hq1, hq2, hq3, hq4⟩ := HS7.out V hSw; go_simp; try with_reducible rfl)
            try simp only [Act.put]
            refine wpE_takeF 4 ⟨some 35, _, _, _, _, _⟩ (v := ?_) (by decide) rfl (by kernel_rfl) (by kernel_rfl) (by kernel_rfl) (fun _ _ _ h => h) hS (Or.inl ⟨by kernel_rfl, ?_⟩) ?_
            rotate_left
            · (intro V hSw; obtain ⟨hq1, hq2, hq3, hq4⟩ := HS7.out V hSw; go_simp; try with_reducible rfl)
            try simp only [Act.put]
            refine wpE_takeF 5 ⟨some 36, _, _, _, _, _⟩ (v := ?_) (by decide) rfl (by kernel_rfl) (by kernel_rfl) (by kernel_rfl) (fun _ _ _ h => h) hS (Or.inl ⟨by kernel_rfl, ?_⟩) ?_
            rotate_left
            · (intro V hSw; obtain ⟨hq1, hq2, hq3, hq4⟩ := HS7.out V hSw; go_simp; try with_reducible rfl)
            try simp only [Act.put]
            refine wpE_takeF 6 ⟨some 37, _, _, _, _, _⟩ (v := ?_) (by decide) rfl (by kernel_rfl) (by kernel_rfl) (by kernel_rfl) (fun _ _ _ h => h) hS (Or.inl ⟨by kernel_rfl, ?_⟩) ?_
            rotate_left
            · (intro V hSw; obtain ⟨hq1, hq2, hq3, hq4⟩ := HS7.out V hSw; go_simp; try with_reducible rfl)
            try simp only [Act.put]
            refine wpE_takeF 7 ⟨some 38, _, _, _, _, _⟩ (v := ?_) (by decide) rfl (by kernel_rfl) (by kernel_rfl) (by kernel_rfl) (fun _ _ _ h => h) hS (Or.inl ⟨by kernel_rfl, ?_⟩) ?_
            rotate_left
            · (intro V hSw; obtain ⟨hq1, hq2, hq3, hq4⟩ := HS7.out V hSw; go_simp; try with_reducible rfl)
            try simp only [Act.put]
            refine wpE_takeF 8 ⟨some 39, _, _, _, _, _⟩ (v := ?_) (by decide) rfl (by kernel_rfl) (by kernel_rfl) (by kernel_rfl) (fun _ _ _ h => h) hS (Or.inl ⟨by kernel_rfl, ?_⟩) ?_
            rotate_left
            · (intro V hSw; obtain ⟨hq1, hq2, hq3, hq4⟩ := HS7.out V hSw; go_simp; try with_reducible rfl)
            try simp only [Act.put]
            refine wpE_takeF 9 ⟨some 40, _, _, _, _, _⟩ (v := ?_) (by decide) rfl (by kernel_rfl) (by kernel_rfl) (by kernel_rfl) (fun _ _ _ h => h) hS (Or.inl ⟨by kernel_rfl, ?_⟩) ?_
            rotate_left
            · (intro V hSw; obtain ⟨hq1, hq2, hq3, hq4⟩ := HS7.out V hSw; go_simp; try with_reducible rfl)
            try simp only [Act.put]
            refine wpE_takeF 10 ⟨some 41, _, _, _, _, _⟩ (v := ?_) (by decide) rfl (by kernel_rfl) (by kernel_rfl) (by kernel_rfl) (fun _ _ _ h => h) hS (Or.inl ⟨by kernel_rfl, ?_⟩) ?_
            rotate_left
            · (intro V hSw; obtain ⟨hq1, hq2, hq3, hq4⟩ := HS7.out V hSw; go_simp; try with_reducible rfl)
            try simp only [Act.put]
            refine wpE_one 11 (o := ⟨some 42, _, _, _, _, _⟩) (by kernel_rfl) rfl (fun K' hK' => ?_)
            rw [if_pos (by kernel_rfl)]
            refine call_wp 42 _ _ _ _ rfl Try.func42 (by kernel_rfl) rfl _ ?hv _ (HGO.out _) ?_
            case hv => simp only [List.map_toArray, List.map_cons, List.map_nil]; go_simp
            rintro E V6 ⟨rfl, hb6⟩
            have HG6 := Lib.hid (hS.trans (hb6.mono hS.size))
            clear hb6
            refine ⟨_, rfl, ?_⟩
            refine hK'.out _ _ HG6.out (fun hS => ?_)
            clear hK' K'
            try simp only [Act.put]
            refine wpE_takeF 12 ⟨some 43, _, _, _, _, _⟩ (v := ?_) (by decide) rfl (by kernel_rfl) (by kernel_rfl) (by kernel_rfl) (fun _ _ _ h => h) hS (Or.inl ⟨by kernel_rfl, ?_⟩) ?_
            rotate_left
            · (intro V hSw; obtain ⟨hq1, hq2, hq3, hq4⟩ := HS7.out V hSw; go_simp; try with_reducible rfl)
            try simp only [Act.put]
            refine wpE_done (by kernel_rfl) ?_ _
            try simp only [List.setIfInBounds_toArray, List.set_cons_succ, List.set_cons_zero]
            have hl2 := HRD.out V6 HG6.out
            obtain ⟨v', W', hrun, ho', hb'⟩ := HAPP.out V6 HG6.out
            obtain ⟨A', c', hv'⟩ := ho'.shape
            obtain ⟨n4, hn4⟩ : ∃ n4, n4 = (pp ++ [x] ++ [e]).length := ⟨_, rfl⟩
            rw [← hn4] at hv'
            subst hv'
            have HO' : Hid (OwnX W' w.heap.size (.slice A' n4 c') (pack (singles T B (k + 1)))) := Lib.hid (by rw [HPK.out, HJ2.out]; exact ho')
            have HN' : Hid (n4 = (pack (singles T B (k + 1))).length) := Lib.hid (by rw [HPK.out, HJ2.out]; exact hn4)
            have HB' := Lib.hid hb'; clear hb' ho' hn4 hn1 hwm hm0 hmn hgt
            go_wp2_with (at_builtin; refine wpList_apprun rfl _ _ _ _ (by rfl) _ _ (by rfl) (by rfl) _ _ hrun ?_)
            clear hrun hl2
            go_wp2
            go_roundw
            case rel => exact ⟨k + 1, n4, A', c', by omega, HN'.out, by go_num, rfl, HO'.out, HB'.out⟩
            case measure => simp [intOf]; omega
          | true =>
            have HJ2 : Hid (join (pp ++ [x]) e = pp ++ [⟨x.a, x.s, xn + 1, x.u⟩]) := Lib.hid (by rw [HJN.out, if_pos rfl, HE.out, HXE.out])
            obtain ⟨xn1, xn2⟩ := HXN.out
            have hw1 : IntKind.i64.wrap (xn + 1) = xn + 1 := by rw [IntKind.wrap_i64]; omega
            go_wp2_with fail
            refine wp_region_E (fun V => Below W1.heap.size W1 V) 99 rfl ?_
            have hS := (show Below W1.heap.size W1 W1.drew from (Below.refl _ W1).drew)
            refine wpE_takeF 0 ⟨some 31, _, _, _, _, _⟩ (v := ?_) (by decide) rfl (by kernel_rfl) (by kernel_rfl) (by kernel_rfl) (fun _ _ _ h => h) hS (Or.inl ⟨by kernel_rfl, ?_⟩) ?_
            rotate_left
            · (intro V hSw; obtain ⟨hq1, hq2, hq3, hq4⟩ := HS7.out V hSw; go_simp; try with_reducible rfl)
            try simp only [Act.put]
            refine wpE_takeF 1 ⟨some 32, _, _, _, _, _⟩ (v := ?_) (by decide) rfl (by kernel_rfl) (by kernel_rfl) (by kernel_rfl) (fun _ _ _ h => h) hS (Or.inl ⟨by kernel_rfl, ?_⟩) ?_
            rotate_left
            · (intro V hSw; obtain ⟨hq1, hq2, hq3, hq4⟩ := HS7.out V hSw; go_simp; try with_reducible rfl)
            try simp only [Act.put]
            refine wpE_takeF 2 ⟨some 33, _, _, _, _, _⟩ (v := ?_) (by decide) rfl (by kernel_rfl) (by kernel_rfl) (by kernel_rfl) (fun _ _ _ h => h) hS (Or.inl ⟨by kernel_rfl, ?_⟩) ?_
            rotate_left
            · (intro V hSw; obtain ⟨hq1, hq2, hq3, hq4⟩ := HS7.out V hSw; go_simp; try with_reducible rfl)
            try simp only [Act.put]
            refine wpE_takeF 3 ⟨some 34, _, _, _, _, _⟩ (v := ?_) (by decide) rfl (by kernel_rfl) (by kernel_rfl) (by kernel_rfl) (fun _ _ _ h => h) hS (Or.inl ⟨by kernel_rfl, ?_⟩) ?_
            rotate_left
            · (intro V hSw; obtain ⟨hq1, hq2, hq3, hq4⟩ := HS7.out V hSw; go_simp; try with_reducible rfl)
            try simp only [Act.put]
            refine wpE_takeF 4 ⟨some 35, _, _, _, _, _⟩ (v := ?_) (by decide) rfl (by kernel_rfl) (by kernel_rfl) (by kernel_rfl) (fun _ _ _ h => h) hS (Or.inl ⟨by kernel_rfl, ?_⟩) ?_
            rotate_left
            · (intro V hSw; obtain ⟨hq1, hq2, hq3, hq4⟩ := HS7.out V hSw; go_simp; try with_reducible rfl)
            try simp only [Act.put]
            refine wpE_takeF 5 ⟨some 36, _, _, _, _, _⟩ (v := ?_) (by decide) rfl (by kernel_rfl) (by kernel_rfl) (by kernel_rfl) (fun _ _ _ h => h) hS (Or.inl ⟨by kernel_rfl, ?_⟩) ?_
            rotate_left
            · (intro V hSw; obtain ⟨hq1, hq2, hq3, hq4⟩ := HS7.out V hSw; go_simp; try with_reducible rfl)
            try simp only [Act.put]
            refine wpE_takeF 6 ⟨some 37, _, _, _, _, _⟩ (v := ?_) (by decide) rfl (by kernel_rfl) (by kernel_rfl) (by kernel_rfl) (fun _ _ _ h => h) hS (Or.inl ⟨by kernel_rfl, ?_⟩) ?_
            rotate_left
            · (intro V hSw; obtain ⟨hq1, hq2, hq3, hq4⟩ := HS7.out V hSw; go_simp; try with_reducible rfl)
            try simp only [Act.put]
            refine wpE_takeF 7 ⟨some 38, _, _, _, _, _⟩ (v := ?_) (by decide) rfl (by kernel_rfl) (by kernel_rfl) (by kernel_rfl) (fun _ _ _ h => h) hS (Or.inl ⟨by kernel_rfl, ?_⟩) ?_
            rotate_left
            · (intro V hSw; obtain ⟨hq1, hq2, hq3, hq4⟩ := HS7.out V hSw; go_simp; try with_reducible rfl)
            try simp only [Act.put]
            refine wpE_takeF 8 ⟨some 39, _, _, _, _, _⟩ (v := ?_) (by decide) rfl (by kernel_rfl) (by kernel_rfl) (by kernel_rfl) (fun _ _ _ h => h) hS (Or.inl ⟨by kernel_rfl, ?_⟩) ?_
            rotate_left
            · (intro V hSw; obtain ⟨hq1, hq2, hq3, hq4⟩ := HS7.out V hSw; go_simp; try with_reducible rfl)
            try simp only [Act.put]
            refine wpE_takeF 9 ⟨some 40, _, _, _, _, _⟩ (v := ?_) (by decide) rfl (by kernel_rfl) (by kernel_rfl) (by kernel_rfl) (fun _ _ _ h => h) hS (Or.inl ⟨by kernel_rfl, ?_⟩) ?_
            rotate_left
            · (intro V hSw; obtain ⟨hq1, hq2, hq3, hq4⟩ := HS7.out V hSw; go_simp; try with_reducible rfl)
            try simp only [Act.put]
            refine wpE_takeF 10 ⟨some 41, _, _, _, _, _⟩ (v := ?_) (by decide) rfl (by kernel_rfl) (by kernel_rfl) (by kernel_rfl) (fun _ _ _ h => h) hS (Or.inl ⟨by kernel_rfl, ?_⟩) ?_
            rotate_left
            · (intro V hSw; obtain ⟨hq1, hq2, hq3, hq4⟩ := HS7.out V hSw; go_simp; try with_reducible rfl)
            try simp only [Act.put]
            refine wpE_one 11 (o := ⟨some 42, _, _, _, _, _⟩) (by kernel_rfl) rfl (fun K' hK' => ?_)
            rw [if_pos (by kernel_rfl)]
            refine call_wp 42 _ _ _ _ rfl Try.func42 (by kernel_rfl) rfl _ ?hv _ (HGO.out _) ?_
            case hv => simp only [List.map_toArray, List.map_cons, List.map_nil]; go_simp
            rintro E V6 ⟨rfl, hb6⟩
            have HG6 := Lib.hid (hS.trans (hb6.mono hS.size))
            clear hb6
            refine ⟨_, rfl, ?_⟩
            refine hK'.out _ _ HG6.out (fun hS => ?_)
            clear hK' K'
            try simp only [Act.put]
            refine wpE_takeF 12 ⟨some 43, _, _, _, _, _⟩ (v := ?_) (by decide) rfl (by kernel_rfl) (by kernel_rfl) (by kernel_rfl) (fun _ _ _ h => h) hS (Or.inl ⟨by kernel_rfl, ?_⟩) ?_
            rotate_left
            · (intro V hSw; obtain ⟨hq1, hq2, hq3, hq4⟩ := HS7.out V hSw; go_simp; try with_reducible rfl)
            try simp only [Act.put]
            refine wpE_done (by kernel_rfl) ?_ _
            try simp only [List.setIfInBounds_toArray, List.set_cons_succ, List.set_cons_zero]
            obtain ⟨-, -, z1, z2⟩ := HS7.out V6 HG6.out
            have hset := OwnX.setLen (HOL1.out.below HG6.out) (xn + 1)
            rw [← HM.out] at hset
            obtain ⟨W9, hW9⟩ : ∃ W9, W9 = V6.setCell ⟨gl, m * 4 + 2, none⟩ (.int .i64 (xn + 1)) := ⟨_, rfl⟩
            have hb9 : Below w.heap.size w W9 := by
              rw [hW9]
              exact (HBR.out.trans ((HB1.out.trans (HG6.out.mono HB1.out.size)).mono HBR.out.size)).setCell (by show w.heap.size ≤ gl; omega) _
            have HO' : Hid (OwnX W9 w.heap.size (.slice (some ⟨gl, 0, none⟩) nl cl) (pack (singles T B (k + 1)))) := Lib.hid (by rw [HPK.out, HJ2.out, hW9]; exact hset.1)
            have HN' : Hid (nl = (pack (singles T B (k + 1))).length) := Lib.hid (by rw [HPK.out, HJ2.out, HNM.out, HM.out]; simp)
            have HB9 := Lib.hid hb9; clear hb9 hset
            have HW9 := Lib.hid hW9; clear hW9
            clear hgt
            go_wp2
            rw [← HW9.out]
            go_roundw
            case rel => exact ⟨k + 1, nl, some ⟨gl, 0, none⟩, cl, by omega, HN'.out, by go_num, rfl, HO'.out, HB9.out⟩
            case measure => simp [intOf]; omega
end Go.Proofs.Ytkhenchhafmlmaa.Ex
