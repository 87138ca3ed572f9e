/- LeafMore: for every list of names and every name that isn't there, the list with the name in its place is right just where the name may be, its size is greater by just that, and it has a block just where its size is at most 248. -/
import Derived.Test.YtmnajefioehheaaLfAlive
namespace Go.Proofs.Ytmnajefioehheaa.LeafMore
set_option maxRecDepth 20000
open Go.ChangeShapes Go.WideShapes Go.ChangeAt Go.RowKit
open Go.Proofs.Ytmnajefioehheaa.Mem Go.Proofs.Ytmnajefioehheaa.Crc Go.Proofs.Ytmnajefioehheaa.Rec Go.Proofs.Ytmnajefioehheaa.Lf Go.Proofs.Ytmnajefioehheaa.Lift Go.Proofs.Ytmnajefioehheaa.Reg
attribute [local go_sem ↓] ldX_eq stX_eq eqX_eq neqX_eq

/-- What the law's own list holds behind k rounds. -/
def MoreAt (l : List Nm) (x : Nm) (k : Nat) (pt : Bool) (M : List Nm) : Prop :=
  (pt = false ∧ M = l.take k ∧ ∀ y ∈ l.take k, less y.t x.t = true) ∨
    (pt = true ∧ ∃ p q, l.take k = p ++ q ∧ q ≠ [] ∧ M = p ++ ([x] ++ q) ∧ (∀ y ∈ p, less y.t x.t = true) ∧ ∀ y ∈ q, less x.t y.t = true)
theorem more_zero (l : List Nm) (x : Nm) : MoreAt l x 0 false [] := .inl ⟨rfl, rfl, fun y hy => by cases hy⟩
theorem more_len {l M : List Nm} {x : Nm} {k : Nat} {pt : Bool} (h : MoreAt l x k pt M) (hk : k ≤ l.length) : M.length = if pt = true then k + 1 else k := by
  rcases h with ⟨rfl, rfl, _⟩ | ⟨rfl, p, q, h1, _, rfl, _⟩
  · rw [List.length_take]; simp; omega
  · have h2 := congrArg List.length h1
    rw [List.length_take, List.length_append] at h2
    simp
    omega
theorem more_mem {l M : List Nm} {x : Nm} {k : Nat} {pt : Bool} (h : MoreAt l x k pt M) : ∀ y ∈ M, y = x ∨ y ∈ l := by
  rcases h with ⟨rfl, rfl, _⟩ | ⟨rfl, p, q, h1, _, rfl, _⟩
  · exact fun y hy => .inr (List.mem_of_mem_take hy)
  · intro y hy
    have hin : ∀ z, z ∈ p ++ q → z ∈ l := fun z hz => by rw [← h1] at hz; exact List.mem_of_mem_take hz
    rcases List.mem_append.1 hy with hy | hy
    · exact .inr (hin y (List.mem_append.2 (.inl hy)))
    · rcases List.mem_append.1 hy with hy | hy
      · exact .inl (List.mem_singleton.1 hy)
      · exact .inr (hin y (List.mem_append.2 (.inr hy)))
theorem more_low {l M : List Nm} {x : Nm} {k : Nat} (hk : k < l.length) (h : MoreAt l x k false M) (hy : less (l[k]).t x.t = true) : MoreAt l x (k + 1) false (M ++ [l[k]]) := by
  rcases h with ⟨_, rfl, h2⟩ | ⟨h1, _⟩
  · refine .inl ⟨rfl, by rw [List.take_succ_eq_append_getElem hk], fun y hm => ?_⟩
    rw [List.take_succ_eq_append_getElem hk] at hm
    rcases List.mem_append.1 hm with hm | hm
    · exact h2 y hm
    · rw [List.mem_singleton.1 hm]; exact hy
  · cases h1
theorem more_here {l M : List Nm} {x : Nm} {k : Nat} (hk : k < l.length) (h : MoreAt l x k false M) (hy : less x.t (l[k]).t = true) : MoreAt l x (k + 1) true ((M ++ [x]) ++ [l[k]]) := by
  rcases h with ⟨_, rfl, h2⟩ | ⟨h1, _⟩
  · refine .inr ⟨rfl, l.take k, [l[k]], by rw [List.take_succ_eq_append_getElem hk], by simp, by rw [List.append_assoc], h2, fun y hm => ?_⟩
    rw [List.mem_singleton.1 hm]; exact hy
  · cases h1
theorem right_before {l : List Nm} (h : right l = true) {k : Nat} (hk : k < l.length) : ∀ z ∈ l.take k, less z.t (l[k]).t = true := by
  intro z hz
  obtain ⟨j, hj, rfl⟩ := List.getElem_of_mem hz
  have hj' : j < k := by rw [List.length_take] at hj; omega
  rw [List.getElem_take]
  exact List.pairwise_iff_getElem.1 ((right_iff l).1 h).2 j k (by omega) hk hj'
theorem more_high {l M : List Nm} {x : Nm} {k : Nat} (hr : right l = true) (hk : k < l.length) (h : MoreAt l x k true M) : MoreAt l x (k + 1) true (M ++ [l[k]]) := by
  rcases h with ⟨h1, _⟩ | ⟨_, p, q, h1, h2, rfl, h3, h4⟩
  · cases h1
  · refine .inr ⟨rfl, p, q ++ [l[k]], by rw [List.take_succ_eq_append_getElem hk, h1, List.append_assoc], by simp, by simp only [List.append_assoc], h3, fun y hm => ?_⟩
    rcases List.mem_append.1 hm with hm | hm
    · exact h4 y hm
    · rw [List.mem_singleton.1 hm]
      obtain ⟨z, hz⟩ := List.exists_mem_of_ne_nil q h2
      exact less_trans _ _ _ (h4 z hz) (right_before hr hk z (by rw [h1]; exact List.mem_append.2 (.inr hz)))
theorem more_end {l M : List Nm} {x : Nm} {pt : Bool} (h : MoreAt l x l.length pt M) : ∃ p q, l = p ++ q ∧ (if pt = true then M else M ++ [x]) = p ++ ([x] ++ q) ∧ (∀ y ∈ p, less y.t x.t = true) ∧ ∀ y ∈ q, less x.t y.t = true := by
  rcases h with ⟨rfl, rfl, h2⟩ | ⟨rfl, p, q, h1, _, rfl, h3, h4⟩
  · rw [List.take_length] at h2 ⊢
    exact ⟨l, [], by simp, by simp, h2, fun y hy => by cases hy⟩
  · rw [List.take_length] at h1
    exact ⟨p, q, h1, by simp, h3, h4⟩
theorem run_ldX_out {w : World} {B b off n : Nat} {l : List Nm} (h : HoldsX w B (some ⟨b, off, none⟩) n l) (j : Nat) (hj : j < l.length) (S : ByteArray) (i : Int) (hS : S = ⟨(l[j]).t.toArray⟩) (hi : i = (l[j]).i) :
    (ldX (.pointer (some ⟨b, off + j * 2, none⟩))).run Try.prog w = .ok (.agg #[.string S, .int .i64 i]) w := by
  subst hS hi
  exact run_ldX_at h j hj _ rfl

theorem run_appS (V : World) (base : Nat) (v : Value) (M : List Nm) (hown : OwnX V base v M) (S : ByteArray) (i : Int) (hlen : M.length + 1 ≤ 5864062014805) (hbase : base ≤ V.heap.size) :
    ∃ A' c' W', (Builtin.append_ #[22, 22] 22 #[v, .slice (some ⟨V.heap.size, 0, none⟩) 1 1]).run Try.prog (V.alloc (.cells #[.string S, .int .i64 i] 40)) = .ok (.slice A' (M.length + 1) c') W' ∧
      OwnX W' base (.slice A' (M.length + 1) c') (M ++ [⟨S.data.toList, i⟩]) ∧ Below base V W' := by
  obtain ⟨v', W', h1, h2, h3⟩ := run_appX V base v M hown ⟨S.data.toList, i⟩ 22 hlen hbase
  obtain ⟨A', c', rfl⟩ := h2.shape
  have hl : (M ++ [(⟨S.data.toList, i⟩ : Nm)]).length = M.length + 1 := by rw [List.length_append]; rfl
  rw [hl] at h1 h2 h3
  dsimp only at h1
  rw [text_back] at h1
  exact ⟨A', c', W', h1, h2, h3.below hbase (fun k hk => (hown.lt k hk).1)⟩

set_option maxRecDepth 100000 in
set_option maxHeartbeats 8000000 in
theorem walk (A : Option Addr) (n c : Nat) (l : List Nm) (x : Nm) (w : World) (h : HoldsX w w.heap.size A n l) (hr : ∀ x ∈ l, x.rep) (hn : n ≤ 5864062014634) (hx : x.rep) :
    Calls Try.prog 7 #[.slice A n c, .agg x.c] w fun E w' => E = .returned (.bool true) ∧ Below w.heap.size w w' := by
  have hh : ∀ V, Below w.heap.size w V → HoldsX V w.heap.size A n l ∧ w.heap.size ≤ V.heap.size := fun V hV => ⟨h.below hV, hV.size⟩
  have hln := h.1
  have hsz := fun V (hV : Below w.heap.size w V) => size_any A n c w.heap.size l V (hh V hV).1 (hh V hV).2 hr (by omega)
  obtain ⟨W0, hW0⟩ : ∃ W0, W0 = w.alloc (.cells x.c 40) := ⟨_, rfl⟩
  have hv0 : VarX W0 w.heap.size x := hW0 ▸ VarX.new w x
  have hb0 : Below w.heap.size w W0 := hW0 ▸ (Below.refl _ w).alloc (Nat.le_refl _) _
  obtain ⟨gx, hgx⟩ : ∃ gx, gx = w.heap.size := ⟨_, rfl⟩
  rw [← hgx] at hv0
  have hz0 : W0.heap.size = gx + 1 := by rw [hW0, hgx]; simp
  have hrx := hx
  obtain ⟨SX, hSX⟩ : ∃ S : ByteArray, S = ⟨x.t.toArray⟩ := ⟨_, rfl⟩
  have hSXl : SX.toList = x.t := by rw [hSX, text_list]
  have hSXs : SX.size = x.t.length := by rw [hSX, text_size]
  have hmay : ∀ V, Calls Try.prog 13 #[.string SX] V fun E w' => E = .returned (.bool (may x.t)) ∧ w' = V := fun V => hSX ▸ may_text x.t hx.t V
  obtain ⟨xi, hxi⟩ : ∃ i, i = x.i := ⟨_, rfl⟩
  have hxc : x.c = #[.string SX, .int .i64 xi] := by rw [hSX, hxi]; rfl
  -- the variable, in any world that keeps its block
  have hvar : ∀ V, V.heap[gx]? = W0.heap[gx]? → (ldX (.pointer (some ⟨gx, 0, none⟩))).run Try.prog V = .ok (.agg #[.string SX, .int .i64 xi]) V ∧ V.cell? ⟨gx, 0, none⟩ = some (.string SX) ∧ V.cell? ⟨gx, 1, none⟩ = some (.int .i64 xi) := fun V hV => by
    have hvV : VarX V gx x := hV.trans hv0
    have h1 := hvV.load
    have h2 := hvV.cells
    rw [hxc] at h1
    rw [← hSX, ← hxi] at h2
    exact ⟨h1, h2⟩
  have hix : i64 xi := by rw [hxi]; exact hx.i
  rw [hxc] at hW0 ⊢
  have HH := Lib.hid hh; clear hh
  have HSZ := Lib.hid hsz; clear hsz
  have HREP := Lib.hid hr; clear hr
  have HLN := Lib.hid hln; clear hln
  have HVAR := Lib.hid hvar; clear hvar
  have HMAY := Lib.hid hmay; clear hmay
  have HW0 := Lib.hid hW0; clear hW0
  have HB0 := Lib.hid hb0; clear hb0
  have HGX := Lib.hid hgx; clear hgx
  have HXI := Lib.hid hxi; clear hxi
  have HSXL := Lib.hid hSXl; clear hSXl
  have HSXS := Lib.hid hSXs; clear hSXs
  have HRX := Lib.hid hrx; clear hrx
  have HIX := Lib.hid hix; clear hix
  have HSX := Lib.hid hSX; clear hSX
  have HZ0 := Lib.hid hz0; clear hz0
  clear h hx hxc hv0
  go_enter Try.func7, Try.ntmps7
  go_wp2_with fail
  rw [← HW0.out]
  with_reducible refine (alive_any W0).mono ?_
  rintro E w1 ⟨rfl, hb1⟩
  have HB1 : Hid (Below w.heap.size w w1) := Lib.hid (HB0.out.trans (hb1.mono HB0.out.size))
  have HG1 : Hid (w1.heap[gx]? = W0.heap[gx]?) := Lib.hid (hb1.block gx (by have := HZ0.out; omega))
  have HS1 : Hid (gx + 1 ≤ w1.heap.size) := Lib.hid (by have := hb1.size; have := HZ0.out; omega)
  clear hb1
  go_wp2_with fail
  with_reducible refine (HSZ.out w1 HB1.out).mono ?_
  rintro E w2 ⟨rfl, hb2⟩
  have HB2 : Hid (Below w.heap.size w w2) := Lib.hid (HB1.out.trans (hb2.mono HB1.out.size))
  have HG2 : Hid (w2.heap[gx]? = W0.heap[gx]?) := Lib.hid ((hb2.block gx (by have := HS1.out; omega)).trans HG1.out)
  have HS2 : Hid (gx + 1 ≤ w2.heap.size) := Lib.hid (Nat.le_trans HS1.out hb2.size)
  clear hb2 HSZ HB1 HG1 HS1
  rw [← HGX.out]
  cases hq : right l with
  | false =>
    rw [size_not hq]
    dsimp only
    clear hq
    go_wp2
    go_ret
    exact ⟨rfl, HB2.out⟩
  | true =>
    rw [size_yes hq]
    dsimp only
    have hfar := sizeL_far hq l.length
    rw [List.take_length, HLN.out] at hfar
    have HQ := Lib.hid hq; clear hq
    obtain ⟨Z, hZ⟩ : ∃ Z, Z = sizeL l := ⟨_, rfl⟩
    rw [← hZ] at hfar ⊢
    have HZ := Lib.hid hZ; clear hZ
    go_wp2
    go_loopw [7, 8, 9] (fun mv pv i wr => ∃ (k mm : Nat) (Am : Option Addr) (cm : Nat) (pt : Bool) (M : List Nm), k ≤ n ∧ i = .int .i64 (k : Int) ∧ pv = .bool pt ∧ mv = .slice Am mm cm ∧ MoreAt l x k pt M ∧ mm = M.length ∧ OwnX wr (gx + 1) (.slice Am mm cm) M ∧ wr.heap[gx]? = W0.heap[gx]? ∧ gx + 1 ≤ wr.heap.size ∧ Below w.heap.size w wr) (fun _ _ i _ => n - (intOf i).toNat)
    case atStart => exact ⟨0, 0, none, 0, false, [], Nat.zero_le _, rfl, rfl, rfl, more_zero l x, rfl, OwnX.nil _ _, HG2.out, HS2.out, HB2.out⟩
    case round =>
      obtain ⟨k, mm, Am, cm, pt, M, hk, rfl, rfl, rfl, hmore, hmm, hown, hgr, hsr, hbr⟩ := hrel
      have hml := more_len hmore (by have := HLN.out; omega)
      have hmle : M.length ≤ k + 1 := by rw [hml]; split <;> omega
      have HMORE := Lib.hid hmore; clear hmore
      have HMM := Lib.hid hmm; clear hmm
      have HML := Lib.hid hml; clear hml
      have HMLE := Lib.hid hmle; clear hmle
      have HO := Lib.hid hown; clear hown
      have HGR := Lib.hid hgr; clear hgr
      have HBR := Lib.hid hbr; clear hbr
      rcases Nat.lt_or_ge k n with hlt | hge
      · obtain ⟨b, off, rfl, hbB⟩ := (HH.out w (Below.refl _ _)).1.addr (by omega)
        have hkl : k < l.length := by have := HLN.out; omega
        obtain ⟨SY, hSY⟩ : ∃ S : ByteArray, S = ⟨(l[k]).t.toArray⟩ := ⟨_, rfl⟩
        obtain ⟨yi, hyi⟩ : ∃ i, i = (l[k]).i := ⟨_, rfl⟩
        have hSYl : SY.toList = (l[k]).t := by rw [hSY, text_list]
        have hldy : ∀ V, Below w.heap.size w V → (ldX (.pointer (some ⟨b, off + k * 2, none⟩))).run Try.prog V = .ok (.agg #[.string SY, .int .i64 yi]) V := fun V hV => run_ldX_out (HH.out V hV).1 k hkl SY yi hSY hyi
        have hyc : (l[k]) = ⟨SY.data.toList, yi⟩ := by
          rw [hSY, hyi]
        have hs : ∀ V, Below wr.heap.size wr V → V.cell? ⟨b, off + k * 2, none⟩ = some (.string SY) ∧ V.cell? ⟨gx, 0, none⟩ = some (.string SX) := fun V hV => by
          have h1 := ((HH.out V (HBR.out.trans (hV.mono HBR.out.size))).1.cell k hkl).1
          rw [← hSY] at h1
          exact ⟨h1, (HVAR.out V ((hV.block gx (by omega)).trans HGR.out)).2.1⟩
        have HS := Lib.hid hs; clear hs
        have HLDY := Lib.hid hldy; clear hldy
        have HSYL := Lib.hid hSYl; clear hSYl
        have HYC := Lib.hid hyc; clear hyc hSY hyi
        have hk0 : (0 : Int) ≤ (k : Int) := by omega
        have hknI : (k : Int) < (n : Int) := by omega
        have hkb : (0 : Int) ≤ (k : Int) ∧ (k : Int) < (n : Int) := ⟨hk0, hknI⟩
        have hmmb : mm ≤ 5864062014635 := by have := HMM.out; have := HMLE.out; omega
        obtain ⟨eq, heq⟩ : ∃ eq, (SY.toList == SX.toList) = eq := ⟨_, rfl⟩
        cases eq with
        | true =>
          clear HMORE HMM HML HMLE hmmb
          go_wp2_with fail
          refine wp_region_E (fun V => Below wr.heap.size wr V) 99 rfl ?_
          have hS := (show Below wr.heap.size wr wr.drew from (Below.refl _ wr).drew)
          refine wpE_takeF 0 ⟨some 32, _, _, _, _, _⟩ (v := ?_) (by decide) rfl (by kernel_rfl) (by kernel_rfl) (by kernel_rfl) (fun _ _ _ h => h) hS (Or.inl ⟨by kernel_rfl, ?_⟩) ?_
          rotate_left
          · (intro V hSw; obtain ⟨hq1, hq2⟩ := HS.out V hSw; go_simp; try with_reducible rfl)
          try simp only [Act.put]
          refine wpE_takeF 1 ⟨some 33, _, _, _, _, _⟩ (v := ?_) (by decide) rfl (by kernel_rfl) (by kernel_rfl) (by kernel_rfl) (fun _ _ _ h => h) hS (Or.inl ⟨by kernel_rfl, ?_⟩) ?_
          rotate_left
          · (intro V hSw; obtain ⟨hq1, hq2⟩ := HS.out V hSw; go_simp; try with_reducible rfl)
          try simp only [Act.put]
          refine wpE_takeF 2 ⟨some 34, _, _, _, _, _⟩ (v := ?_) (by decide) rfl (by kernel_rfl) (by kernel_rfl) (by kernel_rfl) (fun _ _ _ h => h) hS (Or.inl ⟨by kernel_rfl, ?_⟩) ?_
          rotate_left
          · (intro V hSw; obtain ⟨hq1, hq2⟩ := HS.out V hSw; go_simp; try with_reducible rfl)
          try simp only [Act.put]
          refine wpE_takeF 3 ⟨some 35, _, _, _, _, _⟩ (v := ?_) (by decide) rfl (by kernel_rfl) (by kernel_rfl) (by kernel_rfl) (fun _ _ _ h => h) hS (Or.inl ⟨by kernel_rfl, ?_⟩) ?_
          rotate_left
          · (intro V hSw; obtain ⟨hq1, hq2⟩ := HS.out V hSw; go_simp; try with_reducible rfl)
          try simp only [Act.put]
          refine wpE_takeF 4 ⟨some 36, _, _, _, _, _⟩ (v := ?_) (by decide) rfl (by kernel_rfl) (by kernel_rfl) (by kernel_rfl) (fun _ _ _ h => h) hS (Or.inl ⟨by kernel_rfl, ?_⟩) ?_
          rotate_left
          · (intro V hSw; obtain ⟨hq1, hq2⟩ := HS.out V hSw; go_simp; try with_reducible rfl)
          try simp only [Act.put]
          refine wpE_takeF 5 ⟨some 37, _, _, _, _, _⟩ (v := ?_) (by decide) rfl (by kernel_rfl) (by kernel_rfl) (by kernel_rfl) (fun _ _ _ h => h) hS (Or.inl ⟨by kernel_rfl, ?_⟩) ?_
          rotate_left
          · (intro V hSw; obtain ⟨hq1, hq2⟩ := HS.out V hSw; go_simp; try with_reducible rfl)
          try simp only [Act.put]
          refine wpE_takeF 6 ⟨some 38, _, _, _, _, _⟩ (v := ?_) (by decide) rfl (by kernel_rfl) (by kernel_rfl) (by kernel_rfl) (fun _ _ _ h => h) hS (Or.inl ⟨by kernel_rfl, ?_⟩) ?_
          rotate_left
          · (intro V hSw; obtain ⟨hq1, hq2⟩ := HS.out V hSw; go_simp; try with_reducible rfl)
          try simp only [Act.put]
          refine wpE_takeF 7 ⟨some 39, _, _, _, _, _⟩ (v := ?_) (by decide) rfl (by kernel_rfl) (by kernel_rfl) (by kernel_rfl) (fun _ _ _ h => h) hS (Or.inl ⟨by kernel_rfl, ?_⟩) ?_
          rotate_left
          · (intro V hSw; obtain ⟨hq1, hq2⟩ := HS.out V hSw; go_simp; try with_reducible rfl)
          try simp only [Act.put]
          refine wpE_done (by kernel_rfl) ?_ _
          try simp only [List.setIfInBounds_toArray, List.set_cons_succ, List.set_cons_zero]
          go_wp2
          go_ret
          exact ⟨rfl, HBR.out.drew⟩
        | false =>
          have hne : ¬ (l[k]).t = x.t := fun e => by
            rw [HSYL.out, HSXL.out, e] at heq
            simp at heq
          have HNE := Lib.hid hne; clear hne
          cases pt with
          | true =>
            have hnext := more_high HQ.out hkl HMORE.out
            have HNEXT := Lib.hid hnext; clear hnext HMORE
            go_wp2_with fail
            refine wp_region_E (fun V => Below wr.heap.size wr V) 99 rfl ?_
            have hS := (show Below wr.heap.size wr wr.drew from (Below.refl _ wr).drew)
            refine wpE_takeF 0 ⟨some 32, _, _, _, _, _⟩ (v := ?_) (by decide) rfl (by kernel_rfl) (by kernel_rfl) (by kernel_rfl) (fun _ _ _ h => h) hS (Or.inl ⟨by kernel_rfl, ?_⟩) ?_
            rotate_left
            · (intro V hSw; obtain ⟨hq1, hq2⟩ := HS.out V hSw; go_simp; try with_reducible rfl)
            try simp only [Act.put]
            refine wpE_takeF 1 ⟨some 33, _, _, _, _, _⟩ (v := ?_) (by decide) rfl (by kernel_rfl) (by kernel_rfl) (by kernel_rfl) (fun _ _ _ h => h) hS (Or.inl ⟨by kernel_rfl, ?_⟩) ?_
            rotate_left
            · (intro V hSw; obtain ⟨hq1, hq2⟩ := HS.out V hSw; go_simp; try with_reducible rfl)
            try simp only [Act.put]
            refine wpE_takeF 2 ⟨some 34, _, _, _, _, _⟩ (v := ?_) (by decide) rfl (by kernel_rfl) (by kernel_rfl) (by kernel_rfl) (fun _ _ _ h => h) hS (Or.inl ⟨by kernel_rfl, ?_⟩) ?_
            rotate_left
            · (intro V hSw; obtain ⟨hq1, hq2⟩ := HS.out V hSw; go_simp; try with_reducible rfl)
            try simp only [Act.put]
            refine wpE_takeF 3 ⟨some 35, _, _, _, _, _⟩ (v := ?_) (by decide) rfl (by kernel_rfl) (by kernel_rfl) (by kernel_rfl) (fun _ _ _ h => h) hS (Or.inl ⟨by kernel_rfl, ?_⟩) ?_
            rotate_left
            · (intro V hSw; obtain ⟨hq1, hq2⟩ := HS.out V hSw; go_simp; try with_reducible rfl)
            try simp only [Act.put]
            refine wpE_takeF 4 ⟨some 36, _, _, _, _, _⟩ (v := ?_) (by decide) rfl (by kernel_rfl) (by kernel_rfl) (by kernel_rfl) (fun _ _ _ h => h) hS (Or.inl ⟨by kernel_rfl, ?_⟩) ?_
            rotate_left
            · (intro V hSw; obtain ⟨hq1, hq2⟩ := HS.out V hSw; go_simp; try with_reducible rfl)
            try simp only [Act.put]
            refine wpE_takeF 5 ⟨some 37, _, _, _, _, _⟩ (v := ?_) (by decide) rfl (by kernel_rfl) (by kernel_rfl) (by kernel_rfl) (fun _ _ _ h => h) hS (Or.inl ⟨by kernel_rfl, ?_⟩) ?_
            rotate_left
            · (intro V hSw; obtain ⟨hq1, hq2⟩ := HS.out V hSw; go_simp; try with_reducible rfl)
            try simp only [Act.put]
            refine wpE_takeF 6 ⟨some 38, _, _, _, _, _⟩ (v := ?_) (by decide) rfl (by kernel_rfl) (by kernel_rfl) (by kernel_rfl) (fun _ _ _ h => h) hS (Or.inl ⟨by kernel_rfl, ?_⟩) ?_
            rotate_left
            · (intro V hSw; obtain ⟨hq1, hq2⟩ := HS.out V hSw; go_simp; try with_reducible rfl)
            try simp only [Act.put]
            refine wpE_takeF 7 ⟨some 39, _, _, _, _, _⟩ (v := ?_) (by decide) rfl (by kernel_rfl) (by kernel_rfl) (by kernel_rfl) (fun _ _ _ h => h) hS (Or.inl ⟨by kernel_rfl, ?_⟩) ?_
            rotate_left
            · (intro V hSw; obtain ⟨hq1, hq2⟩ := HS.out V hSw; go_simp; try with_reducible rfl)
            try simp only [Act.put]
            refine wpE_done (by kernel_rfl) ?_ _
            try simp only [List.setIfInBounds_toArray, List.set_cons_succ, List.set_cons_zero]
            go_wp2_with fail
            refine wp_region_E (fun V => Below wr.heap.size wr V) 99 rfl ?_
            have hS := (show Below wr.heap.size wr wr.drew.drew from (Below.refl _ wr).drew.drew)
            refine wpE_takeF 0 ⟨some 40, _, _, _, _, _⟩ (v := ?_) (by decide) rfl (by kernel_rfl) (by kernel_rfl) (by kernel_rfl) (fun _ _ _ h => h) hS (Or.inl ⟨by kernel_rfl, ?_⟩) ?_
            rotate_left
            · (intro V hSw; go_simp; try with_reducible rfl)
            try simp only [Act.put]
            refine wpE_takeF 1 ⟨some 41, _, _, _, _, _⟩ (v := ?_) (by decide) rfl (by kernel_rfl) (by kernel_rfl) (by kernel_rfl) (fun _ _ _ h => h) hS (Or.inl ⟨by kernel_rfl, ?_⟩) ?_
            rotate_left
            · (intro V hSw; go_simp; try with_reducible rfl)
            try simp only [Act.put]
            refine wpE_takeF 2 ⟨some 42, _, _, _, _, _⟩ (v := ?_) (by decide) rfl (by kernel_rfl) (by kernel_rfl) (by kernel_rfl) (fun _ _ _ h => h) hS (Or.inl ⟨by kernel_rfl, ?_⟩) ?_
            rotate_left
            · (intro V hSw; go_simp; try with_reducible rfl)
            try simp only [Act.put]
            refine wpE_takeF 3 ⟨some 43, _, _, _, _, _⟩ (v := undef) (by decide) rfl (by kernel_rfl) (by kernel_rfl) (by kernel_rfl) (fun _ _ _ h => h) hS (Or.inr ⟨by kernel_rfl, rfl⟩) ?_
            try simp only [Act.put]
            refine wpE_takeF 4 ⟨some 44, _, _, _, _, _⟩ (v := undef) (by decide) rfl (by kernel_rfl) (by kernel_rfl) (by kernel_rfl) (fun _ _ _ h => h) hS (Or.inr ⟨by kernel_rfl, rfl⟩) ?_
            try simp only [Act.put]
            refine wpE_takeF 5 ⟨some 45, _, _, _, _, _⟩ (v := undef) (by decide) rfl (by kernel_rfl) (by kernel_rfl) (by kernel_rfl) (fun _ _ _ h => h) hS (Or.inr ⟨by kernel_rfl, rfl⟩) ?_
            try simp only [Act.put]
            refine wpE_takeF 6 ⟨some 46, _, _, _, _, _⟩ (v := undef) (by decide) rfl (by kernel_rfl) (by kernel_rfl) (by kernel_rfl) (fun _ _ _ h => h) hS (Or.inr ⟨by kernel_rfl, rfl⟩) ?_
            try simp only [Act.put]
            refine wpE_takeF 7 ⟨some 47, _, _, _, _, _⟩ (v := undef) (by decide) rfl (by kernel_rfl) (by kernel_rfl) (by kernel_rfl) (fun _ _ _ h => h) hS (Or.inr ⟨by kernel_rfl, rfl⟩) ?_
            try simp only [Act.put]
            refine wpE_takeF 8 ⟨some 48, _, _, _, _, _⟩ (v := undef) (by decide) rfl (by kernel_rfl) (by kernel_rfl) (by kernel_rfl) (fun _ _ _ h => h) hS (Or.inr ⟨by kernel_rfl, rfl⟩) ?_
            try simp only [Act.put]
            refine wpE_takeF 9 ⟨some 49, _, _, _, _, _⟩ (v := undef) (by decide) rfl (by kernel_rfl) (by kernel_rfl) (by kernel_rfl) (fun _ _ _ h => h) hS (Or.inr ⟨by kernel_rfl, rfl⟩) ?_
            try simp only [Act.put]
            refine wpE_takeF 10 ⟨some 50, _, _, _, _, _⟩ (v := undef) (by decide) rfl (by kernel_rfl) (by kernel_rfl) (by kernel_rfl) (fun _ _ _ h => h) hS (Or.inr ⟨by kernel_rfl, rfl⟩) ?_
            try simp only [Act.put]
            refine wpE_takeF 11 ⟨some 51, _, _, _, _, _⟩ (v := ?_) (by decide) rfl (by kernel_rfl) (by kernel_rfl) (by kernel_rfl) (fun _ _ _ h => h) hS (Or.inl ⟨by kernel_rfl, ?_⟩) ?_
            rotate_left
            · (intro V hSw; go_simp; try with_reducible rfl)
            try simp only [Act.put]
            refine wpE_done (by kernel_rfl) ?_ _
            try simp only [List.setIfInBounds_toArray, List.set_cons_succ, List.set_cons_zero]
            have hOd : OwnX wr.drew.drew (gx + 1) (.slice Am mm cm) M := HO.out.below (Below.refl _ wr).drew.drew
            have hBd : Below w.heap.size w wr.drew.drew := HBR.out.drew.drew
            have hGd : wr.drew.drew.heap[gx]? = W0.heap[gx]? := HGR.out
            have hSd : gx + 1 ≤ wr.drew.drew.heap.size := hsr
            generalize wr.drew.drew = Wd at hOd hBd hGd hSd ⊢
            obtain ⟨A5, c5, W5, hrun, hO5, hB5⟩ := run_appS Wd (gx + 1) _ M hOd SY yi (by have := HMLE.out; omega) hSd
            have hld := HLDY.out Wd hBd
            rw [← HYC.out] at hO5
            rw [← HMM.out] at hrun hO5
            have HO5 := Lib.hid hO5; clear hO5
            have HG5 : Hid (W5.heap[gx]? = W0.heap[gx]?) := Lib.hid ((hB5.block gx (by omega)).trans hGd)
            have HS5 : Hid (gx + 1 ≤ W5.heap.size) := Lib.hid (Nat.le_trans hSd hB5.size)
            have HB5 : Hid (Below w.heap.size w W5) := Lib.hid (hBd.trans (hB5.mono (by have := HGX.out; omega)))
            have HM5 : Hid (mm + 1 = (M ++ [l[k]]).length) := Lib.hid (by rw [List.length_append, ← HMM.out]; rfl)
            clear hOd hBd hGd hSd hB5 HML HMLE HMM HYC
            go_wp2_with (at_builtin; refine wpList_apprun rfl _ _ _ _ (by rfl) _ _ (by rfl) (by rfl) _ _ hrun ?_)
            go_wp2
            go_roundw
            case rel => exact ⟨k + 1, mm + 1, A5, c5, true, _, by omega, by go_num, rfl, rfl, HNEXT.out, HM5.out, HO5.out, HG5.out, HS5.out, HB5.out⟩
            case measure => simp [intOf]; omega
          | false =>
            have hgt := run_gtr SY SX
            rw [heq, Bool.or_false] at hgt
            obtain ⟨lo, hlo⟩ : ∃ lo, Op.bytesLess SY.toList SX.toList = lo := ⟨_, rfl⟩
            simp only [hlo] at hgt
            have hlo2 : less (l[k]).t x.t = lo := by rw [← hlo, HSYL.out, HSXL.out]; rfl
            clear hlo
            cases lo with
            | true =>
              have hnext := more_low hkl HMORE.out hlo2
              have HNEXT := Lib.hid hnext; clear hnext HMORE hlo2
              go_wp2_with fail
              refine wp_region_E (fun V => Below wr.heap.size wr V) 99 rfl ?_
              have hS := (show Below wr.heap.size wr wr.drew from (Below.refl _ wr).drew)
              refine wpE_takeF 0 ⟨some 32, _, _, _, _, _⟩ (v := ?_) (by decide) rfl (by kernel_rfl) (by kernel_rfl) (by kernel_rfl) (fun _ _ _ h => h) hS (Or.inl ⟨by kernel_rfl, ?_⟩) ?_
              rotate_left
              · (intro V hSw; obtain ⟨hq1, hq2⟩ := HS.out V hSw; go_simp; try with_reducible rfl)
              try simp only [Act.put]
              refine wpE_takeF 1 ⟨some 33, _, _, _, _, _⟩ (v := ?_) (by decide) rfl (by kernel_rfl) (by kernel_rfl) (by kernel_rfl) (fun _ _ _ h => h) hS (Or.inl ⟨by kernel_rfl, ?_⟩) ?_
              rotate_left
              · (intro V hSw; obtain ⟨hq1, hq2⟩ := HS.out V hSw; go_simp; try with_reducible rfl)
              try simp only [Act.put]
              refine wpE_takeF 2 ⟨some 34, _, _, _, _, _⟩ (v := ?_) (by decide) rfl (by kernel_rfl) (by kernel_rfl) (by kernel_rfl) (fun _ _ _ h => h) hS (Or.inl ⟨by kernel_rfl, ?_⟩) ?_
              rotate_left
              · (intro V hSw; obtain ⟨hq1, hq2⟩ := HS.out V hSw; go_simp; try with_reducible rfl)
              try simp only [Act.put]
              refine wpE_takeF 3 ⟨some 35, _, _, _, _, _⟩ (v := ?_) (by decide) rfl (by kernel_rfl) (by kernel_rfl) (by kernel_rfl) (fun _ _ _ h => h) hS (Or.inl ⟨by kernel_rfl, ?_⟩) ?_
              rotate_left
              · (intro V hSw; obtain ⟨hq1, hq2⟩ := HS.out V hSw; go_simp; try with_reducible rfl)
              try simp only [Act.put]
              refine wpE_takeF 4 ⟨some 36, _, _, _, _, _⟩ (v := ?_) (by decide) rfl (by kernel_rfl) (by kernel_rfl) (by kernel_rfl) (fun _ _ _ h => h) hS (Or.inl ⟨by kernel_rfl, ?_⟩) ?_
              rotate_left
              · (intro V hSw; obtain ⟨hq1, hq2⟩ := HS.out V hSw; go_simp; try with_reducible rfl)
              try simp only [Act.put]
              refine wpE_takeF 5 ⟨some 37, _, _, _, _, _⟩ (v := ?_) (by decide) rfl (by kernel_rfl) (by kernel_rfl) (by kernel_rfl) (fun _ _ _ h => h) hS (Or.inl ⟨by kernel_rfl, ?_⟩) ?_
              rotate_left
              · (intro V hSw; obtain ⟨hq1, hq2⟩ := HS.out V hSw; go_simp; try with_reducible rfl)
              try simp only [Act.put]
              refine wpE_takeF 6 ⟨some 38, _, _, _, _, _⟩ (v := ?_) (by decide) rfl (by kernel_rfl) (by kernel_rfl) (by kernel_rfl) (fun _ _ _ h => h) hS (Or.inl ⟨by kernel_rfl, ?_⟩) ?_
              rotate_left
              · (intro V hSw; obtain ⟨hq1, hq2⟩ := HS.out V hSw; go_simp; try with_reducible rfl)
              try simp only [Act.put]
              refine wpE_takeF 7 ⟨some 39, _, _, _, _, _⟩ (v := ?_) (by decide) rfl (by kernel_rfl) (by kernel_rfl) (by kernel_rfl) (fun _ _ _ h => h) hS (Or.inl ⟨by kernel_rfl, ?_⟩) ?_
              rotate_left
              · (intro V hSw; obtain ⟨hq1, hq2⟩ := HS.out V hSw; go_simp; try with_reducible rfl)
              try simp only [Act.put]
              refine wpE_done (by kernel_rfl) ?_ _
              try simp only [List.setIfInBounds_toArray, List.set_cons_succ, List.set_cons_zero]
              go_wp2_with fail
              refine wp_region_E (fun V => Below wr.heap.size wr V) 99 rfl ?_
              have hS := (show Below wr.heap.size wr wr.drew.drew from (Below.refl _ wr).drew.drew)
              refine wpE_takeF 0 ⟨some 40, _, _, _, _, _⟩ (v := ?_) (by decide) rfl (by kernel_rfl) (by kernel_rfl) (by kernel_rfl) (fun _ _ _ h => h) hS (Or.inl ⟨by kernel_rfl, ?_⟩) ?_
              rotate_left
              · (intro V hSw; obtain ⟨hq1, hq2⟩ := HS.out V hSw; go_simp; try with_reducible rfl)
              try simp only [Act.put]
              refine wpE_takeF 1 ⟨some 41, _, _, _, _, _⟩ (v := ?_) (by decide) rfl (by kernel_rfl) (by kernel_rfl) (by kernel_rfl) (fun _ _ _ h => h) hS (Or.inl ⟨by kernel_rfl, ?_⟩) ?_
              rotate_left
              · (intro V hSw; obtain ⟨hq1, hq2⟩ := HS.out V hSw; go_simp; try with_reducible rfl)
              try simp only [Act.put]
              refine wpE_takeF 2 ⟨some 42, _, _, _, _, _⟩ (v := ?_) (by decide) rfl (by kernel_rfl) (by kernel_rfl) (by kernel_rfl) (fun _ _ _ h => h) hS (Or.inl ⟨by kernel_rfl, ?_⟩) ?_
              rotate_left
              · (intro V hSw; obtain ⟨hq1, hq2⟩ := HS.out V hSw; go_simp; try with_reducible rfl)
              try simp only [Act.put]
              refine wpE_takeF 3 ⟨some 43, _, _, _, _, _⟩ (v := ?_) (by decide) rfl (by kernel_rfl) (by kernel_rfl) (by kernel_rfl) (fun _ _ _ h => h) hS (Or.inl ⟨by kernel_rfl, ?_⟩) ?_
              rotate_left
              · (intro V hSw; obtain ⟨hq1, hq2⟩ := HS.out V hSw; go_simp; try with_reducible rfl)
              try simp only [Act.put]
              refine wpE_takeF 4 ⟨some 44, _, _, _, _, _⟩ (v := ?_) (by decide) rfl (by kernel_rfl) (by kernel_rfl) (by kernel_rfl) (fun _ _ _ h => h) hS (Or.inl ⟨by kernel_rfl, ?_⟩) ?_
              rotate_left
              · (intro V hSw; obtain ⟨hq1, hq2⟩ := HS.out V hSw; go_simp; try with_reducible rfl)
              try simp only [Act.put]
              refine wpE_takeF 5 ⟨some 45, _, _, _, _, _⟩ (v := ?_) (by decide) rfl (by kernel_rfl) (by kernel_rfl) (by kernel_rfl) (fun _ _ _ h => h) hS (Or.inl ⟨by kernel_rfl, ?_⟩) ?_
              rotate_left
              · (intro V hSw; obtain ⟨hq1, hq2⟩ := HS.out V hSw; go_simp; try with_reducible rfl)
              try simp only [Act.put]
              refine wpE_takeF 6 ⟨some 46, _, _, _, _, _⟩ (v := ?_) (by decide) rfl (by kernel_rfl) (by kernel_rfl) (by kernel_rfl) (fun _ _ _ h => h) hS (Or.inl ⟨by kernel_rfl, ?_⟩) ?_
              rotate_left
              · (intro V hSw; obtain ⟨hq1, hq2⟩ := HS.out V hSw; go_simp; try with_reducible rfl)
              try simp only [Act.put]
              refine wpE_takeF 7 ⟨some 47, _, _, _, _, _⟩ (v := ?_) (by decide) rfl (by kernel_rfl) (by kernel_rfl) (by kernel_rfl) (fun _ _ _ h => h) hS (Or.inl ⟨by kernel_rfl, ?_⟩) ?_
              rotate_left
              · (intro V hSw; obtain ⟨hq1, hq2⟩ := HS.out V hSw; go_simp; try with_reducible rfl)
              try simp only [Act.put]
              refine wpE_takeF 8 ⟨some 48, _, _, _, _, _⟩ (v := ?_) (by decide) rfl (by kernel_rfl) (by kernel_rfl) (by kernel_rfl) (fun _ _ _ h => h) hS (Or.inl ⟨by kernel_rfl, ?_⟩) ?_
              rotate_left
              · (intro V hSw; obtain ⟨hq1, hq2⟩ := HS.out V hSw; go_simp; try with_reducible rfl)
              try simp only [Act.put]
              refine wpE_takeF 9 ⟨some 49, _, _, _, _, _⟩ (v := ?_) (by decide) rfl (by kernel_rfl) (by kernel_rfl) (by kernel_rfl) (fun _ _ _ h => h) hS (Or.inl ⟨by kernel_rfl, ?_⟩) ?_
              rotate_left
              · (intro V hSw; obtain ⟨hq1, hq2⟩ := HS.out V hSw; go_simp; try with_reducible rfl)
              try simp only [Act.put]
              refine wpE_takeF 10 ⟨some 50, _, _, _, _, _⟩ (v := ?_) (by decide) rfl (by kernel_rfl) (by kernel_rfl) (by kernel_rfl) (fun _ _ _ h => h) hS (Or.inl ⟨by kernel_rfl, ?_⟩) ?_
              rotate_left
              · (intro V hSw; obtain ⟨hq1, hq2⟩ := HS.out V hSw; go_simp; try with_reducible rfl)
              try simp only [Act.put]
              refine wpE_takeF 11 ⟨some 51, _, _, _, _, _⟩ (v := ?_) (by decide) rfl (by kernel_rfl) (by kernel_rfl) (by kernel_rfl) (fun _ _ _ h => h) hS (Or.inl ⟨by kernel_rfl, ?_⟩) ?_
              rotate_left
              · (intro V hSw; obtain ⟨hq1, hq2⟩ := HS.out V hSw; go_simp; try with_reducible rfl)
              try simp only [Act.put]
              refine wpE_done (by kernel_rfl) ?_ _
              try simp only [List.setIfInBounds_toArray, List.set_cons_succ, List.set_cons_zero]
              have hOd : OwnX wr.drew.drew (gx + 1) (.slice Am mm cm) M := HO.out.below (Below.refl _ wr).drew.drew
              have hBd : Below w.heap.size w wr.drew.drew := HBR.out.drew.drew
              have hGd : wr.drew.drew.heap[gx]? = W0.heap[gx]? := HGR.out
              have hSd : gx + 1 ≤ wr.drew.drew.heap.size := hsr
              generalize wr.drew.drew = Wd at hOd hBd hGd hSd ⊢
              obtain ⟨A5, c5, W5, hrun, hO5, hB5⟩ := run_appS Wd (gx + 1) _ M hOd SY yi (by have := HMLE.out; omega) hSd
              have hld := HLDY.out Wd hBd
              rw [← HYC.out] at hO5
              rw [← HMM.out] at hrun hO5
              have HO5 := Lib.hid hO5; clear hO5
              have HG5 : Hid (W5.heap[gx]? = W0.heap[gx]?) := Lib.hid ((hB5.block gx (by omega)).trans hGd)
              have HS5 : Hid (gx + 1 ≤ W5.heap.size) := Lib.hid (Nat.le_trans hSd hB5.size)
              have HB5 : Hid (Below w.heap.size w W5) := Lib.hid (hBd.trans (hB5.mono (by have := HGX.out; omega)))
              have HM5 : Hid (mm + 1 = (M ++ [l[k]]).length) := Lib.hid (by rw [List.length_append, ← HMM.out]; rfl)
              clear hOd hBd hGd hSd hB5 HML HMLE HMM HYC hgt
              go_wp2_with (at_builtin; refine wpList_apprun rfl _ _ _ _ (by rfl) _ _ (by rfl) (by rfl) _ _ hrun ?_)
              go_wp2
              go_roundw
              case rel => exact ⟨k + 1, mm + 1, A5, c5, false, _, by omega, by go_num, rfl, rfl, HNEXT.out, HM5.out, HO5.out, HG5.out, HS5.out, HB5.out⟩
              case measure => simp [intOf]; omega
            | false =>
              have hhi : less x.t (l[k]).t = true := by
                cases hx2 : less x.t (l[k]).t with
                | true => rfl
                | false => exact absurd (less_total _ _ hlo2 hx2) HNE.out
              have hnext := more_here hkl HMORE.out hhi
              have HNEXT := Lib.hid hnext; clear hnext HMORE hlo2 hhi
              go_wp2_with fail
              refine wp_region_E (fun V => Below wr.heap.size wr V) 99 rfl ?_
              have hS := (show Below wr.heap.size wr wr.drew from (Below.refl _ wr).drew)
              refine wpE_takeF 0 ⟨some 32, _, _, _, _, _⟩ (v := ?_) (by decide) rfl (by kernel_rfl) (by kernel_rfl) (by kernel_rfl) (fun _ _ _ h => h) hS (Or.inl ⟨by kernel_rfl, ?_⟩) ?_
              rotate_left
              · (intro V hSw; obtain ⟨hq1, hq2⟩ := HS.out V hSw; go_simp; try with_reducible rfl)
              try simp only [Act.put]
              refine wpE_takeF 1 ⟨some 33, _, _, _, _, _⟩ (v := ?_) (by decide) rfl (by kernel_rfl) (by kernel_rfl) (by kernel_rfl) (fun _ _ _ h => h) hS (Or.inl ⟨by kernel_rfl, ?_⟩) ?_
              rotate_left
              · (intro V hSw; obtain ⟨hq1, hq2⟩ := HS.out V hSw; go_simp; try with_reducible rfl)
              try simp only [Act.put]
              refine wpE_takeF 2 ⟨some 34, _, _, _, _, _⟩ (v := ?_) (by decide) rfl (by kernel_rfl) (by kernel_rfl) (by kernel_rfl) (fun _ _ _ h => h) hS (Or.inl ⟨by kernel_rfl, ?_⟩) ?_
              rotate_left
              · (intro V hSw; obtain ⟨hq1, hq2⟩ := HS.out V hSw; go_simp; try with_reducible rfl)
              try simp only [Act.put]
              refine wpE_takeF 3 ⟨some 35, _, _, _, _, _⟩ (v := ?_) (by decide) rfl (by kernel_rfl) (by kernel_rfl) (by kernel_rfl) (fun _ _ _ h => h) hS (Or.inl ⟨by kernel_rfl, ?_⟩) ?_
              rotate_left
              · (intro V hSw; obtain ⟨hq1, hq2⟩ := HS.out V hSw; go_simp; try with_reducible rfl)
              try simp only [Act.put]
              refine wpE_takeF 4 ⟨some 36, _, _, _, _, _⟩ (v := ?_) (by decide) rfl (by kernel_rfl) (by kernel_rfl) (by kernel_rfl) (fun _ _ _ h => h) hS (Or.inl ⟨by kernel_rfl, ?_⟩) ?_
              rotate_left
              · (intro V hSw; obtain ⟨hq1, hq2⟩ := HS.out V hSw; go_simp; try with_reducible rfl)
              try simp only [Act.put]
              refine wpE_takeF 5 ⟨some 37, _, _, _, _, _⟩ (v := ?_) (by decide) rfl (by kernel_rfl) (by kernel_rfl) (by kernel_rfl) (fun _ _ _ h => h) hS (Or.inl ⟨by kernel_rfl, ?_⟩) ?_
              rotate_left
              · (intro V hSw; obtain ⟨hq1, hq2⟩ := HS.out V hSw; go_simp; try with_reducible rfl)
              try simp only [Act.put]
              refine wpE_takeF 6 ⟨some 38, _, _, _, _, _⟩ (v := ?_) (by decide) rfl (by kernel_rfl) (by kernel_rfl) (by kernel_rfl) (fun _ _ _ h => h) hS (Or.inl ⟨by kernel_rfl, ?_⟩) ?_
              rotate_left
              · (intro V hSw; obtain ⟨hq1, hq2⟩ := HS.out V hSw; go_simp; try with_reducible rfl)
              try simp only [Act.put]
              refine wpE_takeF 7 ⟨some 39, _, _, _, _, _⟩ (v := ?_) (by decide) rfl (by kernel_rfl) (by kernel_rfl) (by kernel_rfl) (fun _ _ _ h => h) hS (Or.inl ⟨by kernel_rfl, ?_⟩) ?_
              rotate_left
              · (intro V hSw; obtain ⟨hq1, hq2⟩ := HS.out V hSw; go_simp; try with_reducible rfl)
              try simp only [Act.put]
              refine wpE_done (by kernel_rfl) ?_ _
              try simp only [List.setIfInBounds_toArray, List.set_cons_succ, List.set_cons_zero]
              go_wp2_with fail
              refine wp_region_E (fun V => Below wr.heap.size wr V) 99 rfl ?_
              have hS := (show Below wr.heap.size wr wr.drew.drew from (Below.refl _ wr).drew.drew)
              refine wpE_takeF 0 ⟨some 40, _, _, _, _, _⟩ (v := ?_) (by decide) rfl (by kernel_rfl) (by kernel_rfl) (by kernel_rfl) (fun _ _ _ h => h) hS (Or.inl ⟨by kernel_rfl, ?_⟩) ?_
              rotate_left
              · (intro V hSw; obtain ⟨hq1, hq2⟩ := HS.out V hSw; go_simp; try with_reducible rfl)
              try simp only [Act.put]
              refine wpE_takeF 1 ⟨some 41, _, _, _, _, _⟩ (v := ?_) (by decide) rfl (by kernel_rfl) (by kernel_rfl) (by kernel_rfl) (fun _ _ _ h => h) hS (Or.inl ⟨by kernel_rfl, ?_⟩) ?_
              rotate_left
              · (intro V hSw; obtain ⟨hq1, hq2⟩ := HS.out V hSw; go_simp; try with_reducible rfl)
              try simp only [Act.put]
              refine wpE_takeF 2 ⟨some 42, _, _, _, _, _⟩ (v := ?_) (by decide) rfl (by kernel_rfl) (by kernel_rfl) (by kernel_rfl) (fun _ _ _ h => h) hS (Or.inl ⟨by kernel_rfl, ?_⟩) ?_
              rotate_left
              · (intro V hSw; obtain ⟨hq1, hq2⟩ := HS.out V hSw; go_simp; try with_reducible rfl)
              try simp only [Act.put]
              refine wpE_takeF 3 ⟨some 43, _, _, _, _, _⟩ (v := ?_) (by decide) rfl (by kernel_rfl) (by kernel_rfl) (by kernel_rfl) (fun _ _ _ h => h) hS (Or.inl ⟨by kernel_rfl, ?_⟩) ?_
              rotate_left
              · (intro V hSw; obtain ⟨hq1, hq2⟩ := HS.out V hSw; go_simp; try with_reducible rfl)
              try simp only [Act.put]
              refine wpE_takeF 4 ⟨some 44, _, _, _, _, _⟩ (v := ?_) (by decide) rfl (by kernel_rfl) (by kernel_rfl) (by kernel_rfl) (fun _ _ _ h => h) hS (Or.inl ⟨by kernel_rfl, ?_⟩) ?_
              rotate_left
              · (intro V hSw; obtain ⟨hq1, hq2⟩ := HS.out V hSw; go_simp; try with_reducible rfl)
              try simp only [Act.put]
              refine wpE_takeF 5 ⟨some 45, _, _, _, _, _⟩ (v := ?_) (by decide) rfl (by kernel_rfl) (by kernel_rfl) (by kernel_rfl) (fun _ _ _ h => h) hS (Or.inl ⟨by kernel_rfl, ?_⟩) ?_
              rotate_left
              · (intro V hSw; obtain ⟨hq1, hq2⟩ := HS.out V hSw; go_simp; try with_reducible rfl)
              try simp only [Act.put]
              refine wpE_takeF 6 ⟨some 46, _, _, _, _, _⟩ (v := ?_) (by decide) rfl (by kernel_rfl) (by kernel_rfl) (by kernel_rfl) (fun _ _ _ h => h) hS (Or.inl ⟨by kernel_rfl, ?_⟩) ?_
              rotate_left
              · (intro V hSw; obtain ⟨hq1, hq2⟩ := HS.out V hSw; go_simp; try with_reducible rfl)
              try simp only [Act.put]
              refine wpE_takeF 7 ⟨some 47, _, _, _, _, _⟩ (v := ?_) (by decide) rfl (by kernel_rfl) (by kernel_rfl) (by kernel_rfl) (fun _ _ _ h => h) hS (Or.inl ⟨by kernel_rfl, ?_⟩) ?_
              rotate_left
              · (intro V hSw; obtain ⟨hq1, hq2⟩ := HS.out V hSw; go_simp; try with_reducible rfl)
              try simp only [Act.put]
              refine wpE_takeF 8 ⟨some 48, _, _, _, _, _⟩ (v := ?_) (by decide) rfl (by kernel_rfl) (by kernel_rfl) (by kernel_rfl) (fun _ _ _ h => h) hS (Or.inl ⟨by kernel_rfl, ?_⟩) ?_
              rotate_left
              · (intro V hSw; obtain ⟨hq1, hq2⟩ := HS.out V hSw; go_simp; try with_reducible rfl)
              try simp only [Act.put]
              refine wpE_takeF 9 ⟨some 49, _, _, _, _, _⟩ (v := ?_) (by decide) rfl (by kernel_rfl) (by kernel_rfl) (by kernel_rfl) (fun _ _ _ h => h) hS (Or.inl ⟨by kernel_rfl, ?_⟩) ?_
              rotate_left
              · (intro V hSw; obtain ⟨hq1, hq2⟩ := HS.out V hSw; go_simp; try with_reducible rfl)
              try simp only [Act.put]
              refine wpE_takeF 10 ⟨some 50, _, _, _, _, _⟩ (v := ?_) (by decide) rfl (by kernel_rfl) (by kernel_rfl) (by kernel_rfl) (fun _ _ _ h => h) hS (Or.inl ⟨by kernel_rfl, ?_⟩) ?_
              rotate_left
              · (intro V hSw; obtain ⟨hq1, hq2⟩ := HS.out V hSw; go_simp; try with_reducible rfl)
              try simp only [Act.put]
              refine wpE_takeF 11 ⟨some 51, _, _, _, _, _⟩ (v := ?_) (by decide) rfl (by kernel_rfl) (by kernel_rfl) (by kernel_rfl) (fun _ _ _ h => h) hS (Or.inl ⟨by kernel_rfl, ?_⟩) ?_
              rotate_left
              · (intro V hSw; obtain ⟨hq1, hq2⟩ := HS.out V hSw; go_simp; try with_reducible rfl)
              try simp only [Act.put]
              refine wpE_done (by kernel_rfl) ?_ _
              try simp only [List.setIfInBounds_toArray, List.set_cons_succ, List.set_cons_zero]
              have hOd : OwnX wr.drew.drew (gx + 1) (.slice Am mm cm) M := HO.out.below (Below.refl _ wr).drew.drew
              have hBd : Below w.heap.size w wr.drew.drew := HBR.out.drew.drew
              have hGd : wr.drew.drew.heap[gx]? = W0.heap[gx]? := HGR.out
              have hSd : gx + 1 ≤ wr.drew.drew.heap.size := hsr
              generalize wr.drew.drew = Wd at hOd hBd hGd hSd ⊢
              obtain ⟨A5, c5, W5, hrun, hO5, hB5⟩ := run_appS Wd (gx + 1) _ M hOd SX xi (by have := HMLE.out; omega) hSd
              have hldx := (HVAR.out Wd hGd).1
              have hG5 : W5.heap[gx]? = W0.heap[gx]? := (hB5.block gx (by omega)).trans hGd
              have hS5 : gx + 1 ≤ W5.heap.size := Nat.le_trans hSd hB5.size
              have hB5' : Below w.heap.size w W5 := hBd.trans (hB5.mono (by have := HGX.out; omega))
              have hml5 : (M ++ [(⟨SX.data.toList, xi⟩ : Nm)]).length = M.length + 1 := by rw [List.length_append]; rfl
              obtain ⟨A6, c6, W6, hrun6, hO6, hB6⟩ := run_appS W5 (gx + 1) _ _ hO5 SY yi (by rw [hml5]; have := HMLE.out; omega) hS5
              have hld := HLDY.out W5 hB5'
              have hxe : (⟨SX.data.toList, xi⟩ : Nm) = x := by rw [HSX.out, HXI.out]
              rw [hml5] at hrun6 hO6
              rw [← HYC.out, hxe] at hO6
              rw [← HMM.out] at hrun hrun6 hO6
              have HO6 := Lib.hid hO6; clear hO6
              have HG6 : Hid (W6.heap[gx]? = W0.heap[gx]?) := Lib.hid ((hB6.block gx (by omega)).trans hG5)
              have HS6 : Hid (gx + 1 ≤ W6.heap.size) := Lib.hid (Nat.le_trans hS5 hB6.size)
              have HB6 : Hid (Below w.heap.size w W6) := Lib.hid (hB5'.trans (hB6.mono (by have := HGX.out; omega)))
              have HM6 : Hid (mm + 1 + 1 = ((M ++ [x]) ++ [l[k]]).length) := Lib.hid (by rw [List.length_append, List.length_append, ← HMM.out]; rfl)
              clear hOd hBd hGd hSd hB5 hO5 hG5 hS5 hB5' hml5 hB6 hxe HML HMLE HMM HYC hgt
              go_wp2_with (at_builtin; first | (refine wpList_apprun rfl _ _ _ _ (by rfl) _ _ (by rfl) (by rfl) _ _ hrun ?_; clear hrun) | (refine wpList_apprun rfl _ _ _ _ (by rfl) _ _ (by rfl) (by rfl) _ _ hrun6 ?_; clear hrun6))
              go_wp2
              go_roundw
              case rel => exact ⟨k + 1, mm + 1 + 1, A6, c6, true, _, by omega, by go_num, rfl, rfl, HNEXT.out, HM6.out, HO6.out, HG6.out, HS6.out, HB6.out⟩
              case measure => simp [intOf]; omega
      · have hkk : k = l.length := by have := HLN.out; omega
        have hmend := HMORE.out
        rw [hkk] at hmend
        have hends := more_end hmend
        clear hmend
        have hkn2 : k = n := by omega
        subst hkn2
        have hkn : ¬ (k : Int) < (k : Int) := by omega
        have hmmb : mm ≤ 5864062014635 := by have := HMM.out; have := HMLE.out; omega
        clear hkk HMORE
        cases pt with
        | true =>
          rw [if_pos rfl] at hends
          have hO := HO.out
          have hG := HGR.out
          have hS := hsr
          have hB := HBR.out
          clear HML
          obtain ⟨p, q, hpq, hMpq, hp, hqq⟩ := hends
          have hrt : right M = okN x := by
            rw [hMpq]
            cases hxk : okN x with
            | true => exact right_more p q x (by rw [← hpq]; exact HQ.out) hxk hp hqq
            | false => exact right_more_not p q x hxk
          have hszM : sizeL M = Z + 5 + x.t.length := by rw [hMpq, size_more, ← hpq, HZ.out]
          have hrepM : ∀ y ∈ M, y.rep := fun y hy => by
            rw [hMpq] at hy
            rcases List.mem_append.1 hy with hy | hy
            · exact HREP.out y (by rw [hpq]; exact List.mem_append.2 (.inl hy))
            · rcases List.mem_append.1 hy with hy | hy
              · rw [List.mem_singleton.1 hy]; exact HRX.out
              · exact HREP.out y (by rw [hpq]; exact List.mem_append.2 (.inr hy))
          have hrd := hO.reads
          have hsize := size_any Am mm cm wr.heap.size M wr hrd (Nat.le_refl _) hrepM (by omega)
          have hencM := fun V (hV : Below wr.heap.size wr V) => encode_any Am mm cm wr.heap.size M V (hrd.below hV) hV.size hrepM (by omega)
          have HENCM := Lib.hid hencM; clear hencM
          have HSIZE := Lib.hid hsize; clear hsize
          have HRT := Lib.hid hrt; clear hrt
          have HSZM := Lib.hid hszM; clear hszM
          have HGV := Lib.hid hG; clear hG
          have HSV := Lib.hid hS; clear hS
          have HBV := Lib.hid hB; clear hB
          clear hpq hMpq hp hqq hrepM hrd hO
          go_wp2_with fail
          with_reducible refine HSIZE.out.mono ?_
          rintro E W7 ⟨rfl, hb7⟩
          have hG7 : W7.heap[gx]? = W0.heap[gx]? := (hb7.block gx (by have := HSV.out; omega)).trans HGV.out
          have HB7 : Hid (Below w.heap.size w W7) := Lib.hid (HBV.out.trans (hb7.mono (by have := HSV.out; have := HGX.out; omega)))
          have HBB7 := Lib.hid hb7; clear hb7 HSIZE
          obtain ⟨-, q0, q1⟩ := HVAR.out W7 hG7
          clear hG7
          obtain ⟨bx1, bx2⟩ := HIX.out
          obtain ⟨mb, hmb⟩ : ∃ mb, mb = may x.t := ⟨_, rfl⟩
          have hmc : ∀ V, Calls Try.prog 13 #[.string SX] V fun E w' => E = .returned (.bool mb) ∧ V = w' := fun V => (HMAY.out V).mono fun E w' h => ⟨by rw [hmb]; exact h.1, h.2.symm⟩
          have HMC := Lib.hid hmc; clear hmc
          cases mb with
          | false =>
            have hok : okN x = false := okN_no_may hmb.symm
            rw [size_not (by rw [HRT.out, hok])]
            clear hok hmb
            dsimp only
            go_wp2_with (with_reducible refine (HMC.out _).mono ?_; rintro E w' ⟨rfl, rfl⟩)
            go_ret
            exact ⟨rfl, HB7.out⟩
          | true =>
          rcases Decidable.em (xi < 0) with hi0 | hi0
          · have hok : okN x = false := okN_no_int (by have := HXI.out; omega)
            rw [size_not (by rw [HRT.out, hok])]
            have hd0 : decide (0 ≤ xi) = false := decide_eq_false (by omega)
            clear hok hmb
            dsimp only
            go_wp2_with (with_reducible refine (HMC.out _).mono ?_; rintro E w' ⟨rfl, rfl⟩)
            go_ret
            exact ⟨rfl, HB7.out⟩
          rcases Decidable.em (1048576 < xi) with hi1 | hi1
          · have hok : okN x = false := okN_no_int (by have := HXI.out; omega)
            rw [size_not (by rw [HRT.out, hok])]
            have hd0 : decide (0 ≤ xi) = true := decide_eq_true (by omega)
            have hd1 : decide (xi ≤ 1048576) = false := decide_eq_false (by omega)
            clear hok hmb
            dsimp only
            go_wp2_with (with_reducible refine (HMC.out _).mono ?_; rintro E w' ⟨rfl, rfl⟩)
            go_ret
            exact ⟨rfl, HB7.out⟩
          have hok : okN x = true := okN_yes hmb.symm (by have := HXI.out; omega)
          have hrM : right M = true := by rw [HRT.out, hok]
          have hlenx := may_len hmb.symm
          rw [← HSXS.out] at hlenx
          rw [size_yes hrM, HSZM.out]
          dsimp only
          have hd0 : decide (0 ≤ xi) = true := decide_eq_true (by omega)
          have hd1 : decide (xi ≤ 1048576) = true := decide_eq_true (by omega)
          have hye : Z + 5 + x.t.length ≤ 248 → (enc M).2 = 0 := fun hle => by rw [enc_yes hrM (by rw [HSZM.out]; exact hle)]
          have hnoe : 248 < Z + 5 + x.t.length → (enc M).2 = 9 := fun hle => by rw [enc_far hrM (by rw [HSZM.out]; exact hle)]
          rw [← HSXS.out] at hye hnoe ⊢
          obtain ⟨Z', hZ'⟩ : ∃ Z', Z' = Z + 5 + SX.size := ⟨_, rfl⟩
          rw [← hZ'] at hye hnoe ⊢
          have hw5 : wrap64 ((Z : Int) + 5) = (Z : Int) + 5 := by unfold wrap64; omega
          have hwS : wrap64 ((Z : Int) + 5 + (SX.size : Int)) = (Z : Int) + 5 + (SX.size : Int) := by unfold wrap64; omega
          have hzI : ((Z' : Int) == (Z : Int) + 5 + (SX.size : Int)) = true := beq_iff_eq.2 (by omega)
          have HYE := Lib.hid hye; clear hye
          have HNOE := Lib.hid hnoe; clear hnoe
          clear hok hrM hmb hZ' hfar
          go_wp2_with (first | (with_reducible refine (HMC.out _).mono ?_; rintro E w' ⟨rfl, rfl⟩) | fail)
          with_reducible refine (HENCM.out W7 HBB7.out).mono ?_
          rintro E W8 ⟨A8, c8, rfl, ho8, hb8⟩
          have HB8 : Hid (Below w.heap.size w W8) := Lib.hid (HB7.out.trans (hb8.mono HB7.out.size))
          have hG8 : W8.heap[gx]? = W0.heap[gx]? := (hb8.block gx (by have := HSV.out; have := HBB7.out.size; omega)).trans ((HBB7.out.block gx (by have := HSV.out; omega)).trans HGV.out)
          clear q0 q1
          obtain ⟨-, q0, q1⟩ := HVAR.out W8 hG8
          clear ho8 hb8 hG8
          generalize (enc M).1.length = n8
          rcases Nat.lt_or_ge 248 Z' with hZ2 | hZ2
          · rw [HNOE.out hZ2]
            have hZd : decide ((Z' : Int) ≤ 248) = false := decide_eq_false (by omega)
            clear HNOE HYE hlenx
            go_wp2
            go_ret
            exact ⟨rfl, HB8.out⟩
          · rw [HYE.out hZ2]
            have hZd : decide ((Z' : Int) ≤ 248) = true := decide_eq_true (by omega)
            clear HNOE HYE hlenx
            go_wp2
            go_ret
            exact ⟨rfl, HB8.out⟩
        | false =>
          rw [if_neg (by decide)] at hends
          have hldx := (HVAR.out wr HGR.out).1
          obtain ⟨A5, c5, W5, hrun, hO, hB5⟩ := run_appS wr (gx + 1) _ M HO.out SX xi (by have := HMLE.out; omega) hsr
          have hxe : (⟨SX.data.toList, xi⟩ : Nm) = x := by rw [HSX.out, HXI.out]
          rw [hxe] at hO
          rw [← HMM.out] at hrun hO
          have hG : W5.heap[gx]? = W0.heap[gx]? := (hB5.block gx (by omega)).trans HGR.out
          have hS : gx + 1 ≤ W5.heap.size := Nat.le_trans hsr hB5.size
          have hB : Below w.heap.size w W5 := HBR.out.trans (hB5.mono (by have := HGX.out; omega))
          obtain ⟨M2, hM2⟩ : ∃ M2, M2 = M ++ [x] := ⟨_, rfl⟩
          rw [← hM2] at hO hends
          obtain ⟨m2, hm2⟩ : ∃ m2, m2 = mm + 1 := ⟨_, rfl⟩
          have hm2b : m2 ≤ 5864062014636 := by omega
          rw [← hm2] at hO hrun
          clear hM2 hm2 hxe hB5 HML HMM HMLE
          have HO5 := Lib.hid hO; clear hO
          have HG5 := Lib.hid hG; clear hG
          have HS5 := Lib.hid hS; clear hS
          have HB5 := Lib.hid hB; clear hB
          have HE5 := Lib.hid hends; clear hends
          go_wp2_with (at_builtin; refine wpList_apprun rfl _ _ _ _ (by rfl) _ _ (by rfl) (by rfl) _ _ hrun ?_)
          clear hrun hldx
          have hO := HO5.out
          have hG := HG5.out
          have hS := HS5.out
          have hB := HB5.out
          have hends := HE5.out
          clear HO5 HG5 HS5 HB5 HE5
          obtain ⟨p, q, hpq, hMpq, hp, hqq⟩ := hends
          have hrt : right M2 = okN x := by
            rw [hMpq]
            cases hxk : okN x with
            | true => exact right_more p q x (by rw [← hpq]; exact HQ.out) hxk hp hqq
            | false => exact right_more_not p q x hxk
          have hszM : sizeL M2 = Z + 5 + x.t.length := by rw [hMpq, size_more, ← hpq, HZ.out]
          have hrepM : ∀ y ∈ M2, y.rep := fun y hy => by
            rw [hMpq] at hy
            rcases List.mem_append.1 hy with hy | hy
            · exact HREP.out y (by rw [hpq]; exact List.mem_append.2 (.inl hy))
            · rcases List.mem_append.1 hy with hy | hy
              · rw [List.mem_singleton.1 hy]; exact HRX.out
              · exact HREP.out y (by rw [hpq]; exact List.mem_append.2 (.inr hy))
          have hrd := hO.reads
          have hsize := size_any A5 m2 c5 W5.heap.size M2 W5 hrd (Nat.le_refl _) hrepM (by omega)
          have hencM := fun V (hV : Below W5.heap.size W5 V) => encode_any A5 m2 c5 W5.heap.size M2 V (hrd.below hV) hV.size hrepM (by omega)
          have HENCM := Lib.hid hencM; clear hencM
          have HSIZE := Lib.hid hsize; clear hsize
          have HRT := Lib.hid hrt; clear hrt
          have HSZM := Lib.hid hszM; clear hszM
          have HGV := Lib.hid hG; clear hG
          have HSV := Lib.hid hS; clear hS
          have HBV := Lib.hid hB; clear hB
          clear hpq hMpq hp hqq hrepM hrd hO
          go_wp2_with fail
          with_reducible refine HSIZE.out.mono ?_
          rintro E W7 ⟨rfl, hb7⟩
          have hG7 : W7.heap[gx]? = W0.heap[gx]? := (hb7.block gx (by have := HSV.out; omega)).trans HGV.out
          have HB7 : Hid (Below w.heap.size w W7) := Lib.hid (HBV.out.trans (hb7.mono (by have := HSV.out; have := HGX.out; omega)))
          have HBB7 := Lib.hid hb7; clear hb7 HSIZE
          obtain ⟨-, q0, q1⟩ := HVAR.out W7 hG7
          clear hG7
          obtain ⟨bx1, bx2⟩ := HIX.out
          obtain ⟨mb, hmb⟩ : ∃ mb, mb = may x.t := ⟨_, rfl⟩
          have hmc : ∀ V, Calls Try.prog 13 #[.string SX] V fun E w' => E = .returned (.bool mb) ∧ V = w' := fun V => (HMAY.out V).mono fun E w' h => ⟨by rw [hmb]; exact h.1, h.2.symm⟩
          have HMC := Lib.hid hmc; clear hmc
          cases mb with
          | false =>
            have hok : okN x = false := okN_no_may hmb.symm
            rw [size_not (by rw [HRT.out, hok])]
            clear hok hmb
            dsimp only
            go_wp2_with (with_reducible refine (HMC.out _).mono ?_; rintro E w' ⟨rfl, rfl⟩)
            go_ret
            exact ⟨rfl, HB7.out⟩
          | true =>
          rcases Decidable.em (xi < 0) with hi0 | hi0
          · have hok : okN x = false := okN_no_int (by have := HXI.out; omega)
            rw [size_not (by rw [HRT.out, hok])]
            have hd0 : decide (0 ≤ xi) = false := decide_eq_false (by omega)
            clear hok hmb
            dsimp only
            go_wp2_with (with_reducible refine (HMC.out _).mono ?_; rintro E w' ⟨rfl, rfl⟩)
            go_ret
            exact ⟨rfl, HB7.out⟩
          rcases Decidable.em (1048576 < xi) with hi1 | hi1
          · have hok : okN x = false := okN_no_int (by have := HXI.out; omega)
            rw [size_not (by rw [HRT.out, hok])]
            have hd0 : decide (0 ≤ xi) = true := decide_eq_true (by omega)
            have hd1 : decide (xi ≤ 1048576) = false := decide_eq_false (by omega)
            clear hok hmb
            dsimp only
            go_wp2_with (with_reducible refine (HMC.out _).mono ?_; rintro E w' ⟨rfl, rfl⟩)
            go_ret
            exact ⟨rfl, HB7.out⟩
          have hok : okN x = true := okN_yes hmb.symm (by have := HXI.out; omega)
          have hrM : right M2 = true := by rw [HRT.out, hok]
          have hlenx := may_len hmb.symm
          rw [← HSXS.out] at hlenx
          rw [size_yes hrM, HSZM.out]
          dsimp only
          have hd0 : decide (0 ≤ xi) = true := decide_eq_true (by omega)
          have hd1 : decide (xi ≤ 1048576) = true := decide_eq_true (by omega)
          have hye : Z + 5 + x.t.length ≤ 248 → (enc M2).2 = 0 := fun hle => by rw [enc_yes hrM (by rw [HSZM.out]; exact hle)]
          have hnoe : 248 < Z + 5 + x.t.length → (enc M2).2 = 9 := fun hle => by rw [enc_far hrM (by rw [HSZM.out]; exact hle)]
          rw [← HSXS.out] at hye hnoe ⊢
          obtain ⟨Z', hZ'⟩ : ∃ Z', Z' = Z + 5 + SX.size := ⟨_, rfl⟩
          rw [← hZ'] at hye hnoe ⊢
          have hw5 : wrap64 ((Z : Int) + 5) = (Z : Int) + 5 := by unfold wrap64; omega
          have hwS : wrap64 ((Z : Int) + 5 + (SX.size : Int)) = (Z : Int) + 5 + (SX.size : Int) := by unfold wrap64; omega
          have hzI : ((Z' : Int) == (Z : Int) + 5 + (SX.size : Int)) = true := beq_iff_eq.2 (by omega)
          have HYE := Lib.hid hye; clear hye
          have HNOE := Lib.hid hnoe; clear hnoe
          clear hok hrM hmb hZ' hfar
          go_wp2_with (first | (with_reducible refine (HMC.out _).mono ?_; rintro E w' ⟨rfl, rfl⟩) | fail)
          with_reducible refine (HENCM.out W7 HBB7.out).mono ?_
          rintro E W8 ⟨A8, c8, rfl, ho8, hb8⟩
          have HB8 : Hid (Below w.heap.size w W8) := Lib.hid (HB7.out.trans (hb8.mono HB7.out.size))
          have hG8 : W8.heap[gx]? = W0.heap[gx]? := (hb8.block gx (by have := HSV.out; have := HBB7.out.size; omega)).trans ((HBB7.out.block gx (by have := HSV.out; omega)).trans HGV.out)
          clear q0 q1
          obtain ⟨-, q0, q1⟩ := HVAR.out W8 hG8
          clear ho8 hb8 hG8
          generalize (enc M2).1.length = n8
          rcases Nat.lt_or_ge 248 Z' with hZ2 | hZ2
          · rw [HNOE.out hZ2]
            have hZd : decide ((Z' : Int) ≤ 248) = false := decide_eq_false (by omega)
            clear HNOE HYE hlenx
            go_wp2
            go_ret
            exact ⟨rfl, HB8.out⟩
          · rw [HYE.out hZ2]
            have hZd : decide ((Z' : Int) ≤ 248) = true := decide_eq_true (by omega)
            clear HNOE HYE hlenx
            go_wp2
            go_ret
            exact ⟨rfl, HB8.out⟩

theorem walks : Walks 7 Try.f7 All := by
  intro H enc W base args ds p hval hA hsz _
  rw [Try.params7] at hA hval hsz
  obtain ⟨v0, vs0, d0, ds0, p0, q0, hargs, rfl, rfl, h0, r0⟩ := trodAll_cons hA
  obtain ⟨v1, vs1, d1, ds1, p1, q1, rfl, rfl, rfl, h1, r1⟩ := trodAll_cons r0
  obtain ⟨rfl, rfl, rfl⟩ := trodAll_nil r1
  obtain rfl : args = #[v0, v1] := by cases args; simp_all
  obtain ⟨A0, n0, c0, l0, rfl, hl0, hr0, hn0, hc0⟩ := exts_open (hval 0 _ v0 rfl rfl) h0 _ (reach_exts hsz (j := 0) rfl rfl)
  obtain ⟨e1, rfl, he1⟩ := ext_by_value (hval 1 _ v1 rfl rfl) h1
  exact walk A0 n0 c0 l0 e1 W hl0 hr0 (by omega) he1

set_option maxRecDepth 100000 in
theorem proved : Rows.LeafMoreSaid :=
  OpenClaim.holds_of_wide 7 Try.f7 rfl rfl rfl rfl rfl rfl rfl ⟨rfl, rfl, rfl, rfl, rfl⟩ rfl rfl rfl rfl rfl (by kernel_rfl) Try.func7 (by kernel_rfl)
    (of_decide_eq_true (by kernel_rfl)) (by unfold Func.isWrapper; first | (rw [if_pos (by decide +kernel)]; kernel_rfl) | (rw [if_neg (by decide +kernel)]; exact ⟨rfl, rfl⟩))
    (fun os started H enc _ => lifted (s := Rows.leafMoreSpec) walks (by kernel_rfl) rfl rfl (fun H ds hl => by match ds, hl with | [d1, d2], _ => rfl) (by kernel_rfl) Try.func7 os started H enc
      (ChangeSpec.witness6 (enc := enc) (C := Try.checked) false ⟨#[], #[.slice none 0 0, .agg #[.string ⟨#[]⟩, .int .i64 0]], []⟩ 8 (by kernel_rfl) (by kernel_rfl) (by kernel_rfl) (by kernel_rfl)))
#print axioms proved
end Go.Proofs.Ytmnajefioehheaa.LeafMore
