/- Contract of Mark. -/
import Derived.Test.YtkhenchhafmlmaaExCut
namespace Go.Proofs.Ytkhenchhafmlmaa.Ex
set_option maxRecDepth 20000
open Go Go.RowKit Go.Shelf
open Go.Proofs.Ytkhenchhafmlmaa.Mem Go.Proofs.Ytkhenchhafmlmaa.Crc Go.Proofs.Ytkhenchhafmlmaa.Rec Go.Proofs.Ytkhenchhafmlmaa.Reg
attribute [local go_sem] Oper.semAt_some
attribute [local go_sem ↓] ldX_eq stX_eq

/-- Behind the parts pre of a Mark. -/
structure MarkI (w : World) (b9 n1 : Nat) (pre : List (X × Bool)) (V : World) : Prop where
  bel : Below w.heap.size w V
  lo : n1 ≤ V.heap.size + 2
  left : ∃ v, V.heap[b9]? = some (.cells #[v] 22 (0, 0)) ∧ OwnX V n1 v (pack (markR pre))
theorem MarkI.turns {w A B : World} {b9 n1 q : Nat} {pre : List (X × Bool)} (h : MarkI w b9 n1 pre A) (hT : Turns (fun k => k = q) A B) (h9 : b9 ≠ q) (hq : q < n1) (hwq : w.heap.size ≤ q) : MarkI w b9 n1 pre B := by
  obtain ⟨v, k1, k2⟩ := h.left
  exact ⟨h.bel.trans (hT.below (fun k e => by omega) h.bel.size), by have := h.lo; have := hT.size; omega,
    ⟨v, (hT.block _ (Array.getElem?_eq_some_iff.1 k1).1 h9).trans k1, k2.kept fun g hg => hT.block g (k2.lt g hg).2 (by have := (k2.lt g hg).1; omega)⟩⟩
theorem MarkI.z {w A : World} {b9 n1 : Nat} {pre : List (X × Bool)} (h : MarkI w b9 n1 pre A) : ZT b9 b9 A := by
  obtain ⟨v, k1, k2⟩ := h.left
  have l1 := (Array.getElem?_eq_some_iff.1 k1).1
  refine ⟨⟨l1, l1⟩, fun q hq => ?_⟩
  rcases hq with e | e | ⟨x, ty, e, e'⟩
  · omega
  · omega
  · rcases e with e | e
    all_goals
      rw [k1] at e
      injection e with e
      injection e with e
      injection e with e
      injection e with e
      subst e
      exact (k2.lt q e').2
/-- What a round has to show. -/
theorem mark_round {w V W W7 W3 : World} {M G n1 B : Nat} {pre pre' : List (X × Bool)} {v9 v9' : Value} {x : X} (hVK : KpT M M V W) (hlo : n1 ≤ W7.heap.size + 2) (hz7 : W7.heap.size = W.heap.size) (hM : w.heap.size ≤ M) (hn1 : w.heap.size ≤ n1)
    (k9 : W.heap[M]? = some (.cells #[v9] 22 (0, 0))) (hvx : VarX W G x) (hGV : V.heap.size ≤ G) (hMV : M < V.heap.size)
    (hT : Turns (fun q => q = M ∨ q = G ∨ v9.ownBlock = some q) W W3)
    (k9' : W3.heap[M]? = some (.cells #[v9'] 22 (0, 0))) (o9' : OwnX W3 n1 v9' (pack (markR pre')))
    (g9 : ∀ k, v9'.ownBlock = some k → v9.ownBlock = some k ∨ W.heap.size ≤ k) (o9w : OwnX W n1 v9 (pack (markR pre))) (hbw : Below w.heap.size w W) :
    KeepsFrom B W W3 ∧ KpT M M V W3 ∧ MarkI w M n1 pre' W3 := by
  obtain ⟨hs, hsame, htch⟩ := hVK ⟨hMV, hMV⟩
  have hno : ∀ k o, W.heap[k]? = some o → o.isCells = false → ¬ (k = M ∨ k = G ∨ v9.ownBlock = some k) := fun k o ho hoc e => by
    have : ∃ cs ty z, W.heap[k]? = some (.cells cs ty z) := by
      rcases e with e | e | e
      · rw [e]; exact ⟨_, _, _, k9⟩
      · rw [e]; exact ⟨_, _, _, hvx⟩
      · exact own_cellsX o9w e
    obtain ⟨cs, ty, z, hc⟩ := this
    rw [ho] at hc
    injection hc with hc
    rw [hc] at hoc
    cases hoc
  have htW : ∀ q, v9.ownBlock = some q → Tch M M W q := fun q hq => .inr (.inr ⟨_, _, .inl k9, hq⟩)
  refine ⟨⟨hT.size, fun k o _ ho hoc => (hT.block k (Array.getElem?_eq_some_iff.1 ho).1 (hno k o ho hoc)).trans ho⟩, fun _ => ⟨Nat.le_trans hs hT.size, fun i cs ty z hi hn => ?_, fun q hq => ?_⟩, ⟨hbw.trans (hT.below (fun k e => ?_) hbw.size), by have := hT.size; omega, ⟨_, k9', o9'⟩⟩⟩
  · have hiV := (Array.getElem?_eq_some_iff.1 hi).1
    rw [hT.block i (by omega) (fun e => ?_)]
    · exact hsame i cs ty z hi hn
    · rcases e with e | e | e
      · exact hn (.inl e)
      · omega
      · rcases htch i (htW i e) with h | h
        · exact hn h
        · omega
  · rcases hq with e | e | ⟨y, ty, e, e'⟩
    · exact .inl (.inl e)
    · exact .inl (.inl e)
    · have hy : y = v9' := by
        rcases e with e | e
        all_goals
          rw [k9'] at e
          injection e with e
          injection e with e
          injection e with e
          injection e with e
          exact e.symm
      subst hy
      rcases g9 q e' with h | h
      · exact htch q (htW q h)
      · exact .inr (by omega)
  · rcases e with e | e | e
    · omega
    · have := hvx.lt; have := hbw.size; omega
    · have := (o9w.lt k e).1; omega

set_option maxRecDepth 100000 in
set_option maxHeartbeats 4000000 in
theorem mark_any (A : Option Addr) (n c B : Nat) (l : List X) (f t : Int) (w : World) (h : HoldsX w B A n l) (hB : B ≤ w.heap.size) (hr : ∀ x ∈ l, x.rep) (hc : n ≤ c) :
    Calls Try.prog 22 #[.slice A n c, .int .i64 f, .int .i64 t] w (MarkOut w.heap.size (markL l f t).1 (markL l f t).2 w) := by
  have hright := fun W (hW : Below w.heap.size w W) => right_any A n c B l W (h.below (hW.mono hB)) (by have := hW.size; omega) hr hc
  have hbnd := fun W => bounds_any f t W
  unfold markL MarkOut fits
  cases hrl : right l with
  | false =>
    rw [hrl] at hright
    simp only [Bool.false_and, Bool.false_eq_true, if_false]
    have HR := Lib.hid hright; clear hright
    clear h hr hbnd hrl
    go_enter Try.func22, Try.ntmps22
    go_wp2_with fail
    with_reducible refine (HR.out w (Below.refl _ w)).mono ?_
    rintro E V ⟨rfl, hb⟩
    have HB := Lib.hid hb; clear hb
    go_wp2
    go_ret2
    exact ⟨none, 0, rfl, OwnX.nil _ _, HB.out⟩
  | true =>
    rw [hrl] at hright
    have HR := Lib.hid hright; clear hright
    cases hbd : bnds f t with
    | false =>
      rw [hbd] at hbnd
      simp only [Bool.and_false, Bool.false_eq_true, if_false]
      have HBD := Lib.hid hbnd; clear hbnd
      clear h hr hrl hbd
      go_enter Try.func22, Try.ntmps22
      go_wp2_with fail
      with_reducible refine (HR.out w (Below.refl _ w)).mono ?_
      rintro E V ⟨rfl, hb⟩
      have HB := Lib.hid hb; clear hb
      go_wp2_with fail
      with_reducible refine (HBD.out V).mono ?_
      rintro E V2 ⟨rfl, hv⟩
      have HB2 : Hid (Below w.heap.size w V2) := Lib.hid (hv ▸ HB.out)
      clear hv
      go_wp2
      go_ret2
      exact ⟨none, 0, rfl, OwnX.nil _ _, HB2.out⟩
    | true =>
      rw [hbd] at hbnd
      have HBD := Lib.hid hbnd; clear hbnd
      have hft : f ≤ t := (of_decide_eq_true hbd).2
      have hn60 : n ≤ 60 := by have := (right_lin hrl).2.2.2.2; have := h.1; omega
      have hlin := mark_lin (right_lin hrl).1 f t hft
      have hsml := cuts_small hrl f t hft
      have hln := h.1
      have hmay := ((right_iff l).1 hrl).2.1
      simp only [Bool.true_and, if_true]
      obtain ⟨res, hres, hcase⟩ : ∃ res : List X × Int, res = (if (pack (markR (cuts l f t))).length ≤ 60 then (pack (markR (cuts l f t)), 0) else ([], 9)) ∧ (((pack (markR (cuts l f t))).length ≤ 60 ∧ res = (pack (markR (cuts l f t)), 0)) ∨ (¬ (pack (markR (cuts l f t))).length ≤ 60 ∧ res = ([], 9))) := by
        by_cases h60 : (pack (markR (cuts l f t))).length ≤ 60
        · exact ⟨_, rfl, .inl ⟨h60, if_pos h60⟩⟩
        · exact ⟨_, rfl, .inr ⟨h60, if_neg h60⟩⟩
      rw [← hres]
      clear hres
      obtain ⟨RL, RE⟩ := res
      dsimp only
      have HCASE := Lib.hid hcase; clear hcase
      have H := Lib.hid h; clear h hr
      have HRL := Lib.hid hrl; clear hrl
      have HLIN := Lib.hid hlin; clear hlin
      have HSML := Lib.hid hsml; clear hsml
      have HMAY := Lib.hid hmay; clear hmay
      have HFT := Lib.hid hft; clear hft hbd
      have HLN := Lib.hid hln; clear hln
      refine (callsIn_wide (n := 3)).1 ?_
      refine callsIn_of_wp_marks Try.func22 rfl trivial ?_ rfl
      simp only [Try.ntmps22, List.size_toArray, List.length_cons, List.length_nil, Nat.reduceAdd, Nat.reduceSub, Array.replicate_succ, Array.replicate_zero, List.push_toArray, List.append_toArray, List.nil_append, List.cons_append]
      gi_wp2_with fail
      refine ⟨trivial, (callsIn_wide (n := 2)).2 ((HR.out w (Below.refl _ w)).mono ?_)⟩
      rintro E V ⟨rfl, hb⟩
      have HB := Lib.hid hb; clear hb
      gi_wp2_with fail
      refine ⟨trivial, (callsIn_wide (n := 2)).2 ((HBD.out V).mono ?_)⟩
      rintro E V2 ⟨rfl, hv⟩
      have HB2 : Hid (Below w.heap.size w V2) := Lib.hid (hv ▸ HB.out)
      clear hv HB V
      gi_wp2_with fail
      obtain ⟨W1, hW1⟩ : ∃ W1, W1 = V2.alloc (.cells #[.slice none 0 0] 22) := ⟨_, rfl⟩
      have hb1 : Below V2.heap.size V2 W1 := by rw [hW1]; exact (Below.refl _ V2).alloc (Nat.le_refl _) _
      have hk9 : W1.heap[V2.heap.size]? = some (.cells #[.slice none 0 0] 22 (0, 0)) := hW1 ▸ heap_alloc_new V2 _
      have hz1 : W1.heap.size = V2.heap.size + 1 := by rw [hW1]; simp
      rw [← hW1]
      clear hW1
      refine ⟨trivial, (callsIn_wide (n := 2)).2 ((parts_mk A n c f t W1).mono ?_)⟩
      rintro E W2 ⟨rfl, hb2, hq1, hq2, hq3, hz2⟩
      rw [hz1] at hq1 hq2 hq3 hz2 ⊢
      have hk9' := (hb2.block _ (by omega)).trans hk9
      have hbw : Below w.heap.size w W2 := HB2.out.trans ((hb1.trans (hb2.mono hb1.size)).mono HB2.out.size)
      have hwM := HB2.out.size
      clear hk9 hb1 hb2 hz1
      generalize V2.heap.size = M at hk9' hq1 hq2 hq3 hz2 hwM ⊢
      have hh := H.out.below (hbw.mono hB)
      have hhands := parts_hands (3 - 1) (by omega) (M + 1) B n c M M A l f t W2 hq1 hq2 hq3 hh HMAY.out hn60 (by omega) (by omega) (by omega) (by omega) (fun q hq => by
        rcases hq with e | e | ⟨x, ty, e, e'⟩
        · exact .inl e
        · exact .inr e
        · rcases e with e | e
          all_goals
            rw [hk9'] at e
            injection e with e
            injection e with e
            injection e with e
            injection e with e
            subst e
            cases e')
      have hI0 : MarkI w M (W2.heap.size + 2) [] W2 := ⟨hbw, by omega, ⟨_, hk9', OwnX.nil _ _⟩⟩
      have HHA := Lib.hid hhands; clear hhands
      have HI0 := Lib.hid hI0; clear hI0
      have HBW := Lib.hid hbw; clear hbw hh hk9' hq1 hq2 hq3
      gi_wp2
      refine wp_hands (F := Fence.wide) (n := 3) rfl (by omega) (gf := 64) (la := #[]) (lb := #[.pointer (some ⟨M + 1, 0, none⟩), .pointer (some ⟨M + 1 + 1, 0, none⟩), .pointer (some ⟨M + 1 + 2, 0, none⟩)]) rfl trivial (enters_of Try.func64 (by kernel_rfl) rfl) HHA.out
        (fun h k => h.trans k) (fun V o => KpT.of_below ((Below.refl _ V).alloc (Nat.le_refl _) _)) (fun V o o' ho hoc => KpT.put ho hoc (by omega) (by omega)) (Below.refl _ _) (fun _ => rfl)
        (MarkI w M (W2.heap.size + 2)) (fun xs A B h hT => h.turns hT (by omega) (by omega) (by omega)) (fun s A h => h.z) HI0.out
        (fun x b => { tmps := #[.slice A n c, .int .i64 f, .int .i64 t, undef, undef, undef, .slice none 0 0, .int .i64 0, .pointer (some ⟨M, 0, none⟩), .pointer (some ⟨b, 0, none⟩), .bool x.2, .slice A n c, .bool true, .bool false, .bool false, .int .i64 f, .int .i64 t, .bool true, .bool false, .bool false, .slice A n c, .int .i64 f, .int .i64 t, .func (.func 64) #[] #[.pointer (some ⟨M + 1, 0, none⟩), .pointer (some ⟨M + 1 + 1, 0, none⟩), .pointer (some ⟨M + 1 + 2, 0, none⟩)], .agg x.1.c, .bool x.2, undef, undef, undef, undef, undef, undef, undef, undef, undef, undef, undef, undef, undef, undef], defers := [] })
        (fun x => .cells x.1.c 24) ?assign ?body ?done
      case assign =>
        intro l1 x V K hK
        dsimp only [partV]
        have hst := run_stX_new V x.1
        generalize x.1.c = C at hst hK ⊢
        have HK := Lib.hid hK; clear hK
        gi_wp2
        exact HK.out
      case body =>
        rintro l1 pre x V0 V W hI0' hbV ⟨rest, hrest⟩ hz hT hI hVK
        have HVK := Lib.hid hVK; clear hVK
        have hpl : pre.length ≤ 180 := by
          have h1 := cuts_len l f t
          rw [hrest, List.length_append] at h1
          have := HLN.out; omega
        have hxin : x ∈ cuts l f t := by rw [hrest]; simp
        have hxs := HSML.out x hxin
        have hpsm : ∀ y ∈ pack (markR pre), y.sm := fun y hy => by
          have hsub : (markR pre).Sublist (markR (cuts l f t)) := by
            rw [hrest, markR_append]; exact List.sublist_append_left _ _
          refine sm_small (lin_small (lin_sub hsub HLIN.out) (fun z hz => ?_) y hy)
          unfold markR at hz
          obtain ⟨p, hp, rfl⟩ := List.mem_map.1 hz
          have := HSML.out p (by rw [hrest]; exact List.mem_append.2 (.inl hp))
          dsimp only
          omega
        have hpk : (pack (markR pre)).length ≤ 180 := by
          have h1 := pack_len (markR pre)
          have h2 : (markR pre).length = pre.length := by unfold markR; rw [List.length_map]
          omega
        have hvx : VarX W V.heap.size x.1 := (hT.block _ (by simp) (by have := hbV.size; omega)).trans (VarX.new V x.1)
        obtain ⟨v9, k9, o9⟩ := hI.left
        have hbW := hI.bel
        have hlo := hI.lo
        have hVW : V0.heap.size ≤ V.heap.size ∧ V.heap.size < W.heap.size := by have := hbV.size; have := hT.size; simp at this; omega
        have hwn := hbW.size
        have hw2 := HBW.out.size
        have b9 : ∀ k, v9.ownBlock = some k → W2.heap.size + 2 ≤ k ∧ k < V.heap.size := fun k hk => by
          obtain ⟨u9, m9, p9⟩ := hI0'.left
          have e1 : W.heap[M]? = V0.heap[M]? := ((hT.block _ (by have := hbV.size; simp; omega) (by show ¬ M = W2.heap.size + 1; omega)).trans (Below.heap_alloc V _ M (by have := hbV.size; omega))).trans (hbV.block _ (by omega))
          rw [k9, m9] at e1
          injection e1 with e1
          injection e1 with e1
          injection e1 with e1
          injection e1 with e1
          subst e1
          have := p9.lt k hk
          omega
        clear hI hI0' hT hbV hrest hxin
        obtain ⟨x, nm⟩ := x
        dsimp only at hxs hvx ⊢
        obtain ⟨A9, c9, rfl⟩ := o9.shape
        obtain ⟨y, hy⟩ : ∃ y : X, y = ⟨x.a, x.s, x.n, x.u && !nm⟩ := ⟨_, rfl⟩
        obtain ⟨G, hG⟩ : ∃ G, G = V.heap.size := ⟨_, rfl⟩
        rw [← hG] at hvx b9 hVW ⊢
        obtain ⟨W7, hW7⟩ : ∃ W7, W7 = W.setCell ⟨G, 3, none⟩ (.bool (x.u && !nm)) := ⟨_, rfl⟩
        have hv7 : VarX W7 G y := by
          rw [hW7, hy]
          exact heap_setCell_same W G 3 _ _ _ hvx
        have hk7 : W7.heap[M]? = some (.cells #[.slice A9 (pack (markR pre)).length c9] 22 (0, 0)) := by
          rw [hW7, Below.heap_setCell _ _ _ _ (by show M ≠ G; omega)]; exact k9
        have hz7 : W7.heap.size = W.heap.size := by rw [hW7]; simp [World.setCell]
        have o7 : OwnX W7 (W2.heap.size + 2) (.slice A9 (pack (markR pre)).length c9) (pack (markR pre)) := o9.kept fun g hg => by
          rw [hW7, Below.heap_setCell _ _ _ _ (by show g ≠ G; have := (b9 g hg).2; omega)]
        have hbW7 : Below w.heap.size w W7 := hW7 ▸ hbW.setCell (by show w.heap.size ≤ G; omega) _
        have hT7 : Turns (fun q => q = G) W W7 := hW7 ▸ (Turns.refl (fun q => q = G) W).setCell (p := ⟨G, 3, none⟩) (fun _ => rfl) _
        have hysm : y.sm := sm_small (by rw [hy]; exact hxs)
        have hj := joined_any W7 (W2.heap.size + 2) _ c9 A9 (pack (markR pre)) y o7 (by omega) (by omega) hpsm hysm
        have y0 : W.cell? ⟨G, 3, none⟩ = some (.bool x.u) := hvx.cells.2.2.2
        have y0' := frozen_of_row W G 3 _ _ hvx
        have y1 := cell_of_row W7 _ 0 _ _ _ hk7
        have y2 := hv7.load
        obtain ⟨N9, hN9⟩ : ∃ N9, N9 = (pack (markR pre)).length := ⟨_, rfl⟩
        rw [← hN9] at y1 hj
        have HN9 := Lib.hid hN9; clear hN9
        have hJ := Lib.hid hj; clear hj
        have HY := Lib.hid hy; clear hy
        have K9 := Lib.hid k9; clear k9
        have K7 := Lib.hid hk7; clear hk7
        have O7 := Lib.hid o7; clear o7
        have O9W := Lib.hid o9; clear o9
        have HBW0 := Lib.hid hbW
        have B9 := Lib.hid b9; clear b9
        have HBW7 := Lib.hid hbW7; clear hbW7 hbW
        have HT7 := Lib.hid hT7; clear hT7
        have HZ7 := Lib.hid hz7; clear hz7
        have HG := Lib.hid hG; clear hG
        have HVX := Lib.hid hvx; clear hvx hv7
        clear hpsm hxs HHA hysm
        generalize x.c = XC
        generalize hyc : y.c = C at y2 hJ
        clear hyc
        have hVG : W7 = W.setCell ⟨G, 3, none⟩ (.bool (x.u && !nm)) := hW7
        clear hW7
        generalize hxu : x.u = xu at y0 hVG
        have HXU := Lib.hid hxu; clear hxu
        have hstep : ∀ b : Bool, b = (xu && !nm) → W.setCell ⟨G, 3, none⟩ (.bool b) = W7 := fun b hb => by rw [hb, hVG]
        have HSTEP := Lib.hid hstep; clear hstep hVG
        cases xu <;> cases nm
        all_goals
          have hstp := HSTEP.out _ rfl
          simp only [Bool.not_true, Bool.not_false, Bool.and_true, Bool.and_false] at hstp
          have HSTP := Lib.hid hstp; clear hstp
          rw [← HSTP.out] at y1 y2
          gi_wp2_with fail
          rw [HSTP.out]
          refine ⟨trivial, CallsIn.inRound l1 ((callsIn_wide (n := 0)).2 (hJ.out.mono ?_))⟩
          rintro E W4 ⟨A4, c4, rfl, ho', hgr⟩
          rw [HN9.out] at hgr
          have k9' : W4.heap[M]? = some (.cells #[.slice A9 (pack (markR pre)).length c9] 22 (0, 0)) := (hgr.1.block _ (Array.getElem?_eq_some_iff.1 K7.out).1 (fun e => by have := (B9.out _ e.symm).1; omega)).trans K7.out
          have y4 : W4.cell? ⟨M, 0, none⟩ = some (.slice A9 (pack (markR pre)).length c9) := cell_of_row W4 _ 0 _ _ _ k9'
          have y5 := frozen_of_row W4 M 0 _ _ k9'
          obtain ⟨v', hv'⟩ : ∃ v', v' = Value.slice A4 (join (pack (markR pre)) y).length c4 := ⟨_, rfl⟩
          rw [← hv'] at ho' hgr ⊢
          obtain ⟨W3, hW3⟩ : ∃ W3, W3 = W4.setCell ⟨M, 0, none⟩ v' := ⟨_, rfl⟩
          obtain ⟨v9, hv9⟩ : ∃ v9, v9 = Value.slice A9 (pack (markR pre)).length c9 := ⟨_, rfl⟩
          have B9' := B9.out
          have K9' := K9.out
          have O9' := O7.out
          have O9W' := O9W.out
          rw [← hv9] at hgr k9' y4 B9' K9' O9' O9W'
          have hT4 : Turns (fun q => q = M ∨ q = G ∨ v9.ownBlock = some q) W W3 := by
            rw [hW3]
            exact ((HT7.out.mono (F := fun q => q = M ∨ q = G ∨ v9.ownBlock = some q) (fun i _ e => .inr (.inl e))).grown hgr.1 (fun k hk _ => .inr (.inr hk))).setCell (p := ⟨M, 0, none⟩) (fun _ => .inl rfl) _
          have hfin := mark_round (B := W2.heap.size) (pre' := pre ++ [(x, _)]) HVK.out (by rw [HZ7.out]; exact hlo) HZ7.out (by omega) (by omega) K9' HVX.out (by rw [← HG.out]; exact Nat.le_refl _) (by rw [← HG.out]; omega) hT4 (v9' := v') (by rw [hW3]; exact heap_setCell_same W4 M 0 _ _ _ k9') (by
              rw [markR_append, show ∀ nm, markR [(x, nm)] = [⟨x.a, x.s, x.n, x.u && !nm⟩] from fun _ => rfl, pack_snoc, hW3, ← HY.out]
              exact ho'.kept fun g hg => Below.heap_setCell _ _ _ _ (by show g ≠ M; have := (ho'.lt g hg).1; omega)) (fun k hk => (hgr.2 k hk).imp id (fun h => by rw [HZ7.out] at h; exact h)) O9W' HBW0.out
          have HFIN := Lib.hid hfin; clear hfin
          have HW3 := Lib.hid hW3; clear hW3
          clear hT4 ho' hgr k9' B9' K9' O9' O9W' y1 y2
          obtain ⟨N4, hN4⟩ : ∃ N4, N4 = (join (pack (markR pre)) y).length := ⟨_, rfl⟩
          rw [← hN4] at hv'
          clear hN4
          subst hv'
          rw [← HN9.out] at hv9
          subst hv9
          gi_wp2
          have := HFIN.out
          rw [HW3.out] at this
          exact this
      case done =>
        rintro xs W rfl hI hdD
        obtain ⟨v9, k9, o9⟩ := hI.left
        have hbe := hI.bel
        obtain ⟨A9, c9, rfl⟩ := o9.shape
        have y1 := cell_of_row W _ 0 _ _ _ k9
        have hw2 := HBW.out.size
        have HZ2 := Lib.hid hz2; clear hz2
        have HI := Lib.hid hI; clear hI
        have O9 := Lib.hid o9; clear o9
        have HBE := Lib.hid hbe; clear hbe k9 HHA
        obtain ⟨N9, hN9⟩ : ∃ N9, N9 = (pack (markR (cuts l f t))).length := ⟨_, rfl⟩
        rw [← hN9] at y1
        have hT : Turns (fun q => q = W2.heap.size) W (W.putObj W2.heap.size (.deferred none)) := turns_put _ _ _
        have HT := Lib.hid hT; clear hT
        have HN9 := Lib.hid hN9; clear hN9
        have HD := Lib.hid hdD; clear hdD
        rcases HCASE.out with ⟨h60, hre⟩ | ⟨h60, hre⟩
        · simp only [Prod.mk.injEq] at hre
          obtain ⟨hL, hE⟩ := hre
          have h60' : ¬ (60 < (N9 : Int)) := by rw [HN9.out]; omega
          have HL := Lib.hid hL; clear hL
          have HE := Lib.hid hE; clear hE
          clear h60
          gi_wp2
          refine ⟨by simp, .inl ⟨_, _, rfl, run_takeDeferred HD.out, ?_⟩⟩
          refine ⟨_, results_tmp2 rfl _ _ _, ?_⟩
          have hTd := HT.out
          generalize W.putObj W2.heap.size (.deferred none) = W9 at hTd ⊢
          rw [HL.out, HE.out]
          exact ⟨A9, c9, by rw [← HN9.out]; rfl, (O9.out.kept fun g hg => hTd.block g (O9.out.lt g hg).2 (by have := (O9.out.lt g hg).1; omega)).mono (by omega), HBE.out.trans (hTd.below (fun k e => by omega) HBE.out.size)⟩
        · simp only [Prod.mk.injEq] at hre
          obtain ⟨hL, hE⟩ := hre
          have h60' : 60 < (N9 : Int) := by rw [HN9.out]; omega
          have HL := Lib.hid hL; clear hL
          have HE := Lib.hid hE; clear hE
          clear h60
          gi_wp2
          refine ⟨by simp, .inl ⟨_, _, rfl, run_takeDeferred HD.out, ?_⟩⟩
          refine ⟨_, results_tmp2 rfl _ _ _, ?_⟩
          have hTd := HT.out
          generalize W.putObj W2.heap.size (.deferred none) = W9 at hTd ⊢
          rw [HL.out, HE.out]
          exact ⟨none, 0, rfl, OwnX.nil _ _, HBE.out.trans (hTd.below (fun k e => by omega) HBE.out.size)⟩
end Go.Proofs.Ytkhenchhafmlmaa.Ex
