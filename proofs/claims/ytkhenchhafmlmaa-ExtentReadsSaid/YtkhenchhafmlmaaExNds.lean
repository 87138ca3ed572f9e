/- The nodes of a list: the program's call. -/
import Derived.Test.YtkhenchhafmlmaaExHold
import Derived.Test.YtkhenchhafmlmaaExChunk
import Derived.Test.YtkhenchhafmlmaaExCut
import Derived.Test.YtkhenchhafmlmaaExNodes
import Derived.Test.YtkhenchhafmlmaaRegF
namespace Go.Proofs.Ytkhenchhafmlmaa.Ex
set_option maxRecDepth 20000
open Go Go.RowKit Go.Shelf
open Go.Proofs.Ytkhenchhafmlmaa.Mem Go.Proofs.Ytkhenchhafmlmaa.Crc Go.Proofs.Ytkhenchhafmlmaa.Rec Go.Proofs.Ytkhenchhafmlmaa.Reg
attribute [local go_sem] Oper.semAt_some
attribute [local go_sem ↓] ldX_eq stX_eq

theorem padB_take (b : List UInt8) (m n : Nat) (h1 : b.length ≤ m) (h2 : m ≤ n) : (padB b n).take m = padB b m := by
  unfold padB
  rw [List.take_append, List.take_of_length_le h1, List.take_replicate]
  congr 2
  omega
/-- The sum laid behind. -/
theorem node_laid (l : List X) (h : l.length ≤ 20) : over (holdB l 256) 252 (bytesL (sum (holdB l 252)) 4) = nodeB l := by
  have h1 : (holdB l 256).length = 256 := holdB_len _ _ (by omega)
  have h2 : (headB l.length 0 ++ encs l).length ≤ 252 := by simp [headB, encs_len]; omega
  unfold over nodeB
  rw [List.drop_of_length_le (by rw [bytesL_len]; omega), List.append_nil]
  congr 1
  exact padB_take _ 252 256 h2 (by omega)
theorem hold_take (l : List X) (h : l.length ≤ 20) : (holdB l 256).take 252 = holdB l 252 := padB_take _ 252 256 (by simp [headB, encs_len]; omega) (by omega)

def nodesA (l : List X) (pre : List Nat) : List (List UInt8) := pre.map fun i => nodeB (partX l i)
structure NodeI (l : List X) (w : World) (M n1 : Nat) (pre : List Nat) (V : World) : Prop where
  bel : Below w.heap.size w V
  lo : n1 ≤ V.heap.size + 2
  left : ∃ v, V.heap[M]? = some (.cells #[v] 47 (0, 0)) ∧ OwnN V n1 v (nodesA l pre)
theorem NodeI.turns {l : List X} {w A B : World} {M n1 q : Nat} {pre : List Nat} (h : NodeI l w M n1 pre A) (hT : Turns (fun k => k = q) A B) (h9 : M ≠ q) (hq : q < n1) (hwq : w.heap.size ≤ q) : NodeI l w M n1 pre B := by
  obtain ⟨v, k1, k2⟩ := h.left
  exact ⟨h.bel.trans (hT.below (fun k e => by omega) h.bel.size), by have := h.lo; have := hT.size; omega,
    ⟨v, (hT.block _ (Array.getElem?_eq_some_iff.1 k1).1 h9).trans k1, k2.kept fun g hg hg2 => hT.block g hg2 (by omega)⟩⟩
theorem NodeI.z {l : List X} {w A : World} {M n1 : Nat} {pre : List Nat} (h : NodeI l w M n1 pre A) : ZT M M A := by
  obtain ⟨v, k1, k2⟩ := h.left
  have l1 := (Array.getElem?_eq_some_iff.1 k1).1
  refine ⟨⟨l1, l1⟩, fun q hq => ?_⟩
  rcases hq with e | e | ⟨x, ty, e, e'⟩
  · omega
  · omega
  · rcases e with e | e
    all_goals
      rw [k1] at e
      injection e with e
      injection e with e
      injection e with e
      injection e with e
      subst e
      exact (k2.lt q e').2
theorem node_round {l : List X} {w W W3 : World} {M n1 B : Nat} {pre pre' : List Nat} {v v' : Value} (hI : Below w.heap.size w W) (hlo : n1 ≤ W.heap.size + 2) (hM : w.heap.size ≤ M) (hn1 : w.heap.size ≤ n1)
    (k9 : W.heap[M]? = some (.cells #[v] 47 (0, 0))) (o9 : OwnN W n1 v (nodesA l pre))
    (hT : Turns (fun q => q = M ∨ v.ownBlock = some q) W W3)
    (k9' : W3.heap[M]? = some (.cells #[v'] 47 (0, 0))) (o9' : OwnN W3 n1 v' (nodesA l pre'))
    (g9 : ∀ k, v'.ownBlock = some k → v.ownBlock = some k ∨ W.heap.size ≤ k) :
    KeepsFrom B W W3 ∧ KpT M M W W3 ∧ NodeI l w M n1 pre' W3 := by
  have hno : ∀ k o, W.heap[k]? = some o → o.isCells = false → ¬ (k = M ∨ v.ownBlock = some k) := fun k o ho hoc e => by
    have : ∃ cs ty z, W.heap[k]? = some (.cells cs ty z) := by
      rcases e with e | e
      · rw [e]; exact ⟨_, _, _, k9⟩
      · obtain ⟨cs, z, h⟩ := ownN_cells o9 e
        exact ⟨cs, _, z, h⟩
    obtain ⟨cs, ty, z, hc⟩ := this
    rw [ho] at hc
    injection hc with hc
    rw [hc] at hoc
    cases hoc
  refine ⟨⟨hT.size, fun k o _ ho hoc => (hT.block k (Array.getElem?_eq_some_iff.1 ho).1 (hno k o ho hoc)).trans ho⟩, fun _ => ⟨hT.size, fun i cs ty z hi hn => hT.block i (Array.getElem?_eq_some_iff.1 hi).1 (fun e => hn ?_), fun q hq => ?_⟩, ⟨hI.trans (hT.below (fun k e => ?_) hI.size), by have := hT.size; omega, ⟨_, k9', o9'⟩⟩⟩
  · rcases e with e | e
    · exact .inl e
    · exact .inr (.inr ⟨_, _, .inl k9, e⟩)
  · rcases hq with e | e | ⟨x, ty, e, e'⟩
    · exact .inl (.inl e)
    · exact .inl (.inr (.inl e))
    · have e2 : W3.heap[M]? = some (.cells #[x] ty (0, 0)) := by rcases e with e | e <;> exact e
      rw [k9'] at e2
      injection e2 with e2
      injection e2 with e2
      injection e2 with e2
      injection e2 with e2
      subst e2
      rcases g9 q e' with h | h
      · exact .inl (.inr (.inr ⟨_, _, .inl k9, h⟩))
      · exact .inr h
  · rcases e with e | e
    · omega
    · have := (o9.lt k e).1; omega

theorem step_copy {w : World} {ops : Array Oper} {o : Oper} {a : Act} {K : Act → World → Prop} {Q : Exit → Act → World → Prop} {E : Prop} (hw : Region.wanted o (yielded ops a.tmps) = true) (s x : Operand) (ts : Array TypeId)
    (ho : o.op = .call { callee := .builtin .copy, args := #[s, x], argTypes := ts }) (v u v' : Value) (w' : World) (hs : a.eval s = v) (hx : a.eval x = u) (hrun : (Builtin.copy_ ts o.type #[v, u]).run Try.prog w = .ok v' w')
    (h : K (a.put o.dst v') w') : if Region.wanted o (yielded ops a.tmps) = true then Oper.wp Try.prog o a w K Q else E := by
  rw [if_pos hw]
  unfold Oper.wp execOp
  simp only [ho, resolve, invoke, builtin, Sem.run_bind, Sem.run_pure, Result.andThen_ok, List.map_toArray, List.map_cons, List.map_nil, hs, hx, hrun]
  exact h

set_option maxRecDepth 100000 in
set_option maxHeartbeats 8000000 in
theorem nodesOf_any (A : Option Addr) (n c B : Nat) (l : List X) (w : World) (h : HoldsX w B A n l) (hB : B ≤ w.heap.size) (hmay : ∀ x ∈ l, x.may = true) (hn : n ≤ 60) (h0 : 0 < n) (hc : n ≤ c) :
    Calls Try.prog 48 #[.slice A n c] w fun E w' => ∃ A' c', E = .returned (.slice A' (nodesB l).length c') ∧ OwnN w' w.heap.size (.slice A' (nodesB l).length c') (nodesB l) ∧ Below w.heap.size w w' := by
  have hln := h.1
  obtain ⟨b, off, rfl, hbB⟩ := h.addr h0
  have H := Lib.hid h; clear h
  have HMAY := Lib.hid hmay; clear hmay
  have HLN := Lib.hid hln; clear hln
  refine (callsIn_wide (n := 3)).1 ?_
  refine callsIn_of_wp_marks Try.func48 rfl trivial ?_ rfl
  simp only [Try.ntmps48, List.size_toArray, List.length_cons, List.length_nil, Nat.reduceAdd, Nat.reduceSub, Array.replicate_succ, Array.replicate_zero, List.push_toArray, List.append_toArray, List.nil_append, List.cons_append]
  gi_wp2_with fail
  obtain ⟨W1, hW1⟩ : ∃ W1, W1 = w.alloc (.cells #[.slice none 0 0] 47) := ⟨_, rfl⟩
  have hb1 : Below w.heap.size w W1 := by rw [hW1]; exact (Below.refl _ w).alloc (Nat.le_refl _) _
  have hk9 : W1.heap[w.heap.size]? = some (.cells #[.slice none 0 0] 47 (0, 0)) := by rw [hW1]; exact heap_alloc_new w _
  have hz1 : W1.heap.size = w.heap.size + 1 := by rw [hW1]; simp
  rw [← hW1]
  clear hW1
  refine ⟨trivial, (callsIn_wide (n := 2)).2 ((chunk_mk (some ⟨b, off, none⟩) n c W1).mono ?_)⟩
  rintro E W2 ⟨rfl, hb2, hq1, hq2, hz2⟩
  rw [hz1] at hq1 hq2 hz2 ⊢
  have hk9' := (hb2.block _ (by omega)).trans hk9
  have hbw : Below w.heap.size w W2 := hb1.trans (hb2.mono hb1.size)
  clear hk9 hb1 hb2 hz1
  obtain ⟨M, hM⟩ : ∃ M, M = w.heap.size := ⟨_, rfl⟩
  rw [← hM] at hk9' hq1 hq2 hz2 ⊢
  have hh := H.out.below (hbw.mono hB)
  have hhands := chunk_hands (3 - 1) (by omega) (M + 1) b off n c M W2 hq1 hq2 hn hc (by omega) (fun q hq => by
    rcases hq with e | e | ⟨x, ty, e, e'⟩
    · exact e
    · exact e
    · rcases e with e | e
      all_goals
        rw [hk9'] at e
        injection e with e
        injection e with e
        injection e with e
        injection e with e
        subst e
        cases e')
  have hI0 : NodeI l w M (W2.heap.size + 2) [] W2 := ⟨hbw, by omega, ⟨_, hk9', OwnN.nil _ _⟩⟩
  have HHA := Lib.hid hhands; clear hhands
  have HI0 := Lib.hid hI0; clear hI0
  have HBW := Lib.hid hbw; clear hbw hh hk9' hq1 hq2
  have HM := Lib.hid hM
  rw [hM]
  rw [← HM.out]
  clear hM
  gi_wp2
  refine wp_handsN (F := Fence.wide) (n := 3) rfl (by omega) (gf := 77) (la := #[]) (lb := #[.pointer (some ⟨M + 1, 0, none⟩), .pointer (some ⟨M + 1 + 1, 0, none⟩)]) rfl trivial (enters_of Try.func77 (by kernel_rfl) rfl) HHA.out
    (fun h k => h.trans k) (fun V o o' ho hoc => KpT.put ho hoc (by omega) (by omega)) (Below.refl _ _) (fun _ => rfl)
    (NodeI l w M (W2.heap.size + 2)) (fun xs A B h hT => h.turns hT (by omega) (by omega) (by have := HM.out; omega)) (fun s A h => h.z) HI0.out
    (fun i => { tmps := #[.slice (some ⟨b, off, none⟩) n c, undef, .slice none 0 0, .pointer (some ⟨M, 0, none⟩), .slice (some ⟨b, off + (i * 20) * 4, none⟩) (min 20 (n - i * 20)) (min 20 (n - i * 20)), undef, .slice (some ⟨b, off, none⟩) n c, .func (.func 77) #[] #[.pointer (some ⟨M + 1, 0, none⟩), .pointer (some ⟨M + 1 + 1, 0, none⟩)], .slice (some ⟨b, off + (i * 20) * 4, none⟩) (min 20 (n - i * 20)) (min 20 (n - i * 20)), undef, undef, undef, undef, undef, undef, undef, undef, undef, undef, undef, undef, undef, undef, undef], defers := [] }) ?assign ?body ?done
  case assign =>
    intro l1 x V K hK
    dsimp only [chunkV]
    have HK := Lib.hid hK; clear hK
    generalize (min 20 (n - x * 20)) = m at HK ⊢
    generalize off + (x * 20) * 4 = o2 at HK ⊢
    gi_wp2
    exact HK.out
  case body =>
    rintro l1 pre i V0 V W hI0' hbV ⟨hpre, hx⟩ hz hT hI hVK
    have HVK := Lib.hid hVK; clear hVK
    obtain ⟨v9, k9, o9⟩ := hI.left
    have hbW := hI.bel
    have hlo := hI.lo
    have hVW : V0.heap.size ≤ W.heap.size := by have := hbV.size; have := hT.size; omega
    have hwn := hbW.size
    have hw2 := HBW.out.size
    have l9 : M < W.heap.size := (Array.getElem?_eq_some_iff.1 k9).1
    have b9 : ∀ k, v9.ownBlock = some k → W2.heap.size + 2 ≤ k ∧ k < W.heap.size := fun k hk => o9.lt k hk
    have hpl : (nodesA l pre).length ≤ 3 := by unfold nodesA; rw [List.length_map, hpre, List.length_range]; omega
    clear hI hI0' hT hbV HHA HI0
    obtain ⟨m, hm⟩ : ∃ m, m = min 20 (n - i * 20) := ⟨_, rfl⟩
    have hm0 : 0 < m ∧ i * 20 + m ≤ n ∧ m ≤ 20 := by omega
    rw [← hm]
    have hpart : (l.drop (i * 20)).take m = partX l i := by
      unfold partX
      have h1 := HLN.out
      rcases Nat.lt_or_ge (n - i * 20) 20 with h2 | h2
      · rw [List.take_of_length_le (by rw [List.length_drop]; omega), List.take_of_length_le (by rw [List.length_drop]; omega)]
      · rw [show m = 20 by omega]
    have hh := (H.out.below (hbW.mono hB)).sub (i := i * 20) (m := m) hm0.2.1
    rw [hpart] at hh
    have hpm : ∀ x ∈ partX l i, x.may = true := fun x hx => HMAY.out x (List.mem_of_mem_drop (List.mem_of_mem_take hx))
    have hp20 := partX_len l i
    obtain ⟨p, hp⟩ : ∃ p, p = partX l i := ⟨_, rfl⟩
    rw [← hp] at hh hpm hp20
    have hcall := holding_any _ m m B 256 p W hh (by omega) hpm (by omega) (by omega)
    have hnl := node_laid p hp20
    have hht := hold_take p hp20
    have hn2 : nodesA l (pre ++ [i]) = nodesA l pre ++ [nodeB p] := by unfold nodesA; rw [List.map_append, hp]; rfl
    have hnb := nodeB_len p hp20
    have HCALL := Lib.hid hcall; clear hcall
    have HNL := Lib.hid hnl; clear hnl
    have HHT := Lib.hid hht; clear hht
    have HN2 := Lib.hid hn2; clear hn2
    have HNB := Lib.hid hnb; clear hnb
    clear hh hpm hp20 hp hpart hx hpre hm hm0
    generalize off + (i * 20) * 4 = o2 at HCALL ⊢
    gi_wp2_with fail
    refine ⟨trivial, CallsIn.inRound l1 ((callsIn_wide (n := 0)).2 (HCALL.out.mono ?_))⟩
    rintro E V1 ⟨rfl, ho1, hb1⟩
    obtain ⟨G, hG⟩ : ∃ G, G = W.heap.size := ⟨_, rfl⟩
    rw [← hG] at ho1 hb1 ⊢
    have HO1 := Lib.hid ho1; clear ho1
    have HB1 := Lib.hid hb1; clear hb1
    clear HCALL
    have HG := Lib.hid hG; clear hG
    gi_wp2_with fail
    have hS : True := trivial
    refine wpIn_region_E (fun _ => True) 99 (by kernel_rfl) (by kernel_rfl) (by rintro ⟨_, _, h⟩; exact h) ?_
    refine wpE_takeF 0 ⟨some 11, _, _, _, _, _⟩ (v := ?_) (by decide) rfl (by kernel_rfl) (by kernel_rfl) (by kernel_rfl) (fun _ _ _ h => h) hS (Or.inl ⟨by kernel_rfl, ?_⟩) ?_
    rotate_left
    · (intro V hSw; go_simp; try with_reducible rfl)
    try simp only [Act.put]
    refine wpE_takeF 1 ⟨some 12, _, _, _, _, _⟩ (v := ?_) (by decide) rfl (by kernel_rfl) (by kernel_rfl) (by kernel_rfl) (fun _ _ _ h => h) hS (Or.inl ⟨by kernel_rfl, ?_⟩) ?_
    rotate_left
    · (intro V hSw; go_simp; try with_reducible rfl)
    try simp only [Act.put]
    refine wpE_takeF 2 ⟨some 13, _, _, _, _, _⟩ (v := ?_) (by decide) rfl (by kernel_rfl) (by kernel_rfl) (by kernel_rfl) (fun _ _ _ h => h) hS (Or.inl ⟨by kernel_rfl, ?_⟩) ?_
    rotate_left
    · (intro V hSw; go_simp; try with_reducible rfl)
    try simp only [Act.put]
    refine wpE_takeF 3 ⟨some 14, _, _, _, _, _⟩ (v := ?_) (by decide) rfl (by kernel_rfl) (by kernel_rfl) (by kernel_rfl) (fun _ _ _ h => h) hS (Or.inl ⟨by kernel_rfl, ?_⟩) ?_
    rotate_left
    · (intro V hSw; go_simp; try with_reducible rfl)
    try simp only [Act.put]
    have hrd : Holds V1.drew V1.drew.heap.size (some ⟨G, 0, none⟩) 252 (holdB p 252) := by
      have := (Owned.reads HO1.out).take (k := 252) (by omega)
      rw [HHT.out] at this
      exact this
    obtain ⟨T, hT⟩ : ∃ T, T = holdB p 252 := ⟨_, rfl⟩
    rw [← hT] at hrd HNL
    refine wpE_one 4 (o := ⟨some 15, _, _, _, _, _⟩) (by kernel_rfl) rfl (fun K' hK' => ?_)
    rw [if_pos (by kernel_rfl)]
    refine call_wp 70 _ _ _ _ rfl Try.func70 (by kernel_rfl) rfl _ ?hv1 _ (sum_any (some ⟨G, 0, none⟩) 252 256 T V1.drew hrd (by unfold maxLen; omega)) ?_
    case hv1 => simp only [List.map_toArray, List.map_cons, List.map_nil]; go_simp
    rintro e V3 ⟨rfl, hb3⟩
    refine ⟨_, rfl, hK'.out _ _ hS (fun _ => ?_)⟩
    clear hK' K'
    simp only [Act.put]
    refine wpE_takeF 5 ⟨some 16, _, _, _, _, _⟩ (v := ?_) (by decide) rfl (by kernel_rfl) (by kernel_rfl) (by kernel_rfl) (fun _ _ _ h => h) hS (Or.inl ⟨by kernel_rfl, ?_⟩) ?_
    rotate_left
    · (intro V hSw; go_simp; try with_reducible rfl)
    try simp only [Act.put]
    have hb13 : Below V1.heap.size V1 V3 := (Below.refl _ V1).drew.trans hb3
    have ho3 : Owned V3 G (.slice (some ⟨G, 0, none⟩) 256 256) (holdB p 256) := Owned.keep HO1.out hb13 (Nat.le_refl _)
    have hb3' : Below G W V3 := HB1.out.trans (hb13.mono (by have := HG.out; have := HB1.out.size; omega))
    have hlaid := bytes_laid (IntKind.u64.wrap (sum T : Int)) (sum T) 4 (wrap_sum T) V3 G G 256 256 (holdB p 256) 252 4 4 ho3 (by have := HG.out; have := hb3'.size; omega) (by omega) (by omega) (by omega) (by omega)
    refine wpE_one 6 (o := ⟨some 17, _, _, _, _, _⟩) (by kernel_rfl) rfl (fun K' hK' => ?_)
    rw [if_pos (by kernel_rfl)]
    refine call_wp 67 _ _ _ _ rfl Try.func67 (by kernel_rfl) rfl _ ?hv2 _ hlaid ?_
    case hv2 => simp only [List.map_toArray, List.map_cons, List.map_nil]; go_simp
    rintro e V4 ⟨A4, c4, V5, rfl, hrun5, ho5, hb5⟩
    refine ⟨_, rfl, hK'.out _ _ hS (fun _ => ?_)⟩
    clear hK' K'
    simp only [Act.put]
    refine wpE_one 7 (o := ⟨some 18, _, _, _, _, _⟩) (by kernel_rfl) rfl (fun K' hK' => ?_)
    refine step_copy (by kernel_rfl) (.tmp 12) (.tmp 17) _ rfl (.slice (some ⟨G, 252, none⟩) 4 4) (.slice A4 4 c4) _ V5 ?hva ?hvb hrun5 ?_
    case hva => go_simp; try with_reducible rfl
    case hvb => go_simp; try with_reducible rfl
    refine hK'.out _ _ hS (fun _ => ?_)
    clear hK' K'
    try simp only [Act.put]
    refine wpE_done (by kernel_rfl) ?_ _
    try simp only [List.setIfInBounds_toArray, List.set_cons_succ, List.set_cons_zero]
    rw [HNL.out] at ho5
    have hb5' : Below G W V5 := hb3'.trans hb5
    have ho5' : Owned V5 (W2.heap.size + 2) (.slice (some ⟨G, 0, none⟩) (nodeB p).length 256) (nodeB p) := by
      rw [HNB.out]; exact Owned.mono ho5 (by have := HG.out; omega)
    have hb5w : Below W.heap.size W V5 := by have h := hb5'; rw [HG.out] at h; exact h
    have o9' : OwnN V5 (W2.heap.size + 2) v9 (nodesA l pre) := o9.below hb5w
    obtain ⟨v', W4, hrun, ho', hgr⟩ := run_appN V5 (W2.heap.size + 2) v9 (nodesA l pre) o9' (some ⟨G, 0, none⟩) 256 (nodeB p) ho5' 47 (by omega) (by have := hb5w.size; omega)
    rw [HNB.out] at hrun
    obtain ⟨A4', c4', hv4⟩ := ho'.shape
    obtain ⟨N4, hN4⟩ : ∃ N4, N4 = (nodesA l pre ++ [nodeB p]).length := ⟨_, rfl⟩
    rw [← hN4] at hv4
    clear hN4
    obtain ⟨A10, c10, hv10⟩ := o9.shape
    obtain ⟨N10, hN10⟩ : ∃ N10, N10 = (nodesA l pre).length := ⟨_, rfl⟩
    rw [← hN10] at hv10
    clear hN10
    have k95 : V5.heap[M]? = some (.cells #[v9] 47 (0, 0)) := (hb5w.block _ l9).trans k9
    have y1 := cell_of_row V5 _ 0 _ _ _ k95
    have k9' : W4.heap[M]? = some (.cells #[v9] 47 (0, 0)) := (hgr.1.block _ (by have := hb5w.size; omega) (fun e => by have := (b9 _ e.symm).1; omega)).trans k95
    have y4 : W4.cell? ⟨M, 0, none⟩ = some v9 := cell_of_row W4 _ 0 _ _ _ k9'
    have y5 := frozen_of_row W4 M 0 _ _ k9'
    obtain ⟨W3, hW3⟩ : ∃ W3, W3 = W4.setCell ⟨M, 0, none⟩ v' := ⟨_, rfl⟩
    have hT4 : Turns (fun q => q = M ∨ v9.ownBlock = some q) W W3 := by
      rw [hW3]
      refine Turns.setCell (p := ⟨M, 0, none⟩) ?_ (fun _ => .inl rfl) _
      exact (Turns.of_below hb5w).grown hgr.1 (fun k hk _ => .inr hk)
    have hfin : KeepsFrom W2.heap.size W W3 ∧ KpT M M V W3 ∧ NodeI l w M (W2.heap.size + 2) (pre ++ [i]) W3 := by
      refine (fun h => ⟨h.1, HVK.out.trans h.2.1, h.2.2⟩) (node_round hbW hlo (by have := HM.out; omega) (by omega) k9 o9 hT4 (v' := v') (by rw [hW3]; exact heap_setCell_same W4 M 0 _ _ _ k9') ?_ ?_)
      · rw [HN2.out, hW3]
        exact ho'.kept fun g hg _ => Below.heap_setCell _ _ _ _ (by show g ≠ M; omega)
      · intro k hk
        rcases hgr.2 k hk with e | e
        · exact .inl e
        · exact .inr (by have := hb5w.size; omega)
    have HFIN := Lib.hid hfin; clear hfin
    clear hT4 ho' hgr k9 o9 b9 hbW k9' o9' k95 ho5 ho5' hb5 hb5' hb5w hrd hlaid ho3 hb3 hb13 hb3' hrun5 hT
    subst hv4
    subst hv10
    have HW3 := Lib.hid hW3; clear hW3
    gi_wp2_with (gi_at_builtin; refine round_apprun rfl _ _ 47 47 rfl _ _ rfl rfl _ W4 hrun ?_)
    gi_wp2
    have := HFIN.out
    rw [HW3.out] at this
    exact this
  case done =>
    rintro xs W rfl hI hdD
    obtain ⟨v9, k9, o9⟩ := hI.left
    have hbe := hI.bel
    have hN : nodesA l (List.range (manyX n)) = nodesB l := by unfold nodesA nodesB; rw [HLN.out]
    rw [hN] at o9
    obtain ⟨A9, c9, rfl⟩ := o9.shape
    have y1 := cell_of_row W _ 0 _ _ _ k9
    have hw2 := HBW.out.size
    have O9 := Lib.hid o9; clear o9
    have HBE := Lib.hid hbe; clear hbe k9 hI hN
    obtain ⟨N9, hN9⟩ : ∃ N9, N9 = (nodesB l).length := ⟨_, rfl⟩
    rw [← hN9] at y1
    have hT : Turns (fun q => q = W2.heap.size) W (W.putObj W2.heap.size (.deferred none)) := turns_put _ _ _
    have HT := Lib.hid hT; clear hT
    have HN9 := Lib.hid hN9; clear hN9
    have HD := Lib.hid hdD; clear hdD
    clear HHA HI0
    gi_wp2
    refine ⟨by simp, .inl ⟨_, _, rfl, run_takeDeferred HD.out, ?_⟩⟩
    refine ⟨_, results_tmp rfl _ _ _, ?_⟩
    have hTd := HT.out
    generalize W.putObj W2.heap.size (.deferred none) = W9 at hTd ⊢
    rw [← HN9.out]
    refine ⟨A9, c9, rfl, ?_, HBE.out.trans (hTd.below (fun k e => by omega) HBE.out.size)⟩
    have := O9.out
    rw [← HN9.out] at this
    exact (this.kept fun g hg hg2 => hTd.block g hg2 (by omega)).mono (by omega)
end Go.Proofs.Ytkhenchhafmlmaa.Ex
