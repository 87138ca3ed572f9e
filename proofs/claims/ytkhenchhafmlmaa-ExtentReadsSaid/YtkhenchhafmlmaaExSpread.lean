/- The document's map of a right list (Spread), a map as a list where it has room (fit). -/
import Derived.Test.YtkhenchhafmlmaaExMap
import Derived.Test.YtkhenchhafmlmaaExJoin
namespace Go.Proofs.Ytkhenchhafmlmaa.Ex
set_option maxRecDepth 20000
open Go.RowKit
open Go.Proofs.Ytkhenchhafmlmaa.Mem Go.Proofs.Ytkhenchhafmlmaa.Crc Go.Proofs.Ytkhenchhafmlmaa.Rec Go.Proofs.Ytkhenchhafmlmaa.Reg

/-! ### In plain words -/
theorem at_one (e : X) (b : Int) : at_ [e] b = if e.a ≤ b ∧ b < e.a + e.n then some (e.s + b - e.a, e.u) else none := by
  unfold at_
  split
  · rfl
  · rfl
theorem same_nil : Same (fun _ => 0) (fun _ => false) [] := fun _ _ => rfl
theorem same_congr {T : Nat → Int} {B : Nat → Bool} {l m : List X} (h : Same T B l) (e : ∀ b, at_ m b = at_ l b) : Same T B m := fun i hi => by
  rw [e]; exact h i hi
theorem same_zero {T : Nat → Int} {B : Nat → Bool} {p : List X} (h : Same T B p) (a s : Int) (u : Bool) : Same T B (p ++ [⟨a, s, ((0 : Nat) : Int), u⟩]) :=
  same_congr h fun b => by
    rw [at_append, at_one, if_neg (by dsimp only; omega), Option.or_none]
theorem same_put {T : Nat → Int} {B : Nat → Bool} {p : List X} {a s : Int} {u : Bool} {j i : Nat} (h : Same T B (p ++ [⟨a, s, (j : Int), u⟩])) (hi : (i : Int) = a + j) (hs : 1 ≤ s) (hn : at_ p (i : Int) = none) :
    Same (upd T i (s + j)) (upd B i u) (p ++ [⟨a, s, ((j + 1 : Nat) : Int), u⟩]) := fun k hk => by
  have h0 := h k hk
  rw [at_append, at_one] at h0 ⊢
  dsimp only at h0 ⊢
  unfold upd
  by_cases e : k = i
  · subst e
    rw [hn, if_pos (by omega)]
    simp only [Option.none_or, if_pos]
    exact ⟨by omega, by omega, trivial⟩
  · rw [if_neg e, if_neg e]
    by_cases hc : a ≤ (k : Int) ∧ (k : Int) < a + (j : Int)
    · rw [if_pos hc] at h0
      rw [if_pos (by omega)]
      exact h0
    · rw [if_neg hc] at h0
      rw [if_neg (by omega)]
      exact h0
theorem same_range {T : Nat → Int} {B : Nat → Bool} {l : List X} (hd : Dev l) (h : Same T B l) : ∀ i, i < 256 → 0 ≤ T i ∧ T i ≤ 1024 := fun i hi => by
  have h0 := h i hi
  cases hv : at_ l (i : Int) with
  | none =>
    rw [hv] at h0
    dsimp only at h0
    omega
  | some v =>
    rw [hv] at h0
    dsimp only at h0
    have := hd i v.1 v.2 hv
    omega

/-! ### In memory -/
def zmap : Array Value := Array.replicate 256 (.int .i64 0) ++ Array.replicate 256 (.bool false)
def mkM (parts : Array (Nat × Value)) : Sem Value := Instr.build 66 parts
theorem mkM_eq (parts : Array (Nat × Value)) : Instr.build 66 parts = mkM parts := rfl
theorem run_mkM (W : World) : (mkM #[]).run Try.prog W = .ok (.agg zmap) W := run_build W 66 _ _ (by kernel_rfl)
theorem zmap_new (w : World) : MapAt (w.alloc (.cells zmap 66)) w.heap.size (fun _ => 0) (fun _ => false) := by
  refine ⟨zmap, heap_alloc_new w _, by unfold zmap; simp, fun i hi => ?_, fun i hi => ?_⟩
  · unfold zmap
    rw [Array.getElem?_append_left (by simpa using hi), Array.getElem?_replicate, if_pos hi]
  · unfold zmap
    rw [Array.getElem?_append_right (by simp), Array.size_replicate, Array.getElem?_replicate, if_pos (by omega)]
attribute [local go_sem ↓] ldX_eq stX_eq mkM_eq

set_option maxRecDepth 100000 in
set_option maxHeartbeats 4000000 in
theorem spread_any (A : Option Addr) (n c B : Nat) (l : List X) (w : World) (h : HoldsX w B A n l) (hB : B ≤ w.heap.size) (hr : right l = true) :
    Calls Try.prog 40 #[.slice A n c] w fun E w' => ∃ T Bk, E = .returned (.pointer (some ⟨w.heap.size, 0, none⟩)) ∧ MapAt w' w.heap.size T Bk ∧ Same T Bk l ∧ Below w.heap.size w w' := by
  have hln := h.1
  obtain ⟨hlin, -, -, -, h60⟩ := right_lin hr
  have hmay : ∀ x ∈ l, x.may = true := ((right_iff l).1 hr).2.1
  have hn60 : n ≤ 60 := by omega
  obtain ⟨W, hW⟩ : ∃ W, W = w.alloc (.cells zmap 66) := ⟨_, rfl⟩
  have hbw : Below w.heap.size w W := by rw [hW]; exact (Below.refl _ _).alloc (Nat.le_refl _) _
  have hmw : MapAt W w.heap.size (fun _ => 0) (fun _ => false) := hW ▸ zmap_new w
  have hmk := run_mkM w
  have HLN := Lib.hid hln; clear hln
  have HLIN := Lib.hid hlin; clear hlin
  have HMAY := Lib.hid hmay; clear hmay
  have HH := Lib.hid h; clear h hr h60
  have HWE := Lib.hid hW; clear hW
  have HBW := Lib.hid hbw; clear hbw
  have HMW := Lib.hid hmw; clear hmw
  generalize zmap = Z at hmk HWE
  go_enter Try.func40, Try.ntmps40
  go_wp2
  rw [← HWE.out]
  clear hmk
  go_loopw [4] (fun v wr => ∃ (k : Nat) (T : Nat → Int) (Bk : Nat → Bool), k ≤ n ∧ v = .int .i64 (k : Int) ∧ MapAt wr w.heap.size T Bk ∧ Same T Bk (l.take k) ∧ Below w.heap.size w wr) (fun v _ => n - (intOf v).toNat)
  case atStart => exact ⟨0, _, _, Nat.zero_le _, rfl, HMW.out, same_nil, HBW.out⟩
  case round =>
    obtain ⟨k, T, Bk, hk, rfl, hmap, hsame, hbr⟩ := hrel
    have HMAP := Lib.hid hmap; clear hmap
    have HSAME := Lib.hid hsame; clear hsame
    have HBR := Lib.hid hbr; clear hbr
    rcases Nat.lt_or_ge k n with hlt | hge
    rotate_left
    · have hkn : k = n := by omega
      have hs : Same T Bk l := by
        have := HSAME.out
        rwa [hkn, List.take_of_length_le (by have := HLN.out; omega)] at this
      have HS := Lib.hid hs; clear hs
      have hge' : ¬ (k : Int) < (n : Int) := by omega
      have HKN := Lib.hid hkn; clear hkn
      go_wp2
      go_ret
      exact ⟨rfl, T, Bk, HMAP.out, HS.out, HBR.out⟩
    · obtain ⟨b, off, rfl, hbB⟩ := HH.out.addr (by omega)
      have hkl : k < l.length := by have := HLN.out; omega
      obtain ⟨e, he⟩ : ∃ e, e = l[k] := ⟨_, rfl⟩
      have hem := may_iff.1 (HMAY.out e (he ▸ List.getElem_mem hkl))
      have hcell : ∀ V, Below w.heap.size w V → V.cell? ⟨b, off + k * 4, none⟩ = some (.int .i64 e.a) ∧ V.cell? ⟨b, off + k * 4 + 1, none⟩ = some (.int .i64 e.s) ∧ V.cell? ⟨b, off + k * 4 + 2, none⟩ = some (.int .i64 e.n) ∧ V.cell? ⟨b, off + k * 4 + 3, none⟩ = some (.bool e.u) := fun V hV => by
        have hh := (HH.out.below (hV.mono hB)).cell k hkl
        rwa [← he] at hh
      have hfree : ∀ i : Nat, e.a ≤ (i : Int) → at_ (l.take k) (i : Int) = none := fun i hi => at_none fun x hx => by
        have h1 : Lin (l.take k ++ l.drop k) := by rw [List.take_append_drop]; exact HLIN.out
        have h2 := (lin_append.1 h1).2.2 x hx e (by rw [List.drop_eq_getElem_cons hkl, ← he]; exact List.mem_cons_self)
        omega
      have hnx : ∀ T2 B2, Same T2 B2 (l.take k ++ [⟨e.a, e.s, e.n, e.u⟩]) → Same T2 B2 (l.take (k + 1)) := fun T2 B2 h2 => by
        rw [List.take_succ_eq_append_getElem hkl, ← he]; exact h2
      obtain ⟨ea, hea⟩ : ∃ ea, ea = e.a := ⟨_, rfl⟩
      obtain ⟨es, hes⟩ : ∃ es, es = e.s := ⟨_, rfl⟩
      obtain ⟨en, hen⟩ : ∃ en, en = e.n := ⟨_, rfl⟩
      obtain ⟨eu, heu⟩ : ∃ eu, eu = e.u := ⟨_, rfl⟩
      rw [← hea, ← hes, ← hen] at hem
      rw [← hea] at hfree
      rw [← hea, ← hes, ← hen, ← heu] at hcell
      have hnx : ∀ T2 B2, Same T2 B2 (l.take k ++ [⟨ea, es, en, eu⟩]) → Same T2 B2 (l.take (k + 1)) := by rw [hea, hes, hen, heu]; exact hnx
      have HFREE := Lib.hid hfree; clear hfree
      have HCELL := Lib.hid hcell; clear hcell
      have HNX := Lib.hid hnx; clear hnx
      clear he hea hes hen heu
      obtain ⟨er1, er2, er3, er4, er5⟩ := hem
      have hk0 : (0 : Int) ≤ (k : Int) := by omega
      have hkn : (k : Int) < (n : Int) := by omega
      go_wp2
      go_loopw [5] (fun v wr2 => ∃ (j : Nat) (T2 : Nat → Int) (B2 : Nat → Bool), (j : Int) ≤ en ∧ v = .int .i64 (j : Int) ∧ MapAt wr2 w.heap.size T2 B2 ∧ Same T2 B2 (l.take k ++ [⟨ea, es, (j : Int), eu⟩]) ∧ Below w.heap.size w wr2) (fun v _ => en.toNat - (intOf v).toNat)
      case atStart => exact ⟨0, T, Bk, by omega, rfl, HMAP.out, same_zero HSAME.out _ _ _, HBR.out⟩
      case round =>
        obtain ⟨j, T2, B2, hj, rfl, hmap, hsame, hbr⟩ := hrel
        have HM2 := Lib.hid hmap; clear hmap
        have HS2 := Lib.hid hsame; clear hsame
        have HB2 := Lib.hid hbr; clear hbr
        have hc3 := (HCELL.out wr HB2.out).2.2.1
        rcases Int.lt_or_le (j : Int) en with hjk | hjk
        · obtain ⟨i, hi⟩ : ∃ i : Nat, (i : Int) = ea + (j : Int) := ⟨(ea + (j : Int)).toNat, by omega⟩
          have hi0 : (0 : Int) ≤ (i : Int) := by omega
          have hi1 : (i : Int) < 256 := by omega
          have hw1 : IntKind.i64.wrap (ea + (j : Int)) = (i : Int) := by rw [IntKind.wrap_i64]; omega
          have hw2 : IntKind.i64.wrap (es + (j : Int)) = es + (j : Int) := by rw [IntKind.wrap_i64]; omega
          have HIN := Lib.hid (show i < 256 by omega)
          have hs2 := same_put HS2.out hi er2 (HFREE.out i (by omega))
          have HS3 := Lib.hid hs2; clear hs2
          have hs8 : ∀ V, Below wr.heap.size wr V → V.cell? ⟨b, off + k * 4, none⟩ = some (.int .i64 ea) ∧ V.cell? ⟨b, off + k * 4 + 1, none⟩ = some (.int .i64 es) := fun V hV => by
            have := HCELL.out V (HB2.out.trans (hV.mono HB2.out.size))
            exact ⟨this.1, this.2.1⟩
          have HS8 := Lib.hid hs8; clear hs8
          have hm2 : MapAt wr.drew w.heap.size T2 B2 := HM2.out.kept rfl
          obtain ⟨z1, z2⟩ := hm2.to i HIN.out
          have HI := Lib.hid hi; clear hi
          clear hm2
          go_wp2_with fail
          refine wp_region_E (fun V => Below wr.heap.size wr V) 18 rfl ?_
          have hS := (show Below wr.heap.size wr wr.drew from (Below.refl _ wr).drew)
          refine wpE_take 0 ⟨some 23, _, _, _, _, _⟩ (v := ?_) [15, 16, 17, 18] rfl (by kernel_rfl) (by kernel_rfl) (by kernel_rfl) (by kernel_rfl) (fun _ _ _ h => h) hS (Or.inl ⟨by kernel_rfl, ?_⟩) ?_
          rotate_left
          · (intro V hSw; obtain ⟨hq1, hq2⟩ := HS8.out V hSw; go_simp; try with_reducible rfl)
          try simp only [Act.put]
          refine wpE_take 1 ⟨some 24, _, _, _, _, _⟩ (v := ?_) [3, 4, 5, 7, 17, 18] rfl (by kernel_rfl) (by kernel_rfl) (by kernel_rfl) (by kernel_rfl) (fun _ _ _ h => h) hS (Or.inl ⟨by kernel_rfl, ?_⟩) ?_
          rotate_left
          · (intro V hSw; obtain ⟨hq1, hq2⟩ := HS8.out V hSw; go_simp; try with_reducible rfl)
          try simp only [Act.put]
          refine wpE_take 2 ⟨some 25, _, _, _, _, _⟩ (v := ?_) [3, 4, 5, 7, 17, 18] rfl (by kernel_rfl) (by kernel_rfl) (by kernel_rfl) (by kernel_rfl) (fun _ _ _ h => h) hS (Or.inl ⟨by kernel_rfl, ?_⟩) ?_
          rotate_left
          · (intro V hSw; obtain ⟨hq1, hq2⟩ := HS8.out V hSw; go_simp; try with_reducible rfl)
          try simp only [Act.put]
          refine wpE_take 3 ⟨some 26, _, _, _, _, _⟩ (v := ?_) [4, 5, 7, 17, 18] rfl (by kernel_rfl) (by kernel_rfl) (by kernel_rfl) (by kernel_rfl) (fun _ _ _ h => h) hS (Or.inl ⟨by kernel_rfl, ?_⟩) ?_
          rotate_left
          · (intro V hSw; obtain ⟨hq1, hq2⟩ := HS8.out V hSw; go_simp; try with_reducible rfl)
          try simp only [Act.put]
          refine wpE_take 4 ⟨some 27, _, _, _, _, _⟩ (v := ?_) [5, 7, 17, 18] rfl (by kernel_rfl) (by kernel_rfl) (by kernel_rfl) (by kernel_rfl) (fun _ _ _ h => h) hS (Or.inl ⟨by kernel_rfl, ?_⟩) ?_
          rotate_left
          · (intro V hSw; obtain ⟨hq1, hq2⟩ := HS8.out V hSw; go_simp; try with_reducible rfl)
          try simp only [Act.put]
          refine wpE_take 5 ⟨some 28, _, _, _, _, _⟩ (v := ?_) [7, 17, 18] rfl (by kernel_rfl) (by kernel_rfl) (by kernel_rfl) (by kernel_rfl) (fun _ _ _ h => h) hS (Or.inl ⟨by kernel_rfl, ?_⟩) ?_
          rotate_left
          · (intro V hSw; obtain ⟨hq1, hq2⟩ := HS8.out V hSw; go_simp; try with_reducible rfl)
          try simp only [Act.put]
          refine wpE_take 6 ⟨some 29, _, _, _, _, _⟩ (v := ?_) [7, 17, 18] rfl (by kernel_rfl) (by kernel_rfl) (by kernel_rfl) (by kernel_rfl) (fun _ _ _ h => h) hS (Or.inl ⟨by kernel_rfl, ?_⟩) ?_
          rotate_left
          · (intro V hSw; obtain ⟨hq1, hq2⟩ := HS8.out V hSw; go_simp; try with_reducible rfl)
          try simp only [Act.put]
          refine wpE_take 7 ⟨some 30, _, _, _, _, _⟩ (v := ?_) [17, 18] rfl (by kernel_rfl) (by kernel_rfl) (by kernel_rfl) (by kernel_rfl) (fun _ _ _ h => h) hS (Or.inl ⟨by kernel_rfl, ?_⟩) ?_
          rotate_left
          · (intro V hSw; obtain ⟨hq1, hq2⟩ := HS8.out V hSw; go_simp; try with_reducible rfl)
          try simp only [Act.put]
          refine wpE_take 8 ⟨some 31, _, _, _, _, _⟩ (v := ?_) [10, 11, 12, 14, 17, 18] rfl (by kernel_rfl) (by kernel_rfl) (by kernel_rfl) (by kernel_rfl) (fun _ _ _ h => h) hS (Or.inl ⟨by kernel_rfl, ?_⟩) ?_
          rotate_left
          · (intro V hSw; obtain ⟨hq1, hq2⟩ := HS8.out V hSw; go_simp; try with_reducible rfl)
          try simp only [Act.put]
          refine wpE_take 9 ⟨some 32, _, _, _, _, _⟩ (v := ?_) [10, 11, 12, 14, 17, 18] rfl (by kernel_rfl) (by kernel_rfl) (by kernel_rfl) (by kernel_rfl) (fun _ _ _ h => h) hS (Or.inl ⟨by kernel_rfl, ?_⟩) ?_
          rotate_left
          · (intro V hSw; obtain ⟨hq1, hq2⟩ := HS8.out V hSw; go_simp; try with_reducible rfl)
          try simp only [Act.put]
          refine wpE_take 10 ⟨some 33, _, _, _, _, _⟩ (v := ?_) [11, 12, 14, 17, 18] rfl (by kernel_rfl) (by kernel_rfl) (by kernel_rfl) (by kernel_rfl) (fun _ _ _ h => h) hS (Or.inl ⟨by kernel_rfl, ?_⟩) ?_
          rotate_left
          · (intro V hSw; obtain ⟨hq1, hq2⟩ := HS8.out V hSw; go_simp; try with_reducible rfl)
          try simp only [Act.put]
          refine wpE_take 11 ⟨some 34, _, _, _, _, _⟩ (v := ?_) [12, 14, 17, 18] rfl (by kernel_rfl) (by kernel_rfl) (by kernel_rfl) (by kernel_rfl) (fun _ _ _ h => h) hS (Or.inl ⟨by kernel_rfl, ?_⟩) ?_
          rotate_left
          · (intro V hSw; obtain ⟨hq1, hq2⟩ := HS8.out V hSw; go_simp; try with_reducible rfl)
          try simp only [Act.put]
          refine wpE_take 12 ⟨some 35, _, _, _, _, _⟩ (v := ?_) [14, 17, 18] rfl (by kernel_rfl) (by kernel_rfl) (by kernel_rfl) (by kernel_rfl) (fun _ _ _ h => h) hS (Or.inl ⟨by kernel_rfl, ?_⟩) ?_
          rotate_left
          · (intro V hSw; obtain ⟨hq1, hq2⟩ := HS8.out V hSw; go_simp; try with_reducible rfl)
          try simp only [Act.put]
          refine wpE_take 13 ⟨some 36, _, _, _, _, _⟩ (v := ?_) [14, 17, 18] rfl (by kernel_rfl) (by kernel_rfl) (by kernel_rfl) (by kernel_rfl) (fun _ _ _ h => h) hS (Or.inl ⟨by kernel_rfl, ?_⟩) ?_
          rotate_left
          · (intro V hSw; obtain ⟨hq1, hq2⟩ := HS8.out V hSw; go_simp; try with_reducible rfl)
          try simp only [Act.put]
          refine wpE_take 14 ⟨some 37, _, _, _, _, _⟩ (v := ?_) [17, 18] rfl (by kernel_rfl) (by kernel_rfl) (by kernel_rfl) (by kernel_rfl) (fun _ _ _ h => h) hS (Or.inl ⟨by kernel_rfl, ?_⟩) ?_
          rotate_left
          · (intro V hSw; obtain ⟨hq1, hq2⟩ := HS8.out V hSw; go_simp; try with_reducible rfl)
          try simp only [Act.put]
          refine wpE_take 15 ⟨some 38, _, _, _, _, _⟩ (v := ?_) [16, 17, 18] rfl (by kernel_rfl) (by kernel_rfl) (by kernel_rfl) (by kernel_rfl) (fun _ _ _ h => h) hS (Or.inl ⟨by kernel_rfl, ?_⟩) ?_
          rotate_left
          · (intro V hSw; obtain ⟨hq1, hq2⟩ := HS8.out V hSw; go_simp; try with_reducible rfl)
          try simp only [Act.put]
          refine wpE_take 16 ⟨some 39, _, _, _, _, _⟩ (v := ?_) [17, 18] rfl (by kernel_rfl) (by kernel_rfl) (by kernel_rfl) (by kernel_rfl) (fun _ _ _ h => h) hS (Or.inl ⟨by kernel_rfl, ?_⟩) ?_
          rotate_left
          · (intro V hSw; obtain ⟨hq1, hq2⟩ := HS8.out V hSw; go_simp; try with_reducible rfl)
          try simp only [Act.put]
          refine wpE_take 17 ⟨some 40, _, _, _, _, _⟩ (v := ?_) [18] rfl (by kernel_rfl) (by kernel_rfl) (by kernel_rfl) (by kernel_rfl) (fun _ _ _ h => h) hS (Or.inl ⟨by kernel_rfl, ?_⟩) ?_
          rotate_left
          · (intro V hSw; obtain ⟨hq1, hq2⟩ := HS8.out V hSw; go_simp; try with_reducible rfl)
          try simp only [Act.put]
          refine wpE_last (by kernel_rfl) rfl (fun K' hK' => ?_)
          go_simp
          refine hK'.out _ _ ?_
          clear hK' K'
          refine wpE_done (by kernel_rfl) ?_ _
          try simp only [List.setIfInBounds_toArray, List.set_cons_succ, List.set_cons_zero]
          obtain ⟨V1, hV1⟩ : ∃ V1, V1 = (wr.setCell ⟨w.heap.size, i, none⟩ (.int .i64 (es + (j : Int)))).drew := ⟨_, rfl⟩
          rw [← hV1]
          have hm3 : MapAt V1 w.heap.size (upd T2 i (es + (j : Int))) B2 := by rw [hV1]; exact (HM2.out.setTo i HIN.out _).kept rfl
          have hb3 : Below w.heap.size w V1 := by rw [hV1]; exact (HB2.out.setCell (Nat.le_refl _) _).drew
          clear hV1 z1 z2
          have hs9 : ∀ V, Below V1.heap.size V1 V → V.cell? ⟨b, off + k * 4, none⟩ = some (.int .i64 ea) ∧ V.cell? ⟨b, off + k * 4 + 3, none⟩ = some (.bool eu) := fun V hV => by
            have := HCELL.out V (hb3.trans (hV.mono hb3.size))
            exact ⟨this.1, this.2.2.2⟩
          have HS9 := Lib.hid hs9; clear hs9
          have hm4 : MapAt V1.drew w.heap.size (upd T2 i (es + (j : Int))) B2 := hm3.kept rfl
          obtain ⟨z1, z2⟩ := hm4.blank i HIN.out
          have HM4 := Lib.hid hm3; clear hm4 hm3
          have HB3 := Lib.hid hb3; clear hb3
          go_wp2_with fail
          refine wp_region_E (fun V => Below V1.heap.size V1 V) 16 rfl ?_
          have hS := (show Below V1.heap.size V1 V1.drew from (Below.refl _ V1).drew)
          refine wpE_take 0 ⟨some 41, _, _, _, _, _⟩ (v := ?_) [13, 14, 15, 16] rfl (by kernel_rfl) (by kernel_rfl) (by kernel_rfl) (by kernel_rfl) (fun _ _ _ h => h) hS (Or.inl ⟨by kernel_rfl, ?_⟩) ?_
          rotate_left
          · (intro V hSw; obtain ⟨hq1, hq2⟩ := HS9.out V hSw; go_simp; try with_reducible rfl)
          try simp only [Act.put]
          refine wpE_take 1 ⟨some 42, _, _, _, _, _⟩ (v := ?_) [3, 4, 5, 7, 15, 16] rfl (by kernel_rfl) (by kernel_rfl) (by kernel_rfl) (by kernel_rfl) (fun _ _ _ h => h) hS (Or.inl ⟨by kernel_rfl, ?_⟩) ?_
          rotate_left
          · (intro V hSw; obtain ⟨hq1, hq2⟩ := HS9.out V hSw; go_simp; try with_reducible rfl)
          try simp only [Act.put]
          refine wpE_take 2 ⟨some 43, _, _, _, _, _⟩ (v := ?_) [3, 4, 5, 7, 15, 16] rfl (by kernel_rfl) (by kernel_rfl) (by kernel_rfl) (by kernel_rfl) (fun _ _ _ h => h) hS (Or.inl ⟨by kernel_rfl, ?_⟩) ?_
          rotate_left
          · (intro V hSw; obtain ⟨hq1, hq2⟩ := HS9.out V hSw; go_simp; try with_reducible rfl)
          try simp only [Act.put]
          refine wpE_take 3 ⟨some 44, _, _, _, _, _⟩ (v := ?_) [4, 5, 7, 15, 16] rfl (by kernel_rfl) (by kernel_rfl) (by kernel_rfl) (by kernel_rfl) (fun _ _ _ h => h) hS (Or.inl ⟨by kernel_rfl, ?_⟩) ?_
          rotate_left
          · (intro V hSw; obtain ⟨hq1, hq2⟩ := HS9.out V hSw; go_simp; try with_reducible rfl)
          try simp only [Act.put]
          refine wpE_take 4 ⟨some 45, _, _, _, _, _⟩ (v := ?_) [5, 7, 15, 16] rfl (by kernel_rfl) (by kernel_rfl) (by kernel_rfl) (by kernel_rfl) (fun _ _ _ h => h) hS (Or.inl ⟨by kernel_rfl, ?_⟩) ?_
          rotate_left
          · (intro V hSw; obtain ⟨hq1, hq2⟩ := HS9.out V hSw; go_simp; try with_reducible rfl)
          try simp only [Act.put]
          refine wpE_take 5 ⟨some 46, _, _, _, _, _⟩ (v := ?_) [7, 15, 16] rfl (by kernel_rfl) (by kernel_rfl) (by kernel_rfl) (by kernel_rfl) (fun _ _ _ h => h) hS (Or.inl ⟨by kernel_rfl, ?_⟩) ?_
          rotate_left
          · (intro V hSw; obtain ⟨hq1, hq2⟩ := HS9.out V hSw; go_simp; try with_reducible rfl)
          try simp only [Act.put]
          refine wpE_take 6 ⟨some 47, _, _, _, _, _⟩ (v := ?_) [7, 15, 16] rfl (by kernel_rfl) (by kernel_rfl) (by kernel_rfl) (by kernel_rfl) (fun _ _ _ h => h) hS (Or.inl ⟨by kernel_rfl, ?_⟩) ?_
          rotate_left
          · (intro V hSw; obtain ⟨hq1, hq2⟩ := HS9.out V hSw; go_simp; try with_reducible rfl)
          try simp only [Act.put]
          refine wpE_take 7 ⟨some 48, _, _, _, _, _⟩ (v := ?_) [15, 16] rfl (by kernel_rfl) (by kernel_rfl) (by kernel_rfl) (by kernel_rfl) (fun _ _ _ h => h) hS (Or.inl ⟨by kernel_rfl, ?_⟩) ?_
          rotate_left
          · (intro V hSw; obtain ⟨hq1, hq2⟩ := HS9.out V hSw; go_simp; try with_reducible rfl)
          try simp only [Act.put]
          refine wpE_take 8 ⟨some 49, _, _, _, _, _⟩ (v := ?_) [10, 11, 12, 15, 16] rfl (by kernel_rfl) (by kernel_rfl) (by kernel_rfl) (by kernel_rfl) (fun _ _ _ h => h) hS (Or.inl ⟨by kernel_rfl, ?_⟩) ?_
          rotate_left
          · (intro V hSw; obtain ⟨hq1, hq2⟩ := HS9.out V hSw; go_simp; try with_reducible rfl)
          try simp only [Act.put]
          refine wpE_take 9 ⟨some 50, _, _, _, _, _⟩ (v := ?_) [10, 11, 12, 15, 16] rfl (by kernel_rfl) (by kernel_rfl) (by kernel_rfl) (by kernel_rfl) (fun _ _ _ h => h) hS (Or.inl ⟨by kernel_rfl, ?_⟩) ?_
          rotate_left
          · (intro V hSw; obtain ⟨hq1, hq2⟩ := HS9.out V hSw; go_simp; try with_reducible rfl)
          try simp only [Act.put]
          refine wpE_take 10 ⟨some 51, _, _, _, _, _⟩ (v := ?_) [11, 12, 15, 16] rfl (by kernel_rfl) (by kernel_rfl) (by kernel_rfl) (by kernel_rfl) (fun _ _ _ h => h) hS (Or.inl ⟨by kernel_rfl, ?_⟩) ?_
          rotate_left
          · (intro V hSw; obtain ⟨hq1, hq2⟩ := HS9.out V hSw; go_simp; try with_reducible rfl)
          try simp only [Act.put]
          refine wpE_take 11 ⟨some 52, _, _, _, _, _⟩ (v := ?_) [12, 15, 16] rfl (by kernel_rfl) (by kernel_rfl) (by kernel_rfl) (by kernel_rfl) (fun _ _ _ h => h) hS (Or.inl ⟨by kernel_rfl, ?_⟩) ?_
          rotate_left
          · (intro V hSw; obtain ⟨hq1, hq2⟩ := HS9.out V hSw; go_simp; try with_reducible rfl)
          try simp only [Act.put]
          refine wpE_take 12 ⟨some 53, _, _, _, _, _⟩ (v := ?_) [15, 16] rfl (by kernel_rfl) (by kernel_rfl) (by kernel_rfl) (by kernel_rfl) (fun _ _ _ h => h) hS (Or.inl ⟨by kernel_rfl, ?_⟩) ?_
          rotate_left
          · (intro V hSw; obtain ⟨hq1, hq2⟩ := HS9.out V hSw; go_simp; try with_reducible rfl)
          try simp only [Act.put]
          refine wpE_take 13 ⟨some 54, _, _, _, _, _⟩ (v := ?_) [14, 15, 16] rfl (by kernel_rfl) (by kernel_rfl) (by kernel_rfl) (by kernel_rfl) (fun _ _ _ h => h) hS (Or.inl ⟨by kernel_rfl, ?_⟩) ?_
          rotate_left
          · (intro V hSw; obtain ⟨hq1, hq2⟩ := HS9.out V hSw; go_simp; try with_reducible rfl)
          try simp only [Act.put]
          refine wpE_take 14 ⟨some 55, _, _, _, _, _⟩ (v := ?_) [15, 16] rfl (by kernel_rfl) (by kernel_rfl) (by kernel_rfl) (by kernel_rfl) (fun _ _ _ h => h) hS (Or.inl ⟨by kernel_rfl, ?_⟩) ?_
          rotate_left
          · (intro V hSw; obtain ⟨hq1, hq2⟩ := HS9.out V hSw; go_simp; try with_reducible rfl)
          try simp only [Act.put]
          refine wpE_take 15 ⟨some 56, _, _, _, _, _⟩ (v := ?_) [16] rfl (by kernel_rfl) (by kernel_rfl) (by kernel_rfl) (by kernel_rfl) (fun _ _ _ h => h) hS (Or.inl ⟨by kernel_rfl, ?_⟩) ?_
          rotate_left
          · (intro V hSw; obtain ⟨hq1, hq2⟩ := HS9.out V hSw; go_simp; try with_reducible rfl)
          try simp only [Act.put]
          refine wpE_last (by kernel_rfl) rfl (fun K' hK' => ?_)
          go_simp
          refine hK'.out _ _ ?_
          clear hK' K'
          refine wpE_done (by kernel_rfl) ?_ _
          try simp only [List.setIfInBounds_toArray, List.set_cons_succ, List.set_cons_zero]
          obtain ⟨V2, hV2⟩ : ∃ V2, V2 = (V1.setCell ⟨w.heap.size, 256 + i, none⟩ (.bool eu)).drew := ⟨_, rfl⟩
          rw [← hV2]
          have hm5 : MapAt V2 w.heap.size (upd T2 i (es + (j : Int))) (upd B2 i eu) := by rw [hV2]; exact (HM4.out.setBlank i HIN.out _).kept rfl
          have hb5 : Below w.heap.size w V2 := by rw [hV2]; exact (HB3.out.setCell (Nat.le_refl _) _).drew
          have HM5 := Lib.hid hm5; clear hm5
          have HB5 := Lib.hid hb5; clear hb5
          clear hV2 z1 z2
          have hj2 : ((j : Int) + 1) = ((j + 1 : Nat) : Int) := by omega
          have HJ2 := Lib.hid hj2; clear hj2
          go_wp2
          go_roundw
          case rel => exact ⟨j + 1, _, _, by omega, by go_num, HM5.out, HS3.out, HB5.out⟩
          case measure => simp [intOf]; omega
        · have hje : (j : Int) = en := by omega
          have hs2 := HNX.out T2 B2 (by have := HS2.out; rwa [hje] at this)
          have HS3 := Lib.hid hs2; clear hs2
          have hge' : ¬ (j : Int) < en := by omega
          have HJE := Lib.hid hje; clear hje
          go_wp2
          go_roundw
          case rel => exact ⟨k + 1, T2, B2, by omega, by go_num, HM2.out, HS3.out, HB2.out⟩
          case measure => simp [intOf]; omega

set_option maxRecDepth 100000 in
set_option maxHeartbeats 4000000 in
theorem fit_any (g : Nat) (T : Nat → Int) (B : Nat → Bool) (w : World) (h : MapAt w g T B) (hT : ∀ i, i < 256 → 0 ≤ T i ∧ T i ≤ 1024) :
    Calls Try.prog 41 #[.pointer (some ⟨g, 0, none⟩)] w fun E w' => ∃ A c, E = .returned (.tuple #[.slice A (fits (singles T B 256)).1.length c, .int .i64 (fits (singles T B 256)).2]) ∧ OwnX w' w.heap.size (.slice A (fits (singles T B 256)).1.length c) (fits (singles T B 256)).1 ∧ Below w.heap.size w w' := by
  have hg := gather_any g T B w h hT
  have h256 : (pack (singles T B 256)).length ≤ 256 := by
    have h1 := pack_len (singles T B 256)
    have h2 : (singles T B 256).length ≤ 256 := by unfold singles; exact Nat.le_trans (List.length_filterMap_le _ _) (by simp)
    omega
  unfold fits
  generalize pack (singles T B 256) = P at hg h256 ⊢
  clear h hT
  have HG := Lib.hid hg; clear hg
  by_cases hp : P.length ≤ 60
  · rw [if_pos hp]
    dsimp only
    obtain ⟨m, hm⟩ : ∃ m, m = P.length := ⟨_, rfl⟩
    have hm1 : ¬ (60 : Int) < (m : Int) := by omega
    go_enter Try.func41, Try.ntmps41
    go_wp2_with fail
    with_reducible refine HG.out.mono ?_
    rintro E V1 ⟨A1, c1, rfl, ho, hb⟩
    have HO := Lib.hid ho; clear ho
    have HB := Lib.hid hb; clear hb
    rw [← hm] at HO ⊢
    have HMM := Lib.hid hm; clear hm hp
    go_wp2
    go_ret2
    rw [← HMM.out]
    exact ⟨A1, c1, rfl, HO.out, HB.out⟩
  · rw [if_neg hp]
    obtain ⟨m, hm⟩ : ∃ m, m = P.length := ⟨_, rfl⟩
    have hm1 : (60 : Int) < (m : Int) := by omega
    go_enter Try.func41, Try.ntmps41
    go_wp2_with fail
    with_reducible refine HG.out.mono ?_
    rintro E V1 ⟨A1, c1, rfl, ho, hb⟩
    have HB := Lib.hid hb; clear hb ho
    rw [← hm]
    clear hm hp
    go_wp2
    go_ret2
    exact ⟨none, 0, rfl, OwnX.nil _ _, HB.out⟩
end Go.Proofs.Ytkhenchhafmlmaa.Ex
