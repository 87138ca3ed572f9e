/- The list that a block tells: the program's call. -/
import Derived.Test.YtmnajefioehheaaLfTake
import Derived.Test.YtmnajefioehheaaRegF
import Derived.Laws.EntriesVeiled
namespace Go.Proofs.Ytmnajefioehheaa.Lf
set_option maxRecDepth 20000
open Go.RowKit
open Go.Proofs.Ytmnajefioehheaa.Mem Go.Proofs.Ytmnajefioehheaa.Crc Go.Proofs.Ytmnajefioehheaa.Rec Go.Proofs.Ytmnajefioehheaa.Reg
attribute [local go_sem ↓] ldX_eq stX_eq

theorem exec_val {a : Act} {dst : Option Tmp} {x : Operand} {xs : Array Operand} {ts : Array TypeId} {ty : TypeId} {pos : String} {after : Array Edge} {guard : Option (Nat × Bool)} {f : FuncId} {caps : Array Value} (hx : a.eval x = .func (.func f) #[] caps) :
    execOp a.eval { dst, op := .call { callee := .value x, args := xs, argTypes := ts }, type := ty, pos, after, guard } = callFunc f (#[] ++ xs.map a.eval ++ caps) := by
  simp [execOp, resolve, Deferred.ofValue, invoke, hx]
theorem call_val {w : World} {o : Oper} {a : Act} {K : Act → World → Prop} {Q : Exit → Act → World → Prop} (f : FuncId) (fn : Func) (cd : Code) (x : Operand) (xs : Array Operand) (ts : Array TypeId) (caps : Array Value)
    (ho : o.op = .call { callee := .value x, args := xs, argTypes := ts }) (hx : a.eval x = .func (.func f) #[] caps) (hf : Try.prog.funcs[f]? = some fn) (hname : (fn.name == "runtime.NumGoroutine") = false) (hb : fn.body = some cd)
    (vals : Array Value) (hv : xs.map a.eval ++ caps = vals) (R : Ending → World → Prop) (hc : Calls Try.prog f vals w R)
    (h : ∀ e w', R e w' → ∃ v, e = .returned v ∧ K (a.put o.dst v) w') : Oper.wp Try.prog o a w K Q := by
  obtain ⟨dst, op, ty, pos, after, guard⟩ := o
  dsimp only at ho
  subst ho
  unfold Oper.wp
  rw [exec_val hx, Array.empty_append, hv]
  have hr : (callFunc f vals).run Try.prog w = .ok (.enter f vals) w := by
    have h1 : fn.name ≠ "runtime.NumGoroutine" := by simpa using hname
    simp [callFunc, hf, h1, hb]
  rw [hr]
  refine hc.mono fun e w' hR => ?_
  obtain ⟨v, rfl, hK⟩ := h e w' hR
  exact hK
theorem stP_len (b : List UInt8) : ∀ k, (stP b k).2.length = k
  | 0 => rfl
  | k + 1 => by unfold stP; rw [List.length_append, stP_len b k]; rfl
theorem ent_rep (r : List UInt8) : (entP r).rep := by
  have h1 := numAt_lt (r.take 4) (r.take 4).length
  have hp : 2 ^ (8 * (r.take 4).length) ≤ 2 ^ 32 := Nat.pow_le_pow_right (by omega) (by rw [List.length_take]; omega)
  have h2 := numAt_lt ((r.drop 4).take 1) ((r.drop 4).take 1).length
  have hp2 : 2 ^ (8 * ((r.drop 4).take 1).length) ≤ 2 ^ 8 := Nat.pow_le_pow_right (by omega) (by rw [List.length_take]; omega)
  refine ⟨⟨?_, ?_⟩, ?_⟩
  · show _ ≤ ((nmb (r.take 4) : Nat) : Int); unfold nmb; omega
  · show ((nmb (r.take 4) : Nat) : Int) ≤ _; unfold nmb; omega
  · show (((r.drop 4).drop 1).take (nmb ((r.drop 4).take 1))).length ≤ _
    rw [List.length_take]
    unfold nmb maxLen
    omega
theorem stP_rep (b : List UInt8) : ∀ k, ∀ x ∈ (stP b k).2, x.rep
  | 0, x, h => by cases h
  | k + 1, x, h => by
    unfold stP at h
    rcases List.mem_append.1 h with h | h
    · exact stP_rep b k x h
    · rw [List.mem_singleton.1 h]; exact ent_rep _
theorem OwnX.tn {w w' : World} {base g : Nat} {v : Value} {l : List Nm} (h : OwnX w base v l) (ht : Tn g g w w') (hg : g < base) : OwnX w' base v l :=
  h.kept fun k hk => ht.block k (h.lt k hk).2 (by have := (h.lt k hk).1; omega) (by have := (h.lt k hk).1; omega)
theorem Rest.grown {w w' : World} {g B : Nat} {bs : List UInt8} {row : Option Nat} (h : Rest w g B bs) (hg : w.grownBy w' row) (hr : ∀ k, row = some k → g < k) : Rest w' g B bs := by
  obtain ⟨b0, off, c, h⟩ := h
  have hlt : g < w.heap.size := (Array.getElem?_eq_some_iff.1 h.box).1
  have hkeep : ∀ i, i ≤ g → w'.heap[i]? = w.heap[i]? := fun i hi => hg.block i (by omega) (fun e => by have := hr i e.symm; omega)
  have hb : Below B w w' := ⟨hg.os, hg.tape, hg.output, hg.size, fun i hi => hkeep i (by have := h.base; omega)⟩
  exact ⟨b0, off, c, ⟨(hkeep g (Nat.le_refl _)).trans h.box, h.holds.below hb, h.room, h.len, h.base⟩⟩

theorem get1 (g gt B : Nat) (bs : List UInt8) (w : World) (h : Rest w g B bs) (ht : w.heap[gt]? = some (.cells #[takeV g] 56 (0, 0))) :
    Calls Try.prog 34 #[.int .i64 1, .pointer (some ⟨gt, 0, none⟩)] w fun e w' => e = .returned (.int .i64 (nmb (bs.take 1) : Int)) ∧ Rest w' g B (bs.drop 1) ∧ Tn g g w w' := get_any g gt B 1 bs w h ht (by omega)
theorem get2 (g gt B : Nat) (bs : List UInt8) (w : World) (h : Rest w g B bs) (ht : w.heap[gt]? = some (.cells #[takeV g] 56 (0, 0))) :
    Calls Try.prog 34 #[.int .i64 2, .pointer (some ⟨gt, 0, none⟩)] w fun e w' => e = .returned (.int .i64 (nmb (bs.take 2) : Int)) ∧ Rest w' g B (bs.drop 2) ∧ Tn g g w w' := get_any g gt B 2 bs w h ht (by omega)
theorem get4 (g gt B : Nat) (bs : List UInt8) (w : World) (h : Rest w g B bs) (ht : w.heap[gt]? = some (.cells #[takeV g] 56 (0, 0))) :
    Calls Try.prog 34 #[.int .i64 4, .pointer (some ⟨gt, 0, none⟩)] w fun e w' => e = .returned (.int .i64 (nmb (bs.take 4) : Int)) ∧ Rest w' g B (bs.drop 4) ∧ Tn g g w w' := get_any g gt B 4 bs w h ht (by omega)

set_option maxRecDepth 100000 in
set_option maxHeartbeats 4000000 in
theorem told_any (A : Option Addr) (c B : Nat) (b : List UInt8) (w : World) (h : Holds w B A 256 b) (hB : B ≤ w.heap.size) (hc : 256 ≤ c) :
    Calls Try.prog 25 #[.slice A 256 c] w fun e w' => ∃ A' c', e = .returned (.slice A' (toldP b).length c') ∧ OwnX w' w.heap.size (.slice A' (toldP b).length c') (toldP b) ∧ Below w.heap.size w w' := by
  obtain ⟨b0, off, rfl⟩ := Holds.addr h (by omega)
  have hbl := h.1
  have hs0 : ∀ W, (Instr.slice 24 (.slice (some ⟨b0, off, none⟩) 256 c) none (some (.int .i64 252)) none).run Try.prog W = .ok (.slice (some ⟨b0, off, none⟩) 252 c) W := fun W => run_slice_first W b0 off 256 c 252 252 rfl (by omega) (by omega)
  obtain ⟨g, hg⟩ : ∃ g, g = w.heap.size := ⟨_, rfl⟩
  obtain ⟨gt, hgt⟩ : ∃ gt, gt = w.heap.size + 1 := ⟨_, rfl⟩
  obtain ⟨W0, hW0⟩ : ∃ W0, W0 = (w.alloc (.cells #[.slice (some ⟨b0, off, none⟩) 252 c] 24)).alloc (.cells #[takeV w.heap.size] 56) := ⟨_, rfl⟩
  have hz1 : (w.alloc (.cells #[.slice (some ⟨b0, off, none⟩) 252 c] 24)).heap.size = w.heap.size + 1 := by simp
  have hz : W0.heap.size = w.heap.size + 2 := by rw [hW0]; simp
  have hb0 : Below w.heap.size w W0 := by rw [hW0]; exact ((Below.refl _ w).alloc (Nat.le_refl _) _).alloc (by simp) _
  have hbox : W0.heap[w.heap.size]? = some (.cells #[.slice (some ⟨b0, off, none⟩) 252 c] 24 (0, 0)) := by
    rw [hW0]; exact (Below.heap_alloc _ _ _ (by rw [hz1]; omega)).trans (heap_alloc_new w _)
  have hgt0 : W0.heap[gt]? = some (.cells #[takeV g] 56 (0, 0)) := by
    rw [hW0, hgt, hg, ← hz1]; exact heap_alloc_new _ _
  have hrest0 : Rest W0 g B (b.take 252) := by
    have hl : (b.take 252).length = 252 := by rw [List.length_take]; omega
    refine ⟨b0, off, c, ⟨by rw [hl, hg]; exact hbox, ?_, by rw [hl]; omega, by rw [hl]; omega, by omega⟩⟩
    rw [hl]
    exact Holds.take (h.below (hb0.mono hB)) (by omega)
  have hne : gt ≠ g := by omega
  have hgb : g < w.heap.size + 2 := by omega
  have hgtb : gt < w.heap.size + 2 := by omega
  have hbg : w.heap.size ≤ g := by omega
  clear hbox hz1
  unfold takeV at hW0
  have HW0 := Lib.hid hW0; clear hW0
  have HGG := Lib.hid hg; clear hg
  have HGTG := Lib.hid hgt; clear hgt
  have HNE := Lib.hid hne; clear hne
  have HB0 := Lib.hid hb0; clear hb0
  have HGT0 := Lib.hid hgt0; clear hgt0
  have HREST0 := Lib.hid hrest0; clear hrest0 h
  have hW0s : w.heap.size ≤ W0.heap.size := HB0.out.size
  have hget := get2 g gt B _ W0 HREST0.out HGT0.out
  have HGET := Lib.hid hget; clear hget
  go_enter Try.func25, Try.ntmps25
  go_wp2_with fail
  rw [← HW0.out, ← HGTG.out]
  clear hs0
  with_reducible refine HGET.out.mono ?_
  rintro E V1 ⟨rfl, hr1, ht1⟩
  have hgt1 : V1.heap[gt]? = some (.cells #[takeV g] 56 (0, 0)) := (ht1.block gt (by omega) HNE.out HNE.out).trans HGT0.out
  have HGT1 := Lib.hid hgt1; clear hgt1
  have hV1 : w.heap.size + 2 ≤ V1.heap.size := by have := ht1.size; omega
  have HB1 : Hid (Below w.heap.size w V1) := Lib.hid (HB0.out.trans (ht1.below hW0s hbg hbg))
  have hget := get2 g gt B _ V1 hr1 HGT1.out
  have HGET1 := Lib.hid hget; clear hget HGET hr1 ht1
  obtain ⟨mny, hmny⟩ : ∃ mny, mny = nmb ((b.take 252).take 2) := ⟨_, rfl⟩
  rw [← hmny]
  have HMNY := Lib.hid hmny; clear hmny
  go_wp2_with fail
  with_reducible refine HGET1.out.mono ?_
  rintro E V2 ⟨rfl, hr2, ht2⟩
  have hgt2 : V2.heap[gt]? = some (.cells #[takeV g] 56 (0, 0)) := (ht2.block gt (by omega) HNE.out HNE.out).trans HGT1.out
  have HGT2 := Lib.hid hgt2; clear hgt2
  have hV2 : w.heap.size + 2 ≤ V2.heap.size := by have := ht2.size; omega
  have HB2 : Hid (Below w.heap.size w V2) := Lib.hid (HB1.out.trans (ht2.below (by omega) hbg hbg))
  have HR2 := Lib.hid hr2; clear hr2 ht2 HGET1 HGT1
  obtain ⟨M, hM⟩ : ∃ M, M = min mny 41 := ⟨_, rfl⟩
  have hmin : ∀ (ts : Array TypeId) (t : TypeId) (W : World), (Builtin.min_ ts t #[.int .i64 (mny : Int), .int .i64 41]).run Try.prog W = .ok (.int .i64 (M : Int)) W := fun ts t W => by
    rw [run_min_int2]
    congr 2
    split <;> omega
  have htold : toldP b = (stP b M).2 := by unfold toldP; rw [hM, HMNY.out]; rfl
  have HTOLD := Lib.hid htold; clear htold
  have hM41 : M ≤ 41 := by omega
  clear hM HMNY
  generalize nmb (((b.take 252).drop 2).take 2) = sz
  go_wp2
  go_loopw [7, 20] (fun lv i wr => ∃ (k : Nat) (Al : Option Addr) (cl : Nat), k ≤ M ∧ i = .int .i64 (k : Int) ∧ lv = .slice Al k cl ∧ OwnX wr (w.heap.size + 2) (.slice Al k cl) (stP b k).2 ∧ Rest wr g B (stP b k).1 ∧ wr.heap[gt]? = some (.cells #[takeV g] 56 (0, 0)) ∧ w.heap.size + 2 ≤ wr.heap.size ∧ Below w.heap.size w wr) (fun _ i _ => M - (intOf i).toNat)
  case atStart => exact ⟨0, none, 0, Nat.zero_le _, rfl, rfl, OwnX.nil _ _, HR2.out, HGT2.out, hV2, HB2.out⟩
  case round =>
    obtain ⟨k, Al, cl, hk, rfl, rfl, hown, hrest, hgtr, hwr, hbr⟩ := hrel
    rcases Nat.lt_or_ge k M with hlt | hge
    rotate_left
    · obtain rfl : k = M := by omega
      have hkn : ¬ (k : Int) < (k : Int) := by omega
      have HO := Lib.hid (hown.mono (show w.heap.size ≤ w.heap.size + 2 by omega)); clear hown
      have HBR := Lib.hid hbr; clear hbr hrest hgtr
      have hsl := stP_len b k
      have HSL := Lib.hid hsl; clear hsl
      go_wp2
      go_ret
      refine ⟨Al, cl, ?_, ?_, HBR.out⟩
      · rw [HTOLD.out, HSL.out]; rfl
      · rw [HTOLD.out, HSL.out]; exact HO.out
    · have hkn : (k : Int) < (M : Int) := by omega
      have hget := get4 g gt B _ wr hrest hgtr
      obtain ⟨R, hR⟩ : ∃ R, R = (stP b k).1 := ⟨_, rfl⟩
      rw [← hR] at hget
      have HRR := Lib.hid hR; clear hR
      have HGT := Lib.hid hgtr; clear hgtr
      have HOWN := Lib.hid hown; clear hown
      have HBR := Lib.hid hbr; clear hbr
      have HGET := Lib.hid hget; clear hget hrest
      go_wp2_with fail
      with_reducible refine HGET.out.mono ?_
      rintro E V1 ⟨rfl, hr1, ht1⟩
      have hgl : gt < wr.heap.size := (Array.getElem?_eq_some_iff.1 HGT.out).1
      have hgt1 : V1.heap[gt]? = some (.cells #[takeV g] 56 (0, 0)) := (ht1.block gt hgl HNE.out HNE.out).trans HGT.out
      have HGT1 := Lib.hid hgt1; clear hgt1
      have HGTL1 : Hid (gt < V1.heap.size) := Lib.hid (by have := ht1.size; omega)
      have hget1 := get1 g gt B _ V1.drew (hr1.below (Below.refl _ V1).drew) HGT1.out
      have HT1 := Lib.hid ht1; clear ht1 hr1
      obtain ⟨ei, hei⟩ : ∃ ei, ei = nmb (R.take 4) := ⟨_, rfl⟩
      obtain ⟨nl, hnl⟩ : ∃ nl, nl = nmb ((R.drop 4).take 1) := ⟨_, rfl⟩
      rw [← hei]
      rw [← hnl] at hget1
      have HGET1 := Lib.hid hget1; clear hget1 HGET
      have HEI := Lib.hid hei; clear hei
      have HNL := Lib.hid hnl; clear hnl
      go_wp2_with fail
      refine wp_region_E (fun V => V.cell? ⟨gt, 0, none⟩ = some (takeV g)) 99 rfl ?_
      have hS := (show V1.drew.cell? ⟨gt, 0, none⟩ = some (takeV g) from cell_of_row V1 gt 0 _ _ _ HGT1.out)
      refine wpE_takeF 0 ⟨some 24, _, _, _, _, _⟩ (v := ?_) (by decide) rfl (by kernel_rfl) (by kernel_rfl) (by kernel_rfl) (fun _ _ _ h => h) hS (Or.inl ⟨by kernel_rfl, ?_⟩) ?_
      rotate_left
      · (intro V hSw; have hq := hSw; go_simp; try with_reducible rfl)
      try simp only [Act.put]
      refine wpE_takeF 1 ⟨some 25, _, _, _, _, _⟩ (v := ?_) (by decide) rfl (by kernel_rfl) (by kernel_rfl) (by kernel_rfl) (fun _ _ _ h => h) hS (Or.inl ⟨by kernel_rfl, ?_⟩) ?_
      rotate_left
      · (intro V hSw; have hq := hSw; go_simp; try with_reducible rfl)
      try simp only [Act.put]
      refine wpE_one 2 (o := ⟨some 26, _, _, _, _, _⟩) (by kernel_rfl) rfl (fun K' hK' => ?_)
      rw [if_pos (by kernel_rfl)]
      refine call_val 34 _ _ _ _ _ _ rfl rfl Try.func34 (by kernel_rfl) rfl _ ?hv _ HGET1.out ?_
      case hv => simp only [List.map_toArray, List.map_cons, List.map_nil]; go_simp
      rintro E V2 ⟨rfl, hr2, ht2⟩
      have hgt2 : V2.heap[gt]? = some (.cells #[takeV g] 56 (0, 0)) := (ht2.block gt (by have := HGTL1.out; exact this) HNE.out HNE.out).trans HGT1.out
      have HT2 := Lib.hid ht2; clear ht2
      have htake := take_any g B nl _ V2 hr2
      have HTAKE := Lib.hid htake; clear htake
      have HGT2 := Lib.hid hgt2; clear hgt2
      refine ⟨_, rfl, hK'.out _ _ (cell_of_row V2 gt 0 _ _ _ HGT2.out) (fun hS => ?_)⟩
      clear hK' K'
      try simp only [Act.put]
      refine wpE_one 3 (o := ⟨some 27, _, _, _, _, _⟩) (by kernel_rfl) rfl (fun K' hK' => ?_)
      rw [if_pos (by kernel_rfl)]
      refine call_val 33 _ _ _ _ _ #[.pointer (some ⟨g, 0, none⟩)] rfl rfl Try.func33 (by kernel_rfl) rfl _ ?hv _ HTAKE.out ?_
      case hv => simp only [List.map_toArray, List.map_cons, List.map_nil]; go_simp
      rintro E V3 ⟨A3, c3, rfl, hh3, hr3, ht3⟩
      obtain ⟨TL, hTL⟩ : ∃ TL, TL = (((R.drop 4).drop 1).take nl).length := ⟨_, rfl⟩
      rw [← hTL] at hh3 ⊢
      clear hTL
      have hgl2 : gt < V2.heap.size := (Array.getElem?_eq_some_iff.1 HGT2.out).1
      have hgt3 : V3.heap[gt]? = some (.cells #[takeV g] 56 (0, 0)) := (ht3.block gt hgl2 HNE.out HNE.out).trans HGT2.out
      have HGT3 := Lib.hid hgt3; clear hgt3
      have HT3 := Lib.hid ht3; clear ht3
      have HH3 := Lib.hid hh3; clear hh3
      have HR3 := Lib.hid hr3; clear hr3
      refine ⟨_, rfl, hK'.out _ _ (cell_of_row V3 gt 0 _ _ _ HGT3.out) (fun hS => ?_)⟩
      clear hK' K'
      try simp only [Act.put]
      refine wpE_takeF 4 ⟨some 9, _, _, _, _, _⟩ (v := ?_) (by decide) rfl (by kernel_rfl) (by kernel_rfl) (by kernel_rfl) (fun _ _ _ h => h) hS (Or.inl ⟨by kernel_rfl, ?_⟩) ?_
      rotate_left
      · (intro V hSw; go_simp; try with_reducible rfl)
      try simp only [Act.put]
      refine wpE_done (by kernel_rfl) ?_ _
      try simp only [List.setIfInBounds_toArray, List.set_cons_succ, List.set_cons_zero]
      have hown3 : OwnX V3 (w.heap.size + 2) (.slice Al k cl) (stP b k).2 := (((HOWN.out.tn HT1.out hgb).below (Below.refl _ V1).drew).tn HT2.out hgb).tn HT3.out hgb
      have hV1s : w.heap.size + 2 ≤ V1.heap.size := by have := HT1.out.size; omega
      have hV2s : w.heap.size + 2 ≤ V2.heap.size := by have := HT2.out.size; exact Nat.le_trans hV1s this
      have hV3s : w.heap.size + 2 ≤ V3.heap.size := by have := HT3.out.size; omega
      have hb3 : Below w.heap.size w V3 := ((HBR.out.trans (HT1.out.below (by omega) hbg hbg)).drew.trans (HT2.out.below (by have : V1.drew.heap.size = V1.heap.size := rfl; omega) hbg hbg)).trans (HT3.out.below (by omega) hbg hbg)
      have hconv := run_text V3 B A3 TL c3 _ HH3.out
      obtain ⟨part, hpart⟩ : ∃ part, part = ((R.drop 4).drop 1).take nl := ⟨_, rfl⟩
      rw [← hpart] at hconv
      have hent : entP R = ⟨part, (ei : Int)⟩ := by unfold entP; rw [hpart, HEI.out, HNL.out]
      have hnext : (stP b (k + 1)).2 = (stP b k).2 ++ [⟨part, (ei : Int)⟩] := by rw [← hent, HRR.out]; rfl
      have hrestN : (stP b (k + 1)).1 = ((R.drop 4).drop 1).drop nl := by rw [HRR.out, HNL.out, HRR.out]; rfl
      obtain ⟨v', V4, hrun, hown4, hgr⟩ := run_appX V3 (w.heap.size + 2) _ _ hown3 ⟨part, (ei : Int)⟩ 22 (by rw [stP_len]; omega) hV3s
      rw [← hnext] at hown4
      obtain ⟨A4, c4, rfl⟩ := hown4.shape
      rw [stP_len] at hrun hown4 hgr
      have hlt4 : ∀ q, (Value.slice Al k cl).ownBlock = some q → w.heap.size + 2 ≤ q := fun q hq => (hown3.lt q hq).1
      have hr4 : Rest V4 g B (stP b (k + 1)).1 := by
        rw [hrestN]
        exact HR3.out.grown hgr.1 (fun q hq => by have := hlt4 q hq; omega)
      have hgt4 : V4.heap[gt]? = some (.cells #[takeV g] 56 (0, 0)) := by
        have h1 : gt < V3.heap.size := (Array.getElem?_eq_some_iff.1 HGT3.out).1
        exact (hgr.1.block gt h1 (fun e => by have := hlt4 gt e.symm; omega)).trans HGT3.out
      have hb4 : Below w.heap.size w V4 := hb3.trans (hgr.below (by omega) (fun q hq => by have := hlt4 q hq; omega))
      have hV4s : w.heap.size + 2 ≤ V4.heap.size := Nat.le_trans hV3s hgr.1.size
      obtain ⟨S, hS⟩ : ∃ S : ByteArray, S = ⟨part.toArray⟩ := ⟨_, rfl⟩
      rw [← hS] at hconv
      dsimp only at hrun
      rw [← hS] at hrun
      have HO4 := Lib.hid hown4; clear hown4
      have HR4 := Lib.hid hr4; clear hr4
      have HGT4 := Lib.hid hgt4; clear hgt4
      have HB4 := Lib.hid hb4; clear hb4
      clear hS hpart hent hnext hrestN hown3 hb3 hgr hlt4 HH3 HR3
      go_wp2_with (at_builtin; refine wpList_apprun rfl _ _ _ _ (by rfl) _ _ (by rfl) (by rfl) _ _ hrun ?_)
      go_wp2
      go_roundw
      case rel => exact ⟨k + 1, A4, c4, by omega, by go_num, rfl, HO4.out, HR4.out, HGT4.out, hV4s, HB4.out⟩
      case measure => simp [intOf]; omega
end Go.Proofs.Ytmnajefioehheaa.Lf
