/- Contracts of slices.Concat and Put. -/
import Derived.Test.YtkhenchhafmlmaaExRight
import Derived.Test.YtkhenchhafmlmaaExCuts
import Derived.Test.YtkhenchhafmlmaaExConcat
import Derived.Test.YtkhenchhafmlmaaRegF
namespace Go.Proofs.Ytkhenchhafmlmaa.Ex
set_option maxRecDepth 20000
open Go.RowKit
open Go.Proofs.Ytkhenchhafmlmaa.Mem Go.Proofs.Ytkhenchhafmlmaa.Crc Go.Proofs.Ytkhenchhafmlmaa.Rec Go.Proofs.Ytkhenchhafmlmaa.Reg
attribute [local go_sem ↓] ldX_eq stX_eq

theorem concat_go (A1 A2 A3 : Option Addr) (n1 n2 n3 c1 c2 c3 g B : Nat) (l1 l2 l3 : List X) (w : World) (hg : w.heap[g]? = some (.cells #[.slice A1 n1 c1, .slice A2 n2 c2, .slice A3 n3 c3] 22 (0, 0)))
    (h1 : HoldsX w B A1 n1 l1) (h2 : HoldsX w B A2 n2 l2) (h3 : HoldsX w B A3 n3 l3) (hB : B ≤ w.heap.size) (hn1 : n1 ≤ 100) (hn2 : n2 ≤ 100) (hn3 : n3 ≤ 100) (h0 : 0 < n1 + n2 + n3) :
    Calls Try.prog 37 #[.slice (some ⟨g, 0, none⟩) 3 3] w fun E w' => ∃ A c, E = .returned (.slice A (n1 + n2 + n3) c) ∧ OwnX w' w.heap.size (.slice A (n1 + n2 + n3) c) (l1 ++ l2 ++ l3) ∧ Below w.heap.size w w' := by
  obtain ⟨f, hf⟩ : ∃ f : Nat → Option Addr × Nat × Nat × List X, f = fun k => match k with | 0 => (A1, n1, c1, l1) | 1 => (A2, n2, c2, l2) | _ => (A3, n3, c3, l3) := ⟨_, rfl⟩
  obtain ⟨cs, hcs⟩ : ∃ cs, cs = #[Value.slice A1 n1 c1, .slice A2 n2 c2, .slice A3 n3 c3] := ⟨_, rfl⟩
  rw [← hcs] at hg
  have hel : ∀ k, k < 3 → cs[k]? = some (.slice (f k).1 (f k).2.1 (f k).2.2.1) ∧ HoldsX w B (f k).1 (f k).2.1 (f k).2.2.2 ∧ (f k).2.1 ≤ 100 := fun k hk => by
    rcases (show k = 0 ∨ k = 1 ∨ k = 2 by omega) with rfl | rfl | rfl
    · rw [hcs, hf]; exact ⟨rfl, h1, hn1⟩
    · rw [hcs, hf]; exact ⟨rfl, h2, hn2⟩
    · rw [hcs, hf]; exact ⟨rfl, h3, hn3⟩
  obtain ⟨sz, hsz⟩ : ∃ sz : Nat → Nat, sz = fun k => match k with | 0 => 0 | 1 => n1 | 2 => n1 + n2 | _ => n1 + n2 + n3 := ⟨_, rfl⟩
  have hszs : ∀ k, k < 3 → sz (k + 1) = sz k + (f k).2.1 := fun k hk => by
    rcases (show k = 0 ∨ k = 1 ∨ k = 2 by omega) with rfl | rfl | rfl
    · rw [hsz, hf]; simp
    · rw [hsz, hf]; rfl
    · rw [hsz, hf]; rfl
  obtain ⟨ls, hls⟩ : ∃ ls : Nat → List X, ls = fun k => match k with | 0 => [] | 1 => l1 | 2 => l1 ++ l2 | _ => l1 ++ l2 ++ l3 := ⟨_, rfl⟩
  have hlss : ∀ k, k < 3 → ls (k + 1) = ls k ++ (f k).2.2.2 := fun k hk => by
    rcases (show k = 0 ∨ k = 1 ∨ k = 2 by omega) with rfl | rfl | rfl
    · rw [hls, hf]; simp
    · rw [hls, hf]; rfl
    · rw [hls, hf]; rfl
  have hszl : ∀ k, k ≤ 3 → (ls k).length = sz k ∧ sz k ≤ 300 := fun k hk => by
    have e1 := h1.1
    have e2 := h2.1
    have e3 := h3.1
    rcases (show k = 0 ∨ k = 1 ∨ k = 2 ∨ k = 3 by omega) with rfl | rfl | rfl | rfl
    · rw [hls, hsz]; simp
    · rw [hls, hsz]; simp only; omega
    · rw [hls, hsz]; simp only [List.length_append]; omega
    · rw [hls, hsz]; simp only [List.length_append]; omega
  have hs0 : sz 0 = 0 := by rw [hsz]; rfl
  have hl0 : ls 0 = [] := by rw [hls]; rfl
  have hs3 : sz 3 = n1 + n2 + n3 := by rw [hsz]; rfl
  have hl3 : ls 3 = l1 ++ l2 ++ l3 := by rw [hls]; rfl
  obtain ⟨N, hN⟩ : ∃ N, N = n1 + n2 + n3 := ⟨_, rfl⟩
  have hN3 : N ≤ 300 := by omega
  rw [← hN] at h0 hs3 ⊢
  rw [← hl3]
  have hgrow := fun W => grow_any N h0 (by omega) W
  have HEL := Lib.hid hel; clear hel
  have HSZS := Lib.hid hszs; clear hszs
  have HLSS := Lib.hid hlss; clear hlss
  have HSZL := Lib.hid hszl; clear hszl
  have HS0 := Lib.hid hs0; clear hs0
  have HL0 := Lib.hid hl0; clear hl0
  have HS3 := Lib.hid hs3; clear hs3
  have HL3 := Lib.hid hl3; clear hl3
  have HG := Lib.hid hg; clear hg
  have HGROW := Lib.hid hgrow; clear hgrow
  clear hf hcs hsz hls hN h1 h2 h3 hn1 hn2 hn3
  have hgl : g < w.heap.size := (Array.getElem?_eq_some_iff.1 HG.out).1
  have HGL := Lib.hid hgl; clear hgl
  go_enter Try.func37, Try.ntmps37
  go_wp2
  go_loopw [3, 11] (fun z i wr => ∃ k : Nat, k ≤ 3 ∧ i = .int .i64 (k : Int) ∧ z = .int .i64 (sz k : Int) ∧ Below w.heap.size w wr) (fun _ i _ => 3 - (intOf i).toNat)
  case atStart => exact ⟨0, by omega, rfl, by rw [HS0.out]; rfl, Below.refl _ _⟩
  case round =>
    obtain ⟨k, hk, rfl, rfl, hbr⟩ := hrel
    rcases Nat.lt_or_ge k 3 with hlt | hge
    · obtain ⟨hel1, -, hel3⟩ := HEL.out k hlt
      have hcell : wr.cell? ⟨g, k, none⟩ = some (.slice (f k).1 (f k).2.1 (f k).2.2.1) := by
        have := cell_of_row wr g k _ _ _ ((hbr.block g HGL.out).trans HG.out)
        rw [this]; exact hel1
      have hss := HSZS.out k hlt
      have hszl := (HSZL.out k (by omega)).2
      generalize (f k).1 = fa at hcell
      generalize (f k).2.1 = fn at hcell hss hel3
      generalize (f k).2.2.1 = fc at hcell
      obtain ⟨s0, hs0⟩ : ∃ s0, s0 = sz k := ⟨_, rfl⟩
      rw [← hs0] at hszl hss ⊢
      have hsum : IntKind.i64.wrap ((s0 : Int) + (fn : Int)) = (s0 : Int) + (fn : Int) := by rw [IntKind.wrap_i64]; omega
      have hneg : ¬ ((s0 : Int) + (fn : Int) < 0) := by omega
      have hk0 : (0 : Int) ≤ (k : Int) := by omega
      have hk3 : (k : Int) < 3 := by omega
      have HSS := Lib.hid hss; clear hss hel1
      have HS0' := Lib.hid hs0; clear hs0
      have HBR := Lib.hid hbr; clear hbr
      go_wp2
      go_roundw
      case rel => exact ⟨k + 1, by omega, by go_num, by rw [HSS.out]; go_num, HBR.out⟩
      case measure => simp [intOf]; omega
    · have hk3 : k = 3 := by omega
      have hszk : sz k = N := by rw [hk3]; exact HS3.out
      rw [hszk]
      have HBR := Lib.hid hbr; clear hbr
      have HK3 := Lib.hid hk3; clear hk3 hszk
      have hge' : ¬ (k : Int) < 3 := by omega
      go_wp2_with fail
      with_reducible refine (HGROW.out wr).mono ?_
      rintro E V ⟨A, c, rfl, ho, hb⟩
      have HO : Hid (OwnX V w.heap.size (.slice A 0 c) []) := Lib.hid (ho.mono HBR.out.size)
      have HBV : Hid (Below w.heap.size w V) := Lib.hid (HBR.out.trans (hb.mono HBR.out.size))
      clear ho hb
      go_wp2
      go_loopw [6, 27] (fun v i wr => ∃ (k : Nat) (A : Option Addr) (c q : Nat), k ≤ 3 ∧ q = sz k ∧ i = .int .i64 (k : Int) ∧ v = .slice A q c ∧ OwnX wr w.heap.size (.slice A q c) (ls k) ∧ Below w.heap.size w wr) (fun _ i _ => 3 - (intOf i).toNat)
      case atStart => exact ⟨0, A, c, 0, by omega, HS0.out.symm, rfl, rfl, by rw [HL0.out]; exact HO.out, HBV.out⟩
      case round =>
        clear HO HBV HK3 hge' hge hk
        obtain ⟨k, A, c, q, hk, hq, rfl, rfl, ho, hbr⟩ := hrel
        rcases Nat.lt_or_ge k 3 with hlt | hge
        · obtain ⟨hel1, hel2, hel3⟩ := HEL.out k hlt
          have hcell : wr.cell? ⟨g, k, none⟩ = some (.slice (f k).1 (f k).2.1 (f k).2.2.1) := by
            have := cell_of_row wr g k _ _ _ ((hbr.block g HGL.out).trans HG.out)
            rw [this]; exact hel1
          have hszl := HSZL.out k (by omega)
          obtain ⟨v', w', hrun, ho', hgr⟩ := run_addX wr 22 w.heap.size _ _ ho B (f k).1 (f k).2.1 (f k).2.2.1 _ (hel2.below (hbr.mono hB)) (by omega) hbr.size
          rw [← HLSS.out k hlt] at ho'
          obtain ⟨A', c', hv'⟩ := ho'.shape
          have hb' : Below w.heap.size w w' := hbr.trans (hgr.below hbr.size (fun j hj => (ho.lt j hj).1))
          have hq' := (HSZL.out (k + 1) (by omega)).1
          rw [hq'] at hv'
          subst hv'
          have HO' := Lib.hid ho'; clear ho' ho hgr
          have HB' := Lib.hid hb'; clear hb' hbr
          have HQ := Lib.hid hq; clear hq
          clear hel1 hel2 hel3 hszl hq'
          generalize (f k).1 = fa at hcell hrun
          generalize (f k).2.1 = fn at hcell hrun
          generalize (f k).2.2.1 = fc at hcell hrun
          have hk0 : (0 : Int) ≤ (k : Int) := by omega
          have hk3 : (k : Int) < 3 := by omega
          obtain ⟨q1, hq1⟩ : ∃ q1, q1 = sz (k + 1) := ⟨_, rfl⟩
          rw [← hq1] at HO' hrun
          have HQ1 := Lib.hid hq1; clear hq1
          go_wp2_with (at_builtin; refine wpList_apprun rfl _ _ _ _ (by rfl) _ _ (by rfl) (by rfl) _ _ hrun ?_)
          clear hrun
          go_wp2
          go_roundw
          case rel => exact ⟨k + 1, A', c', q1, by omega, HQ1.out, by go_num, rfl, HO'.out, HB'.out⟩
          case measure => simp [intOf]; omega
        · have hk3 : k = 3 := by omega
          have hqN : q = N := by rw [hq, hk3]; exact HS3.out
          have HO : Hid (OwnX wr w.heap.size (.slice A N c) (ls 3)) := Lib.hid (by rw [← hqN]; rw [hk3] at ho; exact ho)
          have HBR := Lib.hid hbr; clear hbr
          have HQN := Lib.hid hqN; clear hqN hk3 hq ho
          have hge' : ¬ (k : Int) < 3 := by omega
          go_wp2
          go_ret
          exact ⟨A, c, by rw [HQN.out]; rfl, HO.out, HBR.out⟩

theorem slice_to (A : Option Addr) (n c h : Nat) (hh : h ≤ n) (hc : n ≤ c) : ∃ A', (∀ W, (Instr.slice 22 (.slice A n c) none (some (.int .i64 (h : Int))) none).run Try.prog W = .ok (.slice A' h c) W) ∧ ∀ V B l, HoldsX V B A n l → HoldsX V B A' h (l.take h) := by
  refine ⟨if c = 0 then A else A.map (·.add 0), fun W => ?_, fun V B l hl => ?_⟩
  · rw [run_slice_h (P := Try.prog) W 22 A n c (by rw [Try.underlying22]; rfl) .i64 (h : Int) (by omega) (by omega)]
    have hs : (sizeOf (Try.prog.elem 22)).run Try.prog W = .ok 4 W := by rfl
    rw [hs]
    simp [Result.andThen, sliced]
  · have h1 := hl.take hh
    refine ⟨h1.1, fun h0 => ?_⟩
    obtain ⟨b, off, rfl, hb, hcell⟩ := h1.2 h0
    refine ⟨b, off, ?_, hb, hcell⟩
    split
    · rfl
    · simp [Addr.add]
theorem slice_from (A : Option Addr) (n c h : Nat) (hh : h ≤ n) (hc : n ≤ c) : ∃ A', (∀ W, (Instr.slice 22 (.slice A n c) (some (.int .i64 (h : Int))) none none).run Try.prog W = .ok (.slice A' (n - h) (c - h)) W) ∧ ∀ V B l, HoldsX V B A n l → HoldsX V B A' (n - h) (l.drop h) := by
  refine ⟨if c = h then A else A.map (·.add (h * 4)), fun W => ?_, fun V B l hl => ?_⟩
  · rw [run_slice_l (P := Try.prog) W 22 A n c (by rw [Try.underlying22]; rfl) .i64 (h : Int) (by omega) (by omega)]
    have hs : (sizeOf (Try.prog.elem 22)).run Try.prog W = .ok 4 W := by rfl
    rw [hs]
    simp [Result.andThen, sliced]
  · refine ⟨by rw [List.length_drop, hl.1], fun h0 => ?_⟩
    obtain ⟨b, off, rfl, hb⟩ := hl.addr (by omega)
    have h1 := hl.sub (i := h) (m := n - h) (by omega)
    obtain ⟨b', off', e, hb', hcell⟩ := h1.2 h0
    injection e with e
    injection e with e1 e2
    subst e1 e2
    have ht : (l.drop h).take (n - h) = l.drop h := List.take_of_length_le (by rw [List.length_drop, hl.1]; exact Nat.le_refl _)
    rw [ht] at hcell
    refine ⟨b, off + h * 4, ?_, hb, hcell⟩
    rw [if_neg (by omega)]
    simp [Addr.add]
theorem meets_take {l : List X} {e : X} (h : ∀ j, (hj : j < l.length) → (meet (l[j]).a (l[j]).n e.a e.n || meet (l[j]).s (l[j]).n e.s e.n) = false) : meets l e = false := by
  unfold meets
  rw [List.any_eq_false]
  intro x hx
  obtain ⟨j, hj, rfl⟩ := List.getElem_of_mem hx
  simpa using h j hj
theorem meets_yes {l : List X} {e : X} {j : Nat} (hj : j < l.length) (h : (meet (l[j]).a (l[j]).n e.a e.n || meet (l[j]).s (l[j]).n e.s e.n) = true) : meets l e = true := by
  unfold meets
  rw [List.any_eq_true]
  exact ⟨l[j], List.getElem_mem hj, h⟩
theorem ahead_snoc (l : List X) (e : X) (k : Nat) (hk : k < l.length) : ahead (l.take (k + 1)) e = ahead (l.take k) e + if (l[k]).a < e.a then 1 else 0 := by
  unfold ahead
  rw [List.take_succ_eq_append_getElem hk, List.filter_append, List.length_append]
  congr 1
  by_cases h : (l[k]).a < e.a
  · simp [h]
  · simp [h]
theorem ahead_le (l : List X) (e : X) : ahead l e ≤ l.length := List.length_filter_le _ _

set_option maxRecDepth 100000 in
set_option maxHeartbeats 4000000 in
theorem put_any (A : Option Addr) (n c B : Nat) (l : List X) (e : X) (w : World) (h : HoldsX w B A n l) (hB : B ≤ w.heap.size) (hr : ∀ x ∈ l, x.rep) (hre : e.rep) (hc : n ≤ c) :
    Calls Try.prog 13 #[.slice A n c, .agg e.c] w fun E w' => ∃ A1 c1, E = .returned (.tuple #[.slice A1 (putL l e).1.length c1, .int .i64 (putL l e).2]) ∧ OwnX w' w.heap.size (.slice A1 (putL l e).1.length c1) (putL l e).1 ∧ Below w.heap.size w w' := by
  obtain ⟨W, hW⟩ : ∃ W, W = w.alloc (.cells e.c 24) := ⟨_, rfl⟩
  have hbw : Below w.heap.size w W := by rw [hW]; exact (Below.refl _ _).alloc (Nat.le_refl _) _
  have hve : VarX W w.heap.size e := hW ▸ VarX.new w e
  have hz : W.heap.size = w.heap.size + 1 := by rw [hW]; simp
  have hright := fun V (hV : Below w.heap.size w V) => right_any A n c B l V (h.below (hV.mono hB)) (by have := hV.size; omega) hr hc
  have hmay := fun V => may_any e hre V
  have hvar : ∀ V, Below W.heap.size W V → VarX V w.heap.size e := fun V hV => hve.keep hV (by omega)
  have HVAR := Lib.hid hvar; clear hvar
  have HBW := Lib.hid hbw; clear hbw
  have HZ := Lib.hid hz; clear hz
  have HWE := Lib.hid hW; clear hW hve
  obtain ⟨res, hres⟩ : ∃ res, res = putL l e := ⟨_, rfl⟩
  rw [← hres]
  have HRES := Lib.hid hres; clear hres
  cases hrl : right l with
  | false =>
    rw [hrl] at hright
    have hrr : res = ([], 1) := by rw [HRES.out]; simp [putL, hrl]
    have HRR := Lib.hid hrr; clear hrr
    have HR := Lib.hid hright; clear hright
    clear h hr hrl hmay hre
    generalize e.c = EC at HWE ⊢
    go_enter Try.func13, Try.ntmps13
    go_wp2_with fail
    rw [← HWE.out]
    with_reducible refine (HR.out W HBW.out).mono ?_
    rintro E V ⟨rfl, hb⟩
    have HB : Hid (Below w.heap.size w V) := Lib.hid (HBW.out.trans (hb.mono HBW.out.size)); clear hb
    go_wp2
    go_ret2
    rw [HRR.out]
    exact ⟨none, 0, rfl, OwnX.nil _ _, HB.out⟩
  | true =>
    rw [hrl] at hright
    cases hem : e.may with
    | false =>
      rw [hem] at hmay
      have hrr : res = ([], 1) := by rw [HRES.out]; simp [putL, hrl, hem]
      have HRR := Lib.hid hrr; clear hrr
      have HR := Lib.hid hright; clear hright
      have HM := Lib.hid hmay; clear hmay
      have hld : ∀ V, Below W.heap.size W V → (ldX (.pointer (some ⟨w.heap.size, 0, none⟩))).run Try.prog V = .ok (.agg e.c) V := fun V hV => (HVAR.out V hV).load
      have HLD := Lib.hid hld; clear hld
      clear h hr hrl hre hem HVAR
      generalize e.c = EC at HWE HM HLD ⊢
      go_enter Try.func13, Try.ntmps13
      go_wp2_with fail
      rw [← HWE.out]
      with_reducible refine (HR.out W HBW.out).mono ?_
      rintro E V ⟨rfl, hb⟩
      have hl0 := HLD.out V hb
      have HB := Lib.hid hb; clear hb
      go_wp2_with fail
      with_reducible refine (HM.out V).mono ?_
      rintro E V2 ⟨rfl, hb2⟩
      have HB2 : Hid (Below w.heap.size w V2) := Lib.hid (HBW.out.trans ((HB.out.trans (hb2.mono HB.out.size)).mono HBW.out.size))
      clear hb2 hl0
      go_wp2
      go_ret2
      rw [HRR.out]
      exact ⟨none, 0, rfl, OwnX.nil _ _, HB2.out⟩
    | true =>
      rw [hem] at hmay
      have HR := Lib.hid hright; clear hright
      have HM := Lib.hid hmay; clear hmay
      have hem' := may_iff.1 hem
      obtain ⟨hlin, hnogo, hdev, hinj, hl60⟩ := right_lin hrl
      have hln := h.1
      have hn60 : n ≤ 60 := by omega
      have hlm := ((right_iff l).1 hrl).2.1
      have hputok := fun hm => put_ok hrl hem hm
      have hres0 : ∀ r, meets l e = r → res = if r then ([], 4) else fits (putRaw l e) := fun r hr => by rw [HRES.out]; simp [putL, hrl, hem, hr]
      have HRES0 := Lib.hid hres0; clear hres0
      have hld : ∀ V, Below W.heap.size W V → (ldX (.pointer (some ⟨w.heap.size, 0, none⟩))).run Try.prog V = .ok (.agg e.c) V ∧ V.cell? ⟨w.heap.size, 0, none⟩ = some (.int .i64 e.a) ∧ V.cell? ⟨w.heap.size, 1, none⟩ = some (.int .i64 e.s) ∧ V.cell? ⟨w.heap.size, 2, none⟩ = some (.int .i64 e.n) := fun V hV => ⟨(HVAR.out V hV).load, (HVAR.out V hV).cells.1, (HVAR.out V hV).cells.2.1, (HVAR.out V hV).cells.2.2.1⟩
      have HLM := Lib.hid hlm; clear hlm
      have HEM := Lib.hid hem; clear hem
      have HPOK := Lib.hid hputok; clear hputok
      have HLN := Lib.hid hln; clear hln
      have H := Lib.hid h; clear h
      have HRL := Lib.hid hrl; clear hrl
      clear hr hre hlin hnogo hdev hinj hl60
      obtain ⟨ea, hea⟩ : ∃ ea, ea = e.a := ⟨_, rfl⟩
      obtain ⟨es, hes⟩ : ∃ es, es = e.s := ⟨_, rfl⟩
      obtain ⟨en, hen⟩ : ∃ en, en = e.n := ⟨_, rfl⟩
      obtain ⟨eu, heu⟩ : ∃ eu, eu = e.u := ⟨_, rfl⟩
      have hmk : e.c = #[.int .i64 ea, .int .i64 es, .int .i64 en, .bool eu] := by rw [hea, hes, hen, heu]; rfl
      rw [hmk] at HWE HM hld ⊢
      rw [← hea, ← hes, ← hen] at hld
      have her : 0 ≤ ea ∧ 1 ≤ es ∧ 1 ≤ en ∧ ea + en ≤ 256 ∧ es + en ≤ 1024 := by omega
      obtain ⟨er1, er2, er3, er4, er5⟩ := her
      have HEQ : Hid (e.a = ea ∧ e.s = es ∧ e.n = en ∧ e.u = eu) := Lib.hid ⟨hea.symm, hes.symm, hen.symm, heu.symm⟩
      clear hea hes hen heu hmk hem' HVAR
      have HLD := Lib.hid hld; clear hld
      go_enter Try.func13, Try.ntmps13
      go_wp2_with fail
      rw [← HWE.out]
      with_reducible refine (HR.out W HBW.out).mono ?_
      rintro E V ⟨rfl, hb⟩
      have hl0 := (HLD.out V hb).1
      have HB := Lib.hid hb; clear hb
      go_wp2_with fail
      with_reducible refine (HM.out V).mono ?_
      rintro E V2 ⟨rfl, hb2⟩
      have HB2 : Hid (Below W.heap.size W V2) := Lib.hid (HB.out.trans (hb2.mono HB.out.size))
      clear hb2 hl0 HB HM HR V
      go_wp2
      go_loopw [6, 22] (fun av i wr => ∃ (k q : Nat), k ≤ n ∧ q = ahead (l.take k) e ∧ i = .int .i64 (k : Int) ∧ av = .int .i64 (q : Int) ∧ (∀ j, (hj : j < l.length) → j < k → (meet (l[j]).a (l[j]).n e.a e.n || meet (l[j]).s (l[j]).n e.s e.n) = false) ∧ Below W.heap.size W wr) (fun _ i _ => n - (intOf i).toNat)
      case atStart => exact ⟨0, 0, Nat.zero_le _, by simp [ahead], rfl, rfl, fun j _ hj => absurd hj (by omega), HB2.out⟩
      case round =>
        clear HB2
        obtain ⟨k, q, hk, hq, rfl, rfl, hno, hbr⟩ := hrel
        have HNO := Lib.hid hno; clear hno
        have HQ := Lib.hid hq; clear hq
        rcases Nat.lt_or_ge k n with hlt | hge
        · obtain ⟨b, off, rfl, hbB⟩ := H.out.addr (by omega)
          have hkl : k < l.length := by have := HLN.out; omega
          obtain ⟨x, hx⟩ : ∃ x, x = l[k] := ⟨_, rfl⟩
          have hxm := may_iff.1 (HLM.out x (hx ▸ List.getElem_mem hkl))
          have hbw2 : Below w.heap.size w wr := HBW.out.trans (hbr.mono HBW.out.size)
          have hld := run_ldX_at (H.out.below (hbw2.mono hB)) k hkl (off + k * 4) rfl
          rw [← hx] at hld
          have hst := run_stX_new wr x
          obtain ⟨W1, hW1⟩ : ∃ W1, W1 = wr.alloc (.cells x.c 24) := ⟨_, rfl⟩
          have hv1 : VarX W1 wr.heap.size x := hW1 ▸ VarX.new wr x
          have hb1 : Below W.heap.size W W1 := hW1 ▸ hbr.alloc hbr.size _
          rw [← hW1] at hst
          obtain ⟨c0, c1, c2, -⟩ := hv1.cells
          obtain ⟨-, d0, d1, d2⟩ := HLD.out W1 hb1
          obtain ⟨xa, hxa⟩ : ∃ xa, xa = x.a := ⟨_, rfl⟩
          obtain ⟨xs, hxs⟩ : ∃ xs, xs = x.s := ⟨_, rfl⟩
          obtain ⟨xn, hxn⟩ : ∃ xn, xn = x.n := ⟨_, rfl⟩
          rw [← hxa] at c0
          rw [← hxs] at c1
          rw [← hxn] at c2
          have hran : 0 ≤ xa ∧ 1 ≤ xs ∧ 1 ≤ xn ∧ xa + xn ≤ 256 ∧ xs + xn ≤ 1024 := by omega
          obtain ⟨r1, r2, r3, r4, r5⟩ := hran
          have hm1 := meet_any xa xn ea en (by unfold i64; omega) (by unfold i64; omega) W1
          have hm2 := meet_any xs xn es en (by unfold i64; omega) (by unfold i64; omega) W1
          have HMM : Hid ((meet (l[k]).a (l[k]).n e.a e.n || meet (l[k]).s (l[k]).n e.s e.n) = (meet xa xn ea en || meet xs xn es en)) := Lib.hid (by rw [← hx, hxa, hxs, hxn, HEQ.out.1, HEQ.out.2.1, HEQ.out.2.2.1])
          have HAH : Hid (ahead (l.take (k + 1)) e = ahead (l.take k) e + if xa < ea then 1 else 0) := Lib.hid (by rw [ahead_snoc l e k hkl, ← hx, hxa, HEQ.out.1])
          have hql : q ≤ 60 := by rw [HQ.out]; have := ahead_le (l.take k) e; rw [List.length_take] at this; omega
          have hk0 : (0 : Int) ≤ (k : Int) := by omega
          have hkn : (k : Int) < (n : Int) := by omega
          generalize x.c = C at hld hst
          have HB1 := Lib.hid hb1; clear hb1
          have HX := Lib.hid hx; clear hx
          clear hW1 hv1 hbr hbw2 hxa hxs hxn hxm
          generalize meet xa xn ea en = m1 at hm1 HMM
          generalize meet xs xn es en = m2 at hm2 HMM
          have HM1 := Lib.hid hm1; clear hm1
          have HM2 := Lib.hid hm2; clear hm2
          go_wp2_with fail
          with_reducible refine HM1.out.mono ?_
          rintro E V3 ⟨rfl, hv3⟩
          subst hv3
          cases m1 with
          | true =>
            have hme : meets l e = true := meets_yes hkl HMM.out
            have hrr : res = ([], 4) := HRES0.out _ hme
            have HRR := Lib.hid hrr; clear hrr hme
            go_wp2
            go_ret2
            rw [HRR.out]
            exact ⟨none, 0, rfl, OwnX.nil _ _, HBW.out.trans (HB1.out.mono HBW.out.size)⟩
          | false =>
            go_wp2_with fail
            with_reducible refine HM2.out.mono ?_
            rintro E V3 ⟨rfl, hv3⟩
            subst hv3
            cases m2 with
            | true =>
              have hme : meets l e = true := meets_yes hkl HMM.out
              have hrr : res = ([], 4) := HRES0.out _ hme
              have HRR := Lib.hid hrr; clear hrr hme
              go_wp2
              go_ret2
              rw [HRR.out]
              exact ⟨none, 0, rfl, OwnX.nil _ _, HBW.out.trans (HB1.out.mono HBW.out.size)⟩
            | false =>
              have hnx : ∀ j, (hj : j < l.length) → j < k + 1 → (meet (l[j]).a (l[j]).n e.a e.n || meet (l[j]).s (l[j]).n e.s e.n) = false := fun j hj hjk => by
                rcases Nat.lt_or_ge j k with h' | h'
                · exact HNO.out j hj h'
                · have hjk' : j = k := by omega
                  subst hjk'
                  exact HMM.out
              have HNX := Lib.hid hnx; clear hnx
              rcases Decidable.em (xa < ea) with g1 | g1
              · have HQ2 : Hid (q + 1 = ahead (l.take (k + 1)) e) := Lib.hid (by rw [HAH.out, if_pos g1, ← HQ.out])
                go_wp2
                go_roundw
                case rel => exact ⟨k + 1, q + 1, by omega, HQ2.out, by go_num, by go_num, HNX.out, HB1.out⟩
                case measure => simp [intOf]; omega
              · have HQ2 : Hid (q = ahead (l.take (k + 1)) e) := Lib.hid (by rw [HAH.out, if_neg g1, ← HQ.out]; rfl)
                go_wp2
                go_roundw
                case rel => exact ⟨k + 1, q, by omega, HQ2.out, by go_num, rfl, HNX.out, HB1.out⟩
                case measure => simp [intOf]; omega
        · have hkn : k = n := by omega
          have hme : meets l e = false := meets_take fun j hj => HNO.out j hj (by have := HLN.out; omega)
          have hrr : res = fits (putRaw l e) := by rw [HRES0.out _ hme]; rfl
          obtain ⟨hplin, -, -, -⟩ := HPOK.out hme
          have hqa : q = ahead l e := by rw [HQ.out, List.take_of_length_le (by have := HLN.out; omega)]
          have hqn : q ≤ n := by have := ahead_le l e; have := HLN.out; omega
          have hraw : putRaw l e = l.take q ++ [e] ++ l.drop q := by unfold putRaw; rw [hqa]; simp
          have hbw2 : Below w.heap.size w wr := HBW.out.trans (hbr.mono HBW.out.size)
          obtain ⟨AT, ht1, ht2⟩ := slice_to A n c q hqn hc
          obtain ⟨AF, hf1, hf2⟩ := slice_from A n c q hqn hc
          obtain ⟨nf, hnf⟩ : ∃ nf, nf = n - q := ⟨_, rfl⟩
          obtain ⟨cf, hcf⟩ : ∃ cf, cf = c - q := ⟨_, rfl⟩
          rw [← hnf] at hf2
          rw [← hnf, ← hcf] at hf1
          have ht1' : ∀ W, (Instr.sliceAt 22 (.slice A n c) none (some (.int .i64 (q : Int))) none).run Try.prog W = .ok (.slice AT q c) W := fun W => by
            rw [run_sliceAt_slice (P := Try.prog) W 22 _ _ _ _ (by rw [Try.underlying22]; rfl)]; exact ht1 W
          have hf1' : ∀ W, (Instr.sliceAt 22 (.slice A n c) (some (.int .i64 (q : Int))) none none).run Try.prog W = .ok (.slice AF nf cf) W := fun W => by
            rw [run_sliceAt_slice (P := Try.prog) W 22 _ _ _ _ (by rw [Try.underlying22]; rfl)]; exact hf1 W
          have HH : Hid (∀ V, Below W.heap.size W V → HoldsX V B AT q (l.take q) ∧ HoldsX V B AF nf (l.drop q)) := Lib.hid fun V hV => by
            have hh := H.out.below ((HBW.out.trans (hV.mono HBW.out.size)).mono hB)
            exact ⟨ht2 V B l hh, hf2 V B l hh⟩
          have HRR := Lib.hid hrr; clear hrr
          have HPL := Lib.hid hplin; clear hplin
          have HRAW := Lib.hid hraw; clear hraw
          have HNF : Hid (nf = n - q) := Lib.hid hnf
          have HQN := Lib.hid hqn; clear hqn
          have HBR := Lib.hid hbr; clear hbr
          have HBW2 := Lib.hid hbw2; clear hbw2
          have hge' : ¬ (k : Int) < (n : Int) := by omega
          have HKN := Lib.hid hkn; clear hkn hge
          have hnf60 : nf ≤ 60 := by omega
          have hq60 : q ≤ 60 := by have := HQN.out; omega
          clear hme hqa ht2 hf2 hnf hcf hk
          have hS2 : ∀ V, Below W.heap.size W V → (ldX (.pointer (some ⟨w.heap.size, 0, none⟩))).run Try.prog V = .ok (.agg #[.int .i64 ea, .int .i64 es, .int .i64 en, .bool eu]) V := fun V hV => (HLD.out V hV).1
          have HS2 := Lib.hid hS2; clear hS2
          go_wp2_with fail
          refine wp_region_E (fun V => Below W.heap.size W V) 99 rfl ?_
          have hS := (show Below W.heap.size W wr.drew from HBR.out.drew)
          obtain ⟨U, hU⟩ : ∃ U, U = wr.drew := ⟨_, rfl⟩
          rw [← hU] at hS ⊢
          clear hU
          refine wpE_takeF 0 ⟨some 54, _, _, _, _, _⟩ (v := ?_) (by decide) rfl (by kernel_rfl) (by kernel_rfl) (by kernel_rfl) (fun _ _ _ h => h) hS (Or.inl ⟨by kernel_rfl, ?_⟩) ?_
          rotate_left
          · (intro V hSw; have hq1 := HS2.out V hSw; go_simp; try with_reducible rfl)
          try simp only [Act.put]
          refine wpE_takeF 1 ⟨some 55, _, _, _, _, _⟩ (v := ?_) (by decide) rfl (by kernel_rfl) (by kernel_rfl) (by kernel_rfl) (fun _ _ _ h => h) hS (Or.inl ⟨by kernel_rfl, ?_⟩) ?_
          rotate_left
          · (intro V hSw; have hq1 := HS2.out V hSw; go_simp; try with_reducible rfl)
          try simp only [Act.put]
          refine wpE_takeF 2 ⟨some 56, _, _, _, _, _⟩ (v := ?_) (by decide) rfl (by kernel_rfl) (by kernel_rfl) (by kernel_rfl) (fun _ _ _ h => h) hS (Or.inl ⟨by kernel_rfl, ?_⟩) ?_
          rotate_left
          · (intro V hSw; have hq1 := HS2.out V hSw; go_simp; try with_reducible rfl)
          try simp only [Act.put]
          refine wpE_takeF 3 ⟨some 57, _, _, _, _, _⟩ (v := ?_) (by decide) rfl (by kernel_rfl) (by kernel_rfl) (by kernel_rfl) (fun _ _ _ h => h) hS (Or.inl ⟨by kernel_rfl, ?_⟩) ?_
          rotate_left
          · (intro V hSw; have hq1 := HS2.out V hSw; go_simp; try with_reducible rfl)
          try simp only [Act.put]
          refine wpE_takeF 5 ⟨some 59, _, _, _, _, _⟩ (v := ?_) (by decide) rfl (by kernel_rfl) (by kernel_rfl) (by kernel_rfl) (fun _ _ _ h => h) hS (Or.inl ⟨by kernel_rfl, ?_⟩) ?_
          rotate_left
          · (intro V hSw; have hq1 := HS2.out V hSw; go_simp; try with_reducible rfl)
          try simp only [Act.put]
          refine wpE_takeF 6 ⟨some 60, _, _, _, _, _⟩ (v := ?_) (by decide) rfl (by kernel_rfl) (by kernel_rfl) (by kernel_rfl) (fun _ _ _ h => h) hS (Or.inl ⟨by kernel_rfl, ?_⟩) ?_
          rotate_left
          · (intro V hSw; have hq1 := HS2.out V hSw; go_simp; try with_reducible rfl)
          try simp only [Act.put]
          refine wpE_takeF 7 ⟨some 61, _, _, _, _, _⟩ (v := ?_) (by decide) rfl (by kernel_rfl) (by kernel_rfl) (by kernel_rfl) (fun _ _ _ h => h) hS (Or.inl ⟨by kernel_rfl, ?_⟩) ?_
          rotate_left
          · (intro V hSw; have hq1 := HS2.out V hSw; go_simp; try with_reducible rfl)
          try simp only [Act.put]
          refine wpE_takeF 11 ⟨some 65, _, _, _, _, _⟩ (v := ?_) (by decide) rfl (by kernel_rfl) (by kernel_rfl) (by kernel_rfl) (fun _ _ _ h => h) hS (Or.inl ⟨by kernel_rfl, ?_⟩) ?_
          rotate_left
          · (intro V hSw; have hq1 := HS2.out V hSw; go_simp; try with_reducible rfl)
          try simp only [Act.put]
          refine wpE_one 4 (by kernel_rfl) rfl (fun K' hK' => ?_)
          go_simp
          refine hK'.out _ _ (hS.alloc hS.size _) (fun _ => ?_)
          clear hK' K'
          try simp only [Act.put]
          refine wpE_one 8 (by kernel_rfl) rfl (fun K' hK' => ?_)
          go_simp
          obtain ⟨Y1, hY1⟩ : ∃ Y1, Y1 = U.alloc (.cells #[.int .i64 ea, .int .i64 es, .int .i64 en, .bool eu] 24) := ⟨_, rfl⟩
          have hy1 : Below W.heap.size W Y1 := hY1 ▸ hS.alloc hS.size _
          have hy1v : VarX Y1 U.heap.size e := by
            rw [hY1]
            have := VarX.new U e
            rw [show e.c = #[.int .i64 ea, .int .i64 es, .int .i64 en, .bool eu] by rw [← HEQ.out.1, ← HEQ.out.2.1, ← HEQ.out.2.2.1, ← HEQ.out.2.2.2]; rfl] at this
            unfold VarX
            rw [show e.c = #[.int .i64 ea, .int .i64 es, .int .i64 en, .bool eu] by rw [← HEQ.out.1, ← HEQ.out.2.1, ← HEQ.out.2.2.1, ← HEQ.out.2.2.2]; rfl]
            exact heap_alloc_new U _
          have hyz : Y1.heap.size = U.heap.size + 1 := by rw [hY1]; simp
          rw [← hY1]
          refine hK'.out _ _ (hy1.alloc hy1.size _) (fun _ => ?_)
          clear hK' K'
          try simp only [Act.put]
          obtain ⟨Y2, hY2⟩ : ∃ Y2, Y2 = Y1.alloc (.cells #[.slice AT q c, .slice (some ⟨U.heap.size, 0, none⟩) 1 1, .slice AF nf cf] 22) := ⟨_, rfl⟩
          have hy2 : Below W.heap.size W Y2 := hY2 ▸ hy1.alloc hy1.size _
          have hy2c : Y2.heap[Y1.heap.size]? = some (.cells #[.slice AT q c, .slice (some ⟨U.heap.size, 0, none⟩) 1 1, .slice AF nf cf] 22 (0, 0)) := hY2 ▸ heap_alloc_new Y1 _
          have hy2v : VarX Y2 U.heap.size e := hY2 ▸ hy1v.alloc _
          have hy2z : Y2.heap.size = Y1.heap.size + 1 := by rw [hY2]; simp
          have hone : HoldsX Y2 Y2.heap.size (some ⟨U.heap.size, 0, none⟩) 1 [e] := ⟨rfl, fun _ => ⟨U.heap.size, 0, rfl, hy2v.lt, fun j hj k hk => by
            have : j = 0 := by simpa using hj
            subst this
            rw [show 0 + 0 * 4 + k = k by omega, cell_of_row _ _ k _ _ _ hy2v]; rfl⟩⟩
          obtain ⟨hto, hfr⟩ := HH.out Y2 hy2
          have hBy : B ≤ Y2.heap.size := by have := hy2.size; have := HZ.out; omega
          have hconc := concat_go AT (some ⟨U.heap.size, 0, none⟩) AF q 1 nf c 1 cf (U.heap.size + 1) Y2.heap.size (l.take q) [e] (l.drop q) Y2 (hyz ▸ hy2c) (hto.more hBy) hone (hfr.more hBy) (Nat.le_refl _) (by omega) (by omega) (by omega) (by omega)
          rw [← HRAW.out] at hconc
          obtain ⟨N5, hN5⟩ : ∃ N5, N5 = q + 1 + nf := ⟨_, rfl⟩
          rw [← hN5] at hconc
          have HCONC := Lib.hid hconc; clear hconc
          have HY2 := Lib.hid hy2; clear hy2
          have HN5 := Lib.hid hN5; clear hN5
          have HYS : Hid (Y1.alloc (.cells #[.slice AT q c, .slice (some ⟨U.heap.size, 0, none⟩) 1 1, .slice AF nf cf] 22) = Y2) := Lib.hid hY2.symm
          have HYZ : Hid (w.heap.size ≤ Y2.heap.size) := Lib.hid (by have := HY2.out.size; have := HZ.out; omega)
          rw [HYS.out]
          clear hone hto hfr hBy hy2c hy2v hy2z hY2 hy1 hy1v hyz hY1
          clear hS
          have hS := HY2.out
          refine wpE_one 9 (o := ⟨some 63, _, _, _, _, _⟩) (by kernel_rfl) rfl (fun K' hK' => ?_)
          rw [if_pos (by kernel_rfl)]
          refine call_wp 37 _ _ _ _ rfl Try.func37 (by kernel_rfl) rfl _ ?hv _ HCONC.out ?_
          case hv => simp only [List.map_toArray, List.map_cons, List.map_nil]; go_simp
          rintro E V5 ⟨A5, c5, rfl, ho5, hb5⟩
          have HO5 := Lib.hid ho5; clear ho5
          have HB5 : Hid (Below W.heap.size W V5) := Lib.hid (HY2.out.trans (hb5.mono HY2.out.size))
          clear hb5
          refine ⟨_, rfl, ?_⟩
          refine hK'.out _ _ HB5.out (fun hS => ?_)
          clear hK' K'
          try simp only [Act.put]
          refine wpE_takeF 10 ⟨some 64, _, _, _, _, _⟩ (v := ?_) (by decide) rfl (by kernel_rfl) (by kernel_rfl) (by kernel_rfl) (fun _ _ _ h => h) hS (Or.inl ⟨by kernel_rfl, ?_⟩) ?_
          rotate_left
          · (intro V hSw; have hq1 := HS2.out V hSw; go_simp; try with_reducible rfl)
          try simp only [Act.put]
          refine wpE_done (by kernel_rfl) ?_ _
          try simp only [List.setIfInBounds_toArray, List.set_cons_succ, List.set_cons_zero]
          clear HCONC HYS HS2 HH ht1 hf1 ht1' hf1'
          clear hS
          have hN60 : N5 ≤ 61 := by rw [HN5.out, HNF.out]; have := HQN.out; omega
          have hlen5 : (putRaw l e).length = N5 := (OwnX.fits HO5.out).1.symm
          have HLEN5 := Lib.hid hlen5; clear hlen5
          have hbV5 : Below w.heap.size w V5 := HBW.out.trans (HB5.out.mono HBW.out.size)
          have HBV5 := Lib.hid hbV5; clear hbV5
          have hO5s : w.heap.size ≤ V5.heap.size := HBV5.out.size
          have hrsm : ∀ x ∈ putRaw l e, 0 ≤ x.a ∧ 1 ≤ x.n ∧ x.a + x.n ≤ 256 ∧ 1 ≤ x.s ∧ x.s ≤ 1024 := fun x hx => by
            rw [HRAW.out] at hx
            have hxm : x.may = true := by
              rcases List.mem_append.1 hx with h1 | h1
              · rcases List.mem_append.1 h1 with h2 | h2
                · exact HLM.out x (List.mem_of_mem_take h2)
                · rw [List.mem_singleton.1 h2]; exact HEM.out
              · exact HLM.out x (List.mem_of_mem_drop h1)
            have := may_iff.1 hxm
            omega
          have HRSM := Lib.hid hrsm; clear hrsm
          go_wp2
          go_loopw [9, 65] (fun v i wr => ∃ (k nw : Nat) (Aw : Option Addr) (cw : Nat), k ≤ N5 ∧ nw = (pack ((putRaw l e).take k)).length ∧ i = .int .i64 (k : Int) ∧ v = .slice Aw nw cw ∧ OwnX wr V5.heap.size (.slice Aw nw cw) (pack ((putRaw l e).take k)) ∧ Below V5.heap.size V5 wr) (fun _ i _ => N5 - (intOf i).toNat)
          case atStart => exact ⟨0, 0, none, 0, Nat.zero_le _, rfl, rfl, rfl, OwnX.nil _ _, Below.refl _ _⟩
          case round =>
            obtain ⟨k, nw, Aw, cw, hk, hnw, rfl, rfl, how, hbr⟩ := hrel
            have hsub : ∀ k, Lin ((putRaw l e).take k) := fun k => lin_sub (List.take_sublist _ _) HPL.out
            have hpl : nw ≤ 61 := by
              rw [hnw]
              have h1 := pack_len ((putRaw l e).take k)
              rw [List.length_take, HLEN5.out] at h1
              omega
            rcases Nat.lt_or_ge k N5 with hlt | hge
            · have hh5 := (OwnX.reads HO5.out).below hbr
              obtain ⟨b, off, rfl, hbB⟩ := hh5.addr (by omega)
              have hkl : k < (putRaw l e).length := by have := HLEN5.out; omega
              obtain ⟨x, hx⟩ : ∃ x, x = (putRaw l e)[k] := ⟨_, rfl⟩
              have hxs := HRSM.out x (hx ▸ List.getElem_mem hkl)
              have hld := run_ldX_at hh5 k hkl (off + k * 4) rfl
              rw [← hx] at hld
              have hst := run_stX_new wr x
              obtain ⟨W1, hW1⟩ : ∃ W1, W1 = wr.alloc (.cells x.c 24) := ⟨_, rfl⟩
              have hl1 : (ldX (.pointer (some ⟨wr.heap.size, 0, none⟩))).run Try.prog W1 = .ok (.agg x.c) W1 := (show VarX W1 wr.heap.size x from hW1 ▸ VarX.new wr x).load
              have hbA : Below wr.heap.size wr W1 := hW1 ▸ (Below.refl _ wr).alloc (Nat.le_refl _) _
              have hb1 : Below V5.heap.size V5 W1 := hW1 ▸ hbr.alloc hbr.size _
              rw [← hW1] at hst
              have hpsm : ∀ y ∈ pack ((putRaw l e).take k), y.sm := fun y hy => by
                have := lin_small (hsub k) (fun z hz => by have := HRSM.out z (List.mem_of_mem_take hz); omega) y hy
                exact ⟨by omega, by omega, by omega⟩
              have hj := joined_any W1 V5.heap.size nw cw Aw (pack ((putRaw l e).take k)) x (how.below hbA) hb1.size (by omega) hpsm ⟨by omega, by omega, by omega⟩
              rw [show join (pack ((putRaw l e).take k)) x = pack ((putRaw l e).take (k + 1)) by rw [List.take_succ_eq_append_getElem hkl, pack_snoc, hx]] at hj
              have hlow : ∀ j, (Value.slice Aw nw cw).ownBlock = some j → V5.heap.size ≤ j := fun j hj => (how.lt j hj).1
              have hk0 : (0 : Int) ≤ (k : Int) := by omega
              have hkn : (k : Int) < (N5 : Int) := by omega
              have HJ := Lib.hid hj; clear hj
              have HB1 := Lib.hid hb1; clear hb1
              have HLOW := Lib.hid hlow; clear hlow
              clear hW1 hbA hpsm hxs hx hh5 hsub how hnw hbr
              generalize x.c = C at hld hst hl1 HJ
              go_wp2_with fail
              with_reducible refine HJ.out.mono ?_
              rintro E W4 ⟨A4, c4, rfl, ho4, hg4⟩
              have HB4 : Hid (Below V5.heap.size V5 W4) := Lib.hid (HB1.out.trans (hg4.below HB1.out.size HLOW.out))
              obtain ⟨n4, hn4⟩ : ∃ n4, n4 = (pack ((putRaw l e).take (k + 1))).length := ⟨_, rfl⟩
              rw [← hn4] at ho4 ⊢
              have HO4 := Lib.hid ho4; clear ho4
              have HN4 := Lib.hid hn4; clear hn4
              clear hg4 hld hst hl1 HJ
              go_wp2
              go_roundw
              case rel => exact ⟨k + 1, n4, A4, c4, by omega, HN4.out, by go_num, rfl, HO4.out, HB4.out⟩
              case measure => simp [intOf]; omega
            · have hkN : k = N5 := by omega
              have hfull : (putRaw l e).take k = putRaw l e := List.take_of_length_le (by have := HLEN5.out; omega)
              rw [hfull] at hnw how
              have HOW : Hid (OwnX wr w.heap.size (.slice Aw nw cw) (pack (putRaw l e))) := Lib.hid (how.mono hO5s)
              have HBF : Hid (Below w.heap.size w wr) := Lib.hid (HBV5.out.trans (hbr.mono hO5s))
              have HNW := Lib.hid hnw; clear hnw
              have HFULL := Lib.hid hfull; clear hfull hsub how hbr
              have HKN := Lib.hid hkN; clear hkN
              have hge' : ¬ (k : Int) < (N5 : Int) := by omega
              by_cases h60 : nw ≤ 60
              · have hgt : ¬ (60 : Int) < (nw : Int) := by omega
                have hrr : res = (pack (putRaw l e), 0) := by rw [HRR.out]; unfold fits; rw [if_pos (by rw [← HNW.out]; exact h60)]
                have HRR2 := Lib.hid hrr; clear hrr
                go_wp2
                go_ret2
                rw [HRR2.out]
                dsimp only
                rw [← HNW.out]
                exact ⟨Aw, cw, rfl, HOW.out, HBF.out⟩
              · have hgt : (60 : Int) < (nw : Int) := by omega
                have hrr : res = ([], 9) := by rw [HRR.out]; unfold fits; rw [if_neg (by rw [← HNW.out]; exact h60)]
                have HRR2 := Lib.hid hrr; clear hrr
                go_wp2
                go_ret2
                rw [HRR2.out]
                exact ⟨none, 0, rfl, OwnX.nil _ _, HBF.out⟩
end Go.Proofs.Ytkhenchhafmlmaa.Ex
