/- A list without some blocks, and the spans of the device that these had: the document's call. -/
import Derived.Test.YtkhenchhafmlmaaExRFind
import Derived.Test.YtkhenchhafmlmaaExCut
import Derived.Test.YtkhenchhafmlmaaExParts
import Derived.Test.YtkhenchhafmlmaaExLaws
import Derived.Test.YtkhenchhafmlmaaRegC
namespace Go.Proofs.Ytkhenchhafmlmaa.Ex
set_option maxRecDepth 20000
open Go.RowKit
open Go.Proofs.Ytkhenchhafmlmaa.Mem Go.Proofs.Ytkhenchhafmlmaa.Crc Go.Proofs.Ytkhenchhafmlmaa.Rec Go.Proofs.Ytkhenchhafmlmaa.Reg
attribute [local go_sem ↓] ldX_eq stX_eq

theorem gone_snoc (l : List X) (e : X) (f t : Int) : gone (cuts (l ++ [e]) f t) = gone (cuts l f t) ++ gone (cuts1 e f t) := by
  unfold cuts
  rw [List.flatMap_append, gone_append, List.flatMap_cons, List.flatMap_nil, List.append_nil]
/-- What a map tells whose blocks from f up to t are struck out where a list has them. -/
def Struck (T T2 : Nat → Int) (l : List X) (f t : Int) : Prop := ∀ x : Nat, x < 256 → T2 x = if f ≤ (x : Int) ∧ (x : Int) < t ∧ (at_ l (x : Int)).isSome = true then 0 else T x
theorem struck_nil (T : Nat → Int) (f t : Int) : Struck T T [] f t := fun x _ => by rw [if_neg (by rintro ⟨_, _, h⟩; cases h)]
theorem struck_same {T T2 : Nat → Int} {B : Nat → Bool} {l : List X} {f t : Int} (hl : Lin l) (hft : f ≤ t) (h : Same T B l) (h2 : Struck T T2 l f t) : Same T2 B (leftR (cuts l f t)) := fun x hx => by
  have h0 := h x hx
  rw [left_at hl f t hft, h2 x hx]
  by_cases hc : f ≤ (x : Int) ∧ (x : Int) < t
  · rw [if_pos hc]
    cases hv : at_ l (x : Int) with
    | none =>
      rw [hv] at h0
      dsimp only at h0 ⊢
      rw [if_neg (by rintro ⟨_, _, h⟩; cases h)]
      exact h0
    | some v =>
      dsimp only
      rw [if_pos ⟨hc.1, hc.2, rfl⟩]
  · rw [if_neg hc, if_neg (fun h => hc ⟨h.1, h.2.1⟩)]
    exact h0
theorem struck_step {T T2 T3 : Nat → Int} {l : List X} {e : X} {f t a b : Int} {p x : Nat} (h : Struck T T2 l f t) (ha : a = max e.a f) (hb : b = min (e.a + e.n) t) (hp : (p : Int) = a) (h3 : ∀ y, y < 256 → T3 y = if p ≤ y ∧ y < x then 0 else T2 y) (hx1 : ¬ (x : Int) < b) (hx2 : (x : Int) ≤ max a b) :
    Struck T T3 (l ++ [e]) f t := fun y hy => by
  rw [h3 y hy, h y hy, at_append, at_one]
  by_cases h1 : p ≤ y ∧ y < x
  · have h2 : e.a ≤ (y : Int) ∧ (y : Int) < e.a + e.n ∧ f ≤ (y : Int) ∧ (y : Int) < t := by omega
    rw [if_pos h1, if_pos (show e.a ≤ (y : Int) ∧ (y : Int) < e.a + e.n from ⟨h2.1, h2.2.1⟩), if_pos ⟨h2.2.2.1, h2.2.2.2, by cases at_ l (y : Int) <;> rfl⟩]
  · rw [if_neg h1]
    by_cases h2 : e.a ≤ (y : Int) ∧ (y : Int) < e.a + e.n
    · have h4 : ¬ (f ≤ (y : Int) ∧ (y : Int) < t) := by omega
      rw [if_neg (fun h => h4 ⟨h.1, h.2.1⟩), if_neg (fun h => h4 ⟨h.1, h.2.1⟩)]
    · rw [if_neg h2, Option.or_none]

set_option maxRecDepth 100000 in
set_option maxHeartbeats 8000000 in
theorem rcut_any (A : Option Addr) (n c B : Nat) (l : List X) (f t : Int) (w : World) (h : HoldsX w B A n l) (hB : B ≤ w.heap.size) (hr : ∀ x ∈ l, x.rep) (hn : n ≤ 4398046511104) (ht63 : t ≤ 9223372036854775807) :
    Calls Try.prog 21 #[.slice A n c, .int .i64 f, .int .i64 t] w (CutOut w.heap.size (cutL l f t).1 (cutL l f t).2.1 (cutL l f t).2.2 w) := by
  have hchk := rcheck_any A n c B l w h hB hr hn
  unfold CutOut
  cases hrl : right l with
  | false =>
    have hch : chkX l = 1 := by unfold chkX; rw [hrl]; rfl
    have hf : cutL l f t = ([], [], 1) := by unfold cutL; rw [hrl]; rfl
    rw [hch] at hchk
    rw [hf]
    dsimp only [List.length_nil]
    have HC := Lib.hid hchk; clear hchk h hr hrl hch hf
    go_enter Try.func21, Try.ntmps21
    go_wp2_with fail
    with_reducible refine HC.out.mono ?_
    rintro E V1 ⟨rfl, hb⟩
    have HB1 := Lib.hid hb; clear hb
    go_wp2
    go_ret3
    exact ⟨none, 0, none, 0, rfl, OwnX.nil _ _, OwnS.nil _ _, HB1.out⟩
  | true =>
    have hch : chkX l = 0 := by unfold chkX; rw [hrl]; rfl
    rw [hch] at hchk
    by_cases hin : 0 ≤ f ∧ f ≤ t
    rotate_left
    · have hf : cutL l f t = ([], [], 1) := by
        unfold cutL bnds
        rw [hrl, decide_eq_false hin]; rfl
      rw [hf]
      dsimp only [List.length_nil]
      have HC := Lib.hid hchk; clear hchk h hr hrl hch hf
      rcases Int.lt_or_le f 0 with h0 | h0
      · clear hin
        go_enter Try.func21, Try.ntmps21
        go_wp2_with fail
        with_reducible refine HC.out.mono ?_
        rintro E V1 ⟨rfl, hb⟩
        have HB1 := Lib.hid hb; clear hb
        go_wp2
        go_ret3
        exact ⟨none, 0, none, 0, rfl, OwnX.nil _ _, OwnS.nil _ _, HB1.out⟩
      · have h1 : ¬ f < 0 := by omega
        have h2 : t < f := by omega
        clear hin h0
        go_enter Try.func21, Try.ntmps21
        go_wp2_with fail
        with_reducible refine HC.out.mono ?_
        rintro E V1 ⟨rfl, hb⟩
        have HB1 := Lib.hid hb; clear hb
        go_wp2
        go_ret3
        exact ⟨none, 0, none, 0, rfl, OwnX.nil _ _, OwnS.nil _ _, HB1.out⟩
    · obtain ⟨hf0, hft⟩ := hin
      have h1 : ¬ f < 0 := by omega
      have h2 : ¬ t < f := by omega
      have hout : cutL l f t = ((fits (leftR (cuts l f t))).1, (if (fits (leftR (cuts l f t))).2 = 0 then gone (cuts l f t) else []), (fits (leftR (cuts l f t))).2) := by
        unfold cutL bnds fits
        rw [hrl, decide_eq_true ⟨hf0, hft⟩]
        by_cases hp : (pack (leftR (cuts l f t))).length ≤ 60
        · rw [if_pos hp]; simp [hp]
        · rw [if_neg hp]; simp [hp]
      have hfe : (fits (leftR (cuts l f t))).2 = 0 ∨ fits (leftR (cuts l f t)) = ([], 9) := by
        unfold fits
        by_cases hp : (pack (leftR (cuts l f t))).length ≤ 60
        · rw [if_pos hp]; exact .inl rfl
        · rw [if_neg hp]; exact .inr rfl
      have hlin := right_lin hrl
      obtain ⟨hml, hmd, -⟩ := left_ok hrl f t hft
      have hmay : ∀ x ∈ l, x.may = true := ((right_iff l).1 hrl).2.1
      have hsp : ∀ V, Below w.heap.size w V → Calls Try.prog 40 #[.slice A n c] V fun E w' => ∃ T Bk, E = .returned (.pointer (some ⟨V.heap.size, 0, none⟩)) ∧ MapAt w' V.heap.size T Bk ∧ Same T Bk l ∧ Below V.heap.size V w' := fun V hV => spread_any A n c B l V (h.below (hV.mono hB)) (by have := hV.size; omega) hrl
      have hfin : ∀ (T T2 : Nat → Int) (Bk : Nat → Bool), Same T Bk l → Struck T T2 l f t → (∀ i, i < 256 → 0 ≤ T2 i ∧ T2 i ≤ 1024) ∧ fits (singles T2 Bk 256) = fits (leftR (cuts l f t)) := fun T T2 Bk hs hst => by
        have hs2 := struck_same hlin.1 hft hs hst
        exact ⟨same_range hmd hs2, fits_same hml hs2⟩
      have hln := h.1
      have h60 : n ≤ 60 := by have := hlin.2.2.2.2; omega
      rw [hout]
      dsimp only
      obtain ⟨F, hF⟩ : ∃ F, F = fits (leftR (cuts l f t)) := ⟨_, rfl⟩
      rw [← hF] at hfin hfe ⊢
      obtain ⟨S, hS⟩ : ∃ S, S = if F.2 = 0 then gone (cuts l f t) else [] := ⟨_, rfl⟩
      rw [← hS]
      have hfe : (F.2 = 0 ∧ S = gone (cuts l f t)) ∨ (F = ([], 9) ∧ S = []) := by
        rcases hfe with h | h
        · exact .inl ⟨h, by rw [hS, if_pos h]⟩
        · exact .inr ⟨h, by rw [hS, h, if_neg (by decide)]⟩
      clear hS
      have hcell : ∀ k, (hk : k < n) → ∃ (b off : Nat) (e : X), A = some ⟨b, off, none⟩ ∧ b < B ∧ e.may = true ∧ l.take (k + 1) = l.take k ++ [e] ∧ ∀ V, Below B w V → V.cell? ⟨b, off + k * 4, none⟩ = some (.int .i64 e.a) ∧ V.cell? ⟨b, off + k * 4 + 1, none⟩ = some (.int .i64 e.s) ∧ V.cell? ⟨b, off + k * 4 + 2, none⟩ = some (.int .i64 e.n) := fun k hk => by
        obtain ⟨b, off, rfl, hbB⟩ := h.addr (by omega)
        have hkl : k < l.length := by omega
        refine ⟨b, off, l[k], rfl, hbB, hmay _ (List.getElem_mem hkl), List.take_succ_eq_append_getElem hkl, fun V hV => ?_⟩
        have hh := (h.below hV).cell k hkl
        exact ⟨hh.1, hh.2.1, hh.2.2.1⟩
      have hgl : ∀ k, (gone (cuts (l.take k) f t)).length ≤ 1000 := fun k => by
        have h2 : (gone (cuts (l.take k) f t)).length ≤ (cuts (l.take k) f t).length := by unfold gone; rw [List.length_map]; exact List.length_filter_le _ _
        have h3 := cuts_len (l.take k) f t
        have h4 : (l.take k).length ≤ 60 := by rw [List.length_take]; omega
        omega
      have hall : l.take n = l := List.take_of_length_le (by omega)
      have HALL := Lib.hid hall; clear hall
      have HGL := Lib.hid hgl; clear hgl
      have HCELL := Lib.hid hcell; clear hcell
      have HFE := Lib.hid hfe; clear hfe
      have HFIN := Lib.hid hfin; clear hfin
      have HSP := Lib.hid hsp; clear hsp
      have HBB := Lib.hid hB
      have HC := Lib.hid hchk; clear hchk h hr hrl hch hout hlin hml hmd hF hmay hln hB
      go_enter Try.func21, Try.ntmps21
      go_wp2_with fail
      with_reducible refine HC.out.mono ?_
      rintro E V1 ⟨rfl, hb⟩
      have HB1 := Lib.hid hb; clear hb
      go_wp2_with fail
      with_reducible refine (HSP.out V1 HB1.out).mono ?_
      rintro E V2 ⟨T, Bk, rfl, hmap, hsame, hb⟩
      obtain ⟨g, hg⟩ : ∃ g, g = V1.heap.size := ⟨_, rfl⟩
      rw [← hg] at hmap hb ⊢
      have hgw : w.heap.size ≤ g := by rw [hg]; exact HB1.out.size
      have hup : ∀ V, Below g V1 V → Below w.heap.size w V := fun V hV => HB1.out.trans (hV.mono hgw)
      clear hg HB1 HSP HC
      have HB2 := Lib.hid hb; clear hb
      have hg2 : g < V2.heap.size := hmap.lt
      have HG2 := Lib.hid hg2; clear hg2
      have HMAP := Lib.hid hmap; clear hmap
      have HSAME := Lib.hid hsame; clear hsame
      have HGW := Lib.hid hgw; clear hgw
      have HUP := Lib.hid hup; clear hup
      go_wp2
      go_loopw [10, 11] (fun sp v wr => ∃ (k : Nat) (T2 : Nat → Int) (A2 : Option Addr) (n2 c2 : Nat), k ≤ n ∧ v = .int .i64 (k : Int) ∧ sp = .slice A2 n2 c2 ∧ n2 = (gone (cuts (l.take k) f t)).length ∧ MapAt wr g T2 Bk ∧ Struck T T2 (l.take k) f t ∧ OwnS wr V2.heap.size (.slice A2 n2 c2) (gone (cuts (l.take k) f t)) ∧ Below g V1 wr ∧ V2.heap.size ≤ wr.heap.size) (fun _ v _ => n - (intOf v).toNat)
      case atStart => exact ⟨0, T, none, 0, 0, Nat.zero_le _, rfl, rfl, rfl, HMAP.out, struck_nil _ _ _, OwnS.nil _ _, HB2.out, Nat.le_refl _⟩
      case round =>
        obtain ⟨k, T2, A2, n2, c2, hk, rfl, rfl, hn2, hmap, hst, hos, hbr, hsz⟩ := hrel
        have HM := Lib.hid hmap; clear hmap
        have HST := Lib.hid hst; clear hst
        have HOS := Lib.hid hos; clear hos
        have HBR := Lib.hid hbr; clear hbr
        have HSZ := Lib.hid hsz; clear hsz
        have HN2 := Lib.hid hn2; clear hn2
        rcases Nat.lt_or_ge k n with hlt | hge
        rotate_left
        · have hkn : k = n := by omega
          subst hkn
          have hst := HST.out
          have hos := HOS.out
          have hn2 := HN2.out
          rw [HALL.out] at hst hos hn2
          obtain ⟨hrg, hfit⟩ := HFIN.out T T2 Bk HSAME.out hst
          have hfc := fit_any g T2 Bk wr HM.out hrg
          rw [hfit] at hfc
          have HFC := Lib.hid hfc; clear hfc hrg hfit hst HST HOS HN2
          have HOS := Lib.hid hos; clear hos
          have HN2 := Lib.hid hn2; clear hn2
          have hge' : ¬ (k : Int) < (k : Int) := by omega
          go_wp2_with fail
          with_reducible refine HFC.out.mono ?_
          rintro E V4 ⟨A4, c4, rfl, ho, hb⟩
          have hw4 := HUP.out wr HBR.out
          have HO : Hid (OwnX V4 w.heap.size (.slice A4 F.1.length c4) F.1) := Lib.hid (ho.mono hw4.size)
          have HO2 : Hid (OwnS V4 w.heap.size (.slice A2 n2 c2) (gone (cuts l f t))) := Lib.hid ((HOS.out.below hb).mono (by have := HG2.out; have := HGW.out; omega))
          have HB5 : Hid (Below w.heap.size w V4) := Lib.hid (hw4.trans (hb.mono hw4.size))
          clear ho hb hw4
          rcases HFE.out with ⟨hfe, hse⟩ | ⟨hfe, hse⟩
          · have HFE2 := Lib.hid hfe
            have HSE := Lib.hid hse; clear hse
            rw [hfe]
            clear hfe
            go_wp2
            go_ret3
            rw [HFE2.out, HSE.out, ← HN2.out]
            exact ⟨A4, c4, A2, c2, rfl, HO.out, HO2.out, HB5.out⟩
          · have HFE2 := Lib.hid hfe
            have HSE := Lib.hid hse; clear hse
            rw [hfe]
            dsimp only [List.length_nil]
            clear hfe
            go_wp2
            go_ret3
            rw [HFE2.out, HSE.out]
            exact ⟨none, 0, none, 0, rfl, OwnX.nil _ _, OwnS.nil _ _, HB5.out⟩
        · obtain ⟨b, off, e, rfl, hbB, hem, htk, hcell⟩ := HCELL.out k hlt
          have hem' := may_iff.1 hem
          have hcell2 : ∀ V, Below g V1 V → V.cell? ⟨b, off + k * 4, none⟩ = some (.int .i64 e.a) ∧ V.cell? ⟨b, off + k * 4 + 1, none⟩ = some (.int .i64 e.s) ∧ V.cell? ⟨b, off + k * 4 + 2, none⟩ = some (.int .i64 e.n) := fun V hV => hcell V ((HUP.out V hV).mono HBB.out)
          obtain ⟨av, hav⟩ : ∃ av, av = max e.a f := ⟨_, rfl⟩
          obtain ⟨bv, hbv⟩ : ∃ bv, bv = min (e.a + e.n) t := ⟨_, rfl⟩
          have hgn : gone (cuts (l.take (k + 1)) f t) = gone (cuts (l.take k) f t) ++ (if av < bv then [(e.s + av - e.a, bv - av)] else []) := by
            rw [htk, gone_snoc, gone1_eq ⟨hem'.1, hem'.2.2.1, hem'.2.2.2.1⟩ hft, ← hav, ← hbv]
          have hstep : ∀ (T3 : Nat → Int) (p x : Nat), (p : Int) = av → (∀ y, y < 256 → T3 y = if p ≤ y ∧ y < x then 0 else T2 y) → ¬ (x : Int) < bv → (x : Int) ≤ max av bv → Struck T T3 (l.take (k + 1)) f t := fun T3 p x hp h3 hx1 hx2 => by
            rw [htk]; exact struck_step HST.out hav hbv hp h3 hx1 hx2
          have hmx : ∀ (ts : Array TypeId) (ty : TypeId) (W : World), (Builtin.max_ ts ty #[.int .i64 e.a, .int .i64 f]).run Try.prog W = .ok (.int .i64 av) W := fun ts ty W => by rw [clamp_max, hav]
          have hmn : ∀ (ts : Array TypeId) (ty : TypeId) (W : World), (Builtin.min_ ts ty #[.int .i64 (e.a + e.n), .int .i64 t]).run Try.prog W = .ok (.int .i64 bv) W := fun ts ty W => by rw [clamp_min, hbv]
          have hran : 0 ≤ av ∧ bv ≤ 256 ∧ bv ≤ e.a + e.n ∧ e.a ≤ av ∧ av ≤ 9223372036854775807 ∧ -9223372036854775808 ≤ bv := by omega
          obtain ⟨ea, hea⟩ : ∃ ea, ea = e.a := ⟨_, rfl⟩
          obtain ⟨es, hes⟩ : ∃ es, es = e.s := ⟨_, rfl⟩
          obtain ⟨en, hen⟩ : ∃ en, en = e.n := ⟨_, rfl⟩
          rw [← hea, ← hes, ← hen] at hem' hcell2
          rw [← hea, ← hes] at hgn
          rw [← hea] at hmx
          rw [← hea, ← hen] at hmn hran
          clear htk hcell hav hbv hem hea hes hen
          obtain ⟨er1, er2, er3, er4, er5⟩ := hem'
          obtain ⟨rr1, rr2, rr3, rr4, rr5, rr6⟩ := hran
          have HGN := Lib.hid hgn; clear hgn
          have HSTEP := Lib.hid hstep; clear hstep
          have HCL := Lib.hid hcell2; clear hcell2
          have hk0 : (0 : Int) ≤ (k : Int) := by omega
          have hkn : (k : Int) < (n : Int) := by omega
          have hw1 : IntKind.i64.wrap (ea + en) = ea + en := by rw [IntKind.wrap_i64]; omega
          have hsS : Below g V1 wr.drew := HBR.out.drew
          have HSS := Lib.hid hsS; clear hsS
          go_wp2_with fail
          refine wp_region_E (fun V => Below g V1 V) 99 rfl ?_
          have hS := HSS.out
          refine wpE_takeF 0 ⟨some 37, _, _, _, _, _⟩ (v := ?_) (by decide) rfl (by kernel_rfl) (by kernel_rfl) (by kernel_rfl) (fun _ _ _ h => h) hS (Or.inl ⟨by kernel_rfl, ?_⟩) ?_
          rotate_left
          · (intro V hSw; obtain ⟨hq1, hq2, hq3⟩ := HCL.out V hSw; go_simp; try with_reducible rfl)
          try simp only [Act.put]
          refine wpE_takeF 1 ⟨some 38, _, _, _, _, _⟩ (v := ?_) (by decide) rfl (by kernel_rfl) (by kernel_rfl) (by kernel_rfl) (fun _ _ _ h => h) hS (Or.inl ⟨by kernel_rfl, ?_⟩) ?_
          rotate_left
          · (intro V hSw; obtain ⟨hq1, hq2, hq3⟩ := HCL.out V hSw; go_simp; try with_reducible rfl)
          try simp only [Act.put]
          refine wpE_takeF 2 ⟨some 39, _, _, _, _, _⟩ (v := ?_) (by decide) rfl (by kernel_rfl) (by kernel_rfl) (by kernel_rfl) (fun _ _ _ h => h) hS (Or.inl ⟨by kernel_rfl, ?_⟩) ?_
          rotate_left
          · (intro V hSw; obtain ⟨hq1, hq2, hq3⟩ := HCL.out V hSw; go_simp; try with_reducible rfl)
          try simp only [Act.put]
          refine wpE_takeF 3 ⟨some 40, _, _, _, _, _⟩ (v := ?_) (by decide) rfl (by kernel_rfl) (by kernel_rfl) (by kernel_rfl) (fun _ _ _ h => h) hS (Or.inl ⟨by kernel_rfl, ?_⟩) ?_
          rotate_left
          · (intro V hSw; obtain ⟨hq1, hq2, hq3⟩ := HCL.out V hSw; go_simp; try with_reducible rfl)
          try simp only [Act.put]
          refine wpE_takeF 4 ⟨some 41, _, _, _, _, _⟩ (v := ?_) (by decide) rfl (by kernel_rfl) (by kernel_rfl) (by kernel_rfl) (fun _ _ _ h => h) hS (Or.inl ⟨by kernel_rfl, ?_⟩) ?_
          rotate_left
          · (intro V hSw; obtain ⟨hq1, hq2, hq3⟩ := HCL.out V hSw; go_simp; try with_reducible rfl)
          try simp only [Act.put]
          refine wpE_takeF 5 ⟨some 42, _, _, _, _, _⟩ (v := ?_) (by decide) rfl (by kernel_rfl) (by kernel_rfl) (by kernel_rfl) (fun _ _ _ h => h) hS (Or.inl ⟨by kernel_rfl, ?_⟩) ?_
          rotate_left
          · (intro V hSw; obtain ⟨hq1, hq2, hq3⟩ := HCL.out V hSw; go_simp; try with_reducible rfl)
          try simp only [Act.put]
          refine wpE_takeF 6 ⟨some 43, _, _, _, _, _⟩ (v := ?_) (by decide) rfl (by kernel_rfl) (by kernel_rfl) (by kernel_rfl) (fun _ _ _ h => h) hS (Or.inl ⟨by kernel_rfl, ?_⟩) ?_
          rotate_left
          · (intro V hSw; obtain ⟨hq1, hq2, hq3⟩ := HCL.out V hSw; go_simp; try with_reducible rfl)
          try simp only [Act.put]
          refine wpE_takeF 7 ⟨some 44, _, _, _, _, _⟩ (v := ?_) (by decide) rfl (by kernel_rfl) (by kernel_rfl) (by kernel_rfl) (fun _ _ _ h => h) hS (Or.inl ⟨by kernel_rfl, ?_⟩) ?_
          rotate_left
          · (intro V hSw; obtain ⟨hq1, hq2, hq3⟩ := HCL.out V hSw; go_simp; try with_reducible rfl)
          try simp only [Act.put]
          refine wpE_takeF 8 ⟨some 45, _, _, _, _, _⟩ (v := ?_) (by decide) rfl (by kernel_rfl) (by kernel_rfl) (by kernel_rfl) (fun _ _ _ h => h) hS (Or.inl ⟨by kernel_rfl, ?_⟩) ?_
          rotate_left
          · (intro V hSw; obtain ⟨hq1, hq2, hq3⟩ := HCL.out V hSw; go_simp; try with_reducible rfl)
          try simp only [Act.put]
          refine wpE_takeF 9 ⟨some 46, _, _, _, _, _⟩ (v := ?_) (by decide) rfl (by kernel_rfl) (by kernel_rfl) (by kernel_rfl) (fun _ _ _ h => h) hS (Or.inl ⟨by kernel_rfl, ?_⟩) ?_
          rotate_left
          · (intro V hSw; obtain ⟨hq1, hq2, hq3⟩ := HCL.out V hSw; go_simp; try with_reducible rfl)
          try simp only [Act.put]
          refine wpE_takeF 10 ⟨some 47, _, _, _, _, _⟩ (v := ?_) (by decide) rfl (by kernel_rfl) (by kernel_rfl) (by kernel_rfl) (fun _ _ _ h => h) hS (Or.inl ⟨by kernel_rfl, ?_⟩) ?_
          rotate_left
          · (intro V hSw; obtain ⟨hq1, hq2, hq3⟩ := HCL.out V hSw; go_simp; try with_reducible rfl)
          try simp only [Act.put]
          refine wpE_takeF 11 ⟨some 48, _, _, _, _, _⟩ (v := ?_) (by decide) rfl (by kernel_rfl) (by kernel_rfl) (by kernel_rfl) (fun _ _ _ h => h) hS (Or.inl ⟨by kernel_rfl, ?_⟩) ?_
          rotate_left
          · (intro V hSw; obtain ⟨hq1, hq2, hq3⟩ := HCL.out V hSw; go_simp; try with_reducible rfl)
          try simp only [Act.put]
          refine wpE_takeF 12 ⟨some 49, _, _, _, _, _⟩ (v := ?_) (by decide) rfl (by kernel_rfl) (by kernel_rfl) (by kernel_rfl) (fun _ _ _ h => h) hS (Or.inl ⟨by kernel_rfl, ?_⟩) ?_
          rotate_left
          · (intro V hSw; obtain ⟨hq1, hq2, hq3⟩ := HCL.out V hSw; go_simp; try with_reducible rfl)
          try simp only [Act.put]
          refine wpE_takeF 13 ⟨some 50, _, _, _, _, _⟩ (v := ?_) (by decide) rfl (by kernel_rfl) (by kernel_rfl) (by kernel_rfl) (fun _ _ _ h => h) hS (Or.inl ⟨by kernel_rfl, ?_⟩) ?_
          rotate_left
          · (intro V hSw; obtain ⟨hq1, hq2, hq3⟩ := HCL.out V hSw; go_simp; try with_reducible rfl)
          try simp only [Act.put]
          refine wpE_takeF 14 ⟨some 51, _, _, _, _, _⟩ (v := ?_) (by decide) rfl (by kernel_rfl) (by kernel_rfl) (by kernel_rfl) (fun _ _ _ h => h) hS (Or.inl ⟨by kernel_rfl, ?_⟩) ?_
          rotate_left
          · (intro V hSw; obtain ⟨hq1, hq2, hq3⟩ := HCL.out V hSw; go_simp; try with_reducible rfl)
          try simp only [Act.put]
          refine wpE_takeF 15 ⟨some 52, _, _, _, _, _⟩ (v := ?_) (by decide) rfl (by kernel_rfl) (by kernel_rfl) (by kernel_rfl) (fun _ _ _ h => h) hS (Or.inl ⟨by kernel_rfl, ?_⟩) ?_
          rotate_left
          · (intro V hSw; obtain ⟨hq1, hq2, hq3⟩ := HCL.out V hSw; go_simp; try with_reducible rfl)
          try simp only [Act.put]
          refine wpE_takeF 16 ⟨some 53, _, _, _, _, _⟩ (v := ?_) (by decide) rfl (by kernel_rfl) (by kernel_rfl) (by kernel_rfl) (fun _ _ _ h => h) hS (Or.inl ⟨by kernel_rfl, ?_⟩) ?_
          rotate_left
          · (intro V hSw; obtain ⟨hq1, hq2, hq3⟩ := HCL.out V hSw; go_simp; try with_reducible rfl)
          try simp only [Act.put]
          refine wpE_takeF 17 ⟨some 54, _, _, _, _, _⟩ (v := ?_) (by decide) rfl (by kernel_rfl) (by kernel_rfl) (by kernel_rfl) (fun _ _ _ h => h) hS (Or.inl ⟨by kernel_rfl, ?_⟩) ?_
          rotate_left
          · (intro V hSw; obtain ⟨hq1, hq2, hq3⟩ := HCL.out V hSw; go_simp; try with_reducible rfl)
          try simp only [Act.put]
          refine wpE_takeF 18 ⟨some 55, _, _, _, _, _⟩ (v := ?_) (by decide) rfl (by kernel_rfl) (by kernel_rfl) (by kernel_rfl) (fun _ _ _ h => h) hS (Or.inl ⟨by kernel_rfl, ?_⟩) ?_
          rotate_left
          · (intro V hSw; obtain ⟨hq1, hq2, hq3⟩ := HCL.out V hSw; go_simp; try with_reducible rfl)
          try simp only [Act.put]
          refine wpE_takeF 19 ⟨some 56, _, _, _, _, _⟩ (v := ?_) (by decide) rfl (by kernel_rfl) (by kernel_rfl) (by kernel_rfl) (fun _ _ _ h => h) hS (Or.inl ⟨by kernel_rfl, ?_⟩) ?_
          rotate_left
          · (intro V hSw; obtain ⟨hq1, hq2, hq3⟩ := HCL.out V hSw; go_simp; try with_reducible rfl)
          try simp only [Act.put]
          refine wpE_takeF 20 ⟨some 12, _, _, _, _, _⟩ (v := ?_) (by decide) rfl (by kernel_rfl) (by kernel_rfl) (by kernel_rfl) (fun _ _ _ h => h) hS (Or.inl ⟨by kernel_rfl, ?_⟩) ?_
          rotate_left
          · (intro V hSw; obtain ⟨hq1, hq2, hq3⟩ := HCL.out V hSw; go_simp; try with_reducible rfl)
          try simp only [Act.put]
          refine wpE_takeF 21 ⟨some 13, _, _, _, _, _⟩ (v := ?_) (by decide) rfl (by kernel_rfl) (by kernel_rfl) (by kernel_rfl) (fun _ _ _ h => h) hS (Or.inl ⟨by kernel_rfl, ?_⟩) ?_
          rotate_left
          · (intro V hSw; obtain ⟨hq1, hq2, hq3⟩ := HCL.out V hSw; go_simp; try with_reducible rfl)
          try simp only [Act.put]
          refine wpE_done (by kernel_rfl) ?_ _
          try simp only [List.setIfInBounds_toArray, List.set_cons_succ, List.set_cons_zero]
          clear hmx hmn hw1
          obtain ⟨p, hp⟩ : ∃ p : Nat, (p : Int) = av := ⟨av.toNat, by omega⟩
          rcases Int.lt_or_le av bv with hab | hab
          · have hl1000 := HGL.out k
            obtain ⟨Y, hY⟩ : ∃ Y, Y = wr.drew := ⟨_, rfl⟩
            rw [← hY]
            have hmY : MapAt Y g T2 Bk := by rw [hY]; exact HM.out.kept rfl
            have hoY : OwnS Y V2.heap.size (.slice A2 n2 c2) (gone (cuts (l.take k) f t)) := by rw [hY]; exact HOS.out.kept fun _ _ => rfl
            have hbY : Below g V1 Y := by rw [hY]; exact HSS.out
            have hsY : V2.heap.size ≤ Y.heap.size := by rw [hY]; exact HSZ.out
            clear hY
            have hsY' : V2.heap.size ≤ Y.drew.heap.size := hsY
            obtain ⟨v3, W3, hrun, ho3, hg3⟩ := run_appS Y.drew V2.heap.size (.slice A2 n2 c2) _ (hoY.kept fun _ _ => rfl) (es + av - ea, bv - av) 34 (by omega) hsY'
            have hgnn : gone (cuts (l.take (k + 1)) f t) = gone (cuts (l.take k) f t) ++ [(es + av - ea, bv - av)] := by rw [HGN.out, if_pos hab]
            rw [← hgnn] at ho3
            obtain ⟨A3, c3, hv3⟩ := ho3.shape
            obtain ⟨n3, hn3⟩ : ∃ n3, n3 = (gone (cuts (l.take (k + 1)) f t)).length := ⟨_, rfl⟩
            rw [← hn3] at hv3
            subst hv3
            have hgo : ∀ q, Value.ownBlock (.slice A2 n2 c2) = some q → V2.heap.size ≤ q ∧ q < Y.heap.size := hoY.lt
            have hne : some g ≠ Value.ownBlock (.slice A2 n2 c2) := fun e => by
              have := (hgo g e.symm).1
              have := HG2.out
              omega
            have hb3 : Below g V1 W3 := hbY.drew.trans ⟨hg3.1.os, hg3.1.tape, hg3.1.output, hg3.1.size, fun i hi => hg3.1.block i (by have := hmY.lt; show i < Y.heap.size; omega) (fun e => by have := (hgo i e.symm).1; have := HG2.out; omega)⟩
            have hm3 : MapAt W3 g T2 Bk := (hmY.kept (w' := Y.drew) rfl).kept (hg3.1.block g hmY.lt hne)
            have hs3 : V2.heap.size ≤ W3.heap.size := Nat.le_trans hsY' hg3.1.size
            have HM3 := Lib.hid hm3; clear hm3
            have HB3 := Lib.hid hb3; clear hb3
            have HO3 := Lib.hid ho3; clear ho3
            have HS3 := Lib.hid hs3; clear hs3
            have HN3 := Lib.hid hn3; clear hn3
            have HBY := Lib.hid hbY; clear hbY
            have HGY := Lib.hid (show g ≤ Y.drew.heap.size from Nat.le_of_lt hmY.lt)
            clear hmY hoY hgo hne hgnn hg3 hsY hsY'
            have hw2 : IntKind.i64.wrap (es + av) = es + av := by rw [IntKind.wrap_i64]; omega
            have hw3 : IntKind.i64.wrap (es + av - ea) = es + av - ea := by rw [IntKind.wrap_i64]; omega
            have hw4 : IntKind.i64.wrap (bv - av) = bv - av := by rw [IntKind.wrap_i64]; omega
            have hlu := (HCL.out Y.drew HBY.out.drew)
            go_wp2_with fail
            refine wp_region_E (fun V => Below g V1 V) 99 rfl ?_
            have hS := HBY.out.drew
            refine wpE_takeF 0 ⟨some 60, _, _, _, _, _⟩ (v := ?_) (by decide) rfl (by kernel_rfl) (by kernel_rfl) (by kernel_rfl) (fun _ _ _ h => h) hS (Or.inl ⟨by kernel_rfl, ?_⟩) ?_
            rotate_left
            · (intro V hSw; obtain ⟨hq1, hq2, hq3⟩ := HCL.out V hSw; go_simp; try with_reducible rfl)
            try simp only [Act.put]
            refine wpE_takeF 1 ⟨some 61, _, _, _, _, _⟩ (v := ?_) (by decide) rfl (by kernel_rfl) (by kernel_rfl) (by kernel_rfl) (fun _ _ _ h => h) hS (Or.inl ⟨by kernel_rfl, ?_⟩) ?_
            rotate_left
            · (intro V hSw; obtain ⟨hq1, hq2, hq3⟩ := HCL.out V hSw; go_simp; try with_reducible rfl)
            try simp only [Act.put]
            refine wpE_takeF 2 ⟨some 62, _, _, _, _, _⟩ (v := ?_) (by decide) rfl (by kernel_rfl) (by kernel_rfl) (by kernel_rfl) (fun _ _ _ h => h) hS (Or.inl ⟨by kernel_rfl, ?_⟩) ?_
            rotate_left
            · (intro V hSw; obtain ⟨hq1, hq2, hq3⟩ := HCL.out V hSw; go_simp; try with_reducible rfl)
            try simp only [Act.put]
            refine wpE_takeF 3 ⟨some 63, _, _, _, _, _⟩ (v := ?_) (by decide) rfl (by kernel_rfl) (by kernel_rfl) (by kernel_rfl) (fun _ _ _ h => h) hS (Or.inl ⟨by kernel_rfl, ?_⟩) ?_
            rotate_left
            · (intro V hSw; obtain ⟨hq1, hq2, hq3⟩ := HCL.out V hSw; go_simp; try with_reducible rfl)
            try simp only [Act.put]
            refine wpE_takeF 4 ⟨some 64, _, _, _, _, _⟩ (v := ?_) (by decide) rfl (by kernel_rfl) (by kernel_rfl) (by kernel_rfl) (fun _ _ _ h => h) hS (Or.inl ⟨by kernel_rfl, ?_⟩) ?_
            rotate_left
            · (intro V hSw; obtain ⟨hq1, hq2, hq3⟩ := HCL.out V hSw; go_simp; try with_reducible rfl)
            try simp only [Act.put]
            refine wpE_takeF 5 ⟨some 65, _, _, _, _, _⟩ (v := ?_) (by decide) rfl (by kernel_rfl) (by kernel_rfl) (by kernel_rfl) (fun _ _ _ h => h) hS (Or.inl ⟨by kernel_rfl, ?_⟩) ?_
            rotate_left
            · (intro V hSw; obtain ⟨hq1, hq2, hq3⟩ := HCL.out V hSw; go_simp; try with_reducible rfl)
            try simp only [Act.put]
            refine wpE_takeF 6 ⟨some 66, _, _, _, _, _⟩ (v := ?_) (by decide) rfl (by kernel_rfl) (by kernel_rfl) (by kernel_rfl) (fun _ _ _ h => h) hS (Or.inl ⟨by kernel_rfl, ?_⟩) ?_
            rotate_left
            · (intro V hSw; obtain ⟨hq1, hq2, hq3⟩ := HCL.out V hSw; go_simp; try with_reducible rfl)
            try simp only [Act.put]
            refine wpE_takeF 7 ⟨some 67, _, _, _, _, _⟩ (v := ?_) (by decide) rfl (by kernel_rfl) (by kernel_rfl) (by kernel_rfl) (fun _ _ _ h => h) hS (Or.inl ⟨by kernel_rfl, ?_⟩) ?_
            rotate_left
            · (intro V hSw; obtain ⟨hq1, hq2, hq3⟩ := HCL.out V hSw; go_simp; try with_reducible rfl)
            try simp only [Act.put]
            refine wpE_takeF 8 ⟨some 68, _, _, _, _, _⟩ (v := ?_) (by decide) rfl (by kernel_rfl) (by kernel_rfl) (by kernel_rfl) (fun _ _ _ h => h) hS (Or.inl ⟨by kernel_rfl, ?_⟩) ?_
            rotate_left
            · (intro V hSw; obtain ⟨hq1, hq2, hq3⟩ := HCL.out V hSw; go_simp; try with_reducible rfl)
            try simp only [Act.put]
            refine wpE_takeF 9 ⟨some 69, _, _, _, _, _⟩ (v := ?_) (by decide) rfl (by kernel_rfl) (by kernel_rfl) (by kernel_rfl) (fun _ _ _ h => h) hS (Or.inl ⟨by kernel_rfl, ?_⟩) ?_
            rotate_left
            · (intro V hSw; obtain ⟨hq1, hq2, hq3⟩ := HCL.out V hSw; go_simp; try with_reducible rfl)
            try simp only [Act.put]
            refine wpE_takeF 10 ⟨some 70, _, _, _, _, _⟩ (v := ?_) (by decide) rfl (by kernel_rfl) (by kernel_rfl) (by kernel_rfl) (fun _ _ _ h => h) hS (Or.inl ⟨by kernel_rfl, ?_⟩) ?_
            rotate_left
            · (intro V hSw; obtain ⟨hq1, hq2, hq3⟩ := HCL.out V hSw; go_simp; try with_reducible rfl)
            try simp only [Act.put]
            refine wpE_takeF 11 ⟨some 71, _, _, _, _, _⟩ (v := ?_) (by decide) rfl (by kernel_rfl) (by kernel_rfl) (by kernel_rfl) (fun _ _ _ h => h) hS (Or.inl ⟨by kernel_rfl, ?_⟩) ?_
            rotate_left
            · (intro V hSw; obtain ⟨hq1, hq2, hq3⟩ := HCL.out V hSw; go_simp; try with_reducible rfl)
            try simp only [Act.put]
            refine wpE_takeF 12 ⟨some 72, _, _, _, _, _⟩ (v := ?_) (by decide) rfl (by kernel_rfl) (by kernel_rfl) (by kernel_rfl) (fun _ _ _ h => h) hS (Or.inl ⟨by kernel_rfl, ?_⟩) ?_
            rotate_left
            · (intro V hSw; obtain ⟨hq1, hq2, hq3⟩ := HCL.out V hSw; go_simp; try with_reducible rfl)
            try simp only [Act.put]
            refine wpE_takeF 13 ⟨some 73, _, _, _, _, _⟩ (v := ?_) (by decide) rfl (by kernel_rfl) (by kernel_rfl) (by kernel_rfl) (fun _ _ _ h => h) hS (Or.inl ⟨by kernel_rfl, ?_⟩) ?_
            rotate_left
            · (intro V hSw; obtain ⟨hq1, hq2, hq3⟩ := HCL.out V hSw; go_simp; try with_reducible rfl)
            try simp only [Act.put]
            refine wpE_takeF 14 ⟨some 74, _, _, _, _, _⟩ (v := ?_) (by decide) rfl (by kernel_rfl) (by kernel_rfl) (by kernel_rfl) (fun _ _ _ h => h) hS (Or.inl ⟨by kernel_rfl, ?_⟩) ?_
            rotate_left
            · (intro V hSw; obtain ⟨hq1, hq2, hq3⟩ := HCL.out V hSw; go_simp; try with_reducible rfl)
            try simp only [Act.put]
            refine wpE_takeF 15 ⟨some 75, _, _, _, _, _⟩ (v := ?_) (by decide) rfl (by kernel_rfl) (by kernel_rfl) (by kernel_rfl) (fun _ _ _ h => h) hS (Or.inl ⟨by kernel_rfl, ?_⟩) ?_
            rotate_left
            · (intro V hSw; obtain ⟨hq1, hq2, hq3⟩ := HCL.out V hSw; go_simp; try with_reducible rfl)
            try simp only [Act.put]
            refine wpE_takeF 16 ⟨some 76, _, _, _, _, _⟩ (v := ?_) (by decide) rfl (by kernel_rfl) (by kernel_rfl) (by kernel_rfl) (fun _ _ _ h => h) hS (Or.inl ⟨by kernel_rfl, ?_⟩) ?_
            rotate_left
            · (intro V hSw; obtain ⟨hq1, hq2, hq3⟩ := HCL.out V hSw; go_simp; try with_reducible rfl)
            try simp only [Act.put]
            refine wpE_takeF 17 ⟨some 77, _, _, _, _, _⟩ (v := ?_) (by decide) rfl (by kernel_rfl) (by kernel_rfl) (by kernel_rfl) (fun _ _ _ h => h) hS (Or.inl ⟨by kernel_rfl, ?_⟩) ?_
            rotate_left
            · (intro V hSw; obtain ⟨hq1, hq2, hq3⟩ := HCL.out V hSw; go_simp; try with_reducible rfl)
            try simp only [Act.put]
            refine wpE_one 18 (by kernel_rfl) rfl (fun K' hK' => ?_)
            go_simp
            refine hK'.out _ _ (hS.alloc HGY.out _) (fun hS1 => ?_)
            clear hK' K'
            try simp only [Act.put]
            refine wpE_one 19 (by kernel_rfl) rfl (fun K' hK' => ?_)
            refine step_builtin (by kernel_rfl) _ _ _ rfl _ _ _ _ rfl rfl hrun ?_
            refine hK'.out _ _ HB3.out (fun hS => ?_)
            clear hK' K'
            try simp only [Act.put]
            refine wpE_takeF 20 ⟨some 10, _, _, _, _, _⟩ (v := ?_) (by decide) rfl (by kernel_rfl) (by kernel_rfl) (by kernel_rfl) (fun _ _ _ h => h) hS (Or.inl ⟨by kernel_rfl, ?_⟩) ?_
            rotate_left
            · (intro V hSw; obtain ⟨hq1, hq2, hq3⟩ := HCL.out V hSw; go_simp; try with_reducible rfl)
            try simp only [Act.put]
            refine wpE_done (by kernel_rfl) ?_ _
            try simp only [List.setIfInBounds_toArray]
            obtain ⟨Z, hZ⟩ : ∃ Z, Z = W3 := ⟨_, rfl⟩
            rw [← hZ]
            clear hrun hlu hw2 hw3 hw4
            go_wp2
            go_loopw [14] (fun v wr2 => ∃ (x : Nat) (T3 : Nat → Int), p ≤ x ∧ (x : Int) ≤ max av bv ∧ v = .int .i64 (x : Int) ∧ MapAt wr2 g T3 Bk ∧ (∀ y, y < 256 → T3 y = if p ≤ y ∧ y < x then 0 else T2 y) ∧ OwnS wr2 V2.heap.size (.slice A3 n3 c3) (gone (cuts (l.take (k + 1)) f t)) ∧ Below g V1 wr2 ∧ V2.heap.size ≤ wr2.heap.size) (fun v _ => (bv - intOf v).toNat)
            case atStart => exact ⟨p, T2, Nat.le_refl _, by omega, by rw [hp], HM3.out, fun y _ => by rw [if_neg (by omega)], HO3.out, HB3.out, HS3.out⟩
            case round =>
              obtain ⟨x, T3, hpx, hxm, rfl, hmap, h3, hos, hbr, hsz⟩ := hrel
              have HM5 := Lib.hid hmap; clear hmap
              have HT5 := Lib.hid h3; clear h3
              have HO5 := Lib.hid hos; clear hos
              have HB5 := Lib.hid hbr; clear hbr
              have HS5 := Lib.hid hsz; clear hsz
              rcases Int.lt_or_le (x : Int) bv with hxb | hxb
              · have hx0 : (0 : Int) ≤ (x : Int) := by omega
                have hx1 : (x : Int) < 256 := by omega
                have HX := Lib.hid (show x < 256 by omega)
                obtain ⟨z1, z2⟩ := HM5.out.to x HX.out
                obtain ⟨V6, hV6⟩ : ∃ V6, V6 = wr.setCell ⟨g, x, none⟩ (.int .i64 0) := ⟨_, rfl⟩
                have hm6 : MapAt V6 g (upd T3 x 0) Bk := by rw [hV6]; exact HM5.out.setTo x HX.out _
                have hb6 : Below g V1 V6 := by rw [hV6]; exact HB5.out.setCell (Nat.le_refl _) _
                have ho6 : OwnS V6 V2.heap.size (.slice A3 n3 c3) (gone (cuts (l.take (k + 1)) f t)) := by
                  rw [hV6]
                  exact HO5.out.kept fun q hq => heap_setCell_other _ _ q _ (fun e => by
                    have := (HO5.out.lt q hq).1
                    have := HG2.out
                    dsimp only at e
                    omega)
                have hs6 : V2.heap.size ≤ V6.heap.size := by rw [hV6]; simpa using HS5.out
                have ht6 : ∀ y, y < 256 → upd T3 x 0 y = if p ≤ y ∧ y < x + 1 then 0 else T2 y := fun y hy => by
                  unfold upd
                  by_cases e : y = x
                  · rw [if_pos e, if_pos (by omega)]
                  · rw [if_neg e, HT5.out y hy]
                    by_cases hc : p ≤ y ∧ y < x
                    · rw [if_pos hc, if_pos (by omega)]
                    · rw [if_neg hc, if_neg (by omega)]
                have HM6 := Lib.hid hm6; clear hm6
                have HB6 := Lib.hid hb6; clear hb6
                have HO6 := Lib.hid ho6; clear ho6
                have HS6 := Lib.hid hs6; clear hs6
                have HT6 := Lib.hid ht6; clear ht6
                have HV6 := Lib.hid hV6; clear hV6
                go_wp2
                rw [← HV6.out]
                go_roundw
                case rel => exact ⟨x + 1, _, by omega, by omega, by go_num, HM6.out, HT6.out, HO6.out, HB6.out, HS6.out⟩
                case measure => simp [intOf]; omega
              · have hst := HSTEP.out T3 p x hp HT5.out (by omega) hxm
                have HST5 := Lib.hid hst; clear hst
                have hxb' : ¬ (x : Int) < bv := by omega
                go_wp2
                go_roundw
                case rel => exact ⟨k + 1, T3, A3, n3, c3, by omega, by go_num, rfl, HN3.out, HM5.out, HST5.out, HO5.out, HB5.out, HS5.out⟩
                case measure => simp [intOf]; omega
          · have hgnn : gone (cuts (l.take (k + 1)) f t) = gone (cuts (l.take k) f t) := by rw [HGN.out, if_neg (by omega), List.append_nil]
            have hos := HOS.out
            have hn2 := HN2.out
            rw [← hgnn] at hos hn2
            have HO3 := Lib.hid (show OwnS wr.drew V2.heap.size (.slice A2 n2 c2) (gone (cuts (l.take (k + 1)) f t)) from hos.kept fun _ _ => rfl)
            have HN3 := Lib.hid hn2
            have HM3 := Lib.hid (show MapAt wr.drew g T2 Bk from HM.out.kept rfl)
            clear hgnn hos hn2
            have hab' : ¬ av < bv := by omega
            obtain ⟨Z, hZ⟩ : ∃ Z, Z = wr.drew := ⟨_, rfl⟩
            rw [← hZ] at HO3 HM3 HSS ⊢
            have HS3 : Hid (V2.heap.size ≤ Z.heap.size) := Lib.hid (by rw [hZ]; exact HSZ.out)
            clear hZ
            go_wp2
            go_loopw [14] (fun v wr2 => ∃ (x : Nat) (T3 : Nat → Int), p ≤ x ∧ (x : Int) ≤ max av bv ∧ v = .int .i64 (x : Int) ∧ MapAt wr2 g T3 Bk ∧ (∀ y, y < 256 → T3 y = if p ≤ y ∧ y < x then 0 else T2 y) ∧ OwnS wr2 V2.heap.size (.slice A2 n2 c2) (gone (cuts (l.take (k + 1)) f t)) ∧ Below g V1 wr2 ∧ V2.heap.size ≤ wr2.heap.size) (fun v _ => (bv - intOf v).toNat)
            case atStart => exact ⟨p, T2, Nat.le_refl _, by omega, by rw [hp], HM3.out, fun y _ => by rw [if_neg (by omega)], HO3.out, HSS.out, HS3.out⟩
            case round =>
              obtain ⟨x, T3, hpx, hxm, rfl, hmap, h3, hos, hbr, hsz⟩ := hrel
              have HM5 := Lib.hid hmap; clear hmap
              have HT5 := Lib.hid h3; clear h3
              have HO5 := Lib.hid hos; clear hos
              have HB5 := Lib.hid hbr; clear hbr
              have HS5 := Lib.hid hsz; clear hsz
              rcases Int.lt_or_le (x : Int) bv with hxb | hxb
              · exact absurd hxb (by omega)
              · have hst := HSTEP.out T3 p x hp HT5.out (by omega) hxm
                have HST5 := Lib.hid hst; clear hst
                have hxb' : ¬ (x : Int) < bv := by omega
                go_wp2
                go_roundw
                case rel => exact ⟨k + 1, T3, A2, n2, c2, by omega, by go_num, rfl, HN3.out, HM5.out, HST5.out, HO5.out, HB5.out, HS5.out⟩
                case measure => simp [intOf]; omega
end Go.Proofs.Ytkhenchhafmlmaa.Ex
