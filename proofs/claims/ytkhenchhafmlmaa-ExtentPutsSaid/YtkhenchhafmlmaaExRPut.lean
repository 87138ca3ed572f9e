/- A list with one extent more: the document's call. -/
import Derived.Test.YtkhenchhafmlmaaExRFind
namespace Go.Proofs.Ytkhenchhafmlmaa.Ex
set_option maxRecDepth 20000
open Go.RowKit
open Go.Proofs.Ytkhenchhafmlmaa.Mem Go.Proofs.Ytkhenchhafmlmaa.Crc Go.Proofs.Ytkhenchhafmlmaa.Rec Go.Proofs.Ytkhenchhafmlmaa.Reg
attribute [local go_sem ↓] ldX_eq stX_eq

/-- Where no block of the two lists is the same, what the map tells behind a put is what is put together. -/
theorem put_plain {l : List X} {e : X} (hr : right l = true) (he : e.may = true) {T T2 : Nat → Int} {Bk B2 : Nat → Bool} (hs : Same T Bk l) (hd : ∀ x, x < 256 → ¬ (e.s ≤ T x ∧ T x < e.s + e.n)) (hf : ∀ x : Nat, e.a ≤ (x : Int) → (x : Int) < e.a + e.n → at_ l (x : Int) = none)
    (h2 : Same T2 B2 (l ++ [e])) : (∀ i, i < 256 → 0 ≤ T2 i ∧ T2 i ≤ 1024) ∧ fits (singles T2 B2 256) = putL l e := by
  obtain ⟨hl, _, _, _, _⟩ := right_lin hr
  have hmay : ∀ x ∈ l, x.may = true := ((right_iff l).1 hr).2.1
  have hem := may_iff.1 he
  have hno : ∀ b, e.a ≤ b ∧ b < e.a + e.n → at_ l b = none := fun b hb => by
    have := hf b.toNat (by omega) (by omega)
    rwa [show ((b.toNat : Nat) : Int) = b by omega] at this
  have hm : meets l e = false := by
    cases hc : meets l e with
    | false => rfl
    | true =>
      rcases (meets_iff hl hmay he).1 hc with ⟨b, v, b1, b2, hb⟩ | ⟨b, d, u, d1, d2, hb⟩
      · rw [hno b ⟨b1, b2⟩] at hb; cases hb
      · obtain ⟨i, rfl, hi, h3, _⟩ := same_of hl hs hb
        exact absurd ⟨by rw [h3]; exact d1, by rw [h3]; exact d2⟩ (hd i hi)
  obtain ⟨p1, p2, _, p4⟩ := put_ok hr he hm
  have hs2 : Same T2 B2 (putRaw l e) := same_congr h2 fun b => by
    rw [p4, at_append, at_one]
    by_cases hb : e.a ≤ b ∧ b < e.a + e.n
    · rw [if_pos hb, if_pos hb, hno b hb]; rfl
    · rw [if_neg hb, if_neg hb, Option.or_none]
  refine ⟨same_range p2 hs2, ?_⟩
  rw [fits_same p1 hs2]
  unfold putL
  rw [hr, he, hm]; rfl
theorem put_meets {l : List X} {e : X} (hr : right l = true) (he : e.may = true) (h : (∃ b v, e.a ≤ b ∧ b < e.a + e.n ∧ at_ l b = some v) ∨ (∃ b d u, e.s ≤ d ∧ d < e.s + e.n ∧ at_ l b = some (d, u))) : putL l e = ([], 4) := by
  have hm : meets l e = true := (meets_iff (right_lin hr).1 ((right_iff l).1 hr).2.1 he).2 h
  unfold putL
  rw [hr, he, hm]; rfl

set_option maxRecDepth 100000 in
set_option maxHeartbeats 8000000 in
theorem rput_any (A : Option Addr) (n c B : Nat) (l : List X) (e : X) (w : World) (h : HoldsX w B A n l) (hB : B ≤ w.heap.size) (hr : ∀ x ∈ l, x.rep) (hre : e.rep) (hn : n ≤ 4398046511104) :
    Calls Try.prog 14 #[.slice A n c, .agg e.c] w fun E w' => ∃ A1 c1, E = .returned (.tuple #[.slice A1 (putL l e).1.length c1, .int .i64 (putL l e).2]) ∧ OwnX w' w.heap.size (.slice A1 (putL l e).1.length c1) (putL l e).1 ∧ Below w.heap.size w w' := by
  obtain ⟨W, hW⟩ : ∃ W, W = w.alloc (.cells e.c 24) := ⟨_, rfl⟩
  have hbw : Below w.heap.size w W := by rw [hW]; exact (Below.refl _ _).alloc (Nat.le_refl _) _
  have hve : VarX W w.heap.size e := hW ▸ VarX.new w e
  have hh : ∀ V, Below w.heap.size w V → HoldsX V B A n l ∧ B ≤ V.heap.size := fun V hV => ⟨h.below (hV.mono hB), by have := hV.size; omega⟩
  have hld : ∀ V, Below W.heap.size W V → (ldX (.pointer (some ⟨w.heap.size, 0, none⟩))).run Try.prog V = .ok (.agg e.c) V ∧ V.cell? ⟨w.heap.size, 0, none⟩ = some (.int .i64 e.a) ∧ V.cell? ⟨w.heap.size, 1, none⟩ = some (.int .i64 e.s) ∧ V.cell? ⟨w.heap.size, 2, none⟩ = some (.int .i64 e.n) ∧ V.cell? ⟨w.heap.size, 3, none⟩ = some (.bool e.u) := fun V hV => by
    have hv : VarX V w.heap.size e := hve.keep hV (by have := hve.lt; omega)
    exact ⟨hv.load, hv.cells.1, hv.cells.2.1, hv.cells.2.2.1, hv.cells.2.2.2⟩
  have hchk := fun V (hV : Below w.heap.size w V) => rcheck_any A n c B l V (hh V hV).1 (hh V hV).2 hr hn
  have hmay : ∀ V, Calls Try.prog 39 #[.agg e.c] V fun E w' => E = .returned (.bool e.may) ∧ Below V.heap.size V w' := fun V => rmay_any e hre V
  have hW0 : w.heap.size < W.heap.size := hve.lt
  have HLD := Lib.hid hld; clear hld
  have HBW := Lib.hid hbw; clear hbw
  have HWE := Lib.hid hW; clear hW hve
  have HW0 := Lib.hid hW0; clear hW0
  cases hrl : right l with
  | false =>
    have hch : chkX l = 1 := by unfold chkX; rw [hrl]; rfl
    have hf : putL l e = ([], 1) := by unfold putL; rw [hrl]; rfl
    rw [hf]
    dsimp only [List.length_nil]
    rw [hch] at hchk
    have HC := Lib.hid hchk; clear hchk h hr hre hrl hch hf hh hmay HLD
    generalize e.c = EC at HWE ⊢
    go_enter Try.func14, Try.ntmps14
    go_wp2_with fail
    rw [← HWE.out]
    with_reducible refine (HC.out W HBW.out).mono ?_
    rintro E V1 ⟨rfl, hb⟩
    have HB1 : Hid (Below w.heap.size w V1) := Lib.hid (HBW.out.trans (hb.mono HBW.out.size))
    clear hb
    go_wp2
    go_ret2
    exact ⟨none, 0, rfl, OwnX.nil _ _, HB1.out⟩
  | true =>
    have hch : chkX l = 0 := by unfold chkX; rw [hrl]; rfl
    rw [hch] at hchk
    have HC := Lib.hid hchk; clear hchk
    cases hem : e.may with
    | false =>
      have hf : putL l e = ([], 1) := by unfold putL; rw [hrl, hem]; rfl
      rw [hf]
      dsimp only [List.length_nil]
      rw [hem] at hmay
      have HM := Lib.hid hmay; clear hmay h hr hre hrl hch hf hh hem
      generalize e.c = EC at HWE HM HLD ⊢
      go_enter Try.func14, Try.ntmps14
      go_wp2_with fail
      rw [← HWE.out]
      with_reducible refine (HC.out W HBW.out).mono ?_
      rintro E V1 ⟨rfl, hb⟩
      have hld := (HLD.out V1 hb).1
      have HB1 : Hid (Below w.heap.size w V1) := Lib.hid (HBW.out.trans (hb.mono HBW.out.size))
      clear hb
      go_wp2_with fail
      with_reducible refine (HM.out V1).mono ?_
      rintro E V2 ⟨rfl, hb⟩
      have HB2 : Hid (Below w.heap.size w V2) := Lib.hid (HB1.out.trans (hb.mono HB1.out.size))
      clear hb hld
      go_wp2
      go_ret2
      exact ⟨none, 0, rfl, OwnX.nil _ _, HB2.out⟩
    | true =>
      rw [hem] at hmay
      have hmeets := put_meets hrl hem
      have hplain := fun (T T2 : Nat → Int) (Bk B2 : Nat → Bool) => put_plain hrl hem (T := T) (T2 := T2) (Bk := Bk) (B2 := B2)
      have hsp : ∀ V, Below w.heap.size w V → Calls Try.prog 40 #[.slice A n c] V fun E w' => ∃ T Bk, E = .returned (.pointer (some ⟨V.heap.size, 0, none⟩)) ∧ MapAt w' V.heap.size T Bk ∧ Same T Bk l ∧ Below V.heap.size V w' := fun V hV => spread_any A n c B l V (hh V hV).1 (hh V hV).2 hrl
      have hee : (⟨e.a, e.s, e.n, e.u⟩ : X) = e := rfl
      have hem' := may_iff.1 hem
      obtain ⟨P, hP⟩ : ∃ P, P = putL l e := ⟨_, rfl⟩
      rw [← hP] at hmeets hplain ⊢
      obtain ⟨EC, hEC⟩ : ∃ EC, EC = e.c := ⟨_, rfl⟩
      rw [← hEC] at HWE HLD hmay ⊢
      have hplain2 : ∀ (T T2 : Nat → Int) (Bk B2 : Nat → Bool), Same T Bk l → (∀ x, x < 256 → ¬ (e.s ≤ T x ∧ T x < e.s + e.n)) → (∀ x : Nat, e.a ≤ (x : Int) → (x : Int) < e.a + e.n → at_ l (x : Int) = none) → Same T2 B2 (l ++ [⟨e.a, e.s, e.n, e.u⟩]) → (∀ i, i < 256 → 0 ≤ T2 i ∧ T2 i ≤ 1024) ∧ fits (singles T2 B2 256) = P := fun T T2 Bk B2 a1 a2 a3 a4 => hplain T T2 Bk B2 a1 a2 a3 a4
      clear hplain hee hP hEC
      obtain ⟨ea, hea⟩ : ∃ ea, ea = e.a := ⟨_, rfl⟩
      obtain ⟨es, hes⟩ : ∃ es, es = e.s := ⟨_, rfl⟩
      obtain ⟨en, hen⟩ : ∃ en, en = e.n := ⟨_, rfl⟩
      obtain ⟨eu, heu⟩ : ∃ eu, eu = e.u := ⟨_, rfl⟩
      rw [← hea, ← hes, ← hen] at hem' hmeets
      rw [← hea, ← hes, ← hen, ← heu] at hplain2 HLD
      have HMEETS := Lib.hid hmeets; clear hmeets
      have HPLAIN := Lib.hid hplain2; clear hplain2
      have HM := Lib.hid hmay; clear hmay
      have HSP := Lib.hid hsp; clear hsp
      clear h hr hre hrl hch hh hem hea hes hen heu
      obtain ⟨er1, er2, er3, er4, er5⟩ := hem'
      have hws : IntKind.i64.wrap (es + en) = es + en := by rw [IntKind.wrap_i64]; omega
      go_enter Try.func14, Try.ntmps14
      go_wp2_with fail
      rw [← HWE.out]
      with_reducible refine (HC.out W HBW.out).mono ?_
      rintro E V1 ⟨rfl, hb1⟩
      have hld := (HLD.out V1 hb1).1
      have HB1 : Hid (Below w.heap.size w V1) := Lib.hid (HBW.out.trans (hb1.mono HBW.out.size))
      go_wp2_with fail
      with_reducible refine (HM.out V1).mono ?_
      rintro E V2 ⟨rfl, hb2⟩
      have hb02 : Below W.heap.size W V2 := hb1.trans (hb2.mono hb1.size)
      have HB2 : Hid (Below w.heap.size w V2) := Lib.hid (HB1.out.trans (hb2.mono HB1.out.size))
      clear hb1 hb2 hld HM
      go_wp2_with fail
      with_reducible refine (HSP.out V2 HB2.out).mono ?_
      rintro E V3 ⟨T, Bk, rfl, hmap, hsame, hb3⟩
      obtain ⟨g, hg⟩ : ∃ g, g = V2.heap.size := ⟨_, rfl⟩
      rw [← hg] at hmap hb3 ⊢
      have hgw : w.heap.size < g := by rw [hg]; have := hb02.size; have := HW0.out; omega
      have hcell : ∀ V, Below g V2 V → V.cell? ⟨w.heap.size, 0, none⟩ = some (.int .i64 ea) ∧ V.cell? ⟨w.heap.size, 1, none⟩ = some (.int .i64 es) ∧ V.cell? ⟨w.heap.size, 2, none⟩ = some (.int .i64 en) ∧ V.cell? ⟨w.heap.size, 3, none⟩ = some (.bool eu) := fun V hV => (HLD.out V (hb02.trans (hV.mono (by rw [hg]; exact hb02.size)))).2
      have hup : ∀ V, Below g V2 V → Below w.heap.size w V := fun V hV => HB2.out.trans (hV.mono (by omega))
      clear hg hb02 HLD HWE HBW HB1 HB2 HC HSP HW0
      have HMAP := Lib.hid hmap; clear hmap
      have HSAME := Lib.hid hsame; clear hsame
      have HGW := Lib.hid hgw; clear hgw
      have HCELL := Lib.hid hcell; clear hcell
      have HUP := Lib.hid hup; clear hup
      have HB3 := Lib.hid hb3; clear hb3
      go_wp2
      go_loopw [7] (fun v wr => ∃ i : Nat, i ≤ 256 ∧ v = .int .i64 (i : Int) ∧ (∀ x, x < i → ¬ (es ≤ T x ∧ T x < es + en)) ∧ Below V3.heap.size V3 wr) (fun v _ => 256 - (intOf v).toNat)
      case atStart => exact ⟨0, by omega, rfl, fun x hx => absurd hx (by omega), Below.refl _ _⟩
      case round =>
        obtain ⟨i, hi, rfl, hno, hbr⟩ := hrel
        have hm : MapAt wr g T Bk := HMAP.out.kept (hbr.block g HMAP.out.lt)
        have hbg : Below g V2 wr := HB3.out.trans (hbr.mono (Nat.le_of_lt HMAP.out.lt))
        have HM := Lib.hid hm; clear hm
        have HBG := Lib.hid hbg; clear hbg
        have HNO := Lib.hid hno; clear hno
        have HBR := Lib.hid hbr; clear hbr
        rcases Nat.lt_or_ge i 256 with hlt | hge
        · have hs7 : ∀ V, Below wr.heap.size wr V → V.cell? ⟨g, i, none⟩ = some (.int .i64 (T i)) ∧ V.cell? ⟨w.heap.size, 1, none⟩ = some (.int .i64 es) ∧ V.cell? ⟨w.heap.size, 2, none⟩ = some (.int .i64 en) := fun V hV => by
            have hm := (HM.out.kept (hV.block g HM.out.lt)).to i hlt
            have hc := HCELL.out V (HBG.out.trans (hV.mono (Nat.le_of_lt HM.out.lt)))
            exact ⟨hm.1, hc.2.1, hc.2.2.1⟩
          obtain ⟨ti, hti⟩ : ∃ ti, ti = T i := ⟨_, rfl⟩
          rw [← hti] at hs7
          have HS7 := Lib.hid hs7; clear hs7
          have hnext : ¬ (es ≤ ti ∧ ti < es + en) → ∀ x, x < i + 1 → ¬ (es ≤ T x ∧ T x < es + en) := fun hc x hx => by
            rcases Nat.lt_or_ge x i with h' | h'
            · exact HNO.out x h'
            · have hxi : x = i := by omega
              subst hxi
              rw [← hti]; exact hc
          have hbad : es ≤ ti → ti < es + en → P = ([], 4) := fun h1 h2 => by
            have h0 : T i ≠ 0 := by rw [← hti]; omega
            exact HMEETS.out (.inr ⟨(i : Int), ti, Bk i, h1, h2, by rw [hti]; exact same_some HSAME.out hlt h0⟩)
          have HNEXT := Lib.hid hnext; clear hnext
          have HBAD := Lib.hid hbad; clear hbad
          have HTI := Lib.hid hti; clear hti
          have hi0 : (0 : Int) ≤ (i : Int) := by omega
          have hi1 : (i : Int) < 256 := by omega
          rcases Int.lt_or_le ti es with g1 | g1
          · have HNX := Lib.hid (HNEXT.out (by omega))
            have hd1 : decide (es ≤ ti) = false := decide_eq_false (by omega)
            clear g1
            go_wp2_with fail
            refine wp_region_E (fun V => Below wr.heap.size wr V) 99 rfl ?_
            have hS := (show Below wr.heap.size wr wr.drew from (Below.refl _ wr).drew)
            refine wpE_takeF 0 ⟨some 23, _, _, _, _, _⟩ (v := ?_) (by decide) rfl (by kernel_rfl) (by kernel_rfl) (by kernel_rfl) (fun _ _ _ h => h) hS (Or.inl ⟨by kernel_rfl, ?_⟩) ?_
            rotate_left
            · (intro V hSw; obtain ⟨hq1, hq2, hq3⟩ := HS7.out V hSw; go_simp; try with_reducible rfl)
            try simp only [Act.put]
            refine wpE_takeF 1 ⟨some 24, _, _, _, _, _⟩ (v := ?_) (by decide) rfl (by kernel_rfl) (by kernel_rfl) (by kernel_rfl) (fun _ _ _ h => h) hS (Or.inl ⟨by kernel_rfl, ?_⟩) ?_
            rotate_left
            · (intro V hSw; obtain ⟨hq1, hq2, hq3⟩ := HS7.out V hSw; go_simp; try with_reducible rfl)
            try simp only [Act.put]
            refine wpE_takeF 2 ⟨some 25, _, _, _, _, _⟩ (v := ?_) (by decide) rfl (by kernel_rfl) (by kernel_rfl) (by kernel_rfl) (fun _ _ _ h => h) hS (Or.inl ⟨by kernel_rfl, ?_⟩) ?_
            rotate_left
            · (intro V hSw; obtain ⟨hq1, hq2, hq3⟩ := HS7.out V hSw; go_simp; try with_reducible rfl)
            try simp only [Act.put]
            refine wpE_takeF 3 ⟨some 26, _, _, _, _, _⟩ (v := ?_) (by decide) rfl (by kernel_rfl) (by kernel_rfl) (by kernel_rfl) (fun _ _ _ h => h) hS (Or.inl ⟨by kernel_rfl, ?_⟩) ?_
            rotate_left
            · (intro V hSw; obtain ⟨hq1, hq2, hq3⟩ := HS7.out V hSw; go_simp; try with_reducible rfl)
            try simp only [Act.put]
            refine wpE_takeF 4 ⟨some 27, _, _, _, _, _⟩ (v := ?_) (by decide) rfl (by kernel_rfl) (by kernel_rfl) (by kernel_rfl) (fun _ _ _ h => h) hS (Or.inl ⟨by kernel_rfl, ?_⟩) ?_
            rotate_left
            · (intro V hSw; obtain ⟨hq1, hq2, hq3⟩ := HS7.out V hSw; go_simp; try with_reducible rfl)
            try simp only [Act.put]
            refine wpE_takeF 5 ⟨some 28, _, _, _, _, _⟩ (v := ?_) (by decide) rfl (by kernel_rfl) (by kernel_rfl) (by kernel_rfl) (fun _ _ _ h => h) hS (Or.inl ⟨by kernel_rfl, ?_⟩) ?_
            rotate_left
            · (intro V hSw; obtain ⟨hq1, hq2, hq3⟩ := HS7.out V hSw; go_simp; try with_reducible rfl)
            try simp only [Act.put]
            refine wpE_takeF 6 ⟨some 29, _, _, _, _, _⟩ (v := ?_) (by decide) rfl (by kernel_rfl) (by kernel_rfl) (by kernel_rfl) (fun _ _ _ h => h) hS (Or.inl ⟨by kernel_rfl, ?_⟩) ?_
            rotate_left
            · (intro V hSw; obtain ⟨hq1, hq2, hq3⟩ := HS7.out V hSw; go_simp; try with_reducible rfl)
            try simp only [Act.put]
            refine wpE_takeF 7 ⟨some 30, _, _, _, _, _⟩ (v := ?_) (by decide) rfl (by kernel_rfl) (by kernel_rfl) (by kernel_rfl) (fun _ _ _ h => h) hS (Or.inl ⟨by kernel_rfl, ?_⟩) ?_
            rotate_left
            · (intro V hSw; obtain ⟨hq1, hq2, hq3⟩ := HS7.out V hSw; go_simp; try with_reducible rfl)
            try simp only [Act.put]
            refine wpE_takeF 8 ⟨some 31, _, _, _, _, _⟩ (v := ?_) (by decide) rfl (by kernel_rfl) (by kernel_rfl) (by kernel_rfl) (fun _ _ _ h => h) hS (Or.inl ⟨by kernel_rfl, ?_⟩) ?_
            rotate_left
            · (intro V hSw; obtain ⟨hq1, hq2, hq3⟩ := HS7.out V hSw; go_simp; try with_reducible rfl)
            try simp only [Act.put]
            refine wpE_takeF 9 ⟨some 32, _, _, _, _, _⟩ (v := ?_) (by decide) rfl (by kernel_rfl) (by kernel_rfl) (by kernel_rfl) (fun _ _ _ h => h) hS (Or.inl ⟨by kernel_rfl, ?_⟩) ?_
            rotate_left
            · (intro V hSw; obtain ⟨hq1, hq2, hq3⟩ := HS7.out V hSw; go_simp; try with_reducible rfl)
            try simp only [Act.put]
            refine wpE_takeF 10 ⟨some 33, _, _, _, _, _⟩ (v := undef) (by decide) rfl (by kernel_rfl) (by kernel_rfl) (by kernel_rfl) (fun _ _ _ h => h) hS (Or.inr ⟨by kernel_rfl, rfl⟩) ?_
            try simp only [Act.put]
            refine wpE_takeF 11 ⟨some 34, _, _, _, _, _⟩ (v := undef) (by decide) rfl (by kernel_rfl) (by kernel_rfl) (by kernel_rfl) (fun _ _ _ h => h) hS (Or.inr ⟨by kernel_rfl, rfl⟩) ?_
            try simp only [Act.put]
            refine wpE_takeF 12 ⟨some 35, _, _, _, _, _⟩ (v := undef) (by decide) rfl (by kernel_rfl) (by kernel_rfl) (by kernel_rfl) (fun _ _ _ h => h) hS (Or.inr ⟨by kernel_rfl, rfl⟩) ?_
            try simp only [Act.put]
            refine wpE_takeF 13 ⟨some 36, _, _, _, _, _⟩ (v := undef) (by decide) rfl (by kernel_rfl) (by kernel_rfl) (by kernel_rfl) (fun _ _ _ h => h) hS (Or.inr ⟨by kernel_rfl, rfl⟩) ?_
            try simp only [Act.put]
            refine wpE_takeF 14 ⟨some 37, _, _, _, _, _⟩ (v := undef) (by decide) rfl (by kernel_rfl) (by kernel_rfl) (by kernel_rfl) (fun _ _ _ h => h) hS (Or.inr ⟨by kernel_rfl, rfl⟩) ?_
            try simp only [Act.put]
            refine wpE_takeF 15 ⟨some 38, _, _, _, _, _⟩ (v := undef) (by decide) rfl (by kernel_rfl) (by kernel_rfl) (by kernel_rfl) (fun _ _ _ h => h) hS (Or.inr ⟨by kernel_rfl, rfl⟩) ?_
            try simp only [Act.put]
            refine wpE_takeF 16 ⟨some 39, _, _, _, _, _⟩ (v := undef) (by decide) rfl (by kernel_rfl) (by kernel_rfl) (by kernel_rfl) (fun _ _ _ h => h) hS (Or.inr ⟨by kernel_rfl, rfl⟩) ?_
            try simp only [Act.put]
            refine wpE_takeF 17 ⟨some 40, _, _, _, _, _⟩ (v := undef) (by decide) rfl (by kernel_rfl) (by kernel_rfl) (by kernel_rfl) (fun _ _ _ h => h) hS (Or.inr ⟨by kernel_rfl, rfl⟩) ?_
            try simp only [Act.put]
            refine wpE_takeF 18 ⟨some 41, _, _, _, _, _⟩ (v := undef) (by decide) rfl (by kernel_rfl) (by kernel_rfl) (by kernel_rfl) (fun _ _ _ h => h) hS (Or.inr ⟨by kernel_rfl, rfl⟩) ?_
            try simp only [Act.put]
            refine wpE_takeF 19 ⟨some 42, _, _, _, _, _⟩ (v := undef) (by decide) rfl (by kernel_rfl) (by kernel_rfl) (by kernel_rfl) (fun _ _ _ h => h) hS (Or.inr ⟨by kernel_rfl, rfl⟩) ?_
            try simp only [Act.put]
            refine wpE_takeF 20 ⟨some 43, _, _, _, _, _⟩ (v := undef) (by decide) rfl (by kernel_rfl) (by kernel_rfl) (by kernel_rfl) (fun _ _ _ h => h) hS (Or.inr ⟨by kernel_rfl, rfl⟩) ?_
            try simp only [Act.put]
            refine wpE_takeF 21 ⟨some 44, _, _, _, _, _⟩ (v := undef) (by decide) rfl (by kernel_rfl) (by kernel_rfl) (by kernel_rfl) (fun _ _ _ h => h) hS (Or.inr ⟨by kernel_rfl, rfl⟩) ?_
            try simp only [Act.put]
            refine wpE_takeF 22 ⟨some 45, _, _, _, _, _⟩ (v := ?_) (by decide) rfl (by kernel_rfl) (by kernel_rfl) (by kernel_rfl) (fun _ _ _ h => h) hS (Or.inl ⟨by kernel_rfl, ?_⟩) ?_
            rotate_left
            · (intro V hSw; obtain ⟨hq1, hq2, hq3⟩ := HS7.out V hSw; go_simp; try with_reducible rfl)
            try simp only [Act.put]
            refine wpE_done (by kernel_rfl) ?_ _
            try simp only [List.setIfInBounds_toArray, List.set_cons_succ, List.set_cons_zero]
            go_wp2
            go_roundw
            case rel => exact ⟨i + 1, by omega, by go_num, HNX.out, HBR.out.drew⟩
            case measure => simp [intOf]; omega
          · have hd1 : decide (es ≤ ti) = true := decide_eq_true g1
            rcases Int.lt_or_le ti (es + en) with g2 | g2
            · have hP := HBAD.out g1 g2
              have hd2 : decide (ti < es + en) = true := decide_eq_true g2
              have HPE := Lib.hid hP
              clear g1 g2 hP
              go_wp2_with fail
              refine wp_region_E (fun V => Below wr.heap.size wr V) 99 rfl ?_
              have hS := (show Below wr.heap.size wr wr.drew from (Below.refl _ wr).drew)
              refine wpE_takeF 0 ⟨some 23, _, _, _, _, _⟩ (v := ?_) (by decide) rfl (by kernel_rfl) (by kernel_rfl) (by kernel_rfl) (fun _ _ _ h => h) hS (Or.inl ⟨by kernel_rfl, ?_⟩) ?_
              rotate_left
              · (intro V hSw; obtain ⟨hq1, hq2, hq3⟩ := HS7.out V hSw; go_simp; try with_reducible rfl)
              try simp only [Act.put]
              refine wpE_takeF 1 ⟨some 24, _, _, _, _, _⟩ (v := ?_) (by decide) rfl (by kernel_rfl) (by kernel_rfl) (by kernel_rfl) (fun _ _ _ h => h) hS (Or.inl ⟨by kernel_rfl, ?_⟩) ?_
              rotate_left
              · (intro V hSw; obtain ⟨hq1, hq2, hq3⟩ := HS7.out V hSw; go_simp; try with_reducible rfl)
              try simp only [Act.put]
              refine wpE_takeF 2 ⟨some 25, _, _, _, _, _⟩ (v := ?_) (by decide) rfl (by kernel_rfl) (by kernel_rfl) (by kernel_rfl) (fun _ _ _ h => h) hS (Or.inl ⟨by kernel_rfl, ?_⟩) ?_
              rotate_left
              · (intro V hSw; obtain ⟨hq1, hq2, hq3⟩ := HS7.out V hSw; go_simp; try with_reducible rfl)
              try simp only [Act.put]
              refine wpE_takeF 3 ⟨some 26, _, _, _, _, _⟩ (v := ?_) (by decide) rfl (by kernel_rfl) (by kernel_rfl) (by kernel_rfl) (fun _ _ _ h => h) hS (Or.inl ⟨by kernel_rfl, ?_⟩) ?_
              rotate_left
              · (intro V hSw; obtain ⟨hq1, hq2, hq3⟩ := HS7.out V hSw; go_simp; try with_reducible rfl)
              try simp only [Act.put]
              refine wpE_takeF 4 ⟨some 27, _, _, _, _, _⟩ (v := ?_) (by decide) rfl (by kernel_rfl) (by kernel_rfl) (by kernel_rfl) (fun _ _ _ h => h) hS (Or.inl ⟨by kernel_rfl, ?_⟩) ?_
              rotate_left
              · (intro V hSw; obtain ⟨hq1, hq2, hq3⟩ := HS7.out V hSw; go_simp; try with_reducible rfl)
              try simp only [Act.put]
              refine wpE_takeF 5 ⟨some 28, _, _, _, _, _⟩ (v := ?_) (by decide) rfl (by kernel_rfl) (by kernel_rfl) (by kernel_rfl) (fun _ _ _ h => h) hS (Or.inl ⟨by kernel_rfl, ?_⟩) ?_
              rotate_left
              · (intro V hSw; obtain ⟨hq1, hq2, hq3⟩ := HS7.out V hSw; go_simp; try with_reducible rfl)
              try simp only [Act.put]
              refine wpE_takeF 6 ⟨some 29, _, _, _, _, _⟩ (v := ?_) (by decide) rfl (by kernel_rfl) (by kernel_rfl) (by kernel_rfl) (fun _ _ _ h => h) hS (Or.inl ⟨by kernel_rfl, ?_⟩) ?_
              rotate_left
              · (intro V hSw; obtain ⟨hq1, hq2, hq3⟩ := HS7.out V hSw; go_simp; try with_reducible rfl)
              try simp only [Act.put]
              refine wpE_takeF 7 ⟨some 30, _, _, _, _, _⟩ (v := ?_) (by decide) rfl (by kernel_rfl) (by kernel_rfl) (by kernel_rfl) (fun _ _ _ h => h) hS (Or.inl ⟨by kernel_rfl, ?_⟩) ?_
              rotate_left
              · (intro V hSw; obtain ⟨hq1, hq2, hq3⟩ := HS7.out V hSw; go_simp; try with_reducible rfl)
              try simp only [Act.put]
              refine wpE_takeF 8 ⟨some 31, _, _, _, _, _⟩ (v := ?_) (by decide) rfl (by kernel_rfl) (by kernel_rfl) (by kernel_rfl) (fun _ _ _ h => h) hS (Or.inl ⟨by kernel_rfl, ?_⟩) ?_
              rotate_left
              · (intro V hSw; obtain ⟨hq1, hq2, hq3⟩ := HS7.out V hSw; go_simp; try with_reducible rfl)
              try simp only [Act.put]
              refine wpE_takeF 9 ⟨some 32, _, _, _, _, _⟩ (v := ?_) (by decide) rfl (by kernel_rfl) (by kernel_rfl) (by kernel_rfl) (fun _ _ _ h => h) hS (Or.inl ⟨by kernel_rfl, ?_⟩) ?_
              rotate_left
              · (intro V hSw; obtain ⟨hq1, hq2, hq3⟩ := HS7.out V hSw; go_simp; try with_reducible rfl)
              try simp only [Act.put]
              refine wpE_takeF 10 ⟨some 33, _, _, _, _, _⟩ (v := ?_) (by decide) rfl (by kernel_rfl) (by kernel_rfl) (by kernel_rfl) (fun _ _ _ h => h) hS (Or.inl ⟨by kernel_rfl, ?_⟩) ?_
              rotate_left
              · (intro V hSw; obtain ⟨hq1, hq2, hq3⟩ := HS7.out V hSw; go_simp; try with_reducible rfl)
              try simp only [Act.put]
              refine wpE_takeF 11 ⟨some 34, _, _, _, _, _⟩ (v := ?_) (by decide) rfl (by kernel_rfl) (by kernel_rfl) (by kernel_rfl) (fun _ _ _ h => h) hS (Or.inl ⟨by kernel_rfl, ?_⟩) ?_
              rotate_left
              · (intro V hSw; obtain ⟨hq1, hq2, hq3⟩ := HS7.out V hSw; go_simp; try with_reducible rfl)
              try simp only [Act.put]
              refine wpE_takeF 12 ⟨some 35, _, _, _, _, _⟩ (v := ?_) (by decide) rfl (by kernel_rfl) (by kernel_rfl) (by kernel_rfl) (fun _ _ _ h => h) hS (Or.inl ⟨by kernel_rfl, ?_⟩) ?_
              rotate_left
              · (intro V hSw; obtain ⟨hq1, hq2, hq3⟩ := HS7.out V hSw; go_simp; try with_reducible rfl)
              try simp only [Act.put]
              refine wpE_takeF 13 ⟨some 36, _, _, _, _, _⟩ (v := ?_) (by decide) rfl (by kernel_rfl) (by kernel_rfl) (by kernel_rfl) (fun _ _ _ h => h) hS (Or.inl ⟨by kernel_rfl, ?_⟩) ?_
              rotate_left
              · (intro V hSw; obtain ⟨hq1, hq2, hq3⟩ := HS7.out V hSw; go_simp; try with_reducible rfl)
              try simp only [Act.put]
              refine wpE_takeF 14 ⟨some 37, _, _, _, _, _⟩ (v := ?_) (by decide) rfl (by kernel_rfl) (by kernel_rfl) (by kernel_rfl) (fun _ _ _ h => h) hS (Or.inl ⟨by kernel_rfl, ?_⟩) ?_
              rotate_left
              · (intro V hSw; obtain ⟨hq1, hq2, hq3⟩ := HS7.out V hSw; go_simp; try with_reducible rfl)
              try simp only [Act.put]
              refine wpE_takeF 15 ⟨some 38, _, _, _, _, _⟩ (v := ?_) (by decide) rfl (by kernel_rfl) (by kernel_rfl) (by kernel_rfl) (fun _ _ _ h => h) hS (Or.inl ⟨by kernel_rfl, ?_⟩) ?_
              rotate_left
              · (intro V hSw; obtain ⟨hq1, hq2, hq3⟩ := HS7.out V hSw; go_simp; try with_reducible rfl)
              try simp only [Act.put]
              refine wpE_takeF 16 ⟨some 39, _, _, _, _, _⟩ (v := ?_) (by decide) rfl (by kernel_rfl) (by kernel_rfl) (by kernel_rfl) (fun _ _ _ h => h) hS (Or.inl ⟨by kernel_rfl, ?_⟩) ?_
              rotate_left
              · (intro V hSw; obtain ⟨hq1, hq2, hq3⟩ := HS7.out V hSw; go_simp; try with_reducible rfl)
              try simp only [Act.put]
              refine wpE_takeF 17 ⟨some 40, _, _, _, _, _⟩ (v := ?_) (by decide) rfl (by kernel_rfl) (by kernel_rfl) (by kernel_rfl) (fun _ _ _ h => h) hS (Or.inl ⟨by kernel_rfl, ?_⟩) ?_
              rotate_left
              · (intro V hSw; obtain ⟨hq1, hq2, hq3⟩ := HS7.out V hSw; go_simp; try with_reducible rfl)
              try simp only [Act.put]
              refine wpE_takeF 18 ⟨some 41, _, _, _, _, _⟩ (v := ?_) (by decide) rfl (by kernel_rfl) (by kernel_rfl) (by kernel_rfl) (fun _ _ _ h => h) hS (Or.inl ⟨by kernel_rfl, ?_⟩) ?_
              rotate_left
              · (intro V hSw; obtain ⟨hq1, hq2, hq3⟩ := HS7.out V hSw; go_simp; try with_reducible rfl)
              try simp only [Act.put]
              refine wpE_takeF 19 ⟨some 42, _, _, _, _, _⟩ (v := ?_) (by decide) rfl (by kernel_rfl) (by kernel_rfl) (by kernel_rfl) (fun _ _ _ h => h) hS (Or.inl ⟨by kernel_rfl, ?_⟩) ?_
              rotate_left
              · (intro V hSw; obtain ⟨hq1, hq2, hq3⟩ := HS7.out V hSw; go_simp; try with_reducible rfl)
              try simp only [Act.put]
              refine wpE_takeF 20 ⟨some 43, _, _, _, _, _⟩ (v := ?_) (by decide) rfl (by kernel_rfl) (by kernel_rfl) (by kernel_rfl) (fun _ _ _ h => h) hS (Or.inl ⟨by kernel_rfl, ?_⟩) ?_
              rotate_left
              · (intro V hSw; obtain ⟨hq1, hq2, hq3⟩ := HS7.out V hSw; go_simp; try with_reducible rfl)
              try simp only [Act.put]
              refine wpE_takeF 21 ⟨some 44, _, _, _, _, _⟩ (v := ?_) (by decide) rfl (by kernel_rfl) (by kernel_rfl) (by kernel_rfl) (fun _ _ _ h => h) hS (Or.inl ⟨by kernel_rfl, ?_⟩) ?_
              rotate_left
              · (intro V hSw; obtain ⟨hq1, hq2, hq3⟩ := HS7.out V hSw; go_simp; try with_reducible rfl)
              try simp only [Act.put]
              refine wpE_takeF 22 ⟨some 45, _, _, _, _, _⟩ (v := ?_) (by decide) rfl (by kernel_rfl) (by kernel_rfl) (by kernel_rfl) (fun _ _ _ h => h) hS (Or.inl ⟨by kernel_rfl, ?_⟩) ?_
              rotate_left
              · (intro V hSw; obtain ⟨hq1, hq2, hq3⟩ := HS7.out V hSw; go_simp; try with_reducible rfl)
              try simp only [Act.put]
              refine wpE_done (by kernel_rfl) ?_ _
              try simp only [List.setIfInBounds_toArray, List.set_cons_succ, List.set_cons_zero]
              go_wp2
              go_ret2
              rw [HPE.out]
              exact ⟨none, 0, rfl, OwnX.nil _ _, HUP.out _ HBG.out.drew⟩
            · have HNX := Lib.hid (HNEXT.out (by omega))
              have hd2 : decide (ti < es + en) = false := decide_eq_false (by omega)
              clear g1 g2
              go_wp2_with fail
              refine wp_region_E (fun V => Below wr.heap.size wr V) 99 rfl ?_
              have hS := (show Below wr.heap.size wr wr.drew from (Below.refl _ wr).drew)
              refine wpE_takeF 0 ⟨some 23, _, _, _, _, _⟩ (v := ?_) (by decide) rfl (by kernel_rfl) (by kernel_rfl) (by kernel_rfl) (fun _ _ _ h => h) hS (Or.inl ⟨by kernel_rfl, ?_⟩) ?_
              rotate_left
              · (intro V hSw; obtain ⟨hq1, hq2, hq3⟩ := HS7.out V hSw; go_simp; try with_reducible rfl)
              try simp only [Act.put]
              refine wpE_takeF 1 ⟨some 24, _, _, _, _, _⟩ (v := ?_) (by decide) rfl (by kernel_rfl) (by kernel_rfl) (by kernel_rfl) (fun _ _ _ h => h) hS (Or.inl ⟨by kernel_rfl, ?_⟩) ?_
              rotate_left
              · (intro V hSw; obtain ⟨hq1, hq2, hq3⟩ := HS7.out V hSw; go_simp; try with_reducible rfl)
              try simp only [Act.put]
              refine wpE_takeF 2 ⟨some 25, _, _, _, _, _⟩ (v := ?_) (by decide) rfl (by kernel_rfl) (by kernel_rfl) (by kernel_rfl) (fun _ _ _ h => h) hS (Or.inl ⟨by kernel_rfl, ?_⟩) ?_
              rotate_left
              · (intro V hSw; obtain ⟨hq1, hq2, hq3⟩ := HS7.out V hSw; go_simp; try with_reducible rfl)
              try simp only [Act.put]
              refine wpE_takeF 3 ⟨some 26, _, _, _, _, _⟩ (v := ?_) (by decide) rfl (by kernel_rfl) (by kernel_rfl) (by kernel_rfl) (fun _ _ _ h => h) hS (Or.inl ⟨by kernel_rfl, ?_⟩) ?_
              rotate_left
              · (intro V hSw; obtain ⟨hq1, hq2, hq3⟩ := HS7.out V hSw; go_simp; try with_reducible rfl)
              try simp only [Act.put]
              refine wpE_takeF 4 ⟨some 27, _, _, _, _, _⟩ (v := ?_) (by decide) rfl (by kernel_rfl) (by kernel_rfl) (by kernel_rfl) (fun _ _ _ h => h) hS (Or.inl ⟨by kernel_rfl, ?_⟩) ?_
              rotate_left
              · (intro V hSw; obtain ⟨hq1, hq2, hq3⟩ := HS7.out V hSw; go_simp; try with_reducible rfl)
              try simp only [Act.put]
              refine wpE_takeF 5 ⟨some 28, _, _, _, _, _⟩ (v := ?_) (by decide) rfl (by kernel_rfl) (by kernel_rfl) (by kernel_rfl) (fun _ _ _ h => h) hS (Or.inl ⟨by kernel_rfl, ?_⟩) ?_
              rotate_left
              · (intro V hSw; obtain ⟨hq1, hq2, hq3⟩ := HS7.out V hSw; go_simp; try with_reducible rfl)
              try simp only [Act.put]
              refine wpE_takeF 6 ⟨some 29, _, _, _, _, _⟩ (v := ?_) (by decide) rfl (by kernel_rfl) (by kernel_rfl) (by kernel_rfl) (fun _ _ _ h => h) hS (Or.inl ⟨by kernel_rfl, ?_⟩) ?_
              rotate_left
              · (intro V hSw; obtain ⟨hq1, hq2, hq3⟩ := HS7.out V hSw; go_simp; try with_reducible rfl)
              try simp only [Act.put]
              refine wpE_takeF 7 ⟨some 30, _, _, _, _, _⟩ (v := ?_) (by decide) rfl (by kernel_rfl) (by kernel_rfl) (by kernel_rfl) (fun _ _ _ h => h) hS (Or.inl ⟨by kernel_rfl, ?_⟩) ?_
              rotate_left
              · (intro V hSw; obtain ⟨hq1, hq2, hq3⟩ := HS7.out V hSw; go_simp; try with_reducible rfl)
              try simp only [Act.put]
              refine wpE_takeF 8 ⟨some 31, _, _, _, _, _⟩ (v := ?_) (by decide) rfl (by kernel_rfl) (by kernel_rfl) (by kernel_rfl) (fun _ _ _ h => h) hS (Or.inl ⟨by kernel_rfl, ?_⟩) ?_
              rotate_left
              · (intro V hSw; obtain ⟨hq1, hq2, hq3⟩ := HS7.out V hSw; go_simp; try with_reducible rfl)
              try simp only [Act.put]
              refine wpE_takeF 9 ⟨some 32, _, _, _, _, _⟩ (v := ?_) (by decide) rfl (by kernel_rfl) (by kernel_rfl) (by kernel_rfl) (fun _ _ _ h => h) hS (Or.inl ⟨by kernel_rfl, ?_⟩) ?_
              rotate_left
              · (intro V hSw; obtain ⟨hq1, hq2, hq3⟩ := HS7.out V hSw; go_simp; try with_reducible rfl)
              try simp only [Act.put]
              refine wpE_takeF 10 ⟨some 33, _, _, _, _, _⟩ (v := ?_) (by decide) rfl (by kernel_rfl) (by kernel_rfl) (by kernel_rfl) (fun _ _ _ h => h) hS (Or.inl ⟨by kernel_rfl, ?_⟩) ?_
              rotate_left
              · (intro V hSw; obtain ⟨hq1, hq2, hq3⟩ := HS7.out V hSw; go_simp; try with_reducible rfl)
              try simp only [Act.put]
              refine wpE_takeF 11 ⟨some 34, _, _, _, _, _⟩ (v := ?_) (by decide) rfl (by kernel_rfl) (by kernel_rfl) (by kernel_rfl) (fun _ _ _ h => h) hS (Or.inl ⟨by kernel_rfl, ?_⟩) ?_
              rotate_left
              · (intro V hSw; obtain ⟨hq1, hq2, hq3⟩ := HS7.out V hSw; go_simp; try with_reducible rfl)
              try simp only [Act.put]
              refine wpE_takeF 12 ⟨some 35, _, _, _, _, _⟩ (v := ?_) (by decide) rfl (by kernel_rfl) (by kernel_rfl) (by kernel_rfl) (fun _ _ _ h => h) hS (Or.inl ⟨by kernel_rfl, ?_⟩) ?_
              rotate_left
              · (intro V hSw; obtain ⟨hq1, hq2, hq3⟩ := HS7.out V hSw; go_simp; try with_reducible rfl)
              try simp only [Act.put]
              refine wpE_takeF 13 ⟨some 36, _, _, _, _, _⟩ (v := ?_) (by decide) rfl (by kernel_rfl) (by kernel_rfl) (by kernel_rfl) (fun _ _ _ h => h) hS (Or.inl ⟨by kernel_rfl, ?_⟩) ?_
              rotate_left
              · (intro V hSw; obtain ⟨hq1, hq2, hq3⟩ := HS7.out V hSw; go_simp; try with_reducible rfl)
              try simp only [Act.put]
              refine wpE_takeF 14 ⟨some 37, _, _, _, _, _⟩ (v := ?_) (by decide) rfl (by kernel_rfl) (by kernel_rfl) (by kernel_rfl) (fun _ _ _ h => h) hS (Or.inl ⟨by kernel_rfl, ?_⟩) ?_
              rotate_left
              · (intro V hSw; obtain ⟨hq1, hq2, hq3⟩ := HS7.out V hSw; go_simp; try with_reducible rfl)
              try simp only [Act.put]
              refine wpE_takeF 15 ⟨some 38, _, _, _, _, _⟩ (v := ?_) (by decide) rfl (by kernel_rfl) (by kernel_rfl) (by kernel_rfl) (fun _ _ _ h => h) hS (Or.inl ⟨by kernel_rfl, ?_⟩) ?_
              rotate_left
              · (intro V hSw; obtain ⟨hq1, hq2, hq3⟩ := HS7.out V hSw; go_simp; try with_reducible rfl)
              try simp only [Act.put]
              refine wpE_takeF 16 ⟨some 39, _, _, _, _, _⟩ (v := ?_) (by decide) rfl (by kernel_rfl) (by kernel_rfl) (by kernel_rfl) (fun _ _ _ h => h) hS (Or.inl ⟨by kernel_rfl, ?_⟩) ?_
              rotate_left
              · (intro V hSw; obtain ⟨hq1, hq2, hq3⟩ := HS7.out V hSw; go_simp; try with_reducible rfl)
              try simp only [Act.put]
              refine wpE_takeF 17 ⟨some 40, _, _, _, _, _⟩ (v := ?_) (by decide) rfl (by kernel_rfl) (by kernel_rfl) (by kernel_rfl) (fun _ _ _ h => h) hS (Or.inl ⟨by kernel_rfl, ?_⟩) ?_
              rotate_left
              · (intro V hSw; obtain ⟨hq1, hq2, hq3⟩ := HS7.out V hSw; go_simp; try with_reducible rfl)
              try simp only [Act.put]
              refine wpE_takeF 18 ⟨some 41, _, _, _, _, _⟩ (v := ?_) (by decide) rfl (by kernel_rfl) (by kernel_rfl) (by kernel_rfl) (fun _ _ _ h => h) hS (Or.inl ⟨by kernel_rfl, ?_⟩) ?_
              rotate_left
              · (intro V hSw; obtain ⟨hq1, hq2, hq3⟩ := HS7.out V hSw; go_simp; try with_reducible rfl)
              try simp only [Act.put]
              refine wpE_takeF 19 ⟨some 42, _, _, _, _, _⟩ (v := ?_) (by decide) rfl (by kernel_rfl) (by kernel_rfl) (by kernel_rfl) (fun _ _ _ h => h) hS (Or.inl ⟨by kernel_rfl, ?_⟩) ?_
              rotate_left
              · (intro V hSw; obtain ⟨hq1, hq2, hq3⟩ := HS7.out V hSw; go_simp; try with_reducible rfl)
              try simp only [Act.put]
              refine wpE_takeF 20 ⟨some 43, _, _, _, _, _⟩ (v := ?_) (by decide) rfl (by kernel_rfl) (by kernel_rfl) (by kernel_rfl) (fun _ _ _ h => h) hS (Or.inl ⟨by kernel_rfl, ?_⟩) ?_
              rotate_left
              · (intro V hSw; obtain ⟨hq1, hq2, hq3⟩ := HS7.out V hSw; go_simp; try with_reducible rfl)
              try simp only [Act.put]
              refine wpE_takeF 21 ⟨some 44, _, _, _, _, _⟩ (v := ?_) (by decide) rfl (by kernel_rfl) (by kernel_rfl) (by kernel_rfl) (fun _ _ _ h => h) hS (Or.inl ⟨by kernel_rfl, ?_⟩) ?_
              rotate_left
              · (intro V hSw; obtain ⟨hq1, hq2, hq3⟩ := HS7.out V hSw; go_simp; try with_reducible rfl)
              try simp only [Act.put]
              refine wpE_takeF 22 ⟨some 45, _, _, _, _, _⟩ (v := ?_) (by decide) rfl (by kernel_rfl) (by kernel_rfl) (by kernel_rfl) (fun _ _ _ h => h) hS (Or.inl ⟨by kernel_rfl, ?_⟩) ?_
              rotate_left
              · (intro V hSw; obtain ⟨hq1, hq2, hq3⟩ := HS7.out V hSw; go_simp; try with_reducible rfl)
              try simp only [Act.put]
              refine wpE_done (by kernel_rfl) ?_ _
              try simp only [List.setIfInBounds_toArray, List.set_cons_succ, List.set_cons_zero]
              go_wp2
              go_roundw
              case rel => exact ⟨i + 1, by omega, by go_num, HNX.out, HBR.out.drew⟩
              case measure => simp [intOf]; omega
        · have hi6 : i = 256 := by omega
          subst hi6
          have hge' : ¬ ((256 : Nat) : Int) < 256 := by omega
          go_wp2
          go_loopw [8] (fun v wr2 => ∃ (j : Nat) (T2 : Nat → Int) (B2 : Nat → Bool), (j : Int) ≤ en ∧ v = .int .i64 (j : Int) ∧ MapAt wr2 g T2 B2 ∧ Same T2 B2 (l ++ [⟨ea, es, (j : Int), eu⟩]) ∧ (∀ x : Nat, ea ≤ (x : Int) → (x : Int) < ea + (j : Int) → at_ l (x : Int) = none) ∧ Below g V2 wr2) (fun v _ => en.toNat - (intOf v).toNat)
          case atStart => exact ⟨0, T, Bk, by omega, rfl, HM.out, same_zero HSAME.out _ _ _, fun x h1 h2 => absurd h2 (by omega), HBG.out⟩
          case round =>
            obtain ⟨j, T2, B2, hj, rfl, hmap, hs2, hfr, hbr⟩ := hrel
            have HM2 := Lib.hid hmap; clear hmap
            have HS2 := Lib.hid hs2; clear hs2
            have HFR := Lib.hid hfr; clear hfr
            have HB4 := Lib.hid hbr; clear hbr
            obtain ⟨-, -, hc3, -⟩ := HCELL.out wr HB4.out
            rcases Int.lt_or_le (j : Int) en with hjk | hjk
            rotate_left
            · have hje : (j : Int) = en := by omega
              obtain ⟨hrg, hfit⟩ := HPLAIN.out T T2 Bk B2 HSAME.out HNO.out (by have := HFR.out; rwa [hje] at this) (by have := HS2.out; rwa [hje] at this)
              have hft := fit_any g T2 B2 wr HM2.out hrg
              rw [hfit] at hft
              have HFT := Lib.hid hft; clear hft hrg hfit
              have hnl : ¬ (j : Int) < en := by omega
              have HJE := Lib.hid hje; clear hje hjk
              go_wp2_with fail
              with_reducible refine HFT.out.mono ?_
              rintro E V4 ⟨A4, c4, rfl, ho, hb⟩
              have hw4 := HUP.out wr HB4.out
              have HO : Hid (OwnX V4 w.heap.size (.slice A4 P.1.length c4) P.1) := Lib.hid (ho.mono hw4.size)
              have HB5 : Hid (Below w.heap.size w V4) := Lib.hid (hw4.trans (hb.mono hw4.size))
              clear ho hb hw4
              go_wp2
              go_ret2
              exact ⟨A4, c4, rfl, HO.out, HB5.out⟩
            · obtain ⟨x, hx⟩ : ∃ x : Nat, (x : Int) = ea + (j : Int) := ⟨(ea + (j : Int)).toNat, by omega⟩
              have hx0 : (0 : Int) ≤ (x : Int) := by omega
              have hx1 : (x : Int) < 256 := by omega
              have hw1 : IntKind.i64.wrap (ea + (j : Int)) = (x : Int) := by rw [IntKind.wrap_i64]; omega
              have hw2 : IntKind.i64.wrap (es + (j : Int)) = es + (j : Int) := by rw [IntKind.wrap_i64]; omega
              have HIN := Lib.hid (show x < 256 by omega)
              have hatl : at_ (l ++ [⟨ea, es, (j : Int), eu⟩]) (x : Int) = at_ l (x : Int) := by
                rw [at_append, at_one, if_neg (by dsimp only; omega), Option.or_none]
              have hs12 : ∀ V, Below wr.heap.size wr V → V.cell? ⟨w.heap.size, 0, none⟩ = some (.int .i64 ea) ∧ V.cell? ⟨w.heap.size, 1, none⟩ = some (.int .i64 es) ∧ V.cell? ⟨g, x, none⟩ = some (.int .i64 (T2 x)) := fun V hV => by
                have hm := (HM2.out.kept (hV.block g HM2.out.lt)).to x HIN.out
                have hc := HCELL.out V (HB4.out.trans (hV.mono (Nat.le_of_lt HM2.out.lt)))
                exact ⟨hc.1, hc.2.1, hm.1⟩
              obtain ⟨tx, htx⟩ : ∃ tx, tx = T2 x := ⟨_, rfl⟩
              rw [← htx] at hs12
              have HS12 := Lib.hid hs12; clear hs12
              by_cases h0 : tx = 0
              rotate_left
              · have hP : P = ([], 4) := by
                  have h2 := same_some HS2.out HIN.out (by rw [← htx]; exact h0)
                  rw [hatl] at h2
                  exact HMEETS.out (.inl ⟨(x : Int), _, by omega, by omega, h2⟩)
                have HPE := Lib.hid hP
                have hzb : (tx == 0) = false := beq_false_of_ne h0
                clear h0 hP hatl htx hx
                go_wp2_with fail
                refine wp_region_E (fun V => Below wr.heap.size wr V) 99 rfl ?_
                have hS := (show Below wr.heap.size wr wr.drew from (Below.refl _ wr).drew)
                refine wpE_takeF 0 ⟨some 52, _, _, _, _, _⟩ (v := ?_) (by decide) rfl (by kernel_rfl) (by kernel_rfl) (by kernel_rfl) (fun _ _ _ h => h) hS (Or.inl ⟨by kernel_rfl, ?_⟩) ?_
                rotate_left
                · (intro V hSw; obtain ⟨hq1, hq2, hq3⟩ := HS12.out V hSw; go_simp; try with_reducible rfl)
                try simp only [Act.put]
                refine wpE_takeF 1 ⟨some 53, _, _, _, _, _⟩ (v := ?_) (by decide) rfl (by kernel_rfl) (by kernel_rfl) (by kernel_rfl) (fun _ _ _ h => h) hS (Or.inl ⟨by kernel_rfl, ?_⟩) ?_
                rotate_left
                · (intro V hSw; obtain ⟨hq1, hq2, hq3⟩ := HS12.out V hSw; go_simp; try with_reducible rfl)
                try simp only [Act.put]
                refine wpE_takeF 2 ⟨some 54, _, _, _, _, _⟩ (v := ?_) (by decide) rfl (by kernel_rfl) (by kernel_rfl) (by kernel_rfl) (fun _ _ _ h => h) hS (Or.inl ⟨by kernel_rfl, ?_⟩) ?_
                rotate_left
                · (intro V hSw; obtain ⟨hq1, hq2, hq3⟩ := HS12.out V hSw; go_simp; try with_reducible rfl)
                try simp only [Act.put]
                refine wpE_takeF 3 ⟨some 55, _, _, _, _, _⟩ (v := ?_) (by decide) rfl (by kernel_rfl) (by kernel_rfl) (by kernel_rfl) (fun _ _ _ h => h) hS (Or.inl ⟨by kernel_rfl, ?_⟩) ?_
                rotate_left
                · (intro V hSw; obtain ⟨hq1, hq2, hq3⟩ := HS12.out V hSw; go_simp; try with_reducible rfl)
                try simp only [Act.put]
                refine wpE_takeF 4 ⟨some 56, _, _, _, _, _⟩ (v := ?_) (by decide) rfl (by kernel_rfl) (by kernel_rfl) (by kernel_rfl) (fun _ _ _ h => h) hS (Or.inl ⟨by kernel_rfl, ?_⟩) ?_
                rotate_left
                · (intro V hSw; obtain ⟨hq1, hq2, hq3⟩ := HS12.out V hSw; go_simp; try with_reducible rfl)
                try simp only [Act.put]
                refine wpE_takeF 5 ⟨some 57, _, _, _, _, _⟩ (v := ?_) (by decide) rfl (by kernel_rfl) (by kernel_rfl) (by kernel_rfl) (fun _ _ _ h => h) hS (Or.inl ⟨by kernel_rfl, ?_⟩) ?_
                rotate_left
                · (intro V hSw; obtain ⟨hq1, hq2, hq3⟩ := HS12.out V hSw; go_simp; try with_reducible rfl)
                try simp only [Act.put]
                refine wpE_takeF 6 ⟨some 58, _, _, _, _, _⟩ (v := ?_) (by decide) rfl (by kernel_rfl) (by kernel_rfl) (by kernel_rfl) (fun _ _ _ h => h) hS (Or.inl ⟨by kernel_rfl, ?_⟩) ?_
                rotate_left
                · (intro V hSw; obtain ⟨hq1, hq2, hq3⟩ := HS12.out V hSw; go_simp; try with_reducible rfl)
                try simp only [Act.put]
                refine wpE_takeF 7 ⟨some 59, _, _, _, _, _⟩ (v := ?_) (by decide) rfl (by kernel_rfl) (by kernel_rfl) (by kernel_rfl) (fun _ _ _ h => h) hS (Or.inl ⟨by kernel_rfl, ?_⟩) ?_
                rotate_left
                · (intro V hSw; obtain ⟨hq1, hq2, hq3⟩ := HS12.out V hSw; go_simp; try with_reducible rfl)
                try simp only [Act.put]
                refine wpE_takeF 8 ⟨some 60, _, _, _, _, _⟩ (v := ?_) (by decide) rfl (by kernel_rfl) (by kernel_rfl) (by kernel_rfl) (fun _ _ _ h => h) hS (Or.inl ⟨by kernel_rfl, ?_⟩) ?_
                rotate_left
                · (intro V hSw; obtain ⟨hq1, hq2, hq3⟩ := HS12.out V hSw; go_simp; try with_reducible rfl)
                try simp only [Act.put]
                refine wpE_takeF 9 ⟨some 61, _, _, _, _, _⟩ (v := ?_) (by decide) rfl (by kernel_rfl) (by kernel_rfl) (by kernel_rfl) (fun _ _ _ h => h) hS (Or.inl ⟨by kernel_rfl, ?_⟩) ?_
                rotate_left
                · (intro V hSw; obtain ⟨hq1, hq2, hq3⟩ := HS12.out V hSw; go_simp; try with_reducible rfl)
                try simp only [Act.put]
                refine wpE_done (by kernel_rfl) ?_ _
                try simp only [List.setIfInBounds_toArray, List.set_cons_succ, List.set_cons_zero]
                go_wp2
                go_ret2
                rw [HPE.out]
                exact ⟨none, 0, rfl, OwnX.nil _ _, HUP.out _ HB4.out.drew⟩
              · have hnone : at_ l (x : Int) = none := by
                  have h2 := same_none HS2.out HIN.out (by rw [← htx]; exact h0)
                  rwa [hatl] at h2
                have hs3 := same_put HS2.out hx er2 hnone
                have hfr3 : ∀ y : Nat, ea ≤ (y : Int) → (y : Int) < ea + ((j + 1 : Nat) : Int) → at_ l (y : Int) = none := fun y h1 h2 => by
                  rcases Decidable.em (y = x) with e | e
                  · rw [e]; exact hnone
                  · exact HFR.out y h1 (by omega)
                have HS3 := Lib.hid hs3; clear hs3
                have HFR3 := Lib.hid hfr3; clear hfr3
                subst h0
                clear hatl htx hnone
                have HX := Lib.hid hx; clear hx
                go_wp2_with fail
                refine wp_region_E (fun V => Below wr.heap.size wr V) 99 rfl ?_
                have hS := (show Below wr.heap.size wr wr.drew from (Below.refl _ wr).drew)
                refine wpE_takeF 0 ⟨some 52, _, _, _, _, _⟩ (v := ?_) (by decide) rfl (by kernel_rfl) (by kernel_rfl) (by kernel_rfl) (fun _ _ _ h => h) hS (Or.inl ⟨by kernel_rfl, ?_⟩) ?_
                rotate_left
                · (intro V hSw; obtain ⟨hq1, hq2, hq3⟩ := HS12.out V hSw; go_simp; try with_reducible rfl)
                try simp only [Act.put]
                refine wpE_takeF 1 ⟨some 53, _, _, _, _, _⟩ (v := ?_) (by decide) rfl (by kernel_rfl) (by kernel_rfl) (by kernel_rfl) (fun _ _ _ h => h) hS (Or.inl ⟨by kernel_rfl, ?_⟩) ?_
                rotate_left
                · (intro V hSw; obtain ⟨hq1, hq2, hq3⟩ := HS12.out V hSw; go_simp; try with_reducible rfl)
                try simp only [Act.put]
                refine wpE_takeF 2 ⟨some 54, _, _, _, _, _⟩ (v := ?_) (by decide) rfl (by kernel_rfl) (by kernel_rfl) (by kernel_rfl) (fun _ _ _ h => h) hS (Or.inl ⟨by kernel_rfl, ?_⟩) ?_
                rotate_left
                · (intro V hSw; obtain ⟨hq1, hq2, hq3⟩ := HS12.out V hSw; go_simp; try with_reducible rfl)
                try simp only [Act.put]
                refine wpE_takeF 3 ⟨some 55, _, _, _, _, _⟩ (v := ?_) (by decide) rfl (by kernel_rfl) (by kernel_rfl) (by kernel_rfl) (fun _ _ _ h => h) hS (Or.inl ⟨by kernel_rfl, ?_⟩) ?_
                rotate_left
                · (intro V hSw; obtain ⟨hq1, hq2, hq3⟩ := HS12.out V hSw; go_simp; try with_reducible rfl)
                try simp only [Act.put]
                refine wpE_takeF 4 ⟨some 56, _, _, _, _, _⟩ (v := ?_) (by decide) rfl (by kernel_rfl) (by kernel_rfl) (by kernel_rfl) (fun _ _ _ h => h) hS (Or.inl ⟨by kernel_rfl, ?_⟩) ?_
                rotate_left
                · (intro V hSw; obtain ⟨hq1, hq2, hq3⟩ := HS12.out V hSw; go_simp; try with_reducible rfl)
                try simp only [Act.put]
                refine wpE_takeF 5 ⟨some 57, _, _, _, _, _⟩ (v := ?_) (by decide) rfl (by kernel_rfl) (by kernel_rfl) (by kernel_rfl) (fun _ _ _ h => h) hS (Or.inl ⟨by kernel_rfl, ?_⟩) ?_
                rotate_left
                · (intro V hSw; obtain ⟨hq1, hq2, hq3⟩ := HS12.out V hSw; go_simp; try with_reducible rfl)
                try simp only [Act.put]
                refine wpE_takeF 6 ⟨some 58, _, _, _, _, _⟩ (v := ?_) (by decide) rfl (by kernel_rfl) (by kernel_rfl) (by kernel_rfl) (fun _ _ _ h => h) hS (Or.inl ⟨by kernel_rfl, ?_⟩) ?_
                rotate_left
                · (intro V hSw; obtain ⟨hq1, hq2, hq3⟩ := HS12.out V hSw; go_simp; try with_reducible rfl)
                try simp only [Act.put]
                refine wpE_takeF 7 ⟨some 59, _, _, _, _, _⟩ (v := ?_) (by decide) rfl (by kernel_rfl) (by kernel_rfl) (by kernel_rfl) (fun _ _ _ h => h) hS (Or.inl ⟨by kernel_rfl, ?_⟩) ?_
                rotate_left
                · (intro V hSw; obtain ⟨hq1, hq2, hq3⟩ := HS12.out V hSw; go_simp; try with_reducible rfl)
                try simp only [Act.put]
                refine wpE_takeF 8 ⟨some 60, _, _, _, _, _⟩ (v := ?_) (by decide) rfl (by kernel_rfl) (by kernel_rfl) (by kernel_rfl) (fun _ _ _ h => h) hS (Or.inl ⟨by kernel_rfl, ?_⟩) ?_
                rotate_left
                · (intro V hSw; obtain ⟨hq1, hq2, hq3⟩ := HS12.out V hSw; go_simp; try with_reducible rfl)
                try simp only [Act.put]
                refine wpE_takeF 9 ⟨some 61, _, _, _, _, _⟩ (v := ?_) (by decide) rfl (by kernel_rfl) (by kernel_rfl) (by kernel_rfl) (fun _ _ _ h => h) hS (Or.inl ⟨by kernel_rfl, ?_⟩) ?_
                rotate_left
                · (intro V hSw; obtain ⟨hq1, hq2, hq3⟩ := HS12.out V hSw; go_simp; try with_reducible rfl)
                try simp only [Act.put]
                refine wpE_done (by kernel_rfl) ?_ _
                try simp only [List.setIfInBounds_toArray, List.set_cons_succ, List.set_cons_zero]
                obtain ⟨Y, hY⟩ : ∃ Y, Y = wr.drew := ⟨_, rfl⟩
                rw [← hY]
                have hmY : MapAt Y g T2 B2 := by rw [hY]; exact HM2.out.kept rfl
                have hbY : Below g V2 Y := by rw [hY]; exact HB4.out.drew
                clear hY
                have hs14 : ∀ V, Below Y.heap.size Y V → V.cell? ⟨w.heap.size, 0, none⟩ = some (.int .i64 ea) ∧ V.cell? ⟨w.heap.size, 1, none⟩ = some (.int .i64 es) := fun V hV => by
                  have hc := HCELL.out V (hbY.trans (hV.mono (Nat.le_of_lt hmY.lt)))
                  exact ⟨hc.1, hc.2.1⟩
                have HS14 := Lib.hid hs14; clear hs14
                have hm2 : MapAt Y.drew g T2 B2 := hmY.kept rfl
                obtain ⟨z1, z2⟩ := hm2.to x HIN.out
                have HMD := Lib.hid hmY; clear hm2 hmY
                have HBY := Lib.hid hbY; clear hbY
                go_wp2_with fail
                refine wp_region_E (fun V => Below Y.heap.size Y V) 12 rfl ?_
                have hS := (show Below Y.heap.size Y Y.drew from (Below.refl _ Y).drew)
                refine wpE_take 0 ⟨some 62, _, _, _, _, _⟩ (v := ?_) [9, 10, 11, 12] rfl (by kernel_rfl) (by kernel_rfl) (by kernel_rfl) (by kernel_rfl) (fun _ _ _ h => h) hS (Or.inl ⟨by kernel_rfl, ?_⟩) ?_
                rotate_left
                · (intro V hSw; obtain ⟨hq1, hq2⟩ := HS14.out V hSw; go_simp; try with_reducible rfl)
                try simp only [Act.put]
                refine wpE_take 1 ⟨some 63, _, _, _, _, _⟩ (v := ?_) [2, 4, 11, 12] rfl (by kernel_rfl) (by kernel_rfl) (by kernel_rfl) (by kernel_rfl) (fun _ _ _ h => h) hS (Or.inl ⟨by kernel_rfl, ?_⟩) ?_
                rotate_left
                · (intro V hSw; obtain ⟨hq1, hq2⟩ := HS14.out V hSw; go_simp; try with_reducible rfl)
                try simp only [Act.put]
                refine wpE_take 2 ⟨some 64, _, _, _, _, _⟩ (v := ?_) [4, 11, 12] rfl (by kernel_rfl) (by kernel_rfl) (by kernel_rfl) (by kernel_rfl) (fun _ _ _ h => h) hS (Or.inl ⟨by kernel_rfl, ?_⟩) ?_
                rotate_left
                · (intro V hSw; obtain ⟨hq1, hq2⟩ := HS14.out V hSw; go_simp; try with_reducible rfl)
                try simp only [Act.put]
                refine wpE_take 3 ⟨some 65, _, _, _, _, _⟩ (v := ?_) [4, 11, 12] rfl (by kernel_rfl) (by kernel_rfl) (by kernel_rfl) (by kernel_rfl) (fun _ _ _ h => h) hS (Or.inl ⟨by kernel_rfl, ?_⟩) ?_
                rotate_left
                · (intro V hSw; obtain ⟨hq1, hq2⟩ := HS14.out V hSw; go_simp; try with_reducible rfl)
                try simp only [Act.put]
                refine wpE_take 4 ⟨some 66, _, _, _, _, _⟩ (v := ?_) [11, 12] rfl (by kernel_rfl) (by kernel_rfl) (by kernel_rfl) (by kernel_rfl) (fun _ _ _ h => h) hS (Or.inl ⟨by kernel_rfl, ?_⟩) ?_
                rotate_left
                · (intro V hSw; obtain ⟨hq1, hq2⟩ := HS14.out V hSw; go_simp; try with_reducible rfl)
                try simp only [Act.put]
                refine wpE_take 5 ⟨some 67, _, _, _, _, _⟩ (v := ?_) [6, 8, 11, 12] rfl (by kernel_rfl) (by kernel_rfl) (by kernel_rfl) (by kernel_rfl) (fun _ _ _ h => h) hS (Or.inl ⟨by kernel_rfl, ?_⟩) ?_
                rotate_left
                · (intro V hSw; obtain ⟨hq1, hq2⟩ := HS14.out V hSw; go_simp; try with_reducible rfl)
                try simp only [Act.put]
                refine wpE_take 6 ⟨some 68, _, _, _, _, _⟩ (v := ?_) [8, 11, 12] rfl (by kernel_rfl) (by kernel_rfl) (by kernel_rfl) (by kernel_rfl) (fun _ _ _ h => h) hS (Or.inl ⟨by kernel_rfl, ?_⟩) ?_
                rotate_left
                · (intro V hSw; obtain ⟨hq1, hq2⟩ := HS14.out V hSw; go_simp; try with_reducible rfl)
                try simp only [Act.put]
                refine wpE_take 7 ⟨some 69, _, _, _, _, _⟩ (v := ?_) [8, 11, 12] rfl (by kernel_rfl) (by kernel_rfl) (by kernel_rfl) (by kernel_rfl) (fun _ _ _ h => h) hS (Or.inl ⟨by kernel_rfl, ?_⟩) ?_
                rotate_left
                · (intro V hSw; obtain ⟨hq1, hq2⟩ := HS14.out V hSw; go_simp; try with_reducible rfl)
                try simp only [Act.put]
                refine wpE_take 8 ⟨some 70, _, _, _, _, _⟩ (v := ?_) [11, 12] rfl (by kernel_rfl) (by kernel_rfl) (by kernel_rfl) (by kernel_rfl) (fun _ _ _ h => h) hS (Or.inl ⟨by kernel_rfl, ?_⟩) ?_
                rotate_left
                · (intro V hSw; obtain ⟨hq1, hq2⟩ := HS14.out V hSw; go_simp; try with_reducible rfl)
                try simp only [Act.put]
                refine wpE_take 9 ⟨some 71, _, _, _, _, _⟩ (v := ?_) [10, 11, 12] rfl (by kernel_rfl) (by kernel_rfl) (by kernel_rfl) (by kernel_rfl) (fun _ _ _ h => h) hS (Or.inl ⟨by kernel_rfl, ?_⟩) ?_
                rotate_left
                · (intro V hSw; obtain ⟨hq1, hq2⟩ := HS14.out V hSw; go_simp; try with_reducible rfl)
                try simp only [Act.put]
                refine wpE_take 10 ⟨some 72, _, _, _, _, _⟩ (v := ?_) [11, 12] rfl (by kernel_rfl) (by kernel_rfl) (by kernel_rfl) (by kernel_rfl) (fun _ _ _ h => h) hS (Or.inl ⟨by kernel_rfl, ?_⟩) ?_
                rotate_left
                · (intro V hSw; obtain ⟨hq1, hq2⟩ := HS14.out V hSw; go_simp; try with_reducible rfl)
                try simp only [Act.put]
                refine wpE_take 11 ⟨some 73, _, _, _, _, _⟩ (v := ?_) [12] rfl (by kernel_rfl) (by kernel_rfl) (by kernel_rfl) (by kernel_rfl) (fun _ _ _ h => h) hS (Or.inl ⟨by kernel_rfl, ?_⟩) ?_
                rotate_left
                · (intro V hSw; obtain ⟨hq1, hq2⟩ := HS14.out V hSw; go_simp; try with_reducible rfl)
                try simp only [Act.put]
                refine wpE_last (by kernel_rfl) rfl (fun K' hK' => ?_)
                go_simp
                refine hK'.out _ _ ?_
                clear hK' K'
                refine wpE_done (by kernel_rfl) ?_ _
                try simp only [List.setIfInBounds_toArray, List.set_cons_succ, List.set_cons_zero]
                obtain ⟨Y1, hY1⟩ : ∃ Y1, Y1 = (Y.setCell ⟨g, x, none⟩ (.int .i64 (es + (j : Int)))).drew := ⟨_, rfl⟩
                rw [← hY1]
                have hm3 : MapAt Y1 g (upd T2 x (es + (j : Int))) B2 := by rw [hY1]; exact (HMD.out.setTo x HIN.out _).kept rfl
                have hb3 : Below g V2 Y1 := by rw [hY1]; exact (HBY.out.setCell (Nat.le_refl _) _).drew
                clear hY1 z1 z2
                have hs15 : ∀ V, Below Y1.heap.size Y1 V → V.cell? ⟨w.heap.size, 0, none⟩ = some (.int .i64 ea) ∧ V.cell? ⟨w.heap.size, 3, none⟩ = some (.bool eu) := fun V hV => by
                  have hc := HCELL.out V (hb3.trans (hV.mono (Nat.le_of_lt hm3.lt)))
                  exact ⟨hc.1, hc.2.2.2⟩
                have HS15 := Lib.hid hs15; clear hs15
                have hm4 : MapAt Y1.drew g (upd T2 x (es + (j : Int))) B2 := hm3.kept rfl
                obtain ⟨z1, z2⟩ := hm4.blank x HIN.out
                have HM4 := Lib.hid hm3; clear hm4 hm3
                have HBY1 := Lib.hid hb3; clear hb3
                go_wp2_with fail
                refine wp_region_E (fun V => Below Y1.heap.size Y1 V) 10 rfl ?_
                have hS := (show Below Y1.heap.size Y1 Y1.drew from (Below.refl _ Y1).drew)
                refine wpE_take 0 ⟨some 74, _, _, _, _, _⟩ (v := ?_) [7, 8, 9, 10] rfl (by kernel_rfl) (by kernel_rfl) (by kernel_rfl) (by kernel_rfl) (fun _ _ _ h => h) hS (Or.inl ⟨by kernel_rfl, ?_⟩) ?_
                rotate_left
                · (intro V hSw; obtain ⟨hq1, hq2⟩ := HS15.out V hSw; go_simp; try with_reducible rfl)
                try simp only [Act.put]
                refine wpE_take 1 ⟨some 75, _, _, _, _, _⟩ (v := ?_) [2, 4, 9, 10] rfl (by kernel_rfl) (by kernel_rfl) (by kernel_rfl) (by kernel_rfl) (fun _ _ _ h => h) hS (Or.inl ⟨by kernel_rfl, ?_⟩) ?_
                rotate_left
                · (intro V hSw; obtain ⟨hq1, hq2⟩ := HS15.out V hSw; go_simp; try with_reducible rfl)
                try simp only [Act.put]
                refine wpE_take 2 ⟨some 76, _, _, _, _, _⟩ (v := ?_) [4, 9, 10] rfl (by kernel_rfl) (by kernel_rfl) (by kernel_rfl) (by kernel_rfl) (fun _ _ _ h => h) hS (Or.inl ⟨by kernel_rfl, ?_⟩) ?_
                rotate_left
                · (intro V hSw; obtain ⟨hq1, hq2⟩ := HS15.out V hSw; go_simp; try with_reducible rfl)
                try simp only [Act.put]
                refine wpE_take 3 ⟨some 77, _, _, _, _, _⟩ (v := ?_) [4, 9, 10] rfl (by kernel_rfl) (by kernel_rfl) (by kernel_rfl) (by kernel_rfl) (fun _ _ _ h => h) hS (Or.inl ⟨by kernel_rfl, ?_⟩) ?_
                rotate_left
                · (intro V hSw; obtain ⟨hq1, hq2⟩ := HS15.out V hSw; go_simp; try with_reducible rfl)
                try simp only [Act.put]
                refine wpE_take 4 ⟨some 78, _, _, _, _, _⟩ (v := ?_) [9, 10] rfl (by kernel_rfl) (by kernel_rfl) (by kernel_rfl) (by kernel_rfl) (fun _ _ _ h => h) hS (Or.inl ⟨by kernel_rfl, ?_⟩) ?_
                rotate_left
                · (intro V hSw; obtain ⟨hq1, hq2⟩ := HS15.out V hSw; go_simp; try with_reducible rfl)
                try simp only [Act.put]
                refine wpE_take 5 ⟨some 79, _, _, _, _, _⟩ (v := ?_) [6, 9, 10] rfl (by kernel_rfl) (by kernel_rfl) (by kernel_rfl) (by kernel_rfl) (fun _ _ _ h => h) hS (Or.inl ⟨by kernel_rfl, ?_⟩) ?_
                rotate_left
                · (intro V hSw; obtain ⟨hq1, hq2⟩ := HS15.out V hSw; go_simp; try with_reducible rfl)
                try simp only [Act.put]
                refine wpE_take 6 ⟨some 80, _, _, _, _, _⟩ (v := ?_) [9, 10] rfl (by kernel_rfl) (by kernel_rfl) (by kernel_rfl) (by kernel_rfl) (fun _ _ _ h => h) hS (Or.inl ⟨by kernel_rfl, ?_⟩) ?_
                rotate_left
                · (intro V hSw; obtain ⟨hq1, hq2⟩ := HS15.out V hSw; go_simp; try with_reducible rfl)
                try simp only [Act.put]
                refine wpE_take 7 ⟨some 81, _, _, _, _, _⟩ (v := ?_) [8, 9, 10] rfl (by kernel_rfl) (by kernel_rfl) (by kernel_rfl) (by kernel_rfl) (fun _ _ _ h => h) hS (Or.inl ⟨by kernel_rfl, ?_⟩) ?_
                rotate_left
                · (intro V hSw; obtain ⟨hq1, hq2⟩ := HS15.out V hSw; go_simp; try with_reducible rfl)
                try simp only [Act.put]
                refine wpE_take 8 ⟨some 82, _, _, _, _, _⟩ (v := ?_) [9, 10] rfl (by kernel_rfl) (by kernel_rfl) (by kernel_rfl) (by kernel_rfl) (fun _ _ _ h => h) hS (Or.inl ⟨by kernel_rfl, ?_⟩) ?_
                rotate_left
                · (intro V hSw; obtain ⟨hq1, hq2⟩ := HS15.out V hSw; go_simp; try with_reducible rfl)
                try simp only [Act.put]
                refine wpE_take 9 ⟨some 83, _, _, _, _, _⟩ (v := ?_) [10] rfl (by kernel_rfl) (by kernel_rfl) (by kernel_rfl) (by kernel_rfl) (fun _ _ _ h => h) hS (Or.inl ⟨by kernel_rfl, ?_⟩) ?_
                rotate_left
                · (intro V hSw; obtain ⟨hq1, hq2⟩ := HS15.out V hSw; go_simp; try with_reducible rfl)
                try simp only [Act.put]
                refine wpE_last (by kernel_rfl) rfl (fun K' hK' => ?_)
                go_simp
                refine hK'.out _ _ ?_
                clear hK' K'
                refine wpE_done (by kernel_rfl) ?_ _
                try simp only [List.setIfInBounds_toArray, List.set_cons_succ, List.set_cons_zero]
                obtain ⟨Y2, hY2⟩ : ∃ Y2, Y2 = (Y1.setCell ⟨g, 256 + x, none⟩ (.bool eu)).drew := ⟨_, rfl⟩
                rw [← hY2]
                have hm5 : MapAt Y2 g (upd T2 x (es + (j : Int))) (upd B2 x eu) := by rw [hY2]; exact (HM4.out.setBlank x HIN.out _).kept rfl
                have hb5 : Below g V2 Y2 := by rw [hY2]; exact (HBY1.out.setCell (Nat.le_refl _) _).drew
                have HM5 := Lib.hid hm5; clear hm5
                have HB5 := Lib.hid hb5; clear hb5
                clear hY2 z1 z2
                go_wp2
                go_roundw
                case rel => exact ⟨j + 1, _, _, by omega, by go_num, HM5.out, HS3.out, HFR3.out, HB5.out⟩
                case measure => simp [intOf]; omega
end Go.Proofs.Ytkhenchhafmlmaa.Ex
