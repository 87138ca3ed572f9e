/- ExtentWhole: for every list of extents and every extent, cutting all of a right list gives every block back, and cutting what was just put makes the list that was and gives just the blocks that were put. -/
import Derived.Test.YtkhenchhafmlmaaExAlive
import Derived.Test.YtkhenchhafmlmaaExCalls
import Derived.Test.YtkhenchhafmlmaaExLaws
namespace Go.Proofs.Ytkhenchhafmlmaa.ExtentWhole
set_option maxRecDepth 20000
open Go.ChangeShapes Go.WideShapes Go.ChangeAt Go.RowKit
open Go.Proofs.Ytkhenchhafmlmaa.Mem Go.Proofs.Ytkhenchhafmlmaa.Crc Go.Proofs.Ytkhenchhafmlmaa.Rec Go.Proofs.Ytkhenchhafmlmaa.Ex Go.Proofs.Ytkhenchhafmlmaa.Lift Go.Proofs.Ytkhenchhafmlmaa.Reg
attribute [local go_sem ↓] ldX_eq stX_eq eqX_eq neqX_eq ldS_eq eqS_eq neqS_eq

theorem rep_of_right {l : List X} (h : right l = true) : ∀ x ∈ l, x.rep := fun x hx => by
  have := may_iff.1 (((right_iff l).1 h).2.1 x hx)
  exact ⟨⟨by omega, by omega⟩, ⟨by omega, by omega⟩, ⟨by omega, by omega⟩⟩
def sumN (l : List X) : Int := (l.map (·.n)).sum
theorem sumN_snoc (l : List X) (k : Nat) (hk : k < l.length) : sumN (l.take (k + 1)) = sumN (l.take k) + (l[k]).n := by
  unfold sumN
  rw [List.take_succ_eq_append_getElem hk, List.map_append, List.sum_append]
  simp
theorem sumN_le {l : List X} (h : ∀ x ∈ l, x.may = true) : ∀ k, k ≤ l.length → 0 ≤ sumN (l.take k) ∧ sumN (l.take k) ≤ 256 * (k : Int)
  | 0, _ => by simp [sumN]
  | k + 1, hk => by
    have ih := sumN_le h k (by omega)
    have := may_iff.1 (h _ (List.getElem_mem (show k < l.length by omega)))
    rw [sumN_snoc l k (by omega)]
    omega

set_option maxRecDepth 100000 in
set_option maxHeartbeats 4000000 in
theorem walk (A : Option Addr) (n c : Nat) (l : List X) (e : X) (w : World) (h : HoldsX w w.heap.size A n l) (hr : ∀ x ∈ l, x.rep) (he : e.rep) (hc : n ≤ c) :
    Calls Try.prog 9 #[.slice A n c, .agg e.c] w fun E w' => E = .returned (.bool true) ∧ Below w.heap.size w w' := by
  obtain ⟨W, hW⟩ : ∃ W, W = w.alloc (.cells e.c 24) := ⟨_, rfl⟩
  have hbw : Below w.heap.size w W := by rw [hW]; exact (Below.refl _ _).alloc (Nat.le_refl _) _
  have hve : VarX W w.heap.size e := hW ▸ VarX.new w e
  have hz : W.heap.size = w.heap.size + 1 := by rw [hW]; simp
  have hvar : ∀ V, Below W.heap.size W V → VarX V w.heap.size e := fun V hV => hve.keep hV (by omega)
  have hh : ∀ V, Below W.heap.size W V → HoldsX V w.heap.size A n l ∧ w.heap.size ≤ V.heap.size := fun V hV => ⟨h.below (hbw.trans (hV.mono hbw.size)), by have := hV.size; omega⟩
  have hln := h.1
  have HVAR := Lib.hid hvar; clear hvar
  have HH := Lib.hid hh; clear hh
  have HLN := Lib.hid hln; clear hln
  have HBW := Lib.hid hbw; clear hbw
  have HWE := Lib.hid hW; clear hW hve h hz
  have hchk := fun V (hV : Below W.heap.size W V) => check_any A n c w.heap.size l V (HH.out V hV).1 (HH.out V hV).2 hr hc
  have hcut := fun V (hV : Below W.heap.size W V) => cut_any A n c w.heap.size l 0 256 V (HH.out V hV).1 (HH.out V hV).2 hr hc
  have hput := fun V (hV : Below W.heap.size W V) => put_any A n c w.heap.size l e V (HH.out V hV).1 (HH.out V hV).2 hr he hc
  cases hrl : right l with
  | false =>
    have hch : chkX l = 1 := by unfold chkX; rw [hrl]; rfl
    rw [hch] at hchk
    have HCHK := Lib.hid hchk; clear hchk hcut hput hr he hrl hch
    generalize e.c = EC at HWE ⊢
    go_enter Try.func9, Try.ntmps9
    go_wp2_with fail
    rw [← HWE.out]
    with_reducible refine (alive_any W).mono ?_
    rintro E w1 ⟨rfl, hb1⟩
    have HB1 := Lib.hid hb1; clear hb1
    go_wp2_with fail
    with_reducible refine (HCHK.out w1 HB1.out).mono ?_
    rintro E w2 ⟨rfl, hb2⟩
    have HB2 : Hid (Below w.heap.size w w2) := Lib.hid (HBW.out.trans ((HB1.out.trans (hb2.mono HB1.out.size)).mono HBW.out.size))
    clear hb2
    go_wp2
    go_ret
    exact ⟨rfl, HB2.out⟩
  | true =>
    have hch : chkX l = 0 := by unfold chkX; rw [hrl]; rfl
    rw [hch] at hchk
    rw [cut_all hrl] at hcut
    dsimp only at hcut
    have hsl : (l.map (fun x => (x.s, x.n))).length = n := by rw [List.length_map]; exact HLN.out
    unfold CutOut at hcut
    rw [hsl] at hcut
    have HCHK := Lib.hid hchk; clear hchk
    have HCUT := Lib.hid hcut; clear hcut
    obtain ⟨a, ha⟩ : ∃ a, a = (putL l e).1 := ⟨_, rfl⟩
    obtain ⟨er, her⟩ : ∃ er, er = (putL l e).2 := ⟨_, rfl⟩
    rw [← ha, ← her] at hput
    have hE : er ≠ 0 → a = [] := fun h => by rw [ha]; exact put_err (her ▸ h)
    have hO : er = 0 → cutL a e.a (e.a + e.n) = (l, [(e.s, e.n)], 0) ∧ e.may = true ∧ ∀ x ∈ a, x.rep := fun h => by
      have h0 : (putL l e).2 = 0 := her ▸ h
      obtain ⟨h1, h2, h3, h4, _⟩ := put_is h0
      rw [ha]
      exact ⟨put_cut h0, h2, rep_of_right h4⟩
    have hl60 := (right_lin hrl).2.2.2.2
    have hlm := ((right_iff l).1 hrl).2.1
    have hn60 : n ≤ 60 := by have := HLN.out; omega
    have hsum := fun k (hk : k ≤ l.length) => sumN_le hlm k hk
    have hn256 : ∀ k, (h : k < l.length) → 0 ≤ (l[k]).n ∧ (l[k]).n ≤ 256 := fun k h => by
      have := may_iff.1 (hlm _ (List.getElem_mem h))
      omega
    have HSUM := Lib.hid hsum; clear hsum
    have HN256 := Lib.hid hn256; clear hn256
    have HE := Lib.hid hE; clear hE
    have HO := Lib.hid hO; clear hO ha her
    have HPUT := Lib.hid hput; clear hput hr he hrl hch hsl hl60 hlm
    have hld : ∀ V, Below W.heap.size W V → (ldX (.pointer (some ⟨w.heap.size, 0, none⟩))).run Try.prog V = .ok (.agg e.c) V ∧ V.cell? ⟨w.heap.size, 0, none⟩ = some (.int .i64 e.a) ∧ V.cell? ⟨w.heap.size, 1, none⟩ = some (.int .i64 e.s) ∧ V.cell? ⟨w.heap.size, 2, none⟩ = some (.int .i64 e.n) := fun V hV => ⟨(HVAR.out V hV).load, (HVAR.out V hV).cells.1, (HVAR.out V hV).cells.2.1, (HVAR.out V hV).cells.2.2.1⟩
    have HLD := Lib.hid hld; clear hld
    obtain ⟨EC, hEC⟩ : ∃ EC, EC = e.c := ⟨_, rfl⟩
    rw [← hEC] at HWE HPUT HLD ⊢
    clear hEC
    go_enter Try.func9, Try.ntmps9
    go_wp2_with fail
    rw [← HWE.out]
    with_reducible refine (alive_any W).mono ?_
    rintro E w1 ⟨rfl, hb1⟩
    have HB1 := Lib.hid hb1; clear hb1
    go_wp2_with fail
    with_reducible refine (HCHK.out w1 HB1.out).mono ?_
    rintro E w2 ⟨rfl, hb2⟩
    have HB2 : Hid (Below W.heap.size W w2) := Lib.hid (HB1.out.trans (hb2.mono HB1.out.size))
    clear hb2
    go_wp2_with fail
    with_reducible refine (HCUT.out w2 HB2.out).mono ?_
    rintro E w3 ⟨A1, c1, A2, c2, rfl, ho1, ho2, hb3⟩
    have HB3 : Hid (Below W.heap.size W w3) := Lib.hid (HB2.out.trans (hb3.mono HB2.out.size))
    have HS3 := Lib.hid ho2.reads
    have HX3 := Lib.hid (HH.out w3 HB3.out).1
    clear ho1 ho2 hb3 HCHK HCUT
    go_wp2
    -- the two sums
    go_loopw [8, 10] (fun v i wr => ∃ k : Nat, k ≤ n ∧ i = .int .i64 (k : Int) ∧ v = .int .i64 (sumN (l.take k)) ∧ wr = w3) (fun _ i _ => n - (intOf i).toNat)
    case atStart => exact ⟨0, Nat.zero_le _, rfl, by simp [sumN], rfl⟩
    case round =>
      obtain ⟨k, hk, rfl, rfl, hwr⟩ := hrel
      have hwr' := hwr.symm
      subst hwr'
      clear hwr
      rcases Nat.lt_or_ge k n with hlt | hge
      · have hkl : k < l.length := by have := HLN.out; omega
        obtain ⟨b, off, rfl, -⟩ := HX3.out.addr (by omega)
        have q := (HX3.out.cell k hkl).2.2.1
        have hs := HSUM.out k (by omega)
        have hn := HN256.out k hkl
        have HSN := Lib.hid (sumN_snoc l k hkl)
        generalize (l[k]).n = xn at q hn HSN
        generalize sumN (l.take k) = sm at hs HSN
        have hk0 : (0 : Int) ≤ (k : Int) := by omega
        have hkn : (k : Int) < (n : Int) := by omega
        have hw : IntKind.i64.wrap (sm + xn) = sm + xn := by rw [IntKind.wrap_i64]; omega
        go_wp2
        go_roundw
        case rel => exact ⟨k + 1, by omega, by go_num, by rw [HSN.out], trivial⟩
        case measure => simp [intOf]; omega
      · have hkn : k = n := by omega
        have hge' : ¬ (k : Int) < (n : Int) := by omega
        have hfull : l.take k = l := List.take_of_length_le (by have := HLN.out; omega)
        rw [hfull]
        have HKN := Lib.hid hkn; clear hkn hfull
        go_wp2
        go_loopw [9, 11] (fun v i wr => ∃ k : Nat, k ≤ n ∧ i = .int .i64 (k : Int) ∧ v = .int .i64 (sumN (l.take k)) ∧ wr = w3) (fun _ i _ => n - (intOf i).toNat)
        case atStart => exact ⟨0, Nat.zero_le _, rfl, by simp [sumN], rfl⟩
        case round =>
          clear hge' hge HKN hk
          obtain ⟨k, hk, rfl, rfl, hwr⟩ := hrel
          have hwr' := hwr.symm
          subst hwr'
          clear hwr
          rcases Nat.lt_or_ge k n with hlt | hge
          · have hkl : k < l.length := by have := HLN.out; omega
            obtain ⟨b, off, rfl, -⟩ := HS3.out.addr (by omega)
            obtain ⟨b', off', e', _, hcell⟩ := HS3.out.2 (by omega)
            injection e' with e'
            injection e' with e1 e2
            subst e1 e2
            have q := (hcell k (by rw [List.length_map]; omega)).2
            rw [List.getElem_map] at q
            dsimp only at q
            have hs := HSUM.out k (by omega)
            have hn := HN256.out k hkl
            have HSN := Lib.hid (sumN_snoc l k hkl)
            generalize (l[k]).n = xn at q hn HSN
            generalize sumN (l.take k) = sm at hs HSN
            have hk0 : (0 : Int) ≤ (k : Int) := by omega
            have hkn : (k : Int) < (n : Int) := by omega
            have hw : IntKind.i64.wrap (sm + xn) = sm + xn := by rw [IntKind.wrap_i64]; omega
            clear hcell
            go_wp2
            go_roundw
            case rel => exact ⟨k + 1, by omega, by go_num, by rw [HSN.out], trivial⟩
            case measure => simp [intOf]; omega
          · have hkn : k = n := by omega
            have hge' : ¬ (k : Int) < (n : Int) := by omega
            have hfull : l.take k = l := List.take_of_length_le (by have := HLN.out; omega)
            rw [hfull]
            have HKN := Lib.hid hkn; clear hkn hfull
            generalize sumN l = SM
            have hl3 := (HLD.out w3 HB3.out).1
            clear hk
            go_wp2_with fail
            with_reducible refine (HPUT.out w3 HB3.out).mono ?_
            rintro E w4 ⟨Aa, ca, rfl, hoa, hb4⟩
            have HB34 := Lib.hid hb4
            have HB4 : Hid (Below W.heap.size W w4) := Lib.hid (HB3.out.trans (hb4.mono HB3.out.size))
            have HOA := Lib.hid hoa; clear hoa hb4 hl3
            obtain ⟨na, hna⟩ : ∃ na, na = a.length := ⟨_, rfl⟩
            rw [← hna] at HOA ⊢
            have HNA := Lib.hid hna; clear hna
            by_cases her : er = 0
            · subst her
              obtain ⟨hO1, hO2, hO3⟩ := HO.out rfl
              have hem := may_iff.1 hO2
              obtain ⟨-, q0, q1, q2⟩ := HLD.out w4 HB4.out
              have hcut := cut_any Aa na ca w4.heap.size a e.a (e.a + e.n) w4 HOA.out.reads (Nat.le_refl _) hO3 HOA.out.fits.2.1
              rw [hO1] at hcut
              dsimp only at hcut
              unfold CutOut at hcut
              rw [HLN.out] at hcut
              have HCUT := Lib.hid hcut; clear hcut hO1 hO2 hO3
              have HSN : Hid (∀ V, Below W.heap.size W V → V.cell? ⟨w.heap.size, 1, none⟩ = some (.int .i64 e.s) ∧ V.cell? ⟨w.heap.size, 2, none⟩ = some (.int .i64 e.n)) := Lib.hid fun V hV => (HLD.out V hV).2.2
              have HCMP : Hid (∀ V, (eqS (.agg #[.int .i64 e.s, .int .i64 e.n]) (.agg #[.int .i64 e.s, .int .i64 e.n])).run Try.prog V = .ok (.bool true) V) := Lib.hid fun V => by
                have := run_eqS V (e.s, e.n) (e.s, e.n)
                rwa [decide_eq_true rfl] at this
              have HSPN : Hid (∀ (V : World) (B : Nat) (A : Addr), HoldsS V B (some A) 1 [(e.s, e.n)] → ∃ b off, A = ⟨b, off, none⟩ ∧ (ldS (.pointer (some ⟨b, off, none⟩))).run Try.prog V = .ok (.agg #[.int .i64 e.s, .int .i64 e.n]) V) := Lib.hid fun V B A hS => by
                obtain ⟨b, off, e', _⟩ := hS.addr (by omega)
                injection e' with e'
                subst e'
                exact ⟨b, off, rfl, run_ldS_at hS 0 (by simp) off (by omega)⟩
              have hw1 : IntKind.i64.wrap (e.a + e.n) = e.a + e.n := by rw [IntKind.wrap_i64]; omega
              generalize e.s = es at q1 HCUT HSN HCMP HSPN
              generalize e.n = en at q2 HCUT HSN HCMP HSPN hw1 hem
              generalize e.a = ea at q0 HCUT hw1 hem
              obtain ⟨m1, m2, m3, m4, m5⟩ := hem
              go_wp2_with fail
              with_reducible refine HCUT.out.mono ?_
              rintro E w5 ⟨A5, c5, A6, c6, rfl, ho5, ho6, hb5⟩
              have HB45 := Lib.hid hb5
              have HB5 : Hid (Below W.heap.size W w5) := Lib.hid (HB4.out.trans (hb5.mono HB4.out.size))
              have HX5 := Lib.hid ho5.reads
              have HS6 := Lib.hid ho6.reads
              clear ho5 ho6 hb5 q0 q1 q2 HCUT m1 m2 m3 m4 m5 hw1
              obtain ⟨b6, o6, hA6, -⟩ := HS6.out.addr (by simp)
              subst hA6
              have hsame : ∀ V, Below w5.heap.size w5 V → Calls Try.prog 15 #[.slice A5 n c5, .slice A n c] V fun E w' => E = .returned (.bool true) ∧ Below V.heap.size V w' := fun V hV => by
                have hVW : Below W.heap.size W V := HB5.out.trans (hV.mono HB5.out.size)
                have := same_any A5 A n n c5 c w5.heap.size w.heap.size l l V (HX5.out.below hV) (HH.out V hVW).1 hV.size (HH.out V hVW).2 (by omega)
                rwa [decide_eq_true rfl] at this
              have hall : ∀ V, Below w5.heap.size w5 V → V.cell? ⟨w.heap.size, 1, none⟩ = some (.int .i64 es) ∧ V.cell? ⟨w.heap.size, 2, none⟩ = some (.int .i64 en) ∧ (ldS (.pointer (some ⟨b6, o6, none⟩))).run Try.prog V = .ok (.agg #[.int .i64 es, .int .i64 en]) V := fun V hV => by
                obtain ⟨b, off, e', hld⟩ := HSPN.out V w5.heap.size ⟨b6, o6, none⟩ (HS6.out.below hV)
                injection e' with e1 e2
                subst e1 e2
                exact ⟨(HSN.out V (HB5.out.trans (hV.mono HB5.out.size))).1, (HSN.out V (HB5.out.trans (hV.mono HB5.out.size))).2, hld⟩
              have HSAME := Lib.hid hsame; clear hsame
              have HALL := Lib.hid hall; clear hall
              have hcmp := HCMP.out
              dsimp only [List.length_cons, List.length_nil]
              go_wp2_with fail
              refine wp_region_E (fun V => Below w5.heap.size w5 V) 99 rfl ?_
              have hS := (show Below w5.heap.size w5 w5.drew from (Below.refl _ w5).drew)
              refine wpE_takeF 0 ⟨some 97, _, _, _, _, _⟩ (v := ?_) (by decide) rfl (by kernel_rfl) (by kernel_rfl) (by kernel_rfl) (fun _ _ _ h => h) hS (Or.inl ⟨by kernel_rfl, ?_⟩) ?_
              rotate_left
              · (intro V hSw; obtain ⟨hq1, hq2, hq3⟩ := HALL.out V hSw; go_simp; try with_reducible rfl)
              try simp only [Act.put]
              refine wpE_takeF 1 ⟨some 98, _, _, _, _, _⟩ (v := ?_) (by decide) rfl (by kernel_rfl) (by kernel_rfl) (by kernel_rfl) (fun _ _ _ h => h) hS (Or.inl ⟨by kernel_rfl, ?_⟩) ?_
              rotate_left
              · (intro V hSw; obtain ⟨hq1, hq2, hq3⟩ := HALL.out V hSw; go_simp; try with_reducible rfl)
              try simp only [Act.put]
              refine wpE_takeF 2 ⟨some 99, _, _, _, _, _⟩ (v := ?_) (by decide) rfl (by kernel_rfl) (by kernel_rfl) (by kernel_rfl) (fun _ _ _ h => h) hS (Or.inl ⟨by kernel_rfl, ?_⟩) ?_
              rotate_left
              · (intro V hSw; obtain ⟨hq1, hq2, hq3⟩ := HALL.out V hSw; go_simp; try with_reducible rfl)
              try simp only [Act.put]
              refine wpE_takeF 3 ⟨some 100, _, _, _, _, _⟩ (v := ?_) (by decide) rfl (by kernel_rfl) (by kernel_rfl) (by kernel_rfl) (fun _ _ _ h => h) hS (Or.inl ⟨by kernel_rfl, ?_⟩) ?_
              rotate_left
              · (intro V hSw; obtain ⟨hq1, hq2, hq3⟩ := HALL.out V hSw; go_simp; try with_reducible rfl)
              try simp only [Act.put]
              refine wpE_takeF 4 ⟨some 101, _, _, _, _, _⟩ (v := ?_) (by decide) rfl (by kernel_rfl) (by kernel_rfl) (by kernel_rfl) (fun _ _ _ h => h) hS (Or.inl ⟨by kernel_rfl, ?_⟩) ?_
              rotate_left
              · (intro V hSw; obtain ⟨hq1, hq2, hq3⟩ := HALL.out V hSw; go_simp; try with_reducible rfl)
              try simp only [Act.put]
              refine wpE_takeF 5 ⟨some 102, _, _, _, _, _⟩ (v := ?_) (by decide) rfl (by kernel_rfl) (by kernel_rfl) (by kernel_rfl) (fun _ _ _ h => h) hS (Or.inl ⟨by kernel_rfl, ?_⟩) ?_
              rotate_left
              · (intro V hSw; obtain ⟨hq1, hq2, hq3⟩ := HALL.out V hSw; go_simp; try with_reducible rfl)
              try simp only [Act.put]
              refine wpE_takeF 6 ⟨some 103, _, _, _, _, _⟩ (v := ?_) (by decide) rfl (by kernel_rfl) (by kernel_rfl) (by kernel_rfl) (fun _ _ _ h => h) hS (Or.inl ⟨by kernel_rfl, ?_⟩) ?_
              rotate_left
              · (intro V hSw; obtain ⟨hq1, hq2, hq3⟩ := HALL.out V hSw; go_simp; try with_reducible rfl)
              try simp only [Act.put]
              refine wpE_takeF 7 ⟨some 104, _, _, _, _, _⟩ (v := ?_) (by decide) rfl (by kernel_rfl) (by kernel_rfl) (by kernel_rfl) (fun _ _ _ h => h) hS (Or.inl ⟨by kernel_rfl, ?_⟩) ?_
              rotate_left
              · (intro V hSw; obtain ⟨hq1, hq2, hq3⟩ := HALL.out V hSw; go_simp; try with_reducible rfl)
              try simp only [Act.put]
              refine wpE_one 8 (o := ⟨some 105, _, _, _, _, _⟩) (by kernel_rfl) rfl (fun K' hK' => ?_)
              rw [if_pos (by kernel_rfl)]
              refine call_wp 15 _ _ _ _ rfl Try.func15 (by kernel_rfl) rfl _ ?hv _ (HSAME.out _ hS) ?_
              case hv => simp only [List.map_toArray, List.map_cons, List.map_nil]; go_simp
              rintro E V6 ⟨rfl, hb6⟩
              have HBZ := Lib.hid (hS.trans (hb6.mono hS.size))
              clear hb6
              refine ⟨_, rfl, ?_⟩
              refine hK'.out _ _ HBZ.out (fun hS => ?_)
              clear hK' K'
              try simp only [Act.put]
              refine wpE_takeF 9 ⟨some 106, _, _, _, _, _⟩ (v := ?_) (by decide) rfl (by kernel_rfl) (by kernel_rfl) (by kernel_rfl) (fun _ _ _ h => h) hS (Or.inl ⟨by kernel_rfl, ?_⟩) ?_
              rotate_left
              · (intro V hSw; obtain ⟨hq1, hq2, hq3⟩ := HALL.out V hSw; go_simp; try with_reducible rfl)
              try simp only [Act.put]
              refine wpE_takeF 10 ⟨some 107, _, _, _, _, _⟩ (v := ?_) (by decide) rfl (by kernel_rfl) (by kernel_rfl) (by kernel_rfl) (fun _ _ _ h => h) hS (Or.inl ⟨by kernel_rfl, ?_⟩) ?_
              rotate_left
              · (intro V hSw; obtain ⟨hq1, hq2, hq3⟩ := HALL.out V hSw; go_simp; try with_reducible rfl)
              try simp only [Act.put]
              refine wpE_takeF 11 ⟨some 108, _, _, _, _, _⟩ (v := ?_) (by decide) rfl (by kernel_rfl) (by kernel_rfl) (by kernel_rfl) (fun _ _ _ h => h) hS (Or.inl ⟨by kernel_rfl, ?_⟩) ?_
              rotate_left
              · (intro V hSw; obtain ⟨hq1, hq2, hq3⟩ := HALL.out V hSw; go_simp; try with_reducible rfl)
              try simp only [Act.put]
              refine wpE_takeF 12 ⟨some 109, _, _, _, _, _⟩ (v := ?_) (by decide) rfl (by kernel_rfl) (by kernel_rfl) (by kernel_rfl) (fun _ _ _ h => h) hS (Or.inl ⟨by kernel_rfl, ?_⟩) ?_
              rotate_left
              · (intro V hSw; obtain ⟨hq1, hq2, hq3⟩ := HALL.out V hSw; go_simp; try with_reducible rfl)
              try simp only [Act.put]
              refine wpE_takeF 13 ⟨some 110, _, _, _, _, _⟩ (v := ?_) (by decide) rfl (by kernel_rfl) (by kernel_rfl) (by kernel_rfl) (fun _ _ _ h => h) hS (Or.inl ⟨by kernel_rfl, ?_⟩) ?_
              rotate_left
              · (intro V hSw; obtain ⟨hq1, hq2, hq3⟩ := HALL.out V hSw; go_simp; try with_reducible rfl)
              try simp only [Act.put]
              refine wpE_takeF 14 ⟨some 111, _, _, _, _, _⟩ (v := ?_) (by decide) rfl (by kernel_rfl) (by kernel_rfl) (by kernel_rfl) (fun _ _ _ h => h) hS (Or.inl ⟨by kernel_rfl, ?_⟩) ?_
              rotate_left
              · (intro V hSw; obtain ⟨hq1, hq2, hq3⟩ := HALL.out V hSw; go_simp; try with_reducible rfl)
              try simp only [Act.put]
              refine wpE_takeF 15 ⟨some 112, _, _, _, _, _⟩ (v := ?_) (by decide) rfl (by kernel_rfl) (by kernel_rfl) (by kernel_rfl) (fun _ _ _ h => h) hS (Or.inl ⟨by kernel_rfl, ?_⟩) ?_
              rotate_left
              · (intro V hSw; obtain ⟨hq1, hq2, hq3⟩ := HALL.out V hSw; go_simp; try with_reducible rfl)
              try simp only [Act.put]
              refine wpE_takeF 16 ⟨some 113, _, _, _, _, _⟩ (v := ?_) (by decide) rfl (by kernel_rfl) (by kernel_rfl) (by kernel_rfl) (fun _ _ _ h => h) hS (Or.inl ⟨by kernel_rfl, ?_⟩) ?_
              rotate_left
              · (intro V hSw; obtain ⟨hq1, hq2, hq3⟩ := HALL.out V hSw; go_simp; try with_reducible rfl)
              try simp only [Act.put]
              refine wpE_takeF 17 ⟨some 114, _, _, _, _, _⟩ (v := ?_) (by decide) rfl (by kernel_rfl) (by kernel_rfl) (by kernel_rfl) (fun _ _ _ h => h) hS (Or.inl ⟨by kernel_rfl, ?_⟩) ?_
              rotate_left
              · (intro V hSw; obtain ⟨hq1, hq2, hq3⟩ := HALL.out V hSw; go_simp; try with_reducible rfl)
              try simp only [Act.put]
              refine wpE_takeF 18 ⟨some 115, _, _, _, _, _⟩ (v := ?_) (by decide) rfl (by kernel_rfl) (by kernel_rfl) (by kernel_rfl) (fun _ _ _ h => h) hS (Or.inl ⟨by kernel_rfl, ?_⟩) ?_
              rotate_left
              · (intro V hSw; obtain ⟨hq1, hq2, hq3⟩ := HALL.out V hSw; go_simp; try with_reducible rfl)
              try simp only [Act.put]
              refine wpE_takeF 19 ⟨some 116, _, _, _, _, _⟩ (v := ?_) (by decide) rfl (by kernel_rfl) (by kernel_rfl) (by kernel_rfl) (fun _ _ _ h => h) hS (Or.inl ⟨by kernel_rfl, ?_⟩) ?_
              rotate_left
              · (intro V hSw; obtain ⟨hq1, hq2, hq3⟩ := HALL.out V hSw; go_simp; try with_reducible rfl)
              try simp only [Act.put]
              refine wpE_takeF 20 ⟨some 117, _, _, _, _, _⟩ (v := ?_) (by decide) rfl (by kernel_rfl) (by kernel_rfl) (by kernel_rfl) (fun _ _ _ h => h) hS (Or.inl ⟨by kernel_rfl, ?_⟩) ?_
              rotate_left
              · (intro V hSw; obtain ⟨hq1, hq2, hq3⟩ := HALL.out V hSw; go_simp; try with_reducible rfl)
              try simp only [Act.put]
              refine wpE_takeF 21 ⟨some 118, _, _, _, _, _⟩ (v := ?_) (by decide) rfl (by kernel_rfl) (by kernel_rfl) (by kernel_rfl) (fun _ _ _ h => h) hS (Or.inl ⟨by kernel_rfl, ?_⟩) ?_
              rotate_left
              · (intro V hSw; obtain ⟨hq1, hq2, hq3⟩ := HALL.out V hSw; go_simp; try with_reducible rfl)
              try simp only [Act.put]
              refine wpE_takeF 22 ⟨some 119, _, _, _, _, _⟩ (v := ?_) (by decide) rfl (by kernel_rfl) (by kernel_rfl) (by kernel_rfl) (fun _ _ _ h => h) hS (Or.inl ⟨by kernel_rfl, ?_⟩) ?_
              rotate_left
              · (intro V hSw; obtain ⟨hq1, hq2, hq3⟩ := HALL.out V hSw; go_simp; try with_reducible rfl)
              try simp only [Act.put]
              refine wpE_takeF 23 ⟨some 120, _, _, _, _, _⟩ (v := ?_) (by decide) rfl (by kernel_rfl) (by kernel_rfl) (by kernel_rfl) (fun _ _ _ h => h) hS (Or.inl ⟨by kernel_rfl, ?_⟩) ?_
              rotate_left
              · (intro V hSw; obtain ⟨hq1, hq2, hq3⟩ := HALL.out V hSw; go_simp; try with_reducible rfl)
              try simp only [Act.put]
              refine wpE_takeF 24 ⟨some 121, _, _, _, _, _⟩ (v := ?_) (by decide) rfl (by kernel_rfl) (by kernel_rfl) (by kernel_rfl) (fun _ _ _ h => h) hS (Or.inl ⟨by kernel_rfl, ?_⟩) ?_
              rotate_left
              · (intro V hSw; obtain ⟨hq1, hq2, hq3⟩ := HALL.out V hSw; go_simp; try with_reducible rfl)
              try simp only [Act.put]
              refine wpE_takeF 25 ⟨some 122, _, _, _, _, _⟩ (v := ?_) (by decide) rfl (by kernel_rfl) (by kernel_rfl) (by kernel_rfl) (fun _ _ _ h => h) hS (Or.inl ⟨by kernel_rfl, ?_⟩) ?_
              rotate_left
              · (intro V hSw; obtain ⟨hq1, hq2, hq3⟩ := HALL.out V hSw; go_simp; try with_reducible rfl)
              try simp only [Act.put]
              refine wpE_takeF 26 ⟨some 123, _, _, _, _, _⟩ (v := ?_) (by decide) rfl (by kernel_rfl) (by kernel_rfl) (by kernel_rfl) (fun _ _ _ h => h) hS (Or.inl ⟨by kernel_rfl, ?_⟩) ?_
              rotate_left
              · (intro V hSw; obtain ⟨hq1, hq2, hq3⟩ := HALL.out V hSw; go_simp; try with_reducible rfl)
              try simp only [Act.put]
              refine wpE_one 27 (by kernel_rfl) rfl (fun K' hK' => ?_)
              go_simp
              refine hK'.out _ _ HBZ.out (fun _ => ?_)
              clear hK' K'
              refine wpE_done (by kernel_rfl) ?_ _
              try simp only [List.setIfInBounds_toArray, List.set_cons_succ, List.set_cons_zero]
              go_wp2
              go_ret
              exact ⟨rfl, HBW.out.trans ((HB5.out.trans (HBZ.out.mono HB5.out.size)).mono HBW.out.size)⟩
            · have hae := HE.out her
              have hne : (er != 0) = true := bne_iff_ne.2 her
              have hn0 : na = 0 := by rw [HNA.out, hae]; rfl
              subst hn0
              go_wp2
              go_ret
              exact ⟨rfl, HBW.out.trans (HB4.out.mono HBW.out.size)⟩

theorem walks : Walks 9 Try.f9 All := by
  intro H enc W base args ds p hval hA hsz _
  rw [Try.params9] at hA hval hsz
  obtain ⟨v0, vs0, d0, ds0, p0, q0, hargs, rfl, rfl, h0, r0⟩ := trodAll_cons hA
  obtain ⟨v1, vs1, d1, ds1, p1, q1, rfl, rfl, rfl, h1, r1⟩ := trodAll_cons r0
  obtain ⟨rfl, rfl, rfl⟩ := trodAll_nil r1
  obtain rfl : args = #[v0, v1] := by cases args; simp_all
  obtain ⟨A, n, c, l, rfl, hl, hr, hn, hc⟩ := exts_open (hval 0 _ v0 rfl rfl) h0 _ (reach_exts hsz (j := 0) rfl rfl)
  obtain ⟨e, rfl, he⟩ := ext_by_value (hval 1 _ v1 rfl rfl) h1
  exact walk A n c l e W hl hr he hn

set_option maxRecDepth 100000 in
theorem proved : Rows.ExtentWholeSaid :=
  OpenClaim.holds_of_wide 9 Try.f9 rfl rfl rfl rfl rfl rfl rfl ⟨rfl, rfl, rfl, rfl, rfl⟩ rfl rfl rfl rfl rfl (by kernel_rfl) Try.func9 (by kernel_rfl)
    (of_decide_eq_true (by kernel_rfl)) (by unfold Func.isWrapper; first | (rw [if_pos (by decide +kernel)]; kernel_rfl) | (rw [if_neg (by decide +kernel)]; exact ⟨rfl, rfl⟩))
    (fun os started H enc _ => lifted (s := Rows.extentWholeSpec) walks (by kernel_rfl) rfl rfl (fun H ds hl => by match ds, hl with | [d1, d2], _ => rfl) (by kernel_rfl) Try.func9 os started H enc
      (ChangeSpec.witness6 (enc := enc) (C := Try.checked) false ⟨#[], #[.slice none 0 0, .agg #[.int .i64 0, .int .i64 0, .int .i64 0, .bool false]], []⟩ 8 (by kernel_rfl) (by kernel_rfl) (by kernel_rfl) (by kernel_rfl)))
#print axioms proved
end Go.Proofs.Ytkhenchhafmlmaa.ExtentWhole
