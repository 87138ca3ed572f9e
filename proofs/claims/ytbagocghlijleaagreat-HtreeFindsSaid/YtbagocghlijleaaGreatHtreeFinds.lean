/- HtreeFinds: for every list of deeds: behind the first 300 of them just those names are found that were added and not removed, each with its inode; every deed answers as it should, ErrSpace alone being free; as many entries are told as there are names, and the directory is right. For all lists within the reach of memory. -/
import Derived.Test.YtbagocghlijleaaGreatHtDv
import Derived.Test.YtbagocghlijleaaGreatHtAf
import Derived.Test.YtbagocghlijleaaGreatHtTab
namespace Go.Proofs.YtbagocghlijleaaGreat.HtreeFinds
set_option maxRecDepth 20000
open Go.ChangeShapes Go.WideShapes Go.ChangeAt Go.RowKit
open Go.Proofs.YtbagocghlijleaaGreat.Mem Go.Proofs.YtbagocghlijleaaGreat.Crc Go.Proofs.YtbagocghlijleaaGreat.Rec Go.Proofs.YtbagocghlijleaaGreat.Lift Go.Proofs.YtbagocghlijleaaGreat.Reg Go.Proofs.YtbagocghlijleaaGreat.Lf Go.Proofs.YtbagocghlijleaaGreat.Ht
attribute [local go_sem ↓] ldX_eq stX_eq eqX_eq neqX_eq ldD_eq stD_eq

theorem few_any (A : Option Addr) (n c B : Nat) (l : List Dd) (w : World) (h : HoldsC DK w B A n l) (hnc : n ≤ c) :
    Calls Tryz.prog 13 #[.slice A n c] w fun E w' => E = .returned (.slice A (min n 300) c) ∧ w = w' := by
  rcases Nat.lt_or_ge 300 n with hb | hb
  · obtain ⟨b, off, rfl, _⟩ := h.addr (by omega)
    have hs := fun V => run_sl_to DK_ok V b off n c 300 (by omega) (by omega)
    have hs' : ∀ V, (Instr.slice 22 (.slice (some ⟨b, off, none⟩) n c) none (some (.int .i64 300)) none).run Tryz.prog V = .ok (.slice (some ⟨b, off, none⟩) 300 c) V := hs
    have hbI : (300 : Int) < (n : Int) := by omega
    have hmin : min n 300 = 300 := by omega
    rw [hmin]
    clear hs h hmin
    go_enter Tryz.func13, Tryz.ntmps13
    go_wp2
    go_ret
    exact ⟨rfl, rfl⟩
  · have hbI : ¬ (300 : Int) < (n : Int) := by omega
    have hmin : min n 300 = n := by omega
    rw [hmin]
    clear hmin h
    go_enter Tryz.func13, Tryz.ntmps13
    go_wp2
    go_ret
    exact ⟨rfl, rfl⟩
theorem okN_of {e : Nm} (h1 : may e.t = true) (h2 : 0 ≤ e.i) (h3 : e.i ≤ 1048576) : okN e = true := by unfold okN; rw [h1, decide_eq_true ⟨h2, h3⟩]; rfl
theorem okN_m {e : Nm} (h1 : may e.t = false) : okN e = false := by unfold okN; rw [h1]; rfl
theorem okN_l {e : Nm} (h1 : e.i < 0) : okN e = false := by unfold okN; rw [decide_eq_false (by omega), Bool.and_false]
theorem okN_g {e : Nm} (h1 : 1048576 < e.i) : okN e = false := by unfold okN; rw [decide_eq_false (by omega), Bool.and_false]
theorem okN_t (t : List UInt8) : okN ⟨t, 0⟩ = may t := by unfold okN; simp
/-- A directory in memory, and what its names stand for. -/
structure State (w : World) (m i : Nat) (A : Option Addr) (n : Nat) (M : Mdl) (K : List (List UInt8)) : Prop where
  ex : ∃ d T, HoldsN w w.heap.size A n d ∧ readD d = some T ∧ holdsM T M
  tab : Tab w m i M K
  few : K.length ≤ i
theorem State.below {w w' : World} {m i : Nat} {A : Option Addr} {n : Nat} {M : Mdl} {K : List (List UInt8)} (h : State w m i A n M K) (hb : Below w.heap.size w w') : State w' m i A n M K := by
  obtain ⟨⟨d, T, h1, h2, h3⟩, h4, h5⟩ := h
  exact ⟨⟨d, T, (h1.below hb).more hb.size, h2, h3⟩, h4.below hb, h5⟩
theorem State.more {w : World} {m i i' : Nat} {A : Option Addr} {n : Nat} {M : Mdl} {K : List (List UInt8)} (h : State w m i A n M K) (hi : i ≤ i') : State w m i' A n M K := ⟨h.ex, h.tab.mono hi, Nat.le_trans h.few hi⟩
theorem keysP_len (K : List (List UInt8)) (M : Mdl) (t : List UInt8) : (keysP K M t).length ≤ K.length + 1 := by
  unfold keysP
  split
  · rw [List.length_append]; simp
  · omega
theorem erase_le (K : List (List UInt8)) (t : List UInt8) : (K.erase t).length ≤ K.length := List.length_erase_le
/-- The table's block is none of the directory's. -/
theorem State.stored {w w' : World} {m i' base : Nat} {A : Option Addr} {n c : Nat} {r : List (List UInt8)} {U : Ht.Leaves} {M : Mdl} {K : List (List UInt8)} (ho : OwnN w base (.slice A n c) r) (hU : readD r = some U) (hM : holdsM U M) (hm : m < base) (ht : Tab w' m i' M K) (hg : w.grownBy w' (some m)) (hk : K.length ≤ i') : State w' m i' A n M K :=
  ⟨⟨r, U, (ho.kept (fun g hb _ => hg.block g (by assumption) (fun e => by injection e with e; omega))).reads, hU, hM⟩, ht, hk⟩

set_option maxRecDepth 100000 in
set_option maxHeartbeats 16000000 in
theorem walk (A : Option Addr) (n c : Nat) (l : List Dd) (w : World) (h : HoldsC DK w w.heap.size A n l) (hrep : ∀ x ∈ l, x.e.rep) (hnc : n ≤ c) (hn : n ≤ 4398046510976) :
    Calls Tryz.prog 5 #[.slice A n c] w fun E w' => E = .returned (.bool true) ∧ Below w.heap.size w w' := by
  obtain ⟨post, hpost⟩ : ∃ post : Ending → World → Prop, post = fun E w' => E = .returned (.bool true) ∧ Below w.heap.size w w' := ⟨_, rfl⟩
  rw [← hpost]
  have HP := Lib.hid hpost; clear hpost
  obtain ⟨N, hN⟩ : ∃ N, N = min n 300 := ⟨_, rfl⟩
  have hln := h.1
  obtain ⟨L, hL⟩ : ∃ L, L = l.take N := ⟨_, rfl⟩
  have hLl : L.length = N := by rw [hL, List.length_take]; omega
  have hh : ∀ V, Below w.heap.size w V → HoldsC DK V w.heap.size A N L := fun V hV => by rw [hL]; exact (h.below hV).take (by omega)
  have hfew := fun V (hV : Below w.heap.size w V) => few_any A n c w.heap.size l V (h.below hV) hnc
  simp only [← hN] at hfew
  have hrepL : ∀ x ∈ L, x.e.rep := fun x hx => hrep x (by rw [hL] at hx; exact List.mem_of_mem_take hx)
  have hN300 : N ≤ 300 := by omega
  have HH := Lib.hid hh; clear hh
  have HFEW := Lib.hid hfew; clear hfew
  have HREP := Lib.hid hrepL; clear hrepL
  have HLL := Lib.hid hLl; clear hLl
  clear hN hln hL h hrep
  have hmm := @run_makeMap Tryz.prog
  go_enter Tryz.func5, Tryz.ntmps5
  go_wp2_with fail
  with_reducible refine (alive_any w).mono ?_
  rintro E1 w1 ⟨rfl, hb1⟩
  have HB1 := Lib.hid hb1; clear hb1
  go_wp2_with fail
  with_reducible refine (New_any w1).mono ?_
  rintro E2 w2 ⟨Aa, ca, rfl, hoa, hb2⟩
  have HB2 : Hid (Below w.heap.size w w2) := Lib.hid (HB1.out.trans (hb2.mono HB1.out.size))
  obtain ⟨W3, hW3⟩ : ∃ W3, W3 = w2.alloc (.map #[] 0) := ⟨_, rfl⟩
  obtain ⟨m, hm⟩ : ∃ m, m = w2.heap.size := ⟨_, rfl⟩
  have htab : Tab W3 m 0 (fun _ => none) [] := by rw [hW3, hm]; exact Tab.new w2
  have hb3 : Below w2.heap.size w2 W3 := by rw [hW3]; exact (Below.refl _ w2).alloc (Nat.le_refl _) _
  have HB3 : Hid (Below w.heap.size w W3) := Lib.hid (HB2.out.trans (hb3.mono HB2.out.size))
  have HWM : Hid (w.heap.size ≤ m) := Lib.hid (by rw [hm]; exact HB2.out.size)
  have HST : Hid (State W3 m 0 Aa 1 (fun _ => none) []) := Lib.hid ⟨⟨newD, _, (hoa.below hb3).reads, readD_new, holdsM_new⟩, htab, Nat.le_refl _⟩
  have HW3 := Lib.hid hW3; clear hW3
  have HM := Lib.hid hm; clear hm
  clear hoa hb2 htab hb3
  have hfw := HFEW.out W3 HB3.out
  have HFW := Lib.hid hfw; clear hfw HFEW
  go_wp2_with fail
  rw [← HW3.out, ← HM.out]
  clear HW3
  with_reducible refine HFW.out.mono ?_
  rintro E4 w4 ⟨rfl, rfl⟩
  clear HFW hmm
  go_wp2
  go_loopw [3, 6] (fun dv iv wr => ∃ (i : Nat) (Aa : Option Addr) (na ca : Nat) (M : Mdl) (K : List (List UInt8)), i ≤ N ∧ dv = .slice Aa na ca ∧ iv = .int .i64 (i : Int) ∧ State wr m i Aa na M K ∧ Below w.heap.size w wr) (fun _ iv _ => N - (intOf iv).toNat)
  case atStart => exact ⟨0, Aa, 1, ca, _, _, Nat.zero_le _, rfl, rfl, HST.out, HB3.out⟩
  case round =>
    clear HST HB3 HB2 HB1
    obtain ⟨V0, hV0⟩ : ∃ V0, V0 = wr := ⟨_, rfl⟩
    subst hV0
    obtain ⟨i, Aa, na, ca, M, K, hi, rfl, rfl, hst, hbr⟩ := hrel
    have HST := Lib.hid hst; clear hst
    have HBR := Lib.hid hbr; clear hbr
    rcases Nat.lt_or_ge i N with hiN | hiN
    · have hil : i < L.length := by have := HLL.out; omega
      obtain ⟨b0, off, rfl, hb0⟩ := (HH.out V0 HBR.out).addr (by omega)
      obtain ⟨x, hx⟩ : ∃ x, x = L[i] := ⟨_, rfl⟩
      have hxr : x.e.rep := HREP.out x (hx ▸ List.getElem_mem hil)
      have hld := run_ldD_at (HH.out V0 HBR.out) i hil (off + i * 3) rfl
      rw [← hx] at hld
      have hstn := run_stD_new V0 x
      obtain ⟨W1, hW1⟩ : ∃ W1, W1 = V0.alloc (.cells x.c 33) := ⟨_, rfl⟩
      have hv1 : VarD W1 V0.heap.size x := by rw [hW1]; exact VarD.new V0 x
      have hb1 : Below V0.heap.size V0 W1 := by rw [hW1]; exact (Below.refl _ V0).alloc (Nat.le_refl _) _
      have hst1 := HST.out.below hb1
      have HBW1 : Hid (Below w.heap.size w W1) := Lib.hid (HBR.out.trans (hb1.mono HBR.out.size))
      obtain ⟨S, hS⟩ : ∃ S : ByteArray, S = ⟨x.e.t.toArray⟩ := ⟨_, rfl⟩
      have hSd : S.data.toList = x.e.t := by rw [hS]
      obtain ⟨nd, hnd⟩ : ∃ nd, nd = x.e.i := ⟨_, rfl⟩
      obtain ⟨op, hop⟩ : ∃ op, op = x.op := ⟨_, rfl⟩
      have hndb := hxr.i
      unfold i64 at hndb
      rw [← hnd] at hndb
      have hvar : ∀ V, VarD V V0.heap.size x → V.cell? ⟨V0.heap.size, 0, none⟩ = some (.int .i64 op) ∧ V.cell? ⟨V0.heap.size, 1, none⟩ = some (.string S) ∧ V.cell? ⟨V0.heap.size, 2, none⟩ = some (.int .i64 nd) ∧ (ldD (.pointer (some ⟨V0.heap.size, 0, none⟩))).run Tryz.prog V = .ok (.agg x.c) V := fun V hV => by
        obtain ⟨c0, c1, c2⟩ := hV.cells
        rw [hS, hnd, hop]
        exact ⟨c0, c1, c2, hV.load⟩
      have hmay := fun V => rmay_any S (text_le S _ hSd hxr.t) V
      rw [hSd] at hmay
      obtain ⟨dl, T, hhd, hrd, hmod⟩ := hst1.ex
      have hsz := ((readD_iff dl T).1 hrd).sizes
      have hna : na ≤ 31 := by rw [← hhd.1]; exact hsz.2.2
      have hdo := do_any Aa na ca W1.heap.size dl x.op x.e hxr W1 hhd (Nat.le_refl _) (by omega) (fun b hb => by rw [hsz.1 b hb]; omega)
      have hxc : x.c = #[.int .i64 x.op, .string ⟨x.e.t.toArray⟩, .int .i64 x.e.i] := rfl
      rw [← hxc] at hdo
      obtain ⟨X, hX⟩ : ∃ X, X = x.c := ⟨_, rfl⟩
      rw [← hX] at hld hstn hW1 hdo
      simp only [← hX] at hvar
      have HST1 := Lib.hid hst1; clear hst1
      have HVAR := Lib.hid hvar; clear hvar
      have HV1 := Lib.hid hv1; clear hv1
      have HMAY := Lib.hid hmay; clear hmay
      have HDO := Lib.hid hdo; clear hdo
      have HSD := Lib.hid hSd; clear hSd
      have HXR := Lib.hid hxr; clear hxr
      have HRD := Lib.hid hrd; clear hrd
      have HMOD := Lib.hid hmod; clear hmod
      have HND := Lib.hid hnd; clear hnd
      have HWS : Hid (V0.heap.size < W1.heap.size) := Lib.hid HV1.out.lt
      have HMW : Hid (m < W1.heap.size) := Lib.hid HST1.out.tab.lt
      have hw1 := hW1
      clear hhd hsz hb1 hX hxc hS hx
      have hi0 : (0 : Int) ≤ (i : Int) := by omega
      have hiNI : (i : Int) < (N : Int) := by omega
      obtain ⟨-, -, -, q3⟩ := HVAR.out W1 HV1.out
      rw [hW1] at q3
      have HW1 := Lib.hid hW1; clear hW1 hw1
      go_wp2_with fail
      rw [← HW1.out]
      clear hld hstn q3
      with_reducible refine HDO.out.mono ?_
      rintro E5 W2 ⟨v2, rfl, ho2, hb2⟩
      have HBW2 : Hid (Below w.heap.size w W2) := Lib.hid (HBW1.out.trans (hb2.mono HBW1.out.size))
      have HV2 : Hid (VarD W2 V0.heap.size x) := Lib.hid (HV1.out.keep hb2 HWS.out)
      have HST2 := Lib.hid (HST1.out.below hb2)
      have HO2 := Lib.hid ho2
      have HS2 := Lib.hid hb2.size
      clear hb2 ho2 HDO HST1 HV1 HW1
      have hlook := run_tabLook W2 m i M K S x.e.t HSD.out HXR.out.t HST2.out.tab
      obtain ⟨q0, q1, q2, -⟩ := HVAR.out W2 HV2.out
      obtain ⟨kk, hkk, hkop⟩ := opK_is x.op
      have hbits : bits .and .i64 op 3 = (kk : Int) := by rw [hop]; exact hkop
      have hdd : doD dl x.op x.e = if (kk : Int) = 1 then removeD dl x.e.t else if (kk : Int) = 2 then setD dl x.e else addD dl x.e := by unfold doD; rw [hkop]
      clear hkop hop
      rcases (show kk = 1 ∨ kk = 2 ∨ kk = 0 ∨ kk = 3 by omega) with rfl | rfl | rfl | rfl
      · skip
        have hdk : doD dl x.op x.e = removeD dl x.e.t := by rw [hdd]; rfl
        rw [hdk] at HO2 ⊢
        clear hdd hdk
        rcases remove_model HRD.out HMOD.out x.e.t with ⟨hok, hres⟩ | ⟨hok, hmn, hres⟩ | ⟨hok, hms, r, U, hres, hU, hMU⟩
        · skip
          rw [okN_t] at hok
          have hmay := hok
          rw [hres] at HO2 ⊢
          have ho2c := HO2.out
          clear HO2 hok hres
          have hml : ∀ V, Calls Tryz.prog 24 #[.string S] V fun E w' => E = .returned (.bool false) ∧ V = w' := fun V => by have := HMAY.out V; rw [hmay] at this; exact this.mono fun E w' h => ⟨h.1, h.2.symm⟩
          have HML := Lib.hid hml; clear hml
          clear ho2c hmay
          go_wp2_with (with_reducible refine (HML.out _).mono ?_; rintro E w' ⟨rfl, rfl⟩)
          go_roundw
          case rel => exact ⟨i + 1, Aa, na, ca, M, K, by omega, rfl, by go_num, HST2.out.more (by omega), HBW2.out⟩
          case measure => simp [intOf]; omega
        · skip
          rw [okN_t] at hok
          have hmay := hok
          rw [hres] at HO2 ⊢
          have ho2c := HO2.out
          clear HO2 hok hres
          rw [hmn] at hlook
          have hlk := hlook
          clear hlook
          dsimp only [Option.getD_none, Option.isSome_none, Option.getD_some, Option.isSome_some] at hlk
          rcases Decidable.em (x.e.i < 0) with hi1 | hi1
          · skip
            have hml : ∀ V, Calls Tryz.prog 24 #[.string S] V fun E w' => E = .returned (.bool true) ∧ V = w' := fun V => by have := HMAY.out V; rw [hmay] at this; exact this.mono fun E w' h => ⟨h.1, h.2.symm⟩
            have HML := Lib.hid hml; clear hml
            have hnode : ¬ (0 : Int) ≤ nd := by have := HND.out; omega
            have hnode2 : decide ((0 : Int) ≤ nd) = false := decide_eq_false hnode
            clear ho2c hmay
            go_wp2_with (with_reducible refine (HML.out _).mono ?_; rintro E w' ⟨rfl, rfl⟩)
            go_roundw
            case rel => exact ⟨i + 1, Aa, na, ca, M, K, by omega, rfl, by go_num, HST2.out.more (by omega), HBW2.out⟩
            case measure => simp [intOf]; omega
          · rcases Decidable.em (1048576 < x.e.i) with hi2 | hi2
            · skip
              have hml : ∀ V, Calls Tryz.prog 24 #[.string S] V fun E w' => E = .returned (.bool true) ∧ V = w' := fun V => by have := HMAY.out V; rw [hmay] at this; exact this.mono fun E w' h => ⟨h.1, h.2.symm⟩
              have HML := Lib.hid hml; clear hml
              have hnode : (0 : Int) ≤ nd := by have := HND.out; omega
              have hnode2 : ¬ nd ≤ 1048576 := by have := HND.out; omega
              have hnode3 : decide (nd ≤ 1048576) = false := decide_eq_false hnode2
              clear ho2c hmay
              go_wp2_with (with_reducible refine (HML.out _).mono ?_; rintro E w' ⟨rfl, rfl⟩)
              go_roundw
              case rel => exact ⟨i + 1, Aa, na, ca, M, K, by omega, rfl, by go_num, HST2.out.more (by omega), HBW2.out⟩
              case measure => simp [intOf]; omega
            · skip
              have hml : ∀ V, Calls Tryz.prog 24 #[.string S] V fun E w' => E = .returned (.bool true) ∧ V = w' := fun V => by have := HMAY.out V; rw [hmay] at this; exact this.mono fun E w' h => ⟨h.1, h.2.symm⟩
              have HML := Lib.hid hml; clear hml
              have hnode : (0 : Int) ≤ nd := by have := HND.out; omega
              have hnode2 : nd ≤ 1048576 := by have := HND.out; omega
              clear ho2c hmay
              go_wp2_with (with_reducible refine (HML.out _).mono ?_; rintro E w' ⟨rfl, rfl⟩)
              go_roundw
              case rel => exact ⟨i + 1, Aa, na, ca, M, K, by omega, rfl, by go_num, HST2.out.more (by omega), HBW2.out⟩
              case measure => simp [intOf]; omega
        · skip
          rw [okN_t] at hok
          have hmay := hok
          rw [hres] at HO2 ⊢
          have ho2c := HO2.out
          clear HO2 hok hres
          obtain ⟨j0, hj0⟩ := Option.ne_none_iff_exists'.1 hms
          rw [hj0] at hlook
          clear hj0 hms
          have hlk := hlook
          clear hlook
          dsimp only [Option.getD_none, Option.isSome_none, Option.getD_some, Option.isSome_some] at hlk
          rcases Decidable.em (x.e.i < 0) with hi1 | hi1
          · skip
            have hml : ∀ V, Calls Tryz.prog 24 #[.string S] V fun E w' => E = .returned (.bool true) ∧ V = w' := fun V => by have := HMAY.out V; rw [hmay] at this; exact this.mono fun E w' h => ⟨h.1, h.2.symm⟩
            have HML := Lib.hid hml; clear hml
            have hnode : ¬ (0 : Int) ≤ nd := by have := HND.out; omega
            have hnode2 : decide ((0 : Int) ≤ nd) = false := decide_eq_false hnode
            obtain ⟨A3, c3, rfl⟩ := ho2c.shape
            obtain ⟨W3, hrun, htb, hg⟩ := run_tabOff W2 m i M K S x.e.t HSD.out HXR.out.t 0 HST2.out.tab
            have HST3 : Hid (State W3 m (i + 1) A3 r.length (offM M x.e.t) (K.erase x.e.t)) := Lib.hid (State.stored (i' := i + 1) ho2c hU hMU HMW.out (htb.mono (by omega)) hg (Nat.le_trans (erase_le _ _) (by have := HST2.out.few; omega)))
            have HBW3 : Hid (Below w.heap.size w W3) := Lib.hid (HBW2.out.grown hg HBW2.out.size (fun q hq => by injection hq with hq; have := HWM.out; omega))
            clear ho2c hmay hU hMU htb hg
            generalize r.length = nr at HST3 ⊢
            go_wp2_with (with_reducible refine (HML.out _).mono ?_; rintro E w' ⟨rfl, rfl⟩)
            go_roundw
            case rel => exact ⟨i + 1, A3, nr, c3, offM M x.e.t, K.erase x.e.t, by omega, rfl, by go_num, HST3.out, HBW3.out⟩
            case measure => simp [intOf]; omega
          · rcases Decidable.em (1048576 < x.e.i) with hi2 | hi2
            · skip
              have hml : ∀ V, Calls Tryz.prog 24 #[.string S] V fun E w' => E = .returned (.bool true) ∧ V = w' := fun V => by have := HMAY.out V; rw [hmay] at this; exact this.mono fun E w' h => ⟨h.1, h.2.symm⟩
              have HML := Lib.hid hml; clear hml
              have hnode : (0 : Int) ≤ nd := by have := HND.out; omega
              have hnode2 : ¬ nd ≤ 1048576 := by have := HND.out; omega
              have hnode3 : decide (nd ≤ 1048576) = false := decide_eq_false hnode2
              obtain ⟨A3, c3, rfl⟩ := ho2c.shape
              obtain ⟨W3, hrun, htb, hg⟩ := run_tabOff W2 m i M K S x.e.t HSD.out HXR.out.t 0 HST2.out.tab
              have HST3 : Hid (State W3 m (i + 1) A3 r.length (offM M x.e.t) (K.erase x.e.t)) := Lib.hid (State.stored (i' := i + 1) ho2c hU hMU HMW.out (htb.mono (by omega)) hg (Nat.le_trans (erase_le _ _) (by have := HST2.out.few; omega)))
              have HBW3 : Hid (Below w.heap.size w W3) := Lib.hid (HBW2.out.grown hg HBW2.out.size (fun q hq => by injection hq with hq; have := HWM.out; omega))
              clear ho2c hmay hU hMU htb hg
              generalize r.length = nr at HST3 ⊢
              go_wp2_with (with_reducible refine (HML.out _).mono ?_; rintro E w' ⟨rfl, rfl⟩)
              go_roundw
              case rel => exact ⟨i + 1, A3, nr, c3, offM M x.e.t, K.erase x.e.t, by omega, rfl, by go_num, HST3.out, HBW3.out⟩
              case measure => simp [intOf]; omega
            · skip
              have hml : ∀ V, Calls Tryz.prog 24 #[.string S] V fun E w' => E = .returned (.bool true) ∧ V = w' := fun V => by have := HMAY.out V; rw [hmay] at this; exact this.mono fun E w' h => ⟨h.1, h.2.symm⟩
              have HML := Lib.hid hml; clear hml
              have hnode : (0 : Int) ≤ nd := by have := HND.out; omega
              have hnode2 : nd ≤ 1048576 := by have := HND.out; omega
              obtain ⟨A3, c3, rfl⟩ := ho2c.shape
              obtain ⟨W3, hrun, htb, hg⟩ := run_tabOff W2 m i M K S x.e.t HSD.out HXR.out.t 0 HST2.out.tab
              have HST3 : Hid (State W3 m (i + 1) A3 r.length (offM M x.e.t) (K.erase x.e.t)) := Lib.hid (State.stored (i' := i + 1) ho2c hU hMU HMW.out (htb.mono (by omega)) hg (Nat.le_trans (erase_le _ _) (by have := HST2.out.few; omega)))
              have HBW3 : Hid (Below w.heap.size w W3) := Lib.hid (HBW2.out.grown hg HBW2.out.size (fun q hq => by injection hq with hq; have := HWM.out; omega))
              clear ho2c hmay hU hMU htb hg
              generalize r.length = nr at HST3 ⊢
              go_wp2_with (with_reducible refine (HML.out _).mono ?_; rintro E w' ⟨rfl, rfl⟩)
              go_roundw
              case rel => exact ⟨i + 1, A3, nr, c3, offM M x.e.t, K.erase x.e.t, by omega, rfl, by go_num, HST3.out, HBW3.out⟩
              case measure => simp [intOf]; omega
      · skip
        have hdk : doD dl x.op x.e = setD dl x.e := by rw [hdd]; rfl
        rw [hdk] at HO2 ⊢
        clear hdd hdk
        rcases set_model HRD.out HMOD.out x.e with ⟨hok, hres⟩ | ⟨hok, hmn, hres⟩ | ⟨hok, hms, r, U, hres, hU, hMU⟩
        · skip
          rw [hres] at HO2 ⊢
          have ho2c := HO2.out
          clear HO2 hres
          rcases Bool.eq_false_or_eq_true (may x.e.t) with hmay | hmay
          rotate_left
          · skip
            have hml : ∀ V, Calls Tryz.prog 24 #[.string S] V fun E w' => E = .returned (.bool false) ∧ V = w' := fun V => by have := HMAY.out V; rw [hmay] at this; exact this.mono fun E w' h => ⟨h.1, h.2.symm⟩
            have HML := Lib.hid hml; clear hml
            clear ho2c hmay
            go_wp2_with (with_reducible refine (HML.out _).mono ?_; rintro E w' ⟨rfl, rfl⟩)
            go_roundw
            case rel => exact ⟨i + 1, Aa, na, ca, M, K, by omega, rfl, by go_num, HST2.out.more (by omega), HBW2.out⟩
            case measure => simp [intOf]; omega
          · rcases Decidable.em (x.e.i < 0) with hi1 | hi1
            · skip
              have hml : ∀ V, Calls Tryz.prog 24 #[.string S] V fun E w' => E = .returned (.bool true) ∧ V = w' := fun V => by have := HMAY.out V; rw [hmay] at this; exact this.mono fun E w' h => ⟨h.1, h.2.symm⟩
              have HML := Lib.hid hml; clear hml
              have hnode : ¬ (0 : Int) ≤ nd := by have := HND.out; omega
              have hnode2 : decide ((0 : Int) ≤ nd) = false := decide_eq_false hnode
              clear ho2c hmay
              go_wp2_with (with_reducible refine (HML.out _).mono ?_; rintro E w' ⟨rfl, rfl⟩)
              go_roundw
              case rel => exact ⟨i + 1, Aa, na, ca, M, K, by omega, rfl, by go_num, HST2.out.more (by omega), HBW2.out⟩
              case measure => simp [intOf]; omega
            · have hi2 : 1048576 < x.e.i := by
                rcases Decidable.em (1048576 < x.e.i) with k | k
                · exact k
                · rw [okN_of hmay (by omega) (by omega)] at hok; cases hok
              have hml : ∀ V, Calls Tryz.prog 24 #[.string S] V fun E w' => E = .returned (.bool true) ∧ V = w' := fun V => by have := HMAY.out V; rw [hmay] at this; exact this.mono fun E w' h => ⟨h.1, h.2.symm⟩
              have HML := Lib.hid hml; clear hml
              have hnode : (0 : Int) ≤ nd := by have := HND.out; omega
              have hnode2 : ¬ nd ≤ 1048576 := by have := HND.out; omega
              have hnode3 : decide (nd ≤ 1048576) = false := decide_eq_false hnode2
              clear ho2c hmay
              go_wp2_with (with_reducible refine (HML.out _).mono ?_; rintro E w' ⟨rfl, rfl⟩)
              go_roundw
              case rel => exact ⟨i + 1, Aa, na, ca, M, K, by omega, rfl, by go_num, HST2.out.more (by omega), HBW2.out⟩
              case measure => simp [intOf]; omega
        · skip
          obtain ⟨hmay, hi1, hi2⟩ := okN_may hok
          rw [hres] at HO2 ⊢
          have ho2c := HO2.out
          clear HO2 hok hres
          rw [hmn] at hlook
          have hlk := hlook
          clear hlook
          dsimp only [Option.getD_none, Option.isSome_none, Option.getD_some, Option.isSome_some] at hlk
          have hml : ∀ V, Calls Tryz.prog 24 #[.string S] V fun E w' => E = .returned (.bool true) ∧ V = w' := fun V => by have := HMAY.out V; rw [hmay] at this; exact this.mono fun E w' h => ⟨h.1, h.2.symm⟩
          have HML := Lib.hid hml; clear hml
          have hnode : (0 : Int) ≤ nd := by have := HND.out; omega
          have hnode2 : nd ≤ 1048576 := by have := HND.out; omega
          clear ho2c hmay
          go_wp2_with (with_reducible refine (HML.out _).mono ?_; rintro E w' ⟨rfl, rfl⟩)
          go_roundw
          case rel => exact ⟨i + 1, Aa, na, ca, M, K, by omega, rfl, by go_num, HST2.out.more (by omega), HBW2.out⟩
          case measure => simp [intOf]; omega
        · skip
          obtain ⟨hmay, hi1, hi2⟩ := okN_may hok
          rw [hres] at HO2 ⊢
          have ho2c := HO2.out
          clear HO2 hok hres
          obtain ⟨j0, hj0⟩ := Option.ne_none_iff_exists'.1 hms
          rw [hj0] at hlook
          clear hj0 hms
          have hlk := hlook
          clear hlook
          dsimp only [Option.getD_none, Option.isSome_none, Option.getD_some, Option.isSome_some] at hlk
          have hml : ∀ V, Calls Tryz.prog 24 #[.string S] V fun E w' => E = .returned (.bool true) ∧ V = w' := fun V => by have := HMAY.out V; rw [hmay] at this; exact this.mono fun E w' h => ⟨h.1, h.2.symm⟩
          have HML := Lib.hid hml; clear hml
          have hnode : (0 : Int) ≤ nd := by have := HND.out; omega
          have hnode2 : nd ≤ 1048576 := by have := HND.out; omega
          obtain ⟨A3, c3, rfl⟩ := ho2c.shape
          obtain ⟨W3, hrun, htb, hg⟩ := run_tabPut W2 m i M K S x.e HSD.out HXR.out (by unfold maxLen; omega) HST2.out.tab
          rw [← HND.out] at hrun
          have HST3 : Hid (State W3 m (i + 1) A3 r.length (putM M x.e) (keysP K M x.e.t)) := Lib.hid (State.stored (i' := i + 1) ho2c hU hMU HMW.out htb hg (Nat.le_trans (keysP_len _ _ _) (by have := HST2.out.few; omega)))
          have HBW3 : Hid (Below w.heap.size w W3) := Lib.hid (HBW2.out.grown hg HBW2.out.size (fun q hq => by injection hq with hq; have := HWM.out; omega))
          clear ho2c hmay hU hMU htb hg
          generalize r.length = nr at HST3 ⊢
          go_wp2_with (with_reducible refine (HML.out _).mono ?_; rintro E w' ⟨rfl, rfl⟩)
          go_roundw
          case rel => exact ⟨i + 1, A3, nr, c3, putM M x.e, keysP K M x.e.t, by omega, rfl, by go_num, HST3.out, HBW3.out⟩
          case measure => simp [intOf]; omega
      · skip
        have hdk : doD dl x.op x.e = addD dl x.e := by rw [hdd]; rfl
        rw [hdk] at HO2 ⊢
        clear hdd hdk
        rcases add_model HRD.out HMOD.out x.e with ⟨hok, hres⟩ | ⟨hok, hms, hres⟩ | ⟨hok, hmn, hres | ⟨r, U, hres, hU, hMU⟩⟩
        · skip
          rw [hres] at HO2 ⊢
          have ho2c := HO2.out
          clear HO2 hres
          rcases Bool.eq_false_or_eq_true (may x.e.t) with hmay | hmay
          rotate_left
          · skip
            have hml : ∀ V, Calls Tryz.prog 24 #[.string S] V fun E w' => E = .returned (.bool false) ∧ V = w' := fun V => by have := HMAY.out V; rw [hmay] at this; exact this.mono fun E w' h => ⟨h.1, h.2.symm⟩
            have HML := Lib.hid hml; clear hml
            clear ho2c hmay
            go_wp2_with (with_reducible refine (HML.out _).mono ?_; rintro E w' ⟨rfl, rfl⟩)
            go_roundw
            case rel => exact ⟨i + 1, Aa, na, ca, M, K, by omega, rfl, by go_num, HST2.out.more (by omega), HBW2.out⟩
            case measure => simp [intOf]; omega
          · rcases Decidable.em (x.e.i < 0) with hi1 | hi1
            · skip
              have hml : ∀ V, Calls Tryz.prog 24 #[.string S] V fun E w' => E = .returned (.bool true) ∧ V = w' := fun V => by have := HMAY.out V; rw [hmay] at this; exact this.mono fun E w' h => ⟨h.1, h.2.symm⟩
              have HML := Lib.hid hml; clear hml
              have hnode : ¬ (0 : Int) ≤ nd := by have := HND.out; omega
              have hnode2 : decide ((0 : Int) ≤ nd) = false := decide_eq_false hnode
              clear ho2c hmay
              go_wp2_with (with_reducible refine (HML.out _).mono ?_; rintro E w' ⟨rfl, rfl⟩)
              go_roundw
              case rel => exact ⟨i + 1, Aa, na, ca, M, K, by omega, rfl, by go_num, HST2.out.more (by omega), HBW2.out⟩
              case measure => simp [intOf]; omega
            · have hi2 : 1048576 < x.e.i := by
                rcases Decidable.em (1048576 < x.e.i) with k | k
                · exact k
                · rw [okN_of hmay (by omega) (by omega)] at hok; cases hok
              have hml : ∀ V, Calls Tryz.prog 24 #[.string S] V fun E w' => E = .returned (.bool true) ∧ V = w' := fun V => by have := HMAY.out V; rw [hmay] at this; exact this.mono fun E w' h => ⟨h.1, h.2.symm⟩
              have HML := Lib.hid hml; clear hml
              have hnode : (0 : Int) ≤ nd := by have := HND.out; omega
              have hnode2 : ¬ nd ≤ 1048576 := by have := HND.out; omega
              have hnode3 : decide (nd ≤ 1048576) = false := decide_eq_false hnode2
              clear ho2c hmay
              go_wp2_with (with_reducible refine (HML.out _).mono ?_; rintro E w' ⟨rfl, rfl⟩)
              go_roundw
              case rel => exact ⟨i + 1, Aa, na, ca, M, K, by omega, rfl, by go_num, HST2.out.more (by omega), HBW2.out⟩
              case measure => simp [intOf]; omega
        · skip
          obtain ⟨hmay, hi1, hi2⟩ := okN_may hok
          rw [hres] at HO2 ⊢
          have ho2c := HO2.out
          clear HO2 hok hres
          obtain ⟨j0, hj0⟩ := Option.ne_none_iff_exists'.1 hms
          rw [hj0] at hlook
          clear hj0 hms
          have hlk := hlook
          clear hlook
          dsimp only [Option.getD_none, Option.isSome_none, Option.getD_some, Option.isSome_some] at hlk
          have hml : ∀ V, Calls Tryz.prog 24 #[.string S] V fun E w' => E = .returned (.bool true) ∧ V = w' := fun V => by have := HMAY.out V; rw [hmay] at this; exact this.mono fun E w' h => ⟨h.1, h.2.symm⟩
          have HML := Lib.hid hml; clear hml
          have hnode : (0 : Int) ≤ nd := by have := HND.out; omega
          have hnode2 : nd ≤ 1048576 := by have := HND.out; omega
          clear ho2c hmay
          go_wp2_with (with_reducible refine (HML.out _).mono ?_; rintro E w' ⟨rfl, rfl⟩)
          go_roundw
          case rel => exact ⟨i + 1, Aa, na, ca, M, K, by omega, rfl, by go_num, HST2.out.more (by omega), HBW2.out⟩
          case measure => simp [intOf]; omega
        · skip
          obtain ⟨hmay, hi1, hi2⟩ := okN_may hok
          rw [hres] at HO2 ⊢
          have ho2c := HO2.out
          clear HO2 hok hres
          rw [hmn] at hlook
          have hlk := hlook
          clear hlook
          dsimp only [Option.getD_none, Option.isSome_none, Option.getD_some, Option.isSome_some] at hlk
          have hml : ∀ V, Calls Tryz.prog 24 #[.string S] V fun E w' => E = .returned (.bool true) ∧ V = w' := fun V => by have := HMAY.out V; rw [hmay] at this; exact this.mono fun E w' h => ⟨h.1, h.2.symm⟩
          have HML := Lib.hid hml; clear hml
          have hnode : (0 : Int) ≤ nd := by have := HND.out; omega
          have hnode2 : nd ≤ 1048576 := by have := HND.out; omega
          clear ho2c hmay
          go_wp2_with (with_reducible refine (HML.out _).mono ?_; rintro E w' ⟨rfl, rfl⟩)
          go_roundw
          case rel => exact ⟨i + 1, Aa, na, ca, M, K, by omega, rfl, by go_num, HST2.out.more (by omega), HBW2.out⟩
          case measure => simp [intOf]; omega
        · skip
          obtain ⟨hmay, hi1, hi2⟩ := okN_may hok
          rw [hres] at HO2 ⊢
          have ho2c := HO2.out
          clear HO2 hok hres
          rw [hmn] at hlook
          have hlk := hlook
          clear hlook
          dsimp only [Option.getD_none, Option.isSome_none, Option.getD_some, Option.isSome_some] at hlk
          have hml : ∀ V, Calls Tryz.prog 24 #[.string S] V fun E w' => E = .returned (.bool true) ∧ V = w' := fun V => by have := HMAY.out V; rw [hmay] at this; exact this.mono fun E w' h => ⟨h.1, h.2.symm⟩
          have HML := Lib.hid hml; clear hml
          have hnode : (0 : Int) ≤ nd := by have := HND.out; omega
          have hnode2 : nd ≤ 1048576 := by have := HND.out; omega
          obtain ⟨A3, c3, rfl⟩ := ho2c.shape
          obtain ⟨W3, hrun, htb, hg⟩ := run_tabPut W2 m i M K S x.e HSD.out HXR.out (by unfold maxLen; omega) HST2.out.tab
          rw [← HND.out] at hrun
          have HST3 : Hid (State W3 m (i + 1) A3 r.length (putM M x.e) (keysP K M x.e.t)) := Lib.hid (State.stored (i' := i + 1) ho2c hU hMU HMW.out htb hg (Nat.le_trans (keysP_len _ _ _) (by have := HST2.out.few; omega)))
          have HBW3 : Hid (Below w.heap.size w W3) := Lib.hid (HBW2.out.grown hg HBW2.out.size (fun q hq => by injection hq with hq; have := HWM.out; omega))
          clear ho2c hmay hU hMU htb hg
          generalize r.length = nr at HST3 ⊢
          go_wp2_with (with_reducible refine (HML.out _).mono ?_; rintro E w' ⟨rfl, rfl⟩)
          go_roundw
          case rel => exact ⟨i + 1, A3, nr, c3, putM M x.e, keysP K M x.e.t, by omega, rfl, by go_num, HST3.out, HBW3.out⟩
          case measure => simp [intOf]; omega
      · skip
        have hdk : doD dl x.op x.e = addD dl x.e := by rw [hdd]; rfl
        rw [hdk] at HO2 ⊢
        clear hdd hdk
        rcases add_model HRD.out HMOD.out x.e with ⟨hok, hres⟩ | ⟨hok, hms, hres⟩ | ⟨hok, hmn, hres | ⟨r, U, hres, hU, hMU⟩⟩
        · skip
          rw [hres] at HO2 ⊢
          have ho2c := HO2.out
          clear HO2 hres
          rcases Bool.eq_false_or_eq_true (may x.e.t) with hmay | hmay
          rotate_left
          · skip
            have hml : ∀ V, Calls Tryz.prog 24 #[.string S] V fun E w' => E = .returned (.bool false) ∧ V = w' := fun V => by have := HMAY.out V; rw [hmay] at this; exact this.mono fun E w' h => ⟨h.1, h.2.symm⟩
            have HML := Lib.hid hml; clear hml
            clear ho2c hmay
            go_wp2_with (with_reducible refine (HML.out _).mono ?_; rintro E w' ⟨rfl, rfl⟩)
            go_roundw
            case rel => exact ⟨i + 1, Aa, na, ca, M, K, by omega, rfl, by go_num, HST2.out.more (by omega), HBW2.out⟩
            case measure => simp [intOf]; omega
          · rcases Decidable.em (x.e.i < 0) with hi1 | hi1
            · skip
              have hml : ∀ V, Calls Tryz.prog 24 #[.string S] V fun E w' => E = .returned (.bool true) ∧ V = w' := fun V => by have := HMAY.out V; rw [hmay] at this; exact this.mono fun E w' h => ⟨h.1, h.2.symm⟩
              have HML := Lib.hid hml; clear hml
              have hnode : ¬ (0 : Int) ≤ nd := by have := HND.out; omega
              have hnode2 : decide ((0 : Int) ≤ nd) = false := decide_eq_false hnode
              clear ho2c hmay
              go_wp2_with (with_reducible refine (HML.out _).mono ?_; rintro E w' ⟨rfl, rfl⟩)
              go_roundw
              case rel => exact ⟨i + 1, Aa, na, ca, M, K, by omega, rfl, by go_num, HST2.out.more (by omega), HBW2.out⟩
              case measure => simp [intOf]; omega
            · have hi2 : 1048576 < x.e.i := by
                rcases Decidable.em (1048576 < x.e.i) with k | k
                · exact k
                · rw [okN_of hmay (by omega) (by omega)] at hok; cases hok
              have hml : ∀ V, Calls Tryz.prog 24 #[.string S] V fun E w' => E = .returned (.bool true) ∧ V = w' := fun V => by have := HMAY.out V; rw [hmay] at this; exact this.mono fun E w' h => ⟨h.1, h.2.symm⟩
              have HML := Lib.hid hml; clear hml
              have hnode : (0 : Int) ≤ nd := by have := HND.out; omega
              have hnode2 : ¬ nd ≤ 1048576 := by have := HND.out; omega
              have hnode3 : decide (nd ≤ 1048576) = false := decide_eq_false hnode2
              clear ho2c hmay
              go_wp2_with (with_reducible refine (HML.out _).mono ?_; rintro E w' ⟨rfl, rfl⟩)
              go_roundw
              case rel => exact ⟨i + 1, Aa, na, ca, M, K, by omega, rfl, by go_num, HST2.out.more (by omega), HBW2.out⟩
              case measure => simp [intOf]; omega
        · skip
          obtain ⟨hmay, hi1, hi2⟩ := okN_may hok
          rw [hres] at HO2 ⊢
          have ho2c := HO2.out
          clear HO2 hok hres
          obtain ⟨j0, hj0⟩ := Option.ne_none_iff_exists'.1 hms
          rw [hj0] at hlook
          clear hj0 hms
          have hlk := hlook
          clear hlook
          dsimp only [Option.getD_none, Option.isSome_none, Option.getD_some, Option.isSome_some] at hlk
          have hml : ∀ V, Calls Tryz.prog 24 #[.string S] V fun E w' => E = .returned (.bool true) ∧ V = w' := fun V => by have := HMAY.out V; rw [hmay] at this; exact this.mono fun E w' h => ⟨h.1, h.2.symm⟩
          have HML := Lib.hid hml; clear hml
          have hnode : (0 : Int) ≤ nd := by have := HND.out; omega
          have hnode2 : nd ≤ 1048576 := by have := HND.out; omega
          clear ho2c hmay
          go_wp2_with (with_reducible refine (HML.out _).mono ?_; rintro E w' ⟨rfl, rfl⟩)
          go_roundw
          case rel => exact ⟨i + 1, Aa, na, ca, M, K, by omega, rfl, by go_num, HST2.out.more (by omega), HBW2.out⟩
          case measure => simp [intOf]; omega
        · skip
          obtain ⟨hmay, hi1, hi2⟩ := okN_may hok
          rw [hres] at HO2 ⊢
          have ho2c := HO2.out
          clear HO2 hok hres
          rw [hmn] at hlook
          have hlk := hlook
          clear hlook
          dsimp only [Option.getD_none, Option.isSome_none, Option.getD_some, Option.isSome_some] at hlk
          have hml : ∀ V, Calls Tryz.prog 24 #[.string S] V fun E w' => E = .returned (.bool true) ∧ V = w' := fun V => by have := HMAY.out V; rw [hmay] at this; exact this.mono fun E w' h => ⟨h.1, h.2.symm⟩
          have HML := Lib.hid hml; clear hml
          have hnode : (0 : Int) ≤ nd := by have := HND.out; omega
          have hnode2 : nd ≤ 1048576 := by have := HND.out; omega
          clear ho2c hmay
          go_wp2_with (with_reducible refine (HML.out _).mono ?_; rintro E w' ⟨rfl, rfl⟩)
          go_roundw
          case rel => exact ⟨i + 1, Aa, na, ca, M, K, by omega, rfl, by go_num, HST2.out.more (by omega), HBW2.out⟩
          case measure => simp [intOf]; omega
        · skip
          obtain ⟨hmay, hi1, hi2⟩ := okN_may hok
          rw [hres] at HO2 ⊢
          have ho2c := HO2.out
          clear HO2 hok hres
          rw [hmn] at hlook
          have hlk := hlook
          clear hlook
          dsimp only [Option.getD_none, Option.isSome_none, Option.getD_some, Option.isSome_some] at hlk
          have hml : ∀ V, Calls Tryz.prog 24 #[.string S] V fun E w' => E = .returned (.bool true) ∧ V = w' := fun V => by have := HMAY.out V; rw [hmay] at this; exact this.mono fun E w' h => ⟨h.1, h.2.symm⟩
          have HML := Lib.hid hml; clear hml
          have hnode : (0 : Int) ≤ nd := by have := HND.out; omega
          have hnode2 : nd ≤ 1048576 := by have := HND.out; omega
          obtain ⟨A3, c3, rfl⟩ := ho2c.shape
          obtain ⟨W3, hrun, htb, hg⟩ := run_tabPut W2 m i M K S x.e HSD.out HXR.out (by unfold maxLen; omega) HST2.out.tab
          rw [← HND.out] at hrun
          have HST3 : Hid (State W3 m (i + 1) A3 r.length (putM M x.e) (keysP K M x.e.t)) := Lib.hid (State.stored (i' := i + 1) ho2c hU hMU HMW.out htb hg (Nat.le_trans (keysP_len _ _ _) (by have := HST2.out.few; omega)))
          have HBW3 : Hid (Below w.heap.size w W3) := Lib.hid (HBW2.out.grown hg HBW2.out.size (fun q hq => by injection hq with hq; have := HWM.out; omega))
          clear ho2c hmay hU hMU htb hg
          generalize r.length = nr at HST3 ⊢
          go_wp2_with (with_reducible refine (HML.out _).mono ?_; rintro E w' ⟨rfl, rfl⟩)
          go_roundw
          case rel => exact ⟨i + 1, A3, nr, c3, putM M x.e, keysP K M x.e.t, by omega, rfl, by go_num, HST3.out, HBW3.out⟩
          case measure => simp [intOf]; omega
    · obtain rfl : N = i := by omega
      have hiNI : ¬ (N : Int) < (N : Int) := by omega
      obtain ⟨dl, T, hhd, hrd, hmod⟩ := HST.out.ex
      have htab := HST.out.tab
      have hfew := HST.out.few
      have hsz := ((readD_iff dl T).1 hrd).sizes
      have hna : na ≤ 31 := by rw [← hhd.1]; exact hsz.2.2
      have hss : ∀ b ∈ dl, b.length ≤ 140737488355328 := fun b hb => by rw [hsz.1 b hb]; omega
      have hfind := fun (t : List UInt8) (ht : t.length ≤ maxLen) V (hV : Below V0.heap.size V0 V) => Find_any Aa na ca V0.heap.size dl t ht V (hhd.below hV) hV.size (by omega) hss
      have haft := fun V (hV : Below V0.heap.size V0 V) => After_any Aa na ca V0.heap.size dl [] (by decide) ((K.length : Int) + 5) V (hhd.below hV) hV.size (by omega) hss
      have hchk := fun V (hV : Below V0.heap.size V0 V) => check_any Aa na ca V0.heap.size dl V (hhd.below hV) hV.size (by omega) hss
      have htl : ∀ V, Below V0.heap.size V0 V → Tab V m N M K := fun V hV => htab.below hV
      have hck : chkD dl = 0 := by unfold chkD; rw [hrd]
      have had : afterD dl [] ((K.length : Int) + 5) = (afterT T [] ((K.length : Int) + 5), 0) := by unfold afterD; rw [hrd]
      have hmany := many_model hrd hmod htab.choose_spec.2.nodup htab.choose_spec.2.mem ((K.length : Int) + 5) (by omega)
      simp only [had] at haft
      simp only [hck] at hchk
      generalize afterT T [] ((K.length : Int) + 5) = LA at haft hmany
      unfold Names2 at haft
      dsimp only at haft
      obtain ⟨kl, hkl⟩ : ∃ kl, kl = K.length := ⟨_, rfl⟩
      rw [hmany] at haft
      rw [← hkl] at haft hfew
      have HKL := Lib.hid hkl; clear hkl
      have HFIND := Lib.hid hfind; clear hfind
      have HAFT := Lib.hid haft; clear haft
      have HCHK := Lib.hid hchk; clear hchk
      have HTL := Lib.hid htl; clear htl
      have HFM := Lib.hid (fun t => find_model hrd hmod t)
      clear hhd hrd hmod htab hsz hss hck had hmany HST
      go_wp2
      go_loopw [14] (fun jv wr => ∃ j : Nat, j ≤ N ∧ jv = .int .i64 (j : Int) ∧ Below V0.heap.size V0 wr) (fun jv _ => N - (intOf jv).toNat)
      case atStart => exact ⟨0, Nat.zero_le _, rfl, Below.refl _ _⟩
      case round =>
        obtain ⟨V1, hV1⟩ : ∃ V1, V1 = wr := ⟨_, rfl⟩
        subst hV1
        obtain ⟨j, hj, rfl, hbj⟩ := hrel
        have HBJ := Lib.hid hbj; clear hbj
        have HBW : Hid (Below w.heap.size w V1) := Lib.hid (HBR.out.trans (HBJ.out.mono HBR.out.size))
        rcases Nat.lt_or_ge j N with hjN | hjN
        · have hjl : j < L.length := by have := HLL.out; omega
          obtain ⟨b0, off, rfl, hb0⟩ := (HH.out V1 HBW.out).addr (by omega)
          obtain ⟨x, hx⟩ : ∃ x, x = L[j] := ⟨_, rfl⟩
          have hxr : x.e.rep := HREP.out x (hx ▸ List.getElem_mem hjl)
          obtain ⟨S, hS⟩ : ∃ S : ByteArray, S = ⟨x.e.t.toArray⟩ := ⟨_, rfl⟩
          have hSd : S.data.toList = x.e.t := by rw [hS]
          have hcell : V1.cell? ⟨b0, off + j * 3 + 1, none⟩ = some (.string S) := by
            have := (HH.out V1 HBW.out).cell j hjl 1 (by decide)
            rw [show off + j * DK.k + 1 = off + j * 3 + 1 from rfl] at this
            rw [this, hS, hx]; rfl
          have hlook := run_tabLook V1 m N M K S x.e.t hSd hxr.t (HTL.out V1 HBJ.out)
          have hfd := HFIND.out x.e.t hxr.t V1 HBJ.out
          rw [← hS] at hfd
          have hfm := HFM.out x.e.t
          generalize x.e.t = t at hlook hfd hfm
          clear hSd hS hx hxr
          have hj0 : (0 : Int) ≤ (j : Int) := by omega
          have hjNI : (j : Int) < (N : Int) := by omega
          rcases hfm with ⟨z, hm, hf⟩ | ⟨hm, ez, hez, hf⟩
          · rw [hf] at hfd
            rw [hm] at hlook
            dsimp only [Option.getD_some, Option.isSome_some] at hlook
            have HFD := Lib.hid hfd; clear hfd hf hm
            go_wp2_with fail
            with_reducible refine HFD.out.mono ?_
            rintro E6 V2 ⟨rfl, hb2⟩
            have HBJ2 : Hid (Below V0.heap.size V0 V2) := Lib.hid (HBJ.out.trans (hb2.mono HBJ.out.size))
            clear hb2 HFD
            dsimp only
            go_wp2
            go_roundw
            case rel => exact ⟨j + 1, by omega, by go_num, HBJ2.out⟩
            case measure => simp [intOf]; omega
          · rw [hf] at hfd
            rw [hm] at hlook
            dsimp only [Option.getD_none, Option.isSome_none] at hlook
            have HFD := Lib.hid hfd; clear hfd hf hm
            have hez2 : (ez == 0) = false := beq_false_of_ne hez
            go_wp2_with fail
            with_reducible refine HFD.out.mono ?_
            rintro E6 V2 ⟨rfl, hb2⟩
            have HBJ2 : Hid (Below V0.heap.size V0 V2) := Lib.hid (HBJ.out.trans (hb2.mono HBJ.out.size))
            clear hb2 HFD
            dsimp only
            go_wp2
            go_roundw
            case rel => exact ⟨j + 1, by omega, by go_num, HBJ2.out⟩
            case measure => simp [intOf]; omega
        · have hjN2 : ¬ (j : Int) < (N : Int) := by omega
          have hlen := run_tabLen V1 m N M K 3 (HTL.out V1 HBJ.out)
          rw [← HKL.out] at hlen
          have hw5 : IntKind.i64.wrap ((kl : Int) + 5) = (kl : Int) + 5 := by rw [IntKind.wrap_i64]; omega
          go_wp2_with fail
          with_reducible refine (HAFT.out V1 HBJ.out).mono ?_
          rintro E6 V2 ⟨A6, c6, rfl, ho6, hb6⟩
          have HBJ2 : Hid (Below V0.heap.size V0 V2) := Lib.hid (HBJ.out.trans (hb6.mono HBJ.out.size))
          have hlen2 := run_tabLen V2 m N M K 3 (HTL.out V2 HBJ2.out)
          rw [← HKL.out] at hlen2
          clear ho6 hb6 hlen HAFT
          go_wp2_with fail
          with_reducible refine (HCHK.out V2 HBJ2.out).mono ?_
          rintro E7 V3 ⟨rfl, hb7⟩
          have HB7 : Hid (Below V0.heap.size V0 V3) := Lib.hid (HBJ2.out.trans (hb7.mono HBJ2.out.size))
          clear hb7 hlen2
          go_wp2
          rw [HP.out]
          exact ⟨rfl, HBR.out.trans (HB7.out.mono HBR.out.size)⟩

theorem walks : Walks 5 Tryz.f5 All := by
  intro H enc W base args ds p hval hA hsz _
  rw [Tryz.params5] at hA hval hsz
  obtain ⟨v0, vs0, d0, ds0, p0, q0, hargs, rfl, rfl, h0, r0⟩ := trodAll_cons hA
  obtain ⟨rfl, rfl, rfl⟩ := trodAll_nil r0
  obtain rfl : args = #[v0] := by cases args; simp_all
  obtain ⟨A0, n0, c0, l0, rfl, hl0, hr0, hn0, hc0⟩ := deeds_open (hval 0 _ v0 rfl rfl) h0 _ (reach_deeds hsz (j := 0) rfl rfl)
  exact walk A0 n0 c0 l0 W hl0 hr0 hn0 (by omega)

set_option maxRecDepth 100000 in
theorem proved : Rows.HtreeFindsSaid :=
  OpenClaim.holds_of_wide 5 Tryz.f5 rfl rfl rfl rfl rfl rfl rfl ⟨rfl, rfl, rfl, rfl, rfl⟩ rfl rfl rfl rfl rfl (by kernel_rfl) Tryz.func5 (by kernel_rfl)
    (of_decide_eq_true (by kernel_rfl)) (by unfold Func.isWrapper; first | (rw [if_pos (by decide +kernel)]; kernel_rfl) | (rw [if_neg (by decide +kernel)]; exact ⟨rfl, rfl⟩))
    (fun os started H enc _ => lifted (s := Rows.htreeFindsSpec) walks (by kernel_rfl) rfl rfl (fun H ds hl => by match ds, hl with | [d1], _ => rfl) (by kernel_rfl) Tryz.func5 os started H enc
      (ChangeSpec.witness6 (enc := enc) (C := Tryz.checked) false ⟨#[], #[.slice none 0 0], []⟩ 8 (by kernel_rfl) (by kernel_rfl) (by kernel_rfl) (by kernel_rfl)))
#print axioms proved
end Go.Proofs.YtbagocghlijleaaGreat.HtreeFinds
