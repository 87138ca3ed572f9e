/- Where an entry stands in a directory: the program's find. -/
import Derived.Test.YtbagocghlijleaaGreatHtBs
import Derived.Test.YtbagocghlijleaaGreatLfRight
namespace Go.Proofs.YtbagocghlijleaaGreat.Ht
set_option maxRecDepth 20000
open Go.RowKit
open Go.Proofs.YtbagocghlijleaaGreat.Mem Go.Proofs.YtbagocghlijleaaGreat.Crc Go.Proofs.YtbagocghlijleaaGreat.Rec Go.Proofs.YtbagocghlijleaaGreat.Reg Go.Proofs.YtbagocghlijleaaGreat.Lf

theorem RowsAt.kept {w w' : World} {base g m c : Nat} {rs : List Rw} {E : List (List Nm)} {k : Nat} {l : List Rv} (h : RowsAt w base g m c rs E k l) (hb : ∀ i, base ≤ i → i < w.heap.size → w'.heap[i]? = w.heap[i]?) : RowsAt w' base g m c rs E k l :=
  ⟨h.own.kept fun i hi => hb i (h.own.lt i hi).1 (h.own.lt i hi).2, h.rows, h.num, fun j hj hk => ⟨(h.ents j hj hk).1.kept fun i hi => hb i ((h.ents j hj hk).1.lt i hi).1 ((h.ents j hj hk).1.lt i hi).2, (h.ents j hj hk).2⟩, h.rest⟩
theorem RowsAt.mono {w : World} {base base' g m c : Nat} {rs : List Rw} {E : List (List Nm)} {k : Nat} {l : List Rv} (h : RowsAt w base g m c rs E k l) (hb : base' ≤ base) : RowsAt w base' g m c rs E k l :=
  ⟨h.own.mono hb, h.rows, h.num, fun j hj hk => ⟨(h.ents j hj hk).1.mono hb, (h.ents j hj hk).2⟩, h.rest⟩

/-! ### A place -/
structure Pl where
  g : Nat
  m : Nat
  c : Nat
  row : Nat
  at_ : Nat
  there : Bool
def qC (p : Pl) : Array Value := #[.slice (some ⟨p.g, 0, none⟩) p.m p.c, .int .i64 (p.row : Int), .int .i64 (p.at_ : Int), .bool p.there]
def zeroQ : Array Value := #[.slice none 0 0, .int .i64 0, .int .i64 0, .bool false]
def ldQ (x : Value) : Sem Value := Instr.loadAt 88 x
theorem ldQ_eq (x : Value) : Instr.loadAt 88 x = ldQ x := rfl
def stQ (x v : Value) : Sem Unit := Instr.storeAt 88 x v
theorem stQ_eq (x v : Value) : Instr.storeAt 88 x v = stQ x v := rfl
attribute [local go_sem ↓] ldE_eq stE_eq ldX_eq stX_eq ldR_eq stR_eq ldQ_eq stQ_eq
def VarQ (w : World) (g : Nat) (cs : Array Value) : Prop := w.heap[g]? = some (.cells cs 88 (0, 0))
theorem VarQ.load {w : World} {g : Nat} {cs : Array Value} (hs : cs.size = 4) (h : VarQ w g cs) : (ldQ (.pointer (some ⟨g, 0, none⟩))).run Tryz.prog w = .ok (.agg cs) w := by
  have hl : (loadVar 88 ⟨g, 0, none⟩).run Tryz.prog w = .ok (.agg cs) w := run_loadVar_row w g _ _ cs (0, 0) _ h Tryz.underlying88 rfl (by rw [hs]; kernel_rfl)
  unfold ldQ Instr.loadAt Instr.sureAddr
  simp [hl]
theorem run_stQ_row (V : World) (g : Nat) (old new : Array Value) (hs : old.size = 4) (hs' : new.size = 4) (h1 : ∀ u ∈ new, u.oneCell' = true) (h : VarQ V g old) :
    ∃ V', (stQ (.pointer (some ⟨g, 0, none⟩)) (.agg new)).run Tryz.prog V = .ok () V' ∧ VarQ V' g new ∧ V.grownBy V' (some g) := by
  have hst := run_storeAt_mid (P := Tryz.prog) V g 0 88 new (fun i hi => by
    exact ⟨by rw [cell_of_row _ _ _ _ _ _ h, Array.getElem?_eq_getElem (by omega)]; rfl, frozen_of_row _ _ _ _ _ h⟩) (by rw [hs']; kernel_rfl) (by rw [Array.all_eq_true_iff_forall_mem]; exact h1)
  refine ⟨_, hst, ?_, setCells_grown _ _ _ _⟩
  unfold VarQ
  rw [setCells_heap g _ _ V _ _ h (by simp; omega)]
  have : old.toList.drop (0 + new.toList.length) = [] := List.drop_eq_nil_of_le (by simp; omega)
  rw [this]
  simp
theorem results_q {fn : Func} {p u : Tmp} (h : fn.results = #[.cell p 88, .tmp u]) (tmps : Array Value) (w : World) (g : Nat) (cs : Array Value) (hs : cs.size = 4)
    (hp : tmps.getD p undef = .pointer (some ⟨g, 0, none⟩)) (hg : VarQ w g cs) : (results fn tmps).run Tryz.prog w = .ok (.tuple #[.agg cs, tmps.getD u undef]) w := by
  have hl : (loadVar 88 ⟨g, 0, none⟩).run Tryz.prog w = .ok (.agg cs) w := run_loadVar_row w g _ _ cs (0, 0) _ hg Tryz.underlying88 rfl (by rw [hs]; kernel_rfl)
  have hp' : tmps[p]?.getD undef = .pointer (some ⟨g, 0, none⟩) := by simpa using hp
  simp [results, h, hp', asAddr, hl]
theorem zeroQ_one : ∀ u ∈ zeroQ, u.oneCell' = true := by intro u hu; simp [zeroQ] at hu; rcases hu with rfl | rfl | rfl | rfl <;> rfl
theorem qC_one (p : Pl) : ∀ u ∈ qC p, u.oneCell' = true := by intro u hu; simp [qC] at hu; rcases hu with rfl | rfl | rfl | rfl <;> rfl

theorem size_one (e : Nm) : (size [e]).2 = if okN e = true then 0 else 1 := by
  have hr : right [e] = okN e := by
    rw [Bool.eq_iff_iff, right_iff]
    simp
  unfold Lf.size
  rw [hr]
  cases okN e <;> rfl
/-- The entries of a name's leaf, in order; the name's place among them. -/
def atK (T : Leaves) (t : List UInt8) : Nat := atL (T.map Prod.fst) (Crc.sum t) T.length
def entsAt (T : Leaves) (t : List UInt8) : List Nm := sortR ordB (leafAt T t).2
/-- What find answers. -/
def Find2 (w : World) (d : List (List UInt8)) (e : Nm) (E : Ending) (w' : World) : Prop :=
  match readD d with
  | none => E = .returned (.tuple #[.agg zeroQ, .int .i64 13]) ∧ Below w.heap.size w w'
  | some T => if okN e = false then E = .returned (.tuple #[.agg zeroQ, .int .i64 1]) ∧ Below w.heap.size w w' else
    ∃ g c l, E = .returned (.tuple #[.agg (qC ⟨g, T.length, c, atK T e.t, posB (entsAt T e.t) e, decide (posB (entsAt T e.t) e < (entsAt T e.t).length ∧ ((entsAt T e.t).getD (posB (entsAt T e.t) e) n0).t = e.t)⟩), .int .i64 0]) ∧
      RowsAt w' w.heap.size g T.length c (T.map Prod.fst) (T.map fun p => sortR ordB p.2) T.length l ∧ Below w.heap.size w w'

set_option maxRecDepth 100000 in
set_option maxHeartbeats 8000000 in
theorem find_any (A : Option Addr) (n c B : Nat) (d : List (List UInt8)) (e : Nm) (he : e.rep) (w : World) (h : HoldsN w B A n d) (hB : B ≤ w.heap.size) (hn : n ≤ 5864062014634) (hsz : ∀ b ∈ d, b.length ≤ 140737488355328) :
    Calls Tryz.prog 44 #[.slice A n c, .agg e.c] w (Find2 w d e) := by
  obtain ⟨post, hpost⟩ : ∃ post, post = Find2 w d e := ⟨_, rfl⟩
  rw [← hpost]
  have HP := Lib.hid hpost; clear hpost
  obtain ⟨W0, hW0⟩ : ∃ W0, W0 = (w.alloc (.cells e.c 48)).alloc (.cells zeroQ 88) := ⟨_, rfl⟩
  have hvx : VarX W0 w.heap.size e := by rw [hW0]; exact (VarX.new w e).alloc _
  have hvq : VarQ W0 (w.heap.size + 1) zeroQ := by
    have := heap_alloc_new (w.alloc (.cells e.c 48)) (.cells zeroQ 88)
    rw [hW0]; unfold VarQ; simpa using this
  have hz0 : W0.heap.size = w.heap.size + 2 := by rw [hW0]; simp
  have hb0 : Below w.heap.size w W0 := by rw [hW0]; exact ((Below.refl _ w).alloc (Nat.le_refl _) _).alloc (by simp) _
  have hop := opened_any A n c B d W0 (h.below (hb0.mono hB)) (by omega) hn hsz
  have HOP := Lib.hid hop; clear hop h hsz
  obtain ⟨X, hX⟩ : ∃ X, X = e.c := ⟨_, rfl⟩
  rw [← hX] at hW0 ⊢
  unfold zeroQ at hW0
  have HX := Lib.hid hX; clear hX
  have HW0 := Lib.hid hW0; clear hW0
  have HVX := Lib.hid hvx; clear hvx
  have HVQ := Lib.hid hvq; clear hvq
  have HZ0 := Lib.hid hz0; clear hz0
  have HB0 := Lib.hid hb0; clear hb0
  have hzq : zeroQ = #[.slice none 0 0, .int .i64 0, .int .i64 0, .bool false] := rfl
  have HZQ := Lib.hid hzq; clear hzq
  go_enter Tryz.func44, Tryz.ntmps44
  go_wp2_with fail
  rw [← HW0.out]
  with_reducible refine HOP.out.mono ?_
  rintro E1 w1 hres
  unfold Opened2 at hres
  clear HOP
  cases hrd : readD d with
  | none =>
    rw [hrd] at hres
    obtain ⟨rfl, hb1⟩ := hres
    have HRD := Lib.hid hrd
    have hvq1 : VarQ w1 (w.heap.size + 1) zeroQ := (hb1.block _ (by rw [HZ0.out]; omega)).trans HVQ.out
    obtain ⟨w2, hst, hvq2, hg2⟩ := run_stQ_row w1 (w.heap.size + 1) zeroQ zeroQ rfl rfl zeroQ_one hvq1
    have hb1w : Below w.heap.size w w1 := HB0.out.trans (hb1.mono (by rw [HZ0.out]; omega))
    have hb2 : Below w.heap.size w w2 := hb1w.grown hg2 hb1w.size (fun i hi => by injection hi with hi; omega)
    rw [HZQ.out] at hst
    have HVQ2 := Lib.hid hvq2; clear hvq2 hvq1
    have HB2 := Lib.hid hb2; clear hb2 hb1 hb1w hg2 hrd
    go_wp2
    refine bodyPost_ret (results_q rfl _ _ (w.heap.size + 1) zeroQ rfl rfl HVQ2.out) rfl ?_
    rw [HP.out]
    unfold Find2
    rw [HRD.out]
    exact ⟨rfl, HB2.out⟩
  | some T =>
    rw [hrd] at hres
    have HRD := Lib.hid hrd
    obtain ⟨g, c1, l, rfl, hra, hb1⟩ := hres
    have HB1 : Hid (Below w.heap.size w w1) := Lib.hid (HB0.out.trans (hb1.mono (by rw [HZ0.out]; omega)))
    have hvx1 : VarX w1 w.heap.size e := (hb1.block _ (by rw [HZ0.out]; omega)).trans HVX.out
    have hvq1 : VarQ w1 (w.heap.size + 1) zeroQ := (hb1.block _ (by rw [HZ0.out]; omega)).trans HVQ.out
    have hz1 : w.heap.size + 2 ≤ w1.heap.size := by have := hb1.size; rw [HZ0.out] at this; exact this
    rw [HZ0.out] at hra
    have HRA := Lib.hid hra; clear hra
    have HTO := Lib.hid ((readD_iff d T).1 hrd)
    clear hrd hb1
    obtain ⟨m, hm⟩ : ∃ m, m = T.length := ⟨_, rfl⟩
    rw [← hm] at HRA ⊢
    have hm30 : 1 ≤ m ∧ m ≤ 30 := by
      refine ⟨?_, by rw [hm]; exact HTO.out.few⟩
      rcases HTO.out.rows with ⟨_, h⟩ | ⟨_, h, _⟩
      · have := congrArg List.length h; simp at this; omega
      · have := (rowsOk_iff.1 h).1; rw [List.length_map] at this; omega
    have HM := Lib.hid hm; clear hm
    have hl1 := hvx1.load
    -- the name alone in a list
    obtain ⟨w2, hw2⟩ : ∃ w2, w2 = w1.alloc (.cells (cellsX [e]).toArray 48) := ⟨_, rfl⟩
    have hx2 : HoldsX w2 w2.heap.size (some ⟨w1.heap.size, 0, none⟩) 1 [e] := by
      have := ownC_new XK_ok w1 [e] (by simp; unfold maxLen; omega)
      rw [hw2]
      exact (show OwnX _ _ _ _ from this).reads
    have hb2 : Below w1.heap.size w1 w2 := by rw [hw2]; exact (Below.refl _ w1).alloc (Nat.le_refl _) _
    have hsize := size_any (some ⟨w1.heap.size, 0, none⟩) 1 1 w2.heap.size [e] w2 hx2 (Nat.le_refl _) (fun y hy => by rw [List.mem_singleton.1 hy]; exact he) (by omega)
    rw [size_one] at hsize
    obtain ⟨s1, hs1⟩ : ∃ s1, s1 = (size [e]).1 := ⟨_, rfl⟩
    rw [← hs1] at hsize
    have HSIZE := Lib.hid hsize; clear hsize hs1 hx2
    have hcx : (cellsX [e]).toArray = #[.string ⟨e.t.toArray⟩, .int .i64 e.i] := rfl
    have hec : e.c = #[.string ⟨e.t.toArray⟩, .int .i64 e.i] := rfl
    rw [hcx] at hw2
    rw [hec] at hl1
    have HW2 := Lib.hid hw2; clear hw2 hcx hec
    have HVX1 := Lib.hid hvx1; clear hvx1
    have HVQ1 := Lib.hid hvq1; clear hvq1
    have HB2 := Lib.hid hb2; clear hb2
    go_wp2_with fail
    rw [← HW2.out]
    with_reducible refine HSIZE.out.mono ?_
    rintro E3 w3 ⟨rfl, hb3⟩
    have HB3 : Hid (Below w1.heap.size w1 w3) := Lib.hid (HB2.out.trans (hb3.mono HB2.out.size))
    clear hb3 hl1 HSIZE
    cases hok : okN e with
    | false =>
      rw [if_neg (by decide)]
      have HOK := Lib.hid hok
      obtain ⟨w4, hst, hvq4, hg4⟩ := run_stQ_row w3 (w.heap.size + 1) zeroQ zeroQ rfl rfl zeroQ_one ((HB3.out.block _ (by omega)).trans HVQ1.out)
      have hb3w : Below w.heap.size w w3 := HB1.out.trans (HB3.out.mono HB1.out.size)
      have hb4 : Below w.heap.size w w4 := hb3w.grown hg4 hb3w.size (fun i hi => by injection hi with hi; omega)
      rw [HZQ.out] at hst
      have HVQ4 := Lib.hid hvq4; clear hvq4
      have HB4 := Lib.hid hb4; clear hb4 hb3w hg4 hok
      go_wp2
      refine bodyPost_ret (results_q rfl _ _ (w.heap.size + 1) zeroQ rfl rfl HVQ4.out) rfl ?_
      rw [HP.out]
      unfold Find2
      rw [HRD.out]
      dsimp only
      rw [if_pos HOK.out]
      exact ⟨rfl, HB4.out⟩
    | true =>
      rw [if_pos rfl]
      have HOK := Lib.hid hok
      have hent := entryOf_any e he w3
      rw [← HX.out] at hent
      have HENT := Lib.hid hent; clear hent hok
      have hl3 : (ldX (.pointer (some ⟨w.heap.size, 0, none⟩))).run Tryz.prog w3 = .ok (.agg X) w3 := by
        rw [HX.out]
        exact VarX.load ((HB3.out.block _ (by omega)).trans HVX1.out)
      go_wp2_with fail
      with_reducible refine HENT.out.mono ?_
      rintro E4 w4 ⟨rfl, hb4⟩
      clear hl3
      have HB4 : Hid (Below w1.heap.size w1 w4) := Lib.hid (HB3.out.trans (hb4.mono HB3.out.size))
      clear hb4
      -- the entry's box
      have hst := run_stE_new w4 e
      obtain ⟨w5, hw5⟩ : ∃ w5, w5 = w4.alloc (.cells (eC e) 68) := ⟨_, rfl⟩
      have hv5 : VarE w5 w4.heap.size e := by rw [hw5]; exact VarE.new w4 e
      have hb5 : Below w1.heap.size w1 w5 := by rw [hw5]; exact HB4.out.alloc HB4.out.size _
      have hz5 : w5.heap.size = w4.heap.size + 1 := by rw [hw5]; simp
      rw [← hw5] at hst
      unfold zeroE at hst
      have HV5 := Lib.hid hv5; clear hv5
      have HB5 := Lib.hid hb5; clear hb5
      have HW5 := Lib.hid hw5; clear hw5
      -- the place
      obtain ⟨P5, hP5⟩ : ∃ P5 : Array Value, P5 = #[.slice (some ⟨g, 0, none⟩) m c1, .int .i64 ((m : Int) - 1), .int .i64 0, .bool false] := ⟨_, rfl⟩
      obtain ⟨w6, hw6⟩ : ∃ w6, w6 = w5.alloc (.cells zeroQ 88) := ⟨_, rfl⟩
      have hq6 : VarQ w6 w5.heap.size zeroQ := by rw [hw6]; exact heap_alloc_new w5 _
      obtain ⟨w7, hst7, hq7, hg7⟩ := run_stQ_row w6 w5.heap.size zeroQ P5 rfl (by rw [hP5]; rfl) (by rw [hP5]; intro u hu; simp at hu; rcases hu with rfl | rfl | rfl | rfl <;> rfl) hq6
      have hz6 : w6.heap.size = w5.heap.size + 1 := by rw [hw6]; simp
      have hb7 : Below w1.heap.size w1 w7 := (show Below w1.heap.size w1 w6 by rw [hw6]; exact HB5.out.alloc HB5.out.size _).grown hg7 (by have := HB5.out.size; omega) (fun i hi => by injection hi with hi; have := HB5.out.size; omega)
      have hv7 : VarE w7 w4.heap.size e := (hg7.block _ (by omega) (fun e2 => by injection e2 with e2; omega)).trans (by rw [hw6]; exact HV5.out.alloc _)
      rw [hP5, hw6] at hst7
      rw [HZQ.out] at hst7
      rw [HZQ.out] at hw6
      obtain ⟨gp, hgp⟩ : ∃ gp, gp = w5.heap.size := ⟨_, rfl⟩
      obtain ⟨ge, hge⟩ : ∃ ge, ge = w4.heap.size := ⟨_, rfl⟩
      rw [← hgp] at hq7
      have hge1 : ge < gp := by omega
      have hge0 : w1.heap.size ≤ ge := by have := HB4.out.size; omega
      have hgp7 : gp < w7.heap.size := by have := hg7.size; omega
      have hwm : IntKind.i64.wrap ((m : Int) - 1) = (m : Int) - 1 := by rw [IntKind.wrap_i64]; omega
      rw [← hge] at hv7
      have HW6 := Lib.hid hw6; clear hw6 hq6 hg7
      have HGP := Lib.hid hgp; clear hgp
      have HGE := Lib.hid hge; clear hge
      have HB7 := Lib.hid hb7; clear hb7
      have HV7 := Lib.hid hv7; clear hv7
      have HQ7 : Hid (VarQ w7 gp #[.slice (some ⟨g, 0, none⟩) m c1, .int .i64 (((m - 1 : Nat)) : Int), .int .i64 0, .bool false]) := Lib.hid (by rw [hP5] at hq7; rw [show ((m - 1 : Nat) : Int) = (m : Int) - 1 by omega]; exact hq7)
      clear hP5 hq7
      have HZ5 := Lib.hid hz5; clear hz5 hz6
      have HGP7 := Lib.hid hgp7; clear hgp7
      go_wp2
      rw [← HGP.out, ← HGE.out]
      -- the row of the name: from the last one down
      obtain ⟨K, hK⟩ : ∃ K, K = atK T e.t := ⟨_, rfl⟩
      have hKm : K < m := by rw [hK, HM.out]; exact atL_most _ _ _ (by have := HM.out; omega)
      have HKK := Lib.hid hK; clear hK
      go_loopw [] (fun wr => ∃ r : Nat, K ≤ r ∧ r < m ∧ VarQ wr gp #[.slice (some ⟨g, 0, none⟩) m c1, .int .i64 (r : Int), .int .i64 0, .bool false] ∧ VarE wr ge e ∧ Tw gp w7.heap.size w7 wr) (fun wr => match wr.cell? ⟨gp, 1, none⟩ with | some v => (intOf v).toNat | none => 0)
      case atStart => exact ⟨m - 1, by omega, by omega, HQ7.out, HV7.out, Tw.refl _ _ _⟩
      case round =>
        obtain ⟨r, hKr, hrm, hq, hv, htw⟩ := hrel
        have HQ := Lib.hid hq; clear hq
        have HV := Lib.hid hv; clear hv
        have HTW := Lib.hid htw; clear htw
        have hra : RowsAt wr (w.heap.size + 2) g m c1 (T.map Prod.fst) (T.map fun p => sortR ordB p.2) m l := HRA.out.kept (fun i hi1 hi2 => (HTW.out.block i (by have := HB7.out.size; omega) (by omega)).trans (HB7.out.block i hi2))
        have HRA2 := Lib.hid hra; clear hra
        have hll := HRA2.out.len
        have hlr : r < l.length := by rw [List.length_map] at hll; have := HM.out; omega
        obtain ⟨p0, -, p2⟩ := cells_rv (HRA2.out.own.reads RK_ok) r hlr
        rw [Nat.zero_add] at p0 p2
        have hrow : ∀ j, (hj : j < l.length) → l[j].s = ((T.map Prod.fst).getD j ⟨0, 0⟩).s := fun j hj => by
          rw [← HRA2.out.rows, List.getD_eq_getElem?_getD, List.getElem?_map, List.getElem?_eq_getElem hj]
          rfl
        obtain ⟨y, hy⟩ : ∃ y, y = l[r] := ⟨_, rfl⟩
        rw [← hy] at p0 p2
        have hys := hrow r hlr
        rw [← hy] at hys
        obtain ⟨ys, hyse⟩ : ∃ ys, ys = y.s := ⟨_, rfl⟩
        rw [← hyse] at p0
        obtain ⟨sm, hsm⟩ : ∃ sm, sm = Crc.sum e.t := ⟨_, rfl⟩
        have e0 := HV.out.cells.1
        rw [← hsm] at e0
        have c1r : wr.cell? ⟨gp, 1, none⟩ = some (.int .i64 (r : Int)) := cell_of_row wr gp 1 _ _ _ HQ.out
        have hri : (r : Int) < (m : Int) := by omega
        have hcel : ∀ V, Below wr.heap.size wr V → V.cell? ⟨gp, 1, none⟩ = some (.int .i64 (r : Int)) ∧ V.cell? ⟨g, r * 3, none⟩ = some (.int .u32 (ys : Int)) ∧ V.cell? ⟨ge, 0, none⟩ = some (.int .u32 (sm : Int)) := fun V hV => by
          have hg1 : g < wr.heap.size := (HRA2.out.own.lt g rfl).2
          exact ⟨(hV.cell (p := ⟨gp, 1, none⟩) (by show gp < _; have := HTW.out.size; have := HGP7.out; omega)).trans c1r, (hV.cell (p := ⟨g, r * 3, none⟩) hg1).trans p0, (hV.cell (p := ⟨ge, 0, none⟩) (by show ge < _; have := HTW.out.size; have := HGP7.out; omega)).trans e0⟩
        have HC := Lib.hid hcel; clear hcel c1r e0 p0
        have HYS : Hid (ys = ((T.map Prod.fst).getD r ⟨0, 0⟩).s) := Lib.hid (by rw [hyse]; exact hys)
        have HSM := Lib.hid hsm; clear hsm
        have HY := Lib.hid hy; clear hy hys
        have HYSE := Lib.hid hyse; clear hyse hll
        have HROW := Lib.hid hrow; clear hrow
        go_wp2
        refine wp_region_E (fun V => Below wr.heap.size wr V) 99 rfl ?_
        have hS := (show Below wr.heap.size wr wr.drew from below_drew (Below.refl _ _))
        refine wpE_takeF 0 ⟨some 38, _, _, _, _, _⟩ (v := ?_) (by decide) rfl (by kernel_rfl) (by kernel_rfl) (by kernel_rfl) (fun _ _ _ h => h) hS (Or.inl ⟨by kernel_rfl, ?_⟩) ?_
        rotate_left
        · (intro V hSw; obtain ⟨q0, q1, q2⟩ := HC.out V hSw; go_simp; try with_reducible rfl)
        try simp only [Act.put]
        refine wpE_takeF 1 ⟨some 39, _, _, _, _, _⟩ (v := ?_) (by decide) rfl (by kernel_rfl) (by kernel_rfl) (by kernel_rfl) (fun _ _ _ h => h) hS (Or.inl ⟨by kernel_rfl, ?_⟩) ?_
        rotate_left
        · (intro V hSw; obtain ⟨q0, q1, q2⟩ := HC.out V hSw; go_simp; try with_reducible rfl)
        try simp only [Act.put]
        refine wpE_takeF 2 ⟨some 40, _, _, _, _, _⟩ (v := ?_) (by decide) rfl (by kernel_rfl) (by kernel_rfl) (by kernel_rfl) (fun _ _ _ h => h) hS (Or.inl ⟨by kernel_rfl, ?_⟩) ?_
        rotate_left
        · (intro V hSw; obtain ⟨q0, q1, q2⟩ := HC.out V hSw; go_simp; try with_reducible rfl)
        try simp only [Act.put]
        refine wpE_takeF 3 ⟨some 41, _, _, _, _, _⟩ (v := ?_) (by decide) rfl (by kernel_rfl) (by kernel_rfl) (by kernel_rfl) (fun _ _ _ h => h) hS (Or.inl ⟨by kernel_rfl, ?_⟩) ?_
        rotate_left
        · (intro V hSw; obtain ⟨q0, q1, q2⟩ := HC.out V hSw; go_simp; try with_reducible rfl)
        try simp only [Act.put]
        refine wpE_takeF 4 ⟨some 42, _, _, _, _, _⟩ (v := ?_) (by decide) rfl (by kernel_rfl) (by kernel_rfl) (by kernel_rfl) (fun _ _ _ h => h) hS (Or.inl ⟨by kernel_rfl, ?_⟩) ?_
        rotate_left
        · (intro V hSw; obtain ⟨q0, q1, q2⟩ := HC.out V hSw; go_simp; try with_reducible rfl)
        try simp only [Act.put]
        refine wpE_takeF 5 ⟨some 43, _, _, _, _, _⟩ (v := ?_) (by decide) rfl (by kernel_rfl) (by kernel_rfl) (by kernel_rfl) (fun _ _ _ h => h) hS (Or.inl ⟨by kernel_rfl, ?_⟩) ?_
        rotate_left
        · (intro V hSw; obtain ⟨q0, q1, q2⟩ := HC.out V hSw; go_simp; try with_reducible rfl)
        try simp only [Act.put]
        refine wpE_takeF 6 ⟨some 44, _, _, _, _, _⟩ (v := ?_) (by decide) rfl (by kernel_rfl) (by kernel_rfl) (by kernel_rfl) (fun _ _ _ h => h) hS (Or.inl ⟨by kernel_rfl, ?_⟩) ?_
        rotate_left
        · (intro V hSw; obtain ⟨q0, q1, q2⟩ := HC.out V hSw; go_simp; try with_reducible rfl)
        try simp only [Act.put]
        refine wpE_takeF 7 ⟨some 45, _, _, _, _, _⟩ (v := ?_) (by decide) rfl (by kernel_rfl) (by kernel_rfl) (by kernel_rfl) (fun _ _ _ h => h) hS (Or.inl ⟨by kernel_rfl, ?_⟩) ?_
        rotate_left
        · (intro V hSw; obtain ⟨q0, q1, q2⟩ := HC.out V hSw; go_simp; try with_reducible rfl)
        try simp only [Act.put]
        refine wpE_takeF 8 ⟨some 46, _, _, _, _, _⟩ (v := ?_) (by decide) rfl (by kernel_rfl) (by kernel_rfl) (by kernel_rfl) (fun _ _ _ h => h) hS (Or.inl ⟨by kernel_rfl, ?_⟩) ?_
        rotate_left
        · (intro V hSw; obtain ⟨q0, q1, q2⟩ := HC.out V hSw; go_simp; try with_reducible rfl)
        try simp only [Act.put]
        refine wpE_done (by kernel_rfl) ?_ _
        try simp only [List.setIfInBounds_toArray, List.set_cons_succ, List.set_cons_zero]
        clear hS
        by_cases hgt : sm < ys
        · have hgt' : (sm : Int) < (ys : Int) := by omega
          have hrK : K < r := by
            rcases Nat.eq_or_lt_of_le hKr with hk2 | hk2
            · exfalso
              have h0 := atL_low (T.map Prod.fst) sm (by
                rcases HTO.out.rows with ⟨_, h⟩ | ⟨_, h, _⟩
                · rw [h]; rfl
                · have h3 := (rowsOk_iff.1 h).2.2.2.1
                  cases hT : T.map Prod.fst with
                  | nil => rw [hT] at h3; cases h3
                  | cons z zs => rw [hT] at h3; simpa using h3) T.length
              have hke : atL (T.map Prod.fst) sm T.length = r := by rw [← hk2, HKK.out]; unfold atK; rw [HSM.out]
              rw [hke, ← HYS.out] at h0
              omega
            · exact hk2
          have hq0 : VarQ wr.drew gp #[.slice (some ⟨g, 0, none⟩) m c1, .int .i64 (r : Int), .int .i64 0, .bool false] := HQ.out
          have c1r : wr.drew.cell? ⟨gp, 1, none⟩ = some (.int .i64 (r : Int)) := cell_of_row wr.drew gp 1 _ _ _ hq0
          have f1r : wr.drew.frozen? ⟨gp, 1, none⟩ = false := frozen_of_row wr.drew gp 1 _ _ hq0
          have c1r' : wr.cell? ⟨gp, 1, none⟩ = some (.int .i64 (r : Int)) := c1r
          have f1r' : wr.frozen? ⟨gp, 1, none⟩ = false := f1r
          have hwr : IntKind.i64.wrap ((r : Int) - 1) = (r : Int) - 1 := by rw [IntKind.wrap_i64]; omega
          have hqn : VarQ (wr.setCell ⟨gp, 1, none⟩ (.int .i64 ((r : Int) - 1))) gp #[.slice (some ⟨g, 0, none⟩) m c1, .int .i64 ((r - 1 : Nat) : Int), .int .i64 0, .bool false] := by
            rw [show ((r - 1 : Nat) : Int) = (r : Int) - 1 by omega]
            exact Lib.heap_setCell_same (i := 1) HQ.out _
          have hgn := Lib.grownBy_setCell wr gp 1 (.int .i64 ((r : Int) - 1))
          have hvn : VarE (wr.setCell ⟨gp, 1, none⟩ (.int .i64 ((r : Int) - 1))) ge e := (hgn.block ge (by have := HTW.out.size; have := HGP7.out; omega) (fun e2 => by injection e2 with e2; omega)).trans HV.out
          have htn : Tw gp w7.heap.size w7 (wr.setCell ⟨gp, 1, none⟩ (.int .i64 ((r : Int) - 1))) := HTW.out.trans (Tw.of_grown hgn HTW.out.size (fun i hi => by injection hi with hi; exact .inl hi.symm))
          have HQN := Lib.hid hqn; clear hqn
          have HVN := Lib.hid hvn; clear hvn
          have HTN := Lib.hid htn; clear htn hgn hq0
          go_wp2
          go_roundw
          case rel => exact ⟨r - 1, by omega, by omega, HQN.out, HVN.out, HTN.out.drew⟩
          case measure =>
            have k1 : ((wr.drew.setCell ⟨gp, 1, none⟩ (.int .i64 ((r : Int) - 1))).cell? ⟨gp, 1, none⟩) = some (.int .i64 ((r - 1 : Nat) : Int)) := cell_of_row _ gp 1 _ _ _ HQN.out
            rw [show (wr.setCell ⟨gp, 1, none⟩ (.int .i64 ((r : Int) - 1))).drew.cell? ⟨gp, 1, none⟩ = some (.int .i64 ((r - 1 : Nat) : Int)) from k1, c1r']
            simp [intOf]
            omega
        · have hgt' : ¬ (sm : Int) < (ys : Int) := by omega
          have hrK : r = K := by
            rcases Nat.eq_or_lt_of_le hKr with hk2 | hk2
            · exact hk2.symm
            · exfalso
              have h0 := atL_above (T.map Prod.fst) sm T.length r (by rw [HKK.out] at hk2; unfold atK at hk2; rw [HSM.out]; exact hk2) (by have := HM.out; omega)
              rw [← HYS.out] at h0
              exact hgt h0
          subst hrK
          have hEl : r < (T.map fun p => sortR ordB p.2).length := by rw [List.length_map]; have := HM.out; omega
          obtain ⟨hen, hgne⟩ := HRA2.out.ents r hlr hEl
          have hEr : (T.map fun p => sortR ordB p.2)[r]'hEl = entsAt T e.t := by
            have hTl : r < T.length := by have := HM.out; omega
            rw [List.getElem_map]
            unfold entsAt leafAt
            rw [List.getD_eq_getElem?_getD]
            have hk2 : atL (T.map Prod.fst) (Crc.sum e.t) T.length = r := by rw [HKK.out]; rfl
            rw [hk2, List.getElem?_eq_getElem hTl]
            rfl
          rw [hEr, ← HY.out] at hen
          obtain ⟨es, hes⟩ : ∃ es, es = entsAt T e.t := ⟨_, rfl⟩
          rw [← hes] at hen
          have hpair : es.Pairwise (fun a b => ordB a b = true) := by
            rw [hes]
            exact sortR_pair ordB_trans _ (apart_B (right_apart (HTO.out.right _ (HTO.out.leaf_mem e.t))))
          have hes41 : es.length ≤ 41 := by
            rw [hes]
            unfold entsAt
            rw [sortR_len]
            have h1 := HTO.out.leaf _ (HTO.out.leaf_mem e.t)
            obtain ⟨h2, h3, _⟩ := leaf_right h1
            have := sizeL_ge _ ((right_iff _).1 h2).1
            omega
          have hyv : y.v = .slice y.A y.n y.c := rfl
          obtain ⟨yA, hyA⟩ : ∃ yA, yA = y.A := ⟨_, rfl⟩
          obtain ⟨yn, hyn⟩ : ∃ yn, yn = y.n := ⟨_, rfl⟩
          obtain ⟨yc, hyc⟩ : ∃ yc, yc = y.c := ⟨_, rfl⟩
          rw [← hyA, ← hyn, ← hyc] at hyv
          rw [hyv] at hen p2
          have hynl : yn = es.length := hen.fits.1
          have hsr := search_any yA yn yc wr.heap.size es e wr.drew.drew (by have := hen.reads EN_ok; exact this) (Nat.le_refl _) (by omega) hpair
          obtain ⟨pos, hpos⟩ : ∃ pos, pos = posB es e := ⟨_, rfl⟩
          obtain ⟨tb, htb⟩ : ∃ tb, tb = decide (pos < es.length ∧ (es.getD pos n0).t = e.t) := ⟨_, rfl⟩
          rw [← hpos] at hsr
          rw [← htb] at hsr
          have HSR := Lib.hid hsr; clear hsr
          have hl1 : ∀ V, VarE V ge e → (ldE (.pointer (some ⟨ge, 0, none⟩))).run Tryz.prog V = .ok (.agg (eC e)) V := fun V hV => hV.load
          have HL1 := Lib.hid hl1; clear hl1
          have hg1 : g < wr.heap.size := (HRA2.out.own.lt g rfl).2
          have hgpw : gp < wr.heap.size := by have := HTW.out.size; have := HGP7.out; omega
          have hq0 : VarQ wr.drew.drew gp #[.slice (some ⟨g, 0, none⟩) m c1, .int .i64 (r : Int), .int .i64 0, .bool false] := HQ.out
          have c1r : wr.drew.drew.cell? ⟨gp, 1, none⟩ = some (.int .i64 (r : Int)) := cell_of_row wr.drew.drew gp 1 _ _ _ hq0
          have hS0 : wr.drew.drew.cell? ⟨gp, 1, none⟩ = some (.int .i64 (r : Int)) ∧ wr.drew.drew.cell? ⟨g, r * 3 + 2, none⟩ = some (.slice yA yn yc) ∧ VarE wr.drew.drew ge e := ⟨c1r, p2, HV.out⟩
          have HQ0 := Lib.hid hq0; clear hq0 c1r
          have HPOS := Lib.hid hpos; clear hpos
          have HTB := Lib.hid htb; clear htb
          have HES := Lib.hid hes; clear hes
          have HS0 := Lib.hid hS0; clear hS0 hyv hyA hyn hyc hEr hpair hen p2 hynl hes41 hgne
          go_wp2
          refine wp_region_E (fun V => V.cell? ⟨gp, 1, none⟩ = some (.int .i64 (r : Int)) ∧ V.cell? ⟨g, r * 3 + 2, none⟩ = some (.slice yA yn yc) ∧ VarE V ge e) 99 rfl ?_
          have hS := HS0.out
          refine wpE_takeF 0 ⟨some 52, _, _, _, _, _⟩ (v := ?_) (by decide) rfl (by kernel_rfl) (by kernel_rfl) (by kernel_rfl) (fun _ _ _ h => h) hS (Or.inl ⟨by kernel_rfl, ?_⟩) ?_
          rotate_left
          · (intro V hSw; obtain ⟨q0, q1, q2⟩ := hSw; have q3 := HL1.out V q2; go_simp; try with_reducible rfl)
          try simp only [Act.put]
          refine wpE_takeF 1 ⟨some 53, _, _, _, _, _⟩ (v := ?_) (by decide) rfl (by kernel_rfl) (by kernel_rfl) (by kernel_rfl) (fun _ _ _ h => h) hS (Or.inl ⟨by kernel_rfl, ?_⟩) ?_
          rotate_left
          · (intro V hSw; obtain ⟨q0, q1, q2⟩ := hSw; have q3 := HL1.out V q2; go_simp; try with_reducible rfl)
          try simp only [Act.put]
          refine wpE_takeF 2 ⟨some 54, _, _, _, _, _⟩ (v := ?_) (by decide) rfl (by kernel_rfl) (by kernel_rfl) (by kernel_rfl) (fun _ _ _ h => h) hS (Or.inl ⟨by kernel_rfl, ?_⟩) ?_
          rotate_left
          · (intro V hSw; obtain ⟨q0, q1, q2⟩ := hSw; have q3 := HL1.out V q2; go_simp; try with_reducible rfl)
          try simp only [Act.put]
          refine wpE_takeF 3 ⟨some 55, _, _, _, _, _⟩ (v := ?_) (by decide) rfl (by kernel_rfl) (by kernel_rfl) (by kernel_rfl) (fun _ _ _ h => h) hS (Or.inl ⟨by kernel_rfl, ?_⟩) ?_
          rotate_left
          · (intro V hSw; obtain ⟨q0, q1, q2⟩ := hSw; have q3 := HL1.out V q2; go_simp; try with_reducible rfl)
          try simp only [Act.put]
          refine wpE_takeF 4 ⟨some 56, _, _, _, _, _⟩ (v := ?_) (by decide) rfl (by kernel_rfl) (by kernel_rfl) (by kernel_rfl) (fun _ _ _ h => h) hS (Or.inl ⟨by kernel_rfl, ?_⟩) ?_
          rotate_left
          · (intro V hSw; obtain ⟨q0, q1, q2⟩ := hSw; have q3 := HL1.out V q2; go_simp; try with_reducible rfl)
          try simp only [Act.put]
          refine wpE_takeF 5 ⟨some 57, _, _, _, _, _⟩ (v := ?_) (by decide) rfl (by kernel_rfl) (by kernel_rfl) (by kernel_rfl) (fun _ _ _ h => h) hS (Or.inl ⟨by kernel_rfl, ?_⟩) ?_
          rotate_left
          · (intro V hSw; obtain ⟨q0, q1, q2⟩ := hSw; have q3 := HL1.out V q2; go_simp; try with_reducible rfl)
          try simp only [Act.put]
          refine wpE_takeF 6 ⟨some 58, _, _, _, _, _⟩ (v := ?_) (by decide) rfl (by kernel_rfl) (by kernel_rfl) (by kernel_rfl) (fun _ _ _ h => h) hS (Or.inl ⟨by kernel_rfl, ?_⟩) ?_
          rotate_left
          · (intro V hSw; obtain ⟨q0, q1, q2⟩ := hSw; have q3 := HL1.out V q2; go_simp; try with_reducible rfl)
          try simp only [Act.put]
          simp only [List.setIfInBounds_toArray, List.set_cons_succ, List.set_cons_zero]
          refine wpE_one 7 (o := ⟨some 59, _, _, _, _, _⟩) (by kernel_rfl) rfl (fun K' hK' => ?_)
          rw [if_pos (by kernel_rfl)]
          refine call_wp 69 _ _ _ _ rfl Tryz.func69 (by kernel_rfl) rfl _ ?hv _ HSR.out ?_
          case hv => simp only [List.map_toArray, List.map_cons, List.map_nil]; go_simp
          rintro E w8 ⟨rfl, hb8⟩
          have hb8' : Below wr.heap.size wr w8 := ⟨hb8.os, hb8.tape, hb8.output, hb8.size, hb8.block⟩
          have hS8 : w8.cell? ⟨gp, 1, none⟩ = some (.int .i64 (r : Int)) ∧ w8.cell? ⟨g, r * 3 + 2, none⟩ = some (.slice yA yn yc) ∧ VarE w8 ge e := ⟨(hb8'.cell (p := ⟨gp, 1, none⟩) hgpw).trans HS0.out.1, (hb8'.cell (p := ⟨g, r * 3 + 2, none⟩) hg1).trans HS0.out.2.1, (hb8'.block ge (by omega)).trans HS0.out.2.2⟩
          have hq8 : VarQ w8 gp #[.slice (some ⟨g, 0, none⟩) m c1, .int .i64 (r : Int), .int .i64 0, .bool false] := (hb8'.block gp hgpw).trans HQ0.out
          have c28 : w8.cell? ⟨gp, 2, none⟩ = some (.int .i64 0) := cell_of_row w8 gp 2 _ _ _ hq8
          have f28 : w8.frozen? ⟨gp, 2, none⟩ = false := frozen_of_row w8 gp 2 _ _ hq8
          have hq9 : VarQ (w8.setCell ⟨gp, 2, none⟩ (.int .i64 (pos : Int))) gp #[.slice (some ⟨g, 0, none⟩) m c1, .int .i64 (r : Int), .int .i64 (pos : Int), .bool false] := Lib.heap_setCell_same (i := 2) hq8 _
          have hg9 := Lib.grownBy_setCell w8 gp 2 (.int .i64 (pos : Int))
          have hS9 : (w8.setCell ⟨gp, 2, none⟩ (.int .i64 (pos : Int))).cell? ⟨gp, 1, none⟩ = some (.int .i64 (r : Int)) ∧ (w8.setCell ⟨gp, 2, none⟩ (.int .i64 (pos : Int))).cell? ⟨g, r * 3 + 2, none⟩ = some (.slice yA yn yc) ∧ VarE (w8.setCell ⟨gp, 2, none⟩ (.int .i64 (pos : Int))) ge e := ⟨cell_of_row _ gp 1 _ _ _ hq9, (World.cell?_of_block (a := ⟨g, r * 3 + 2, none⟩) (hg9.block g (by have := hb8'.size; omega) (fun e2 => by injection e2 with e2; have := (HRA2.out.own.lt g rfl).1; have := HRA.out.own.lt g rfl; have := HB7.out.size; omega))).trans hS8.2.1, (hg9.block ge (by have := hb8'.size; omega) (fun e2 => by injection e2 with e2; omega)).trans hS8.2.2⟩
          obtain ⟨w9, hw9⟩ : ∃ w9, w9 = w8.setCell ⟨gp, 2, none⟩ (.int .i64 (pos : Int)) := ⟨_, rfl⟩
          have c39 : (w8.setCell ⟨gp, 2, none⟩ (.int .i64 (pos : Int))).cell? ⟨gp, 3, none⟩ = some (.bool false) := cell_of_row _ gp 3 _ _ _ hq9
          have f39 : (w8.setCell ⟨gp, 2, none⟩ (.int .i64 (pos : Int))).frozen? ⟨gp, 3, none⟩ = false := frozen_of_row _ gp 3 _ _ hq9
          have hq10 : VarQ ((w8.setCell ⟨gp, 2, none⟩ (.int .i64 (pos : Int))).setCell ⟨gp, 3, none⟩ (.bool tb)) gp #[.slice (some ⟨g, 0, none⟩) m c1, .int .i64 (r : Int), .int .i64 (pos : Int), .bool tb] := Lib.heap_setCell_same (i := 3) hq9 _
          have hg10 := Lib.grownBy_setCell (w8.setCell ⟨gp, 2, none⟩ (.int .i64 (pos : Int))) gp 3 (.bool tb)
          have hS10 : ((w8.setCell ⟨gp, 2, none⟩ (.int .i64 (pos : Int))).setCell ⟨gp, 3, none⟩ (.bool tb)).cell? ⟨gp, 1, none⟩ = some (.int .i64 (r : Int)) ∧ ((w8.setCell ⟨gp, 2, none⟩ (.int .i64 (pos : Int))).setCell ⟨gp, 3, none⟩ (.bool tb)).cell? ⟨g, r * 3 + 2, none⟩ = some (.slice yA yn yc) ∧ VarE ((w8.setCell ⟨gp, 2, none⟩ (.int .i64 (pos : Int))).setCell ⟨gp, 3, none⟩ (.bool tb)) ge e := ⟨cell_of_row _ gp 1 _ _ _ hq10, (World.cell?_of_block (a := ⟨g, r * 3 + 2, none⟩) (hg10.block g (by have := hg9.size; have := hb8'.size; omega) (fun e2 => by injection e2 with e2; have := HRA.out.own.lt g rfl; have := HB7.out.size; omega))).trans hS9.2.1, (hg10.block ge (by have := hg9.size; have := hb8'.size; omega) (fun e2 => by injection e2 with e2; omega)).trans hS9.2.2⟩
          have HS9 := Lib.hid hS9; clear hS9
          have HS10 := Lib.hid hS10; clear hS10
          have HQ10 := Lib.hid hq10; clear hq10 hq9 hq8 hw9
          have HG9 := Lib.hid hg9; clear hg9
          have HG10 := Lib.hid hg10; clear hg10
          have HB8 := Lib.hid hb8'; clear hb8 hb8'
          refine ⟨_, rfl, hK'.out _ _ hS8 (fun hS => ?_)⟩
          clear hK' K'
          try simp only [Act.put]
          refine wpE_takeF 8 ⟨some 51, _, _, _, _, _⟩ (v := ?_) (by decide) rfl (by kernel_rfl) (by kernel_rfl) (by kernel_rfl) (fun _ _ _ h => h) hS (Or.inl ⟨by kernel_rfl, ?_⟩) ?_
          rotate_left
          · (intro V hSw; obtain ⟨q0, q1, q2⟩ := hSw; have q3 := HL1.out V q2; go_simp; try with_reducible rfl)
          try simp only [Act.put]
          refine wpE_takeF 9 ⟨some 60, _, _, _, _, _⟩ (v := ?_) (by decide) rfl (by kernel_rfl) (by kernel_rfl) (by kernel_rfl) (fun _ _ _ h => h) hS (Or.inl ⟨by kernel_rfl, ?_⟩) ?_
          rotate_left
          · (intro V hSw; obtain ⟨q0, q1, q2⟩ := hSw; have q3 := HL1.out V q2; go_simp; try with_reducible rfl)
          try simp only [Act.put]
          refine wpE_takeF 10 ⟨some 61, _, _, _, _, _⟩ (v := ?_) (by decide) rfl (by kernel_rfl) (by kernel_rfl) (by kernel_rfl) (fun _ _ _ h => h) hS (Or.inl ⟨by kernel_rfl, ?_⟩) ?_
          rotate_left
          · (intro V hSw; obtain ⟨q0, q1, q2⟩ := hSw; have q3 := HL1.out V q2; go_simp; try with_reducible rfl)
          try simp only [Act.put]
          refine wpE_takeF 11 ⟨some 62, _, _, _, _, _⟩ (v := ?_) (by decide) rfl (by kernel_rfl) (by kernel_rfl) (by kernel_rfl) (fun _ _ _ h => h) hS (Or.inl ⟨by kernel_rfl, ?_⟩) ?_
          rotate_left
          · (intro V hSw; obtain ⟨q0, q1, q2⟩ := hSw; have q3 := HL1.out V q2; go_simp; try with_reducible rfl)
          try simp only [Act.put]
          refine wpE_one 12 (by kernel_rfl) rfl (fun K' hK' => ?_)
          go_simp
          refine hK'.out _ _ HS9.out (fun hS => ?_)
          clear hK' K'
          try simp only [Act.put]
          refine wpE_takeF 13 ⟨some 63, _, _, _, _, _⟩ (v := ?_) (by decide) rfl (by kernel_rfl) (by kernel_rfl) (by kernel_rfl) (fun _ _ _ h => h) hS (Or.inl ⟨by kernel_rfl, ?_⟩) ?_
          rotate_left
          · (intro V hSw; obtain ⟨q0, q1, q2⟩ := hSw; have q3 := HL1.out V q2; go_simp; try with_reducible rfl)
          try simp only [Act.put]
          refine wpE_one 14 (by kernel_rfl) rfl (fun K' hK' => ?_)
          go_simp
          refine hK'.out _ _ HS10.out (fun hS => ?_)
          clear hK' K'
          try simp only [Act.put]
          refine wpE_done (by kernel_rfl) ?_ _
          try simp only [List.setIfInBounds_toArray, List.set_cons_succ, List.set_cons_zero]
          clear hS8 c28 f28 c39 f39
          obtain ⟨wf, hwf⟩ : ∃ wf, wf = (w8.setCell ⟨gp, 2, none⟩ (.int .i64 (pos : Int))).setCell ⟨gp, 3, none⟩ (.bool tb) := ⟨_, rfl⟩
          have hqf : VarQ wf gp #[.slice (some ⟨g, 0, none⟩) m c1, .int .i64 (r : Int), .int .i64 (pos : Int), .bool tb] := by rw [hwf]; exact HQ10.out
          have hkeep : ∀ i, i < w7.heap.size → i ≠ gp → wf.heap[i]? = w7.heap[i]? := fun i hi hne => by
            have h1 := HTW.out.size
            have h2 := HB8.out.size
            have h3 := HG9.out.size
            rw [hwf]
            exact (HG10.out.block i (by omega) (fun e2 => by injection e2 with e2; exact hne e2)).trans ((HG9.out.block i (by omega) (fun e2 => by injection e2 with e2; exact hne e2)).trans ((HB8.out.block i (by omega)).trans (HTW.out.block i hi hne)))
          have hszf : w7.heap.size ≤ wf.heap.size := by
            have h1 := HTW.out.size
            have h2 := HB8.out.size
            have h3 := HG9.out.size
            have h4 := HG10.out.size
            rw [hwf]; omega
          have hosf : wf.os = w7.os ∧ wf.tape = w7.tape ∧ wf.output = w7.output := by
            rw [hwf]
            exact ⟨HG10.out.os.trans (HG9.out.os.trans (HB8.out.os.trans HTW.out.os)), HG10.out.tape.trans (HG9.out.tape.trans (HB8.out.tape.trans HTW.out.tape)), HG10.out.output.trans (HG9.out.output.trans (HB8.out.output.trans HTW.out.output))⟩
          have h7s := HB7.out.size
          have hvqf : VarQ wf (w.heap.size + 1) zeroQ := (hkeep _ (by omega) (by omega)).trans ((HB7.out.block _ (by omega)).trans HVQ1.out)
          have hraf : RowsAt wf (w.heap.size + 2) g m c1 (T.map Prod.fst) (T.map fun p => sortR ordB p.2) m l := HRA.out.kept (fun i hi1 hi2 => (hkeep i (by omega) (by omega)).trans (HB7.out.block i hi2))
          have hbf : Below w.heap.size w wf := HB1.out.trans ⟨hosf.1.trans HB7.out.os, hosf.2.1.trans HB7.out.tape, hosf.2.2.trans HB7.out.output, by omega, fun i hi => (hkeep i (by have := HB1.out.size; omega) (by have := HB1.out.size; omega)).trans (HB7.out.block i (by have := HB1.out.size; omega))⟩
          have hldf := hqf.load rfl
          have hqc : qC ⟨g, m, c1, r, pos, tb⟩ = #[.slice (some ⟨g, 0, none⟩) m c1, .int .i64 (r : Int), .int .i64 (pos : Int), .bool tb] := rfl
          obtain ⟨wz, hstz, hvqz, hgz⟩ := run_stQ_row wf (w.heap.size + 1) zeroQ (qC ⟨g, m, c1, r, pos, tb⟩) rfl rfl (qC_one _) hvqf
          have hbz : Below w.heap.size w wz := hbf.grown hgz hbf.size (fun i hi => by injection hi with hi; omega)
          have hraz : RowsAt wz w.heap.size g m c1 (T.map Prod.fst) (T.map fun p => sortR ordB p.2) m l := (hraf.kept (fun i hi1 hi2 => hgz.block i hi2 (fun e2 => by injection e2 with e2; omega))).mono (by omega)
          rw [hqc] at hstz
          rw [hwf] at hldf hstz
          have HVQZ := Lib.hid hvqz; clear hvqz
          have HBZ := Lib.hid hbz; clear hbz
          have HRAZ := Lib.hid hraz; clear hraz
          have HQC := Lib.hid hqc; clear hqc
          clear hkeep hszf hosf h7s hvqf hraf hbf hqf hwf hgz
          go_wp2
          refine bodyPost_ret (results_q rfl _ _ (w.heap.size + 1) (qC ⟨g, m, c1, r, pos, tb⟩) rfl rfl HVQZ.out) rfl ?_
          rw [HP.out]
          unfold Find2
          rw [HRD.out]
          dsimp only
          rw [if_neg (by rw [HOK.out]; decide), ← HES.out, ← HPOS.out, ← HTB.out, ← HKK.out, ← HM.out]
          exact ⟨g, c1, l, rfl, HRAZ.out, HBZ.out⟩
end Go.Proofs.YtbagocghlijleaaGreat.Ht
