/- Find, Check and New: the program's calls. -/
import Derived.Test.YtbagocghlijleaaGreatHtFi
namespace Go.Proofs.YtbagocghlijleaaGreat.Ht
set_option maxRecDepth 20000
open Go.RowKit
open Go.Proofs.YtbagocghlijleaaGreat.Mem Go.Proofs.YtbagocghlijleaaGreat.Crc Go.Proofs.YtbagocghlijleaaGreat.Rec Go.Proofs.YtbagocghlijleaaGreat.Reg Go.Proofs.YtbagocghlijleaaGreat.Lf
attribute [local go_sem ↓] ldE_eq stE_eq ldX_eq stX_eq ldR_eq stR_eq ldQ_eq stQ_eq

theorem run_stR_row (V : World) (g : Nat) (old : Array Value) (hs : old.size = 3) (h : V.heap[g]? = some (.cells old 64 (0, 0))) (x : Rv) :
    ∃ V', (stR (.pointer (some ⟨g, 0, none⟩)) (.agg (rC x))).run Tryz.prog V = .ok () V' ∧ VarR V' g x ∧ V.grownBy V' (some g) := by
  have hst := run_storeAt_mid (P := Tryz.prog) V g 0 64 (rC x) (fun i hi => by
    have hi' : i < 3 := hi
    exact ⟨by rw [cell_of_row _ _ _ _ _ _ h, Array.getElem?_eq_getElem (by omega)]; rfl, frozen_of_row _ _ _ _ _ h⟩) (by kernel_rfl) (by simp [rC, Rv.v, Value.oneCell'])
  refine ⟨_, hst, ?_, setCells_grown _ _ _ _⟩
  unfold VarR
  rw [setCells_heap g _ _ V _ _ h (by simp [rC]; omega)]
  have : old.toList.drop (0 + (rC x).toList.length) = [] := List.drop_eq_nil_of_le (by simp [rC]; omega)
  rw [this]
  simp
theorem results_r3 {fn : Func} {p u v : Tmp} (h : fn.results = #[.cell p 64, .tmp u, .tmp v]) (tmps : Array Value) (w : World) (g : Nat) (x : Rv)
    (hp : tmps.getD p undef = .pointer (some ⟨g, 0, none⟩)) (hg : VarR w g x) : (results fn tmps).run Tryz.prog w = .ok (.tuple #[.agg (rC x), tmps.getD u undef, tmps.getD v undef]) w := by
  have hl : (loadVar 64 ⟨g, 0, none⟩).run Tryz.prog w = .ok (.agg (rC x)) w := run_loadVar_row w g _ _ (rC x) (0, 0) _ hg Tryz.underlying64 rfl (by kernel_rfl)
  have hp' : tmps[p]?.getD undef = .pointer (some ⟨g, 0, none⟩) := by simpa using hp
  simp [results, h, hp', asAddr, hl]
/-- Whether a name is there, and where. -/
def hereB (T : Leaves) (t : List UInt8) : Bool := decide (placeA (leafAt T t).2 t < (leafAt T t).2.length)
theorem ents_apart {d : List (List UInt8)} {T : Leaves} (h : TreeOk d T) (t : List UInt8) : apart (leafAt T t).2 := right_apart (h.right _ (h.leaf_mem t))
theorem ents_pair {d : List (List UInt8)} {T : Leaves} (h : TreeOk d T) (t : List UInt8) : (entsAt T t).Pairwise (fun a b => ordB a b = true) := sortR_pair ordB_trans _ (apart_B (ents_apart h t))
theorem ents_mem (T : Leaves) (t : List UInt8) (x : Nm) : x ∈ entsAt T t ↔ x ∈ (leafAt T t).2 := sortR_mem _ _ _
theorem hereB_iff (T : Leaves) (t : List UInt8) : hereB T t = true ↔ ∃ x ∈ (leafAt T t).2, x.t = t := by
  unfold hereB
  rw [decide_eq_true_iff]
  constructor
  · intro h
    exact ⟨_, List.getElem_mem h, placeA_here _ _ h⟩
  · rintro ⟨x, hx, e⟩
    rcases Nat.lt_or_ge (placeA (leafAt T t).2 t) (leafAt T t).2.length with h | h
    · exact h
    · exact absurd e (placeA_none _ _ (by omega) x hx)
theorem posB_here {es : List Nm} (hp : es.Pairwise (fun a b => ordB a b = true)) {x e : Nm} (hx : x ∈ es) (he : x.t = e.t) : posB es e < es.length ∧ es.getD (posB es e) n0 = x := by
  obtain ⟨i, hi, rfl⟩ := List.mem_iff_getElem.1 hx
  have h1 : posB es e = i := posB_is es e i (by omega) (fun a ha hai => by
    have := List.pairwise_iff_getElem.1 hp a i ha hi hai
    unfold ordB at this ⊢
    rw [← he]; exact this) (fun h => by unfold ordB; rw [he]; exact bel_irrefl _)
  rw [h1]
  exact ⟨hi, by rw [List.getD_eq_getElem?_getD, List.getElem?_eq_getElem hi]; rfl⟩
theorem here_found {d : List (List UInt8)} {T : Leaves} (h : TreeOk d T) (e : Nm) : decide (posB (entsAt T e.t) e < (entsAt T e.t).length ∧ ((entsAt T e.t).getD (posB (entsAt T e.t) e) n0).t = e.t) = hereB T e.t := by
  rw [Bool.eq_iff_iff, hereB_iff, decide_eq_true_iff]
  constructor
  · rintro ⟨h1, h2⟩
    refine ⟨_, (ents_mem T e.t _).1 (List.getElem_mem h1), ?_⟩
    rw [List.getD_eq_getElem?_getD, List.getElem?_eq_getElem h1] at h2
    exact h2
  · rintro ⟨x, hx, ex⟩
    obtain ⟨k1, k2⟩ := posB_here (ents_pair h e.t) ((ents_mem T e.t x).2 hx) ex
    exact ⟨k1, by rw [k2]; exact ex⟩

/-- What there answers. -/
def There2 (w : World) (d : List (List UInt8)) (e : Nm) (E : Ending) (w' : World) : Prop :=
  match readD d with
  | none => E = .returned (.tuple #[.agg (rC rvZ), .int .i64 0, .int .i64 13]) ∧ Below w.heap.size w w'
  | some T => if okN e = false then E = .returned (.tuple #[.agg (rC rvZ), .int .i64 0, .int .i64 1]) ∧ Below w.heap.size w w' else
    if hereB T e.t = false then E = .returned (.tuple #[.agg (rC rvZ), .int .i64 0, .int .i64 3]) ∧ Below w.heap.size w w' else
    ∃ y : Rv, E = .returned (.tuple #[.agg (rC y), .int .i64 (posB (entsAt T e.t) e : Int), .int .i64 0]) ∧ y.w = (leafAt T e.t).1 ∧ OwnC EN w' w.heap.size y.v (entsAt T e.t) ∧ Below w.heap.size w w'
theorem zeroR_z : rC rvZ = #[.int .u32 0, .int .i64 0, .slice none 0 0] := rfl

set_option maxRecDepth 100000 in
set_option maxHeartbeats 8000000 in
theorem there_any (A : Option Addr) (n c B : Nat) (d : List (List UInt8)) (e : Nm) (he : e.rep) (w : World) (h : HoldsN w B A n d) (hB : B ≤ w.heap.size) (hn : n ≤ 5864062014634) (hsz : ∀ b ∈ d, b.length ≤ 140737488355328) :
    Calls Tryz.prog 34 #[.slice A n c, .agg e.c] w (There2 w d e) := by
  obtain ⟨post, hpost⟩ : ∃ post, post = There2 w d e := ⟨_, rfl⟩
  rw [← hpost]
  have HP := Lib.hid hpost; clear hpost
  obtain ⟨W0, hW0⟩ : ∃ W0, W0 = (w.alloc (.cells e.c 48)).alloc (.cells (rC rvZ) 64) := ⟨_, rfl⟩
  have hvx : VarX W0 w.heap.size e := by rw [hW0]; exact (VarX.new w e).alloc _
  have hvr : VarR W0 (w.heap.size + 1) rvZ := by
    have := VarR.new (w.alloc (.cells e.c 48)) rvZ
    rw [hW0]; simpa using this
  have hz0 : W0.heap.size = w.heap.size + 2 := by rw [hW0]; simp
  have hb0 : Below w.heap.size w W0 := by rw [hW0]; exact ((Below.refl _ w).alloc (Nat.le_refl _) _).alloc (by simp) _
  have hop := find_any A n c B d e he W0 (h.below (hb0.mono hB)) (by omega) hn hsz
  have HOP := Lib.hid hop; clear hop h hsz
  have hlx := hvx.load
  obtain ⟨X, hX⟩ : ∃ X, X = e.c := ⟨_, rfl⟩
  rw [← hX] at hW0 hlx HOP ⊢
  rw [zeroR_z] at hW0
  have HX := Lib.hid hX; clear hX
  have HVR := Lib.hid hvr; clear hvr hvx
  have HZ0 := Lib.hid hz0; clear hz0
  have HB0 := Lib.hid hb0; clear hb0
  have HW0 := Lib.hid hW0
  rw [hW0] at hlx
  clear hW0
  go_enter Tryz.func34, Tryz.ntmps34
  go_wp2_with fail
  rw [← HW0.out]
  with_reducible refine HOP.out.mono ?_
  rintro E1 w1 hres
  clear HOP hlx
  unfold Find2 at hres
  -- the place's box
  have hbox : ∀ cs : Array Value, cs.size = 4 → (∀ u ∈ cs, u.oneCell' = true) → Below W0.heap.size W0 w1 → ∃ w2, (stQ (.pointer (some ⟨w1.heap.size, 0, none⟩)) (.agg cs)).run Tryz.prog (w1.alloc (.cells #[.slice none 0 0, .int .i64 0, .int .i64 0, .bool false] 88)) = .ok () w2 ∧ VarQ w2 w1.heap.size cs ∧ Below w1.heap.size w1 w2 ∧ w1.heap.size < w2.heap.size := fun cs hs h1 hb => by
    obtain ⟨w2, k1, k2, k3⟩ := run_stQ_row (w1.alloc (.cells zeroQ 88)) w1.heap.size zeroQ cs rfl hs h1 (heap_alloc_new w1 _)
    refine ⟨w2, k1, k2, ((Below.refl _ w1).alloc (Nat.le_refl _) _).grown k3 (by simp) (fun i hi => by injection hi with hi; omega), ?_⟩
    have := k3.size
    simp at this; omega
  have HBOX := Lib.hid hbox; clear hbox
  -- an answer that is an error
  have hbad : ∀ (err : Int), Below W0.heap.size W0 w1 → ∃ w2 w3, (stQ (.pointer (some ⟨w1.heap.size, 0, none⟩)) (.agg zeroQ)).run Tryz.prog (w1.alloc (.cells #[.slice none 0 0, .int .i64 0, .int .i64 0, .bool false] 88)) = .ok () w2 ∧ (stR (.pointer (some ⟨w.heap.size + 1, 0, none⟩)) (.agg (rC rvZ))).run Tryz.prog w2 = .ok () w3 ∧ VarR w3 (w.heap.size + 1) rvZ ∧ Below w.heap.size w w3 := fun err hb => by
    obtain ⟨w2, k1, k2, k3, k4⟩ := HBOX.out zeroQ rfl zeroQ_one hb
    have hz := HZ0.out
    have hs := hb.size
    have hv2 : VarR w2 (w.heap.size + 1) rvZ := (k3.block _ (by omega)).trans ((hb.block _ (by omega)).trans HVR.out)
    obtain ⟨w3, j1, j2, j3⟩ := run_stR_row w2 (w.heap.size + 1) (rC rvZ) rfl hv2 rvZ
    have hb1w : Below w.heap.size w w1 := HB0.out.trans (hb.mono (by omega))
    have hb2w : Below w.heap.size w w2 := hb1w.trans (k3.mono hb1w.size)
    exact ⟨w2, w3, k1, j1, j2, hb2w.grown j3 hb2w.size (fun i hi => by injection hi with hi; omega)⟩
  have HBAD := Lib.hid hbad; clear hbad
  cases hrd : readD d with
  | none =>
    rw [hrd] at hres
    have HRD := Lib.hid hrd; clear hrd
    obtain ⟨rfl, hb1⟩ := hres
    obtain ⟨w2, w3, hst, hst2, hv3, hb3⟩ := HBAD.out 13 hb1
    rw [zeroR_z] at hst2
    have hzq : zeroQ = #[.slice none 0 0, .int .i64 0, .int .i64 0, .bool false] := rfl
    rw [hzq] at hst
    have HZQ := Lib.hid hzq; clear hzq
    have HV3 := Lib.hid hv3; clear hv3
    have HB3 := Lib.hid hb3; clear hb3 hb1
    rw [HZQ.out]
    go_wp2
    refine bodyPost_ret (results_r3 rfl _ _ (w.heap.size + 1) rvZ rfl HV3.out) rfl ?_
    rw [HP.out]
    unfold There2
    rw [HRD.out]
    exact ⟨rfl, HB3.out⟩
  | some T =>
    rw [hrd] at hres
    have HRD := Lib.hid hrd
    have HTO := Lib.hid ((readD_iff d T).1 hrd)
    clear hrd
    dsimp only at hres
    cases hok : okN e with
    | false =>
      rw [if_pos hok] at hres
      obtain ⟨rfl, hb1⟩ := hres
      obtain ⟨w2, w3, hst, hst2, hv3, hb3⟩ := HBAD.out 1 hb1
      rw [zeroR_z] at hst2
      have hzq : zeroQ = #[.slice none 0 0, .int .i64 0, .int .i64 0, .bool false] := rfl
      rw [hzq] at hst
      have HZQ := Lib.hid hzq; clear hzq
      have HV3 := Lib.hid hv3; clear hv3
      have HB3 := Lib.hid hb3; clear hb3 hb1
      have HOK := Lib.hid hok; clear hok
      rw [HZQ.out]
      go_wp2
      refine bodyPost_ret (results_r3 rfl _ _ (w.heap.size + 1) rvZ rfl HV3.out) rfl ?_
      rw [HP.out]
      unfold There2
      rw [HRD.out]
      dsimp only
      rw [if_pos HOK.out]
      exact ⟨rfl, HB3.out⟩
    | true =>
      rw [if_neg (by rw [hok]; decide)] at hres
      obtain ⟨g, c1, l, rfl, hra, hb1⟩ := hres
      have hfound := here_found HTO.out e
      rw [hfound]
      have HOK := Lib.hid hok; clear hok
      obtain ⟨w2, hst, hq2, hb2, hsz2⟩ := HBOX.out (qC ⟨g, T.length, c1, atK T e.t, posB (entsAt T e.t) e, hereB T e.t⟩) rfl (qC_one _) hb1
      have hz := HZ0.out
      have hs1 := hb1.size
      have hb1w : Below w.heap.size w w1 := HB0.out.trans (hb1.mono (by omega))
      have hb2w : Below w.heap.size w w2 := hb1w.trans (hb2.mono hb1w.size)
      have hv2 : VarR w2 (w.heap.size + 1) rvZ := (hb2.block _ (by omega)).trans ((hb1.block _ (by omega)).trans HVR.out)
      have hra2 : RowsAt w2 W0.heap.size g T.length c1 (T.map Prod.fst) (T.map fun p => sortR ordB p.2) T.length l := hra.below hb2
      have HVR2 := Lib.hid hv2; clear hv2
      have HRA2 := Lib.hid hra2; clear hra2 hra
      have HB2W := Lib.hid hb2w; clear hb2w hb1w hb2 hb1
      obtain ⟨gp, hgp⟩ : ∃ gp, gp = w1.heap.size := ⟨_, rfl⟩
      have hgp2 : w.heap.size + 2 ≤ gp := by omega
      rw [← hgp] at hq2 hsz2
      have HGP := Lib.hid hgp; clear hgp hfound HBAD HBOX
      have HQ2 := Lib.hid hq2; clear hq2
      obtain ⟨Q, hQ⟩ : ∃ Q, Q = qC ⟨g, T.length, c1, atK T e.t, posB (entsAt T e.t) e, hereB T e.t⟩ := ⟨_, rfl⟩
      rw [← hQ] at hst ⊢
      have HQE := Lib.hid hQ; clear hQ
      have c0 : w2.cell? ⟨gp, 0, none⟩ = some (.slice (some ⟨g, 0, none⟩) T.length c1) := cell_of_row w2 gp 0 _ _ _ HQ2.out
      have c1' : w2.cell? ⟨gp, 1, none⟩ = some (.int .i64 (atK T e.t : Int)) := cell_of_row w2 gp 1 _ _ _ HQ2.out
      have c2' : w2.cell? ⟨gp, 2, none⟩ = some (.int .i64 (posB (entsAt T e.t) e : Int)) := cell_of_row w2 gp 2 _ _ _ HQ2.out
      have c3' : w2.cell? ⟨gp, 3, none⟩ = some (.bool (hereB T e.t)) := cell_of_row w2 gp 3 _ _ _ HQ2.out
      have HC := Lib.hid (show _ ∧ _ ∧ _ ∧ _ from ⟨c0, c1', c2', c3'⟩); clear c0 c1' c2' c3'
      cases hhb : hereB T e.t with
      | false =>
        obtain ⟨w3, hst2, hv3, hg3⟩ := run_stR_row w2 (w.heap.size + 1) (rC rvZ) rfl HVR2.out rvZ
        have hb3 : Below w.heap.size w w3 := HB2W.out.grown hg3 HB2W.out.size (fun i hi => by injection hi with hi; omega)
        rw [zeroR_z] at hst2
        have HV3 := Lib.hid hv3; clear hv3
        have HB3 := Lib.hid hb3; clear hb3 hg3
        have c3' := HC.out.2.2.2
        rw [hhb] at c3'
        have HHB := Lib.hid hhb; clear hhb
        rw [HGP.out] at c3'
        go_wp2
        refine bodyPost_ret (results_r3 rfl _ _ (w.heap.size + 1) rvZ rfl HV3.out) rfl ?_
        rw [HP.out]
        unfold There2
        rw [HRD.out]
        dsimp only
        rw [if_neg (by rw [HOK.out]; decide), if_pos HHB.out]
        exact ⟨rfl, HB3.out⟩
      | true =>
        have hll := HRA2.out.len
        rw [List.length_map] at hll
        have hKm : atK T e.t < T.length := atL_most _ _ _ (by
          rcases Nat.eq_zero_or_pos T.length with h0 | h0
          · exfalso
            have := HTO.out.leaf_mem e.t
            rw [List.eq_nil_of_length_eq_zero h0] at this
            cases this
          · exact h0)
        have hlr : atK T e.t < l.length := by omega
        have hEl : atK T e.t < (T.map fun p => sortR ordB p.2).length := by rw [List.length_map]; exact hKm
        obtain ⟨hen, -⟩ := HRA2.out.ents _ hlr hEl
        have hTk : leafAt T e.t = T[atK T e.t] := by
          unfold leafAt
          rw [List.getD_eq_getElem?_getD]
          show (T[atK T e.t]?).getD p0 = _
          rw [List.getElem?_eq_getElem hKm]; rfl
        have hEr : (T.map fun p => sortR ordB p.2)[atK T e.t]'hEl = entsAt T e.t := by
          rw [List.getElem_map]
          unfold entsAt
          rw [hTk]
        rw [hEr] at hen
        have hyw : (l[atK T e.t]).w = (leafAt T e.t).1 := by
          rw [hTk]
          have h1 : (l.map Rv.w)[atK T e.t]'(by simpa using hlr) = (T.map Prod.fst)[atK T e.t]'(by simpa using hKm) := by simp only [HRA2.out.rows]
          simpa using h1
        have hld : ∀ V, V.heap[g]? = w2.heap[g]? → (ldR (.pointer (some ⟨g, atK T e.t * 3, none⟩))).run Tryz.prog V = .ok (.agg (rC (l[atK T e.t]))) V := fun V hV => by
          have := run_ldR_at (HoldsC.kept (HRA2.out.own.reads RK_ok) hV) (atK T e.t) hlr (0 + atK T e.t * 3) rfl
          rwa [Nat.zero_add] at this
        obtain ⟨y, hy⟩ : ∃ y, y = l[atK T e.t] := ⟨_, rfl⟩
        rw [← hy] at hen hyw hld
        have hgw := (HRA2.out.own.lt g rfl).1
        obtain ⟨w3, hst2, hv3, hg3⟩ := run_stR_row w2.drew (w.heap.size + 1) (rC rvZ) rfl HVR2.out y
        have hb3 : Below w.heap.size w w3 := (below_drew HB2W.out).grown hg3 HB2W.out.size (fun i hi => by injection hi with hi; omega)
        have hen3 : OwnC EN w3 w.heap.size y.v (entsAt T e.t) := (hen.kept (fun i hi => hg3.block i (hen.lt i hi).2 (fun e2 => by injection e2 with e2; have := (hen.lt i hi).1; omega))).mono (by omega)
        have c0 := HC.out.1
        have c1' := HC.out.2.1
        have c2' := HC.out.2.2.1
        have c3' := HC.out.2.2.2
        rw [HGP.out] at c0 c1' c2' c3'
        rw [hhb] at c3'
        have hq2w : VarQ w2.drew w1.heap.size Q := by rw [HQE.out, ← HGP.out]; exact HQ2.out
        have hkeep3 : VarQ w3 w1.heap.size Q ∧ w3.heap[g]? = w2.heap[g]? := ⟨(hg3.block _ (by have := HGP.out; show _ < w2.heap.size; omega) (fun e2 => by injection e2 with e2; have := HGP.out; omega)).trans hq2w, hg3.block g ((HRA2.out.own.lt g rfl).2) (fun e2 => by injection e2 with e2; omega)⟩
        have hcells : ∀ V, VarQ V w1.heap.size Q → V.cell? ⟨w1.heap.size, 0, none⟩ = some (.slice (some ⟨g, 0, none⟩) T.length c1) ∧ V.cell? ⟨w1.heap.size, 1, none⟩ = some (.int .i64 (atK T e.t : Int)) ∧ V.cell? ⟨w1.heap.size, 2, none⟩ = some (.int .i64 (posB (entsAt T e.t) e : Int)) := fun V hV => by
          rw [HQE.out] at hV
          exact ⟨cell_of_row V _ 0 _ _ _ hV, cell_of_row V _ 1 _ _ _ hV, cell_of_row V _ 2 _ _ _ hV⟩
        have HCELLS := Lib.hid hcells; clear hcells
        have HLD := Lib.hid hld; clear hld
        have HKEEP3 := Lib.hid hkeep3; clear hkeep3
        have HQ2W := Lib.hid hq2w; clear hq2w
        have HEN3 := Lib.hid hen3; clear hen3 hen
        have HB3 := Lib.hid hb3; clear hb3 hg3
        have HV3 := Lib.hid hv3; clear hv3
        have HYW := Lib.hid hyw; clear hyw hy hTk hEr
        have HHB := Lib.hid hhb; clear hhb hll hEl hlr
        obtain ⟨KK, hKK⟩ : ∃ KK, KK = atK T e.t := ⟨_, rfl⟩
        obtain ⟨pp, hpp⟩ : ∃ pp, pp = posB (entsAt T e.t) e := ⟨_, rfl⟩
        obtain ⟨tl, htl⟩ : ∃ tl, tl = T.length := ⟨_, rfl⟩
        rw [← hKK] at HLD HCELLS c1' hKm
        rw [← hpp] at HCELLS c2'
        rw [← htl] at HCELLS c0 hKm
        have hki : (KK : Int) < (tl : Int) := by omega
        have HPP := Lib.hid hpp; clear hpp hKK htl
        obtain ⟨C, hC⟩ : ∃ C, C = rC y := ⟨_, rfl⟩
        rw [← hC] at HLD hst2
        have HCC := Lib.hid hC; clear hC
        go_wp2
        refine wp_region_E (fun V => VarQ V w1.heap.size Q ∧ V.heap[g]? = w2.heap[g]?) 99 rfl ?_
        have hS := (show VarQ w2.drew w1.heap.size Q ∧ w2.drew.heap[g]? = w2.heap[g]? from ⟨HQ2W.out, rfl⟩)
        refine wpE_takeF 0 ⟨some 23, _, _, _, _, _⟩ (v := ?_) (by decide) rfl (by kernel_rfl) (by kernel_rfl) (by kernel_rfl) (fun _ _ _ h => h) hS (Or.inl ⟨by kernel_rfl, ?_⟩) ?_
        rotate_left
        · (intro V hSw; have q0 := (HCELLS.out V hSw.1).1; have q1 := (HCELLS.out V hSw.1).2.1; have q2 := (HCELLS.out V hSw.1).2.2; have q3 := HLD.out V hSw.2; go_simp; try with_reducible rfl)
        try simp only [Act.put]
        refine wpE_takeF 1 ⟨some 24, _, _, _, _, _⟩ (v := ?_) (by decide) rfl (by kernel_rfl) (by kernel_rfl) (by kernel_rfl) (fun _ _ _ h => h) hS (Or.inl ⟨by kernel_rfl, ?_⟩) ?_
        rotate_left
        · (intro V hSw; have q0 := (HCELLS.out V hSw.1).1; have q1 := (HCELLS.out V hSw.1).2.1; have q2 := (HCELLS.out V hSw.1).2.2; have q3 := HLD.out V hSw.2; go_simp; try with_reducible rfl)
        try simp only [Act.put]
        refine wpE_takeF 2 ⟨some 25, _, _, _, _, _⟩ (v := ?_) (by decide) rfl (by kernel_rfl) (by kernel_rfl) (by kernel_rfl) (fun _ _ _ h => h) hS (Or.inl ⟨by kernel_rfl, ?_⟩) ?_
        rotate_left
        · (intro V hSw; have q0 := (HCELLS.out V hSw.1).1; have q1 := (HCELLS.out V hSw.1).2.1; have q2 := (HCELLS.out V hSw.1).2.2; have q3 := HLD.out V hSw.2; go_simp; try with_reducible rfl)
        try simp only [Act.put]
        refine wpE_takeF 3 ⟨some 26, _, _, _, _, _⟩ (v := ?_) (by decide) rfl (by kernel_rfl) (by kernel_rfl) (by kernel_rfl) (fun _ _ _ h => h) hS (Or.inl ⟨by kernel_rfl, ?_⟩) ?_
        rotate_left
        · (intro V hSw; have q0 := (HCELLS.out V hSw.1).1; have q1 := (HCELLS.out V hSw.1).2.1; have q2 := (HCELLS.out V hSw.1).2.2; have q3 := HLD.out V hSw.2; go_simp; try with_reducible rfl)
        try simp only [Act.put]
        refine wpE_takeF 4 ⟨some 27, _, _, _, _, _⟩ (v := ?_) (by decide) rfl (by kernel_rfl) (by kernel_rfl) (by kernel_rfl) (fun _ _ _ h => h) hS (Or.inl ⟨by kernel_rfl, ?_⟩) ?_
        rotate_left
        · (intro V hSw; have q0 := (HCELLS.out V hSw.1).1; have q1 := (HCELLS.out V hSw.1).2.1; have q2 := (HCELLS.out V hSw.1).2.2; have q3 := HLD.out V hSw.2; go_simp; try with_reducible rfl)
        try simp only [Act.put]
        refine wpE_takeF 5 ⟨some 28, _, _, _, _, _⟩ (v := ?_) (by decide) rfl (by kernel_rfl) (by kernel_rfl) (by kernel_rfl) (fun _ _ _ h => h) hS (Or.inl ⟨by kernel_rfl, ?_⟩) ?_
        rotate_left
        · (intro V hSw; have q0 := (HCELLS.out V hSw.1).1; have q1 := (HCELLS.out V hSw.1).2.1; have q2 := (HCELLS.out V hSw.1).2.2; have q3 := HLD.out V hSw.2; go_simp; try with_reducible rfl)
        try simp only [Act.put]
        refine wpE_takeF 6 ⟨some 29, _, _, _, _, _⟩ (v := ?_) (by decide) rfl (by kernel_rfl) (by kernel_rfl) (by kernel_rfl) (fun _ _ _ h => h) hS (Or.inl ⟨by kernel_rfl, ?_⟩) ?_
        rotate_left
        · (intro V hSw; have q0 := (HCELLS.out V hSw.1).1; have q1 := (HCELLS.out V hSw.1).2.1; have q2 := (HCELLS.out V hSw.1).2.2; have q3 := HLD.out V hSw.2; go_simp; try with_reducible rfl)
        try simp only [Act.put]
        refine wpE_takeF 7 ⟨some 30, _, _, _, _, _⟩ (v := ?_) (by decide) rfl (by kernel_rfl) (by kernel_rfl) (by kernel_rfl) (fun _ _ _ h => h) hS (Or.inl ⟨by kernel_rfl, ?_⟩) ?_
        rotate_left
        · (intro V hSw; have q0 := (HCELLS.out V hSw.1).1; have q1 := (HCELLS.out V hSw.1).2.1; have q2 := (HCELLS.out V hSw.1).2.2; have q3 := HLD.out V hSw.2; go_simp; try with_reducible rfl)
        try simp only [Act.put]
        refine wpE_one 8 (by kernel_rfl) rfl (fun K' hK' => ?_)
        go_simp
        refine hK'.out _ _ HKEEP3.out (fun hS => ?_)
        clear hK' K'
        try simp only [Act.put]
        refine wpE_takeF 9 ⟨some 5, _, _, _, _, _⟩ (v := ?_) (by decide) rfl (by kernel_rfl) (by kernel_rfl) (by kernel_rfl) (fun _ _ _ h => h) hS (Or.inl ⟨by kernel_rfl, ?_⟩) ?_
        rotate_left
        · (intro V hSw; have q0 := (HCELLS.out V hSw.1).1; have q1 := (HCELLS.out V hSw.1).2.1; have q2 := (HCELLS.out V hSw.1).2.2; have q3 := HLD.out V hSw.2; go_simp; try with_reducible rfl)
        try simp only [Act.put]
        refine wpE_takeF 10 ⟨some 6, _, _, _, _, _⟩ (v := ?_) (by decide) rfl (by kernel_rfl) (by kernel_rfl) (by kernel_rfl) (fun _ _ _ h => h) hS (Or.inl ⟨by kernel_rfl, ?_⟩) ?_
        rotate_left
        · (intro V hSw; have q0 := (HCELLS.out V hSw.1).1; have q1 := (HCELLS.out V hSw.1).2.1; have q2 := (HCELLS.out V hSw.1).2.2; have q3 := HLD.out V hSw.2; go_simp; try with_reducible rfl)
        try simp only [Act.put]
        refine wpE_done (by kernel_rfl) ?_ _
        try simp only [List.setIfInBounds_toArray, List.set_cons_succ, List.set_cons_zero]
        go_wp2
        refine bodyPost_ret (results_r3 rfl _ _ (w.heap.size + 1) y rfl HV3.out) rfl ?_
        rw [HP.out]
        unfold There2
        rw [HRD.out]
        dsimp only
        rw [if_neg (by rw [HOK.out]; decide), if_neg (by rw [HHB.out]; decide)]
        exact ⟨y, by rw [← HPP.out]; rfl, HYW.out, HEN3.out, HB3.out⟩
end Go.Proofs.YtbagocghlijleaaGreat.Ht

namespace Go.Proofs.YtbagocghlijleaaGreat.Ht
set_option maxRecDepth 20000
open Go.RowKit
open Go.Proofs.YtbagocghlijleaaGreat.Mem Go.Proofs.YtbagocghlijleaaGreat.Crc Go.Proofs.YtbagocghlijleaaGreat.Rec Go.Proofs.YtbagocghlijleaaGreat.Reg Go.Proofs.YtbagocghlijleaaGreat.Lf
attribute [local go_sem ↓] ldE_eq stE_eq ldX_eq stX_eq ldR_eq stR_eq ldQ_eq stQ_eq

def chkD (d : List (List UInt8)) : Int := match readD d with | none => 13 | some _ => 0
theorem check_any (A : Option Addr) (n c B : Nat) (d : List (List UInt8)) (w : World) (h : HoldsN w B A n d) (hB : B ≤ w.heap.size) (hn : n ≤ 5864062014634) (hsz : ∀ b ∈ d, b.length ≤ 140737488355328) :
    Calls Tryz.prog 22 #[.slice A n c] w fun e w' => e = .returned (.int .i64 (chkD d)) ∧ Below w.heap.size w w' := by
  have hop := opened_any A n c B d w h hB hn hsz
  have HOP := Lib.hid hop; clear hop h hsz
  obtain ⟨r, hr⟩ : ∃ r, r = chkD d := ⟨_, rfl⟩
  rw [← hr]
  have HR := Lib.hid hr; clear hr
  go_enter Tryz.func22, Tryz.ntmps22
  go_wp2_with fail
  with_reducible refine HOP.out.mono ?_
  rintro E w1 hres
  unfold Opened2 at hres
  have hchk : chkD d = match readD d with | none => 13 | some _ => 0 := rfl
  cases hrd : readD d with
  | none =>
    rw [hrd] at hres hchk
    obtain ⟨rfl, hb⟩ := hres
    have HB := Lib.hid hb
    have HRR : Hid (r = 13) := Lib.hid (by rw [HR.out, hchk])
    clear hb hchk HR HOP hrd
    go_wp2
    go_ret
    exact ⟨by rw [HRR.out]; rfl, HB.out⟩
  | some T =>
    rw [hrd] at hres hchk
    obtain ⟨g, c1, l, rfl, -, hb⟩ := hres
    have HB := Lib.hid hb
    have HRR : Hid (r = 0) := Lib.hid (by rw [HR.out, hchk])
    clear hb hchk HR HOP hrd
    go_wp2
    go_ret
    exact ⟨by rw [HRR.out]; rfl, HB.out⟩

theorem find_here {d : List (List UInt8)} {T : Leaves} (h : TreeOk d T) (t : List UInt8) (i : Int) (hh : hereB T t = true) : (entsAt T t).getD (posB (entsAt T t) ⟨t, i⟩) n0 = (leafAt T t).2.getD (placeA (leafAt T t).2 t) n0 ∧ posB (entsAt T t) ⟨t, i⟩ < (entsAt T t).length := by
  have hlt : placeA (leafAt T t).2 t < (leafAt T t).2.length := by unfold hereB at hh; exact of_decide_eq_true hh
  have hm := List.getElem_mem hlt
  obtain ⟨k1, k2⟩ := posB_here (e := ⟨t, i⟩) (ents_pair h t) ((ents_mem T t _).2 hm) (placeA_here _ _ hlt)
  exact ⟨by rw [k2, List.getD_eq_getElem?_getD, List.getElem?_eq_getElem hlt]; rfl, k1⟩

set_option maxRecDepth 100000 in
set_option maxHeartbeats 4000000 in
theorem Find_any (A : Option Addr) (n c B : Nat) (d : List (List UInt8)) (t : List UInt8) (ht : t.length ≤ maxLen) (w : World) (h : HoldsN w B A n d) (hB : B ≤ w.heap.size) (hn : n ≤ 5864062014634) (hsz : ∀ b ∈ d, b.length ≤ 140737488355328) :
    Calls Tryz.prog 17 #[.slice A n c, .string ⟨t.toArray⟩] w fun e w' => e = .returned (.tuple #[.int .i64 (findD d t).1, .int .i64 (findD d t).2]) ∧ Below w.heap.size w w' := by
  have hth := there_any A n c B d ⟨t, 0⟩ ⟨⟨by show (-9223372036854775808 : Int) ≤ 0; omega, by show (0 : Int) ≤ 9223372036854775807; omega⟩, ht⟩ w h hB hn hsz
  have hec : (⟨t, 0⟩ : Nm).c = #[.string ⟨t.toArray⟩, .int .i64 0] := rfl
  rw [hec] at hth
  have HTH := Lib.hid hth; clear hth h hsz hec
  obtain ⟨post, hpost⟩ : ∃ post : Ending → World → Prop, post = fun e w' => e = .returned (.tuple #[.int .i64 (findD d t).1, .int .i64 (findD d t).2]) ∧ Below w.heap.size w w' := ⟨_, rfl⟩
  rw [← hpost]
  have HP := Lib.hid hpost; clear hpost
  go_enter Tryz.func17, Tryz.ntmps17
  go_wp2_with fail
  with_reducible refine HTH.out.mono ?_
  rintro E w1 hres
  unfold There2 at hres
  clear HTH
  have hfd : findD d t = match readD d with
    | none => (0, 13)
    | some T => if okN ⟨t, 0⟩ = false then (0, 1) else if placeA (leafAt T t).2 t < (leafAt T t).2.length then (((leafAt T t).2.getD (placeA (leafAt T t).2 t) n0).i, 0) else (0, 3) := rfl
  have hbad := run_stR_new w1 rvZ
  rw [zeroR_z] at hbad
  unfold zeroR at hbad
  cases hrd : readD d with
  | none =>
    rw [hrd] at hres hfd
    obtain ⟨rfl, hb⟩ := hres
    dsimp only at hfd
    rw [zeroR_z]
    have HF := Lib.hid hfd; clear hfd hrd
    have HB := Lib.hid hb; clear hb
    go_wp2
    rw [HP.out, HF.out]
    exact ⟨rfl, HB.out.alloc HB.out.size _⟩
  | some T =>
    have HTO := Lib.hid ((readD_iff d T).1 hrd)
    rw [hrd] at hres hfd
    clear hrd
    dsimp only at hres hfd
    by_cases hok : okN ⟨t, 0⟩ = false
    · rw [if_pos hok] at hres hfd
      obtain ⟨rfl, hb⟩ := hres
      rw [zeroR_z]
      have HF := Lib.hid hfd; clear hfd hok
      have HB := Lib.hid hb; clear hb
      go_wp2
      rw [HP.out, HF.out]
      exact ⟨rfl, HB.out.alloc HB.out.size _⟩
    · rw [if_neg hok] at hres hfd
      cases hhb : hereB T t with
      | false =>
        rw [if_pos hhb] at hres
        have hpl : ¬ placeA (leafAt T t).2 t < (leafAt T t).2.length := by unfold hereB at hhb; exact of_decide_eq_false hhb
        rw [if_neg hpl] at hfd
        obtain ⟨rfl, hb⟩ := hres
        rw [zeroR_z]
        have HF := Lib.hid hfd; clear hfd hok hhb hpl
        have HB := Lib.hid hb; clear hb
        go_wp2
        rw [HP.out, HF.out]
        exact ⟨rfl, HB.out.alloc HB.out.size _⟩
      | true =>
        rw [if_neg (by rw [hhb]; decide)] at hres
        have hpl : placeA (leafAt T t).2 t < (leafAt T t).2.length := by unfold hereB at hhb; exact of_decide_eq_true hhb
        rw [if_pos hpl] at hfd
        obtain ⟨y, rfl, -, hen, hb⟩ := hres
        obtain ⟨k1, k2⟩ := find_here HTO.out t 0 hhb
        have hst := run_stR_new w1 y
        unfold zeroR at hst
        have hvr : VarR (w1.alloc (.cells (rC y) 64)) w1.heap.size y := VarR.new w1 y
        obtain ⟨-, -, q2⟩ := hvr.cells
        have hen2 : OwnC EN (w1.alloc (.cells (rC y) 64)) w.heap.size y.v (entsAt T t) := hen.below ((Below.refl _ w1).alloc (Nat.le_refl _) _)
        obtain ⟨es, hes⟩ : ∃ es, es = entsAt T t := ⟨_, rfl⟩
        obtain ⟨pp, hpp⟩ : ∃ pp, pp = posB (entsAt T t) ⟨t, 0⟩ := ⟨_, rfl⟩
        rw [← hpp] at k1 k2 ⊢
        rw [← hes] at k1 k2 hen2
        obtain ⟨A5, c5, hyv⟩ := hen2.shape
        rw [hyv] at hen2 q2
        obtain ⟨g5, rfl, -, -, -⟩ := hen2.form (by omega)
        have hcell := (hen2.reads EN_ok).cell pp k2 2 (by decide)
        have hei : (es[pp]).i = ((leafAt T t).2.getD (placeA (leafAt T t).2 t) n0).i := by
          rw [← k1, List.getD_eq_getElem?_getD, List.getElem?_eq_getElem k2]; rfl
        have hcell' : (w1.alloc (.cells (rC y) 64)).cell? ⟨g5, pp * 3 + 2, none⟩ = some (.int .i64 ((leafAt T t).2.getD (placeA (leafAt T t).2 t) n0).i) := by
          rw [← hei]
          have : (0 + pp * EN.k + 2) = pp * 3 + 2 := by show 0 + pp * 3 + 2 = _; omega
          rw [this] at hcell
          exact hcell
        obtain ⟨res, hres2⟩ : ∃ res, res = ((leafAt T t).2.getD (placeA (leafAt T t).2 t) n0).i := ⟨_, rfl⟩
        rw [← hres2] at hcell' hfd
        have hkl : (pp : Int) < (es.length : Int) := by omega
        have HF := Lib.hid hfd; clear hfd
        have HB := Lib.hid hb; clear hb
        obtain ⟨ln, hln⟩ : ∃ ln, ln = es.length := ⟨_, rfl⟩
        rw [← hln] at hkl q2
        obtain ⟨C, hC⟩ : ∃ C, C = rC y := ⟨_, rfl⟩
        rw [← hC] at hst q2 hcell' ⊢
        clear hok hhb hpl hen hen2 hvr k1 k2 hyv hcell hei hbad hpp hes hres2 hln
        have HCC := Lib.hid hC; clear hC
        go_wp2
        rw [HP.out, HF.out]
        exact ⟨rfl, HB.out.alloc HB.out.size _⟩
theorem enc_nil : enc (sortR ordN []) = (blockL [], 0) := enc_yes (by decide) (by show 0 ≤ 248; omega)
set_option maxHeartbeats 1000000 in
theorem New_any (w : World) : Calls Tryz.prog 10 #[] w fun e w' => ∃ A c, e = .returned (.slice A 1 c) ∧ OwnN w' w.heap.size (.slice A 1 c) newD ∧ Below w.heap.size w w' := by
  have hlf := leafOf_any none 0 0 w.heap.size [] w (HoldsC.nil _ _ _ _) (Nat.le_refl _) (fun x hx => by cases hx) (by omega) List.Pairwise.nil
  have HLF := Lib.hid hlf; clear hlf
  go_enter Tryz.func10, Tryz.ntmps10
  go_wp2_with fail
  with_reducible refine HLF.out.mono ?_
  rintro E w1 hres
  unfold Leaf2 at hres
  rw [enc_nil] at hres
  obtain ⟨A1, c1, rfl, ho, hb⟩ := hres
  have hown : OwnN (w1.alloc (.cells #[.slice A1 (blockL []).length c1] 34)) w.heap.size (.slice (some ⟨w1.heap.size, 0, none⟩) 1 1) newD := by
    have hb2 : Below w1.heap.size w1 (w1.alloc (.cells #[.slice A1 (blockL []).length c1] 34)) := (Below.refl _ w1).alloc (Nat.le_refl _) _
    refine ⟨[.slice A1 (blockL []).length c1], ⟨rfl, .inr ⟨w1.heap.size, 1, _, rfl, hb.size, heap_alloc_new w1 _, Nat.le_refl _, by unfold maxLen; omega, rfl, rfl⟩⟩, rfl, fun k hk => ?_⟩
    have hk0 : k = 0 := by
      have : k < 1 := hk
      omega
    subst hk0
    exact ⟨A1, c1, rfl, owned_keep ho fun g hg => hb2.block g (owned_lt ho g hg).2⟩
  have HO := Lib.hid hown; clear hown ho
  have HB := Lib.hid hb; clear hb HLF
  generalize (blockL []).length = L at HO ⊢
  go_wp2
  go_ret
  exact ⟨_, _, rfl, HO.out, HB.out.alloc HB.out.size _⟩
end Go.Proofs.YtbagocghlijleaaGreat.Ht
