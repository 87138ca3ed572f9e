/- The rows of a directory with their leaves' entries: the program's call. -/
import Derived.Test.YtbagocghlijleaaGreatHtWi
import Derived.Test.YtbagocghlijleaaGreatHtSteps
import Derived.Test.YtbagocghlijleaaGreatLfDec
namespace Go.Proofs.YtbagocghlijleaaGreat.Ht
set_option maxRecDepth 20000
open Go.RowKit
open Go.Proofs.YtbagocghlijleaaGreat.Mem Go.Proofs.YtbagocghlijleaaGreat.Crc Go.Proofs.YtbagocghlijleaaGreat.Rec Go.Proofs.YtbagocghlijleaaGreat.Reg Go.Proofs.YtbagocghlijleaaGreat.Lf

/-- Below B nothing but block g has turned. -/
structure Tw (g B : Nat) (w w' : World) : Prop where
  os : w'.os = w.os
  tape : w'.tape = w.tape
  output : w'.output = w.output
  size : w.heap.size ≤ w'.heap.size
  block : ∀ k, k < B → k ≠ g → w'.heap[k]? = w.heap[k]?
theorem Tw.refl (g B : Nat) (w : World) : Tw g B w w := ⟨rfl, rfl, rfl, Nat.le_refl _, fun _ _ _ => rfl⟩
theorem Tw.trans {g B : Nat} {a b c : World} (h : Tw g B a b) (k : Tw g B b c) : Tw g B a c :=
  ⟨k.os.trans h.os, k.tape.trans h.tape, k.output.trans h.output, Nat.le_trans h.size k.size, fun i hi hn => (k.block i hi hn).trans (h.block i hi hn)⟩
theorem Tw.of_below {g B : Nat} {w w' : World} (h : Below B w w') : Tw g B w w' := ⟨h.os, h.tape, h.output, h.size, fun i hi _ => h.block i hi⟩
theorem Tw.of_grown {g B : Nat} {w w' : World} {row : Option Nat} (h : w.grownBy w' row) (hB : B ≤ w.heap.size) (hr : ∀ k, row = some k → k = g ∨ B ≤ k) : Tw g B w w' :=
  ⟨h.os, h.tape, h.output, h.size, fun i hi hn => h.block i (by omega) (fun e => by rcases hr i e.symm with e | e <;> omega)⟩
theorem Tw.drew {g B : Nat} {a b : World} (h : Tw g B a b) : Tw g B a b.drew := ⟨h.os, h.tape, h.output, h.size, h.block⟩
theorem Tw.below {g B base : Nat} {w w' : World} (h : Tw g B w w') (h1 : base ≤ g) (h2 : base ≤ B) : Below base w w' := ⟨h.os, h.tape, h.output, h.size, fun i hi => h.block i (by omega) (by omega)⟩
theorem OwnC.tw {α : Type} {R : Rk α} {w w' : World} {g B base : Nat} {v : Value} {l : List α} (h : OwnC R w base v l) (hv : ∀ k, v.ownBlock = some k → k < B ∧ k ≠ g) (ht : Tw g B w w') : OwnC R w' base v l :=
  h.kept fun k hk => ht.block k (hv k hk).1 (hv k hk).2

/-- One cell of an element of a row of one's own. -/
theorem put_cell {α : Type} {R : Rk α} (ok : R.Ok) {w : World} {base g n cap : Nat} {l : List α} (h : OwnC R w base (.slice (some ⟨g, 0, none⟩) n cap) l) (j i : Nat) (hj : j < l.length) (hi : i < R.k) (x : α) (v : Value) (hx : R.enc x = (R.enc l[j]).set i v) :
    OwnC R (w.setCell ⟨g, j * R.k + i, none⟩ v) base (.slice (some ⟨g, 0, none⟩) n cap) (l.set j x) ∧ w.grownBy (w.setCell ⟨g, j * R.k + i, none⟩ v) (some g) ∧
    (w.cell? ⟨g, j * R.k + i, none⟩).isSome = true ∧ w.frozen? ⟨g, j * R.k + i, none⟩ = false := by
  have hn := h.fits.1
  subst hn
  rcases h.2 with ⟨e, _⟩ | ⟨g1, cap1, cur, e, h1, h2, h3, h4, h5, h6⟩
  · cases e
  · injection e with e1 e2 e3
    injection e1 with e1
    injection e1 with e1
    subst e1 e3
    have hle : j * R.k + R.k ≤ l.length * R.k := by
      have := Nat.mul_le_mul_right R.k (show j + 1 ≤ l.length from hj)
      rwa [Nat.add_mul, Nat.one_mul] at this
    have hcap : l.length * R.k ≤ cap * R.k := Nat.mul_le_mul_right _ h3
    have hlt : j * R.k + i < cur.size := by omega
    refine ⟨⟨ok.clen _, .inr ⟨g, cap, cur.setIfInBounds (j * R.k + i) v, by rw [List.length_set], h1, Lib.heap_setCell_same (i := j * R.k + i) h2 _, by rw [List.length_set]; exact h3, h4, by simpa using h5, ?_⟩⟩, Lib.grownBy_setCell _ _ _ _, ?_, frozen_of_row _ _ _ _ _ h2⟩
    · rw [List.length_set, Array.toList_setIfInBounds]
      have hset : ∀ (c : List Value) (m t : Nat) (u : Value), (c.set t u).take m = (c.take m).set t u := fun c m t u => by
        apply List.ext_getElem?
        intro q
        simp only [List.getElem?_take, List.getElem?_set, List.length_take]
        by_cases hq : q < m
        · simp only [hq, if_true]
          by_cases htq : t = q
          · subst htq
            simp only [if_true]
            by_cases hc : t < c.length
            · have : t < min m c.length := by omega
              simp [hc, this]
            · have : ¬ t < min m c.length := by omega
              simp [hc, this]
          · simp [htq]
        · simp only [hq, if_false]
          by_cases htq : t = q
          · subst htq
            have : ¬ t < min m c.length := by omega
            simp [this]
          · simp [htq]
      rw [hset, h6]
      apply List.ext_getElem?
      intro q
      by_cases hq : q < l.length * R.k
      · have hp := ok.pos
        have hd : q / R.k < l.length := Nat.div_lt_of_lt_mul (by rw [Nat.mul_comm]; exact hq)
        have hm : q % R.k < R.k := Nat.mod_lt _ hp
        have hqe : q / R.k * R.k + q % R.k = q := by rw [Nat.mul_comm]; exact Nat.div_add_mod q R.k
        have g1 := ok.get l (q / R.k) (q % R.k) hd hm
        have g2 := ok.get (l.set j x) (q / R.k) (q % R.k) (by simpa using hd) hm
        rw [hqe] at g1 g2
        rw [List.getElem?_set, ok.clen, g1, g2, List.getElem_set]
        by_cases hjq : j = q / R.k
        · subst hjq
          simp only [if_true]
          rw [hx, List.getElem?_set, ok.len]
          by_cases hiq : i = q % R.k
          · subst hiq
            simp only [hqe, if_true, hq, hm]
          · have : ¬ (q / R.k * R.k + i = q) := by omega
            simp [this, hiq]
        · have hne : ¬ (j * R.k + i = q) := fun e => hjq (by
            rw [← e, Nat.mul_comm j, Nat.mul_add_div hp, Nat.div_eq_of_lt hi]; rfl)
          simp [hne, hjq]
      · rw [List.getElem?_eq_none (by rw [List.length_set, ok.clen]; omega), List.getElem?_eq_none (by rw [ok.clen, List.length_set]; omega)]
    · rw [cell_of_row _ _ _ _ _ _ h2, Array.getElem?_eq_getElem hlt]; rfl

/-! ### Leaf by leaf -/
theorem readL_none (d : List (List UInt8)) : ∀ (rs : List Rw) (j : Nat) (hj : j < rs.length), (leafOf (d.getD rs[j].b []) = none ∨ ∃ L, leafOf (d.getD rs[j].b []) = some L ∧ fitsL rs[j].s ((rs[j + 1]?).map Rw.s) L = false) → readL d rs = none
  | r :: rs, 0, _, h => by
    unfold readL
    rcases h with h | ⟨L, h, hf⟩
    · have h' : leafOf (d.getD r.b []) = none := h
      rw [h']
    · have h' : leafOf (d.getD r.b []) = some L := h
      have e : ((r :: rs)[0 + 1]?) = rs.head? := by cases rs <;> rfl
      rw [e] at hf
      have hf' : fitsL r.s (rs.head?.map Rw.s) L = false := hf
      rw [h']
      simp only [hf']
      rw [if_neg (by decide)]
  | r :: rs, j + 1, hj, h => by
    have hr := readL_none d rs j (by simpa using hj) h
    unfold readL
    rw [hr]
    cases leafOf (d.getD r.b []) with
    | none => rfl
    | some l =>
      dsimp only
      split <;> rfl
theorem readL_some (d : List (List UInt8)) : ∀ (rs : List Rw) (Ls : List (List Nm)), Ls.length = rs.length → (∀ j, (hj : j < rs.length) → (hj' : j < Ls.length) → leafOf (d.getD rs[j].b []) = some Ls[j] ∧ fitsL rs[j].s ((rs[j + 1]?).map Rw.s) Ls[j] = true) → readL d rs = some (rs.zip Ls)
  | [], [], _, _ => rfl
  | r :: rs, L :: Ls, hl, h => by
    obtain ⟨h1, h2⟩ := h 0 (by simp) (by simp)
    have h1' : leafOf (d.getD r.b []) = some L := h1
    have e : ((r :: rs)[0 + 1]?) = rs.head? := by cases rs <;> rfl
    rw [e] at h2
    have h2' : fitsL r.s (rs.head?.map Rw.s) L = true := h2
    have ih := readL_some d rs Ls (by simpa using hl) (fun j hj hj' => h (j + 1) (by simpa using hj) (by simpa using hj'))
    unfold readL
    rw [h1', ih]
    simp only [h2', if_true]
    rfl
theorem rowsN_low {d : List (List UInt8)} {rs : List Rw} (h : rowsN d = some rs) : (∀ r ∈ rs, r.b < d.length ∧ r.s < 4294967296) ∧ 1 ≤ rs.length ∧ rs.length ≤ 30 := by
  unfold rowsN at h
  split at h
  · injection h with h
    subst h
    exact ⟨fun r hr => by rw [List.mem_singleton.1 hr]; exact ⟨by show 0 < _; omega, by decide⟩, by simp, by simp⟩
  · split at h
    · cases h
    · have h1 := (rowsOk_iff.1 (rowsD_some h).1)
      exact ⟨fun r hr => by have := h1.2.1 r hr; omega, by have := h1.1; omega, by have := h1.1; omega⟩
theorem readD_rows (d : List (List UInt8)) : readD d = (match rowsN d with | none => none | some rs => readL d rs) := by
  unfold readD rowsN
  by_cases h0 : d.length = 0
  · rw [if_pos h0, if_neg (by omega), if_pos h0]
  · rw [if_neg h0]
    by_cases h1 : d.length = 1
    · rw [if_pos h1, if_pos h1]
    · rw [if_neg h1, if_neg h1, if_neg h0]
      cases rowsD (d.getD 0 []) (d.length - 1) <;> rfl
theorem leaf_rep {b : List UInt8} {l : List Nm} (h : leafOf b = some l) : (∀ x ∈ l, x.rep) ∧ l.length ≤ 41 ∧ apart l := by
  have he := leafOf_iff.1 h
  obtain ⟨h1, h2, h3⟩ := leaf_right he
  refine ⟨fun x hx => ?_, ?_, right_apart h1⟩
  · obtain ⟨m1, m2, m3⟩ := okN_may (((right_iff l).1 h1).1 x hx)
    have := may_len m1
    exact ⟨⟨by omega, by omega⟩, by unfold maxLen; omega⟩
  · have := sizeL_ge l ((right_iff l).1 h1).1
    omega

/-- Rows in a row of one's own, block g: as the index tells them; those ahead of k with their entries. -/
structure RowsAt (w : World) (base g m c : Nat) (rs : List Rw) (E : List (List Nm)) (k : Nat) (l : List Rv) : Prop where
  own : OwnC RK w base (.slice (some ⟨g, 0, none⟩) m c) l
  rows : l.map Rv.w = rs
  num : E.length = k
  ents : ∀ j, (hj : j < l.length) → (hk : j < E.length) → OwnC EN w base l[j].v E[j] ∧ ∀ i, l[j].v.ownBlock = some i → i ≠ g
  rest : ∀ j, (hj : j < l.length) → k ≤ j → l[j].A = none ∧ l[j].n = 0 ∧ l[j].c = 0
theorem RowsAt.len {w : World} {base g m c : Nat} {rs : List Rw} {E : List (List Nm)} {k : Nat} {l : List Rv} (h : RowsAt w base g m c rs E k l) : l.length = rs.length ∧ m = rs.length := by
  have h1 := congrArg List.length h.rows
  rw [List.length_map] at h1
  have := h.own.fits.1
  omega
theorem RowsAt.below {w w' : World} {base g m c : Nat} {rs : List Rw} {E : List (List Nm)} {k : Nat} {l : List Rv} (h : RowsAt w base g m c rs E k l) (hb : Below w.heap.size w w') : RowsAt w' base g m c rs E k l :=
  ⟨h.own.below hb, h.rows, h.num, fun j hj hk => ⟨(h.ents j hj hk).1.below hb, (h.ents j hj hk).2⟩, h.rest⟩
end Go.Proofs.YtbagocghlijleaaGreat.Ht

namespace Go.Proofs.YtbagocghlijleaaGreat.Ht
set_option maxRecDepth 20000
open Go.RowKit
open Go.Proofs.YtbagocghlijleaaGreat.Mem Go.Proofs.YtbagocghlijleaaGreat.Crc Go.Proofs.YtbagocghlijleaaGreat.Rec Go.Proofs.YtbagocghlijleaaGreat.Reg Go.Proofs.YtbagocghlijleaaGreat.Lf
attribute [local go_sem ↓] ldE_eq stE_eq ldX_eq stX_eq ldR_eq stR_eq

/-- What opened answers. -/
def Opened2 (w : World) (d : List (List UInt8)) (e : Ending) (w' : World) : Prop :=
  match readD d with
  | none => e = .returned (.tuple #[.slice none 0 0, .int .i64 13]) ∧ Below w.heap.size w w'
  | some T => ∃ g c l, e = .returned (.tuple #[.slice (some ⟨g, 0, none⟩) T.length c, .int .i64 0]) ∧ RowsAt w' w.heap.size g T.length c (T.map Prod.fst) (T.map fun p => sortR ordB p.2) T.length l ∧ Below w.heap.size w w'
theorem zip_fst {α β : Type} : ∀ (a : List α) (b : List β), b.length = a.length → (a.zip b).map Prod.fst = a
  | [], [], _ => rfl
  | x :: a, y :: b, h => by
    show x :: (a.zip b).map Prod.fst = _
    rw [zip_fst a b (by simpa using h)]
theorem zip_snd {α β γ : Type} (f : β → γ) : ∀ (a : List α) (b : List β), b.length = a.length → (a.zip b).map (fun p => f p.2) = b.map f
  | [], [], _ => rfl
  | x :: a, y :: b, h => by
    show f y :: (a.zip b).map _ = _
    rw [zip_snd f a b (by simpa using h)]
    rfl

set_option maxRecDepth 100000 in
set_option maxHeartbeats 8000000 in
theorem opened_any (A : Option Addr) (n c B : Nat) (d : List (List UInt8)) (w : World) (h : HoldsN w B A n d) (hB : B ≤ w.heap.size) (hn : n ≤ 5864062014634) (hsz : ∀ b ∈ d, b.length ≤ 140737488355328) :
    Calls Tryz.prog 37 #[.slice A n c] w (Opened2 w d) := by
  have hln := h.1
  have H := Lib.hid h
  have hrows := rowsOf_any A n c B d w h hB hn hsz
  obtain ⟨post, hpost⟩ : ∃ post, post = Opened2 w d := ⟨_, rfl⟩
  rw [← hpost]
  have HP := Lib.hid hpost; clear hpost
  have HSZ := Lib.hid hsz; clear hsz h
  have HLN := Lib.hid hln; clear hln
  have HRO := Lib.hid hrows; clear hrows
  have hrd := readD_rows d
  have HRD := Lib.hid hrd; clear hrd
  go_enter Tryz.func37, Tryz.ntmps37
  go_wp2_with fail
  with_reducible refine HRO.out.mono ?_
  rintro E w1 htd
  unfold RowsTold at htd
  clear HRO
  cases hrn : rowsN d with
  | none =>
    rw [hrn] at htd HRD
    obtain ⟨rfl, hb1⟩ := htd
    have HB1 := Lib.hid hb1; clear hb1 hrn
    go_wp2
    rw [HP.out]
    unfold Opened2
    rw [HRD.out]
    exact ⟨rfl, HB1.out⟩
  | some rs =>
    rw [hrn] at htd HRD
    obtain ⟨g, c1, rfl, ho1, hb1⟩ := htd
    have hlow := rowsN_low hrn
    have hgb := ho1.lt g rfl
    have HGB := Lib.hid hgb; clear hgb
    obtain ⟨hlow1, hm1, hm30⟩ := hlow
    have HLOW := Lib.hid hlow1; clear hlow1 hrn
    have HRD2 : Hid (readD d = readL d rs) := Lib.hid HRD.out
    clear HRD
    obtain ⟨m, hm⟩ : ∃ m, m = rs.length := ⟨_, rfl⟩
    have hra : RowsAt w1 w.heap.size g m c1 rs [] 0 (rs.map rv0) := by
      refine ⟨?_, rv0_w rs, rfl, fun j _ hk => absurd hk (Nat.not_lt_zero _), fun j hj _ => ?_⟩
      · rw [hm]; exact ho1
      · rw [List.getElem_map]; exact ⟨rfl, rfl, rfl⟩
    rw [← hm] at hm1 hm30 ⊢
    have HM := Lib.hid hm; clear hm
    have HRA := Lib.hid hra; clear hra ho1
    have HB1 := Lib.hid hb1; clear hb1
    go_wp2
    go_loopw [20] (fun i wr => ∃ (k : Nat) (l : List Rv) (Ls : List (List Nm)), k ≤ m ∧ i = .int .i64 (k : Int) ∧ RowsAt wr w.heap.size g m c1 rs (Ls.map (sortR ordB)) k l ∧ (∀ j, (hj : j < rs.length) → (hj' : j < Ls.length) → leafOf (d.getD rs[j].b []) = some Ls[j] ∧ fitsL rs[j].s ((rs[j + 1]?).map Rw.s) Ls[j] = true) ∧ Below w.heap.size w wr) (fun i _ => m - (intOf i).toNat)
    case atStart => exact ⟨0, _, [], Nat.zero_le _, rfl, HRA.out, fun j _ hj => absurd hj (Nat.not_lt_zero _), HB1.out⟩
    case round =>
      obtain ⟨k, l, Ls, hk, rfl, hra, hall, hb⟩ := hrel
      have HB := Lib.hid hb; clear hb
      have HRK := Lib.hid hra; clear hra
      have HALL := Lib.hid hall; clear hall
      have hll := HRK.out.len
      have hlsl : Ls.length = k := by have := HRK.out.num; simpa using this
      have HLL := Lib.hid hll; clear hll
      have HLSL := Lib.hid hlsl; clear hlsl
      rcases Nat.lt_or_ge k m with hlt | hge
      · have hkl : k < l.length := by have := HLL.out; omega
        have hkr : k < rs.length := by have := HLL.out; omega
        obtain ⟨x, hx⟩ : ∃ x, x = l[k] := ⟨_, rfl⟩
        have hxw : x.w = rs[k] := by
          have : (l.map Rv.w)[k]'(by simpa using hkl) = rs[k] := by simp only [HRK.out.rows]
          rw [hx]; simpa using this
        obtain ⟨hxb, hxs⟩ := HLOW.out rs[k] (List.getElem_mem hkr)
        have hxb' : x.b < d.length := by rw [← hxw] at hxb; exact hxb
        have hr0 := (HRK.out.own.reads RK_ok)
        obtain ⟨p0, p1, p2⟩ := cells_rv hr0 k hkl
        rw [← hx] at p0 p1 p2
        rw [Nat.zero_add] at p0 p1 p2
        obtain ⟨hx1, hx2, hx3⟩ := HRK.out.rest k hkl (Nat.le_refl _)
        rw [← hx] at hx1 hx2 hx3
        have hh := H.out.below (HB.out.mono hB)
        obtain ⟨b0, off, rfl, hbl, hc0⟩ := hh.2 (by have := HLN.out; omega)
        obtain ⟨A0, c0, q0, hb0, hk0, hk1⟩ := hc0 x.b hxb'
        obtain ⟨by_, hby⟩ : ∃ by_, by_ = d[x.b] := ⟨_, rfl⟩
        have hgd : d.getD rs[k].b [] = by_ := by
          rw [← hxw, hby, List.getD_eq_getElem?_getD]
          show (d[x.b]?).getD [] = _
          rw [List.getElem?_eq_getElem hxb']; rfl
        have hbs := HSZ.out d[x.b] (List.getElem_mem _)
        rw [← hby] at q0 hb0 hbs hk0
        have hdec := decode_any A0 _ c0 B by_ wr hb0 (Nat.le_trans hB HB.out.size) hk0 hbs
        have hways := decP_ways by_
        have hlf : leafOf by_ = if (decP by_).2 = 0 then some (decP by_).1 else none := rfl
        obtain ⟨y, hy⟩ : ∃ y, y = decP by_ := ⟨_, rfl⟩
        rw [← hy] at hdec hlf
        have hy2 : y.2 = 0 ∨ y = ([], 13) := by
          rcases hways with ⟨L, _, e⟩ | e
          · left; rw [hy, e]
          · right; rw [hy, e]
        have HDEC := Lib.hid hdec; clear hdec
        have HLF := Lib.hid hlf; clear hlf
        have HGD := Lib.hid hgd; clear hgd
        have HXW := Lib.hid hxw; clear hxw
        have HX := Lib.hid hx; clear hx
        have hxi : (x.b : Int) < (n : Int) := by have := HLN.out; omega
        clear hc0 hh hr0 hb0 hbs hk0 hk1 hways hy hby hxb hxb'
        have hk2 : (k : Int) < (m : Int) := by omega
        have HXS := Lib.hid hxs; clear hxs
        go_wp2_with fail
        with_reducible refine HDEC.out.mono ?_
        rintro E W1 ⟨A5, c5, rfl, ho5, hb5⟩
        clear HDEC q0
        have HB5 : Hid (Below w.heap.size w W1) := Lib.hid (HB.out.trans (hb5.mono HB.out.size))
        have HRK1 : Hid (RowsAt W1 w.heap.size g m c1 rs (Ls.map (sortR ordB)) k l) := Lib.hid (HRK.out.below hb5)
        have HO5 := Lib.hid ho5; clear ho5
        have hgr : g < wr.heap.size := (HRK.out.own.lt g rfl).2
        have HW1 : Hid (wr.heap.size ≤ W1.heap.size) := Lib.hid hb5.size
        clear hb5 p0 p1 p2
        rcases hy2 with hy0 | hy13
        · obtain ⟨L, hL⟩ : ∃ L, L = y.1 := ⟨_, rfl⟩
          have hleaf : leafOf by_ = some L := by rw [HLF.out, if_pos hy0, hL]
          rw [hy0]
          rw [← hL] at HO5 ⊢
          have hlr := leaf_rep hleaf
          obtain ⟨hrep, h41, hap⟩ := hlr
          have HREP := Lib.hid hrep; clear hrep
          have HAP := Lib.hid hap; clear hap
          have HLEAF := Lib.hid hleaf; clear hleaf hL hy0 HLF
          obtain ⟨q, hq⟩ : ∃ q, q = L.length := ⟨_, rfl⟩
          rw [← hq] at h41 HO5 ⊢
          have HQ := Lib.hid hq; clear hq
          obtain ⟨bk, hbk⟩ : ∃ bk, bk = wr.heap.size := ⟨_, rfl⟩
          rw [← hbk] at HO5
          have hgbk : g < bk := by omega
          clear hbk
          obtain ⟨BB, hBB⟩ : ∃ BB, BB = W1.heap.size := ⟨_, rfl⟩
          have HBB := Lib.hid hBB; clear hBB
          have HGBB : Hid (g < BB) := Lib.hid (by have := HBB.out; have := HW1.out; omega)
          have HBBw : Hid (w.heap.size ≤ BB) := Lib.hid (by have := HBB.out; have := HB5.out.size; omega)
          have hst0 : OwnC RK W1 w.heap.size (.slice (some ⟨g, 0, none⟩) m c1) (l.set k ⟨x.s, x.b, none, 0, 0⟩) := by
            have e : (⟨x.s, x.b, none, 0, 0⟩ : Rv) = x := by
              obtain ⟨a1, a2, a3, a4, a5⟩ := x
              simp only at hx1 hx2 hx3
              subst hx1 hx2 hx3
              rfl
            rw [e, HX.out, List.set_getElem_self]
            exact HRK1.out.own
          have HST0 := Lib.hid hst0; clear hst0 hx1 hx2 hx3
          go_wp2
          go_loopw [40] (fun i V => ∃ (j : Nat) (Av : Option Addr) (cv : Nat), j ≤ q ∧ i = .int .i64 (j : Int) ∧ OwnC RK V w.heap.size (.slice (some ⟨g, 0, none⟩) m c1) (l.set k ⟨x.s, x.b, Av, j, cv⟩) ∧ OwnC EN V BB (.slice Av j cv) (L.take j) ∧ Tw g BB W1 V) (fun i _ => q - (intOf i).toNat)
          case atStart => exact ⟨0, none, 0, Nat.zero_le _, rfl, HST0.out, OwnC.nil _ _ _, Tw.refl _ _ _⟩
          case round =>
            obtain ⟨V, hVw⟩ : ∃ V, V = wr := ⟨_, rfl⟩
            subst hVw
            obtain ⟨j, Av, cv, hj, rfl, hown, hev, htw⟩ := hrel
            have HOW := Lib.hid hown; clear hown
            have HEV := Lib.hid hev; clear hev
            have HTW := Lib.hid htw; clear htw
            have hVs : BB ≤ V.heap.size := by have := HBB.out; have := HTW.out.size; omega
            rcases Nat.lt_or_ge j q with hjl | hjg
            · have hjL : j < L.length := by have := HQ.out; omega
              have hnm : OwnX V bk (.slice A5 q c5) L := (ownX_C.1 HO5.out).tw (fun i hi => ⟨by have := (HO5.out.lt i hi).2; have := HBB.out; omega, by have := (HO5.out.lt i hi).1; omega⟩) HTW.out
              obtain ⟨bn, rfl, hbn1, hbn2, -⟩ := hnm.form (by omega)
              have hld := run_ldX_at hnm.reads j hjL (j * 2) (by omega)
              have hst := run_stX_new V L[j]
              obtain ⟨e, he⟩ : ∃ e, e = L[j] := ⟨_, rfl⟩
              rw [← he] at hld hst
              obtain ⟨V1, hV1⟩ : ∃ V1, V1 = V.alloc (.cells e.c 48) := ⟨_, rfl⟩
              have hvx : VarX V1 V.heap.size e := by rw [hV1]; exact VarX.new V e
              have hV1s : V1.heap.size = V.heap.size + 1 := by rw [hV1]; simp
              have hown1 : OwnC RK V1 w.heap.size (.slice (some ⟨g, 0, none⟩) m c1) (l.set k ⟨x.s, x.b, Av, j, cv⟩) := by rw [hV1]; exact HOW.out.below ((Below.refl _ V).alloc (Nat.le_refl _) _)
              have hev1 : OwnC EN V1 BB (.slice Av j cv) (L.take j) := by rw [hV1]; exact HEV.out.below ((Below.refl _ V).alloc (Nat.le_refl _) _)
              have htw1 : Tw g BB W1 V1 := by rw [hV1]; exact HTW.out.trans (Tw.of_below ((Below.refl _ V).alloc hVs _))
              rw [← hV1] at hst
              have hskl : k < (l.set k ⟨x.s, x.b, Av, j, cv⟩ : List Rv).length := by rw [List.length_set]; exact hkl
              have hpc : ∀ V', OwnC RK V' w.heap.size (.slice (some ⟨g, 0, none⟩) m c1) (l.set k ⟨x.s, x.b, Av, j, cv⟩) → V'.cell? ⟨g, k * 3 + 2, none⟩ = some (.slice Av j cv) := fun V' hV' => by
                obtain ⟨-, -, p2⟩ := cells_rv (hV'.reads RK_ok) k hskl
                rw [List.getElem_set_self, Nat.zero_add] at p2
                exact p2
              have hent := entryOf_any e (HREP.out e (he ▸ List.getElem_mem hjL)) V1.drew
              unfold eC at hent
              have HENT := Lib.hid hent; clear hent
              have HPC := Lib.hid hpc; clear hpc
              have HE := Lib.hid he; clear he
              have HV1 := Lib.hid hV1; clear hV1
              have HVX := Lib.hid hvx; clear hvx
              have HOW1 := Lib.hid hown1; clear hown1
              have HEV1 := Lib.hid hev1; clear hev1
              have HTW1 := Lib.hid htw1; clear htw1 hnm
              have HV1S := Lib.hid hV1s; clear hV1s
              obtain ⟨C, hC⟩ : ∃ C, C = e.c := ⟨_, rfl⟩
              rw [← hC] at hld hst HV1
              have HC := Lib.hid hC; clear hC
              have hj2 : (j : Int) < (q : Int) := by omega
              have HPV : Hid (∀ V', VarX V' V.heap.size e → (ldX (.pointer (some ⟨V.heap.size, 0, none⟩))).run Tryz.prog V' = .ok (.agg e.c) V') := Lib.hid (fun V' hV' => hV'.load)
              go_wp2
              refine wp_region_E (fun V' => VarX V' V.heap.size e ∧ V'.cell? ⟨g, k * 3 + 2, none⟩ = some (.slice Av j cv)) 13 rfl ?_
              have hS : VarX V1.drew V.heap.size e ∧ V1.drew.cell? ⟨g, k * 3 + 2, none⟩ = some (.slice Av j cv) := ⟨HVX.out, HPC.out V1 HOW1.out⟩
              refine wpE_take 0 ⟨some 44, _, _, _, _, _⟩ (v := ?_) [11, 12, 13] rfl (by kernel_rfl) (by kernel_rfl) (by kernel_rfl) (by kernel_rfl) (fun _ _ _ h => h) hS (Or.inl ⟨by rfl, ?_⟩) ?_
              rotate_left
              · (intro V' hSw; obtain ⟨s1, s2⟩ := hSw; have s3 := HPV.out V' s1; go_simp; try with_reducible rfl)
              try simp only [Act.put]
              refine wpE_take 1 ⟨some 45, _, _, _, _, _⟩ (v := ?_) [11, 12, 13] rfl (by kernel_rfl) (by kernel_rfl) (by kernel_rfl) (by kernel_rfl) (fun _ _ _ h => h) hS (Or.inl ⟨by rfl, ?_⟩) ?_
              rotate_left
              · (intro V' hSw; obtain ⟨s1, s2⟩ := hSw; have s3 := HPV.out V' s1; go_simp; try with_reducible rfl)
              try simp only [Act.put]
              refine wpE_take 2 ⟨some 46, _, _, _, _, _⟩ (v := ?_) [4, 5, 6, 10, 11, 12, 13] rfl (by kernel_rfl) (by kernel_rfl) (by kernel_rfl) (by kernel_rfl) (fun _ _ _ h => h) hS (Or.inl ⟨by rfl, ?_⟩) ?_
              rotate_left
              · (intro V' hSw; obtain ⟨s1, s2⟩ := hSw; have s3 := HPV.out V' s1; go_simp; try with_reducible rfl)
              try simp only [Act.put]
              refine wpE_take 3 ⟨some 47, _, _, _, _, _⟩ (v := ?_) [4, 5, 6, 10, 11, 12, 13] rfl (by kernel_rfl) (by kernel_rfl) (by kernel_rfl) (by kernel_rfl) (fun _ _ _ h => h) hS (Or.inl ⟨by rfl, ?_⟩) ?_
              rotate_left
              · (intro V' hSw; obtain ⟨s1, s2⟩ := hSw; have s3 := HPV.out V' s1; go_simp; try with_reducible rfl)
              try simp only [Act.put]
              refine wpE_take 4 ⟨some 48, _, _, _, _, _⟩ (v := ?_) [5, 6, 10, 11, 12, 13] rfl (by kernel_rfl) (by kernel_rfl) (by kernel_rfl) (by kernel_rfl) (fun _ _ _ h => h) hS (Or.inl ⟨by rfl, ?_⟩) ?_
              rotate_left
              · (intro V' hSw; obtain ⟨s1, s2⟩ := hSw; have s3 := HPV.out V' s1; go_simp; try with_reducible rfl)
              try simp only [Act.put]
              refine wpE_take 5 ⟨some 49, _, _, _, _, _⟩ (v := ?_) [6, 10, 11, 12, 13] rfl (by kernel_rfl) (by kernel_rfl) (by kernel_rfl) (by kernel_rfl) (fun _ _ _ h => h) hS (Or.inl ⟨by rfl, ?_⟩) ?_
              rotate_left
              · (intro V' hSw; obtain ⟨s1, s2⟩ := hSw; have s3 := HPV.out V' s1; go_simp; try with_reducible rfl)
              try simp only [Act.put]
              refine wpE_take 6 ⟨some 50, _, _, _, _, _⟩ (v := ?_) [10, 11, 12, 13] rfl (by kernel_rfl) (by kernel_rfl) (by kernel_rfl) (by kernel_rfl) (fun _ _ _ h => h) hS (Or.inl ⟨by rfl, ?_⟩) ?_
              rotate_left
              · (intro V' hSw; obtain ⟨s1, s2⟩ := hSw; have s3 := HPV.out V' s1; go_simp; try with_reducible rfl)
              try simp only [Act.put]
              refine wpE_take 7 ⟨some 51, _, _, _, _, _⟩ (v := ?_) [8, 9, 10, 11, 12, 13] rfl (by kernel_rfl) (by kernel_rfl) (by kernel_rfl) (by kernel_rfl) (fun _ _ _ h => h) hS (Or.inl ⟨by rfl, ?_⟩) ?_
              rotate_left
              · (intro V' hSw; obtain ⟨s1, s2⟩ := hSw; have s3 := HPV.out V' s1; go_simp; try with_reducible rfl)
              try simp only [Act.put]
              refine wpE_one 8 (o := ⟨some 52, _, _, _, _, _⟩) (by kernel_rfl) rfl (fun K' hK' => ?_)
              rw [if_pos (by kernel_rfl)]
              refine call_wp 38 _ _ _ _ rfl Tryz.func38 (by kernel_rfl) rfl _ ?hv _ HENT.out ?_
              case hv => simp only [List.map_toArray, List.map_cons, List.map_nil]; go_simp
              rintro E V2 ⟨rfl, hb2⟩
              have hS2 : VarX V2 V.heap.size e ∧ V2.cell? ⟨g, k * 3 + 2, none⟩ = some (.slice Av j cv) := ⟨(hb2.block _ (by show _ < V1.heap.size; rw [HV1S.out]; omega)).trans HVX.out, (hb2.cell (p := ⟨g, k * 3 + 2, none⟩) (by show g < V1.heap.size; have := HV1S.out; have := HGBB.out; omega)).trans (HPC.out V1 HOW1.out)⟩
              have hb2' : Below V1.heap.size V1 V2 := ⟨hb2.os, hb2.tape, hb2.output, hb2.size, hb2.block⟩
              have hV2s : V.heap.size < V2.heap.size := by have := hb2'.size; have := HV1S.out; omega
              obtain ⟨v3, V3, hrun, hev3, hg3⟩ := run_appC EN_ok V2 BB (.slice Av j cv) (L.take j) (HEV1.out.below hb2') e 62 (eC e) rfl (by rw [List.length_take]; omega) (by omega)
              unfold eC at hrun
              obtain ⟨A3, c3, rfl⟩ := hev3.shape
              have hlen3 : (L.take j ++ [e]).length = j + 1 := by rw [List.length_append, List.length_take]; simp; omega
              rw [hlen3] at hev3 hrun
              have hkeep : ∀ i, i < V2.heap.size → (i < BB ∨ i = V.heap.size) → V3.heap[i]? = V2.heap[i]? := fun i hi hor => hg3.1.block i hi (fun e2 => by have := HEV.out.lt i e2.symm; omega)
              have hS3 : VarX V3 V.heap.size e ∧ V3.cell? ⟨g, k * 3 + 2, none⟩ = some (.slice Av j cv) := ⟨(hkeep _ hV2s (.inr rfl)).trans hS2.1, (World.cell?_of_block (a := ⟨g, k * 3 + 2, none⟩) (hkeep g (by have := HGBB.out; omega) (.inl HGBB.out))).trans hS2.2⟩
              have hown3 : OwnC RK V3 w.heap.size (.slice (some ⟨g, 0, none⟩) m c1) (l.set k ⟨x.s, x.b, Av, j, cv⟩) := (HOW1.out.below hb2').kept (fun i hi => by injection hi with hi; subst hi; exact hkeep g (by have := HGBB.out; omega) (.inl HGBB.out))
              obtain ⟨hfin, hgfin, hsome, hfrz⟩ := put_cell RK_ok hown3 k 2 hskl (by decide) ⟨x.s, x.b, A3, j + 1, c3⟩ (.slice A3 (j + 1) c3) (by rw [List.getElem_set_self]; rfl)
              rw [List.set_set] at hfin
              have htw3 : Tw g BB W1 V3 := HTW1.out.trans ((Tw.of_below (hb2'.mono (by have := HV1S.out; omega))).trans (Tw.of_grown hg3.1 (by omega) (fun i hi => .inr (HEV.out.lt i hi).1)))
              have htwf : Tw g BB W1 (V3.setCell ⟨g, k * RK.k + 2, none⟩ (.slice A3 (j + 1) c3)) := htw3.trans (Tw.of_grown hgfin (by have := hg3.1.size; omega) (fun i hi => by injection hi with hi; exact .inl hi.symm))
              have hevf : OwnC EN (V3.setCell ⟨g, k * RK.k + 2, none⟩ (.slice A3 (j + 1) c3)) BB (.slice A3 (j + 1) c3) (L.take j ++ [e]) := hev3.kept (fun i hi => hgfin.block i (hev3.lt i hi).2 (fun e2 => by injection e2 with e2; have := (hev3.lt i hi).1; have := HGBB.out; omega))
              have hcellf : V3.frozen? ⟨g, k * 3 + 2, none⟩ = false := hfrz
              have HFIN : Hid (OwnC RK (V3.setCell ⟨g, k * 3 + 2, none⟩ (.slice A3 (j + 1) c3)) w.heap.size (.slice (some ⟨g, 0, none⟩) m c1) (l.set k ⟨x.s, x.b, A3, j + 1, c3⟩)) := Lib.hid hfin
              have HTWF : Hid (Tw g BB W1 (V3.setCell ⟨g, k * 3 + 2, none⟩ (.slice A3 (j + 1) c3))) := Lib.hid htwf
              have HEVF : Hid (OwnC EN (V3.setCell ⟨g, k * 3 + 2, none⟩ (.slice A3 (j + 1) c3)) BB (.slice A3 (j + 1) c3) (L.take (j + 1))) := Lib.hid (by rw [List.take_succ_eq_append_getElem hjL, ← HE.out]; exact hevf)
              obtain ⟨hS3a, hS3b⟩ := hS3
              clear hfin hgfin hsome hfrz htw3 htwf hevf hkeep hown3 hev3 hg3 hlen3 hld hst
              refine ⟨_, rfl, hK'.out _ _ hS2 (fun hS => ?_)⟩
              clear hK' K'
              try simp only [Act.put]
              refine wpE_one 9 (by kernel_rfl) rfl (fun K' hK' => ?_)
              go_simp
              refine hK'.out _ _ ⟨hS2.1.alloc _, (((Below.refl V2.heap.size V2).alloc (Nat.le_refl _) _).cell (p := ⟨g, k * 3 + 2, none⟩) (by show g < V2.heap.size; have := HGBB.out; omega)).trans hS2.2⟩ (fun hS => ?_)
              clear hK' K'
              try simp only [Act.put]
              refine wpE_one 10 (o := ⟨some 54, _, _, _, _, _⟩) (by kernel_rfl) rfl (fun K' hK' => ?_)
              refine step_builtin (by kernel_rfl) (.tmp 50) (.tmp 53) #[62, 62] rfl (.slice Av j cv) (.slice (some ⟨V2.heap.size, 0, none⟩) 1 1) (.slice A3 (j + 1) c3) V3 ?hva ?hvb hrun ?_
              case hva => go_simp; try with_reducible rfl
              case hvb => go_simp; try with_reducible rfl
              refine hK'.out _ _ ⟨hS3a, hS3b⟩ (fun hS => ?_)
              clear hK' K'
              try simp only [Act.put]
              refine wpE_take 11 ⟨some 55, _, _, _, _, _⟩ (v := ?_) [12, 13] rfl (by kernel_rfl) (by kernel_rfl) (by kernel_rfl) (by kernel_rfl) (fun _ _ _ h => h) hS (Or.inl ⟨by rfl, ?_⟩) ?_
              rotate_left
              · (intro V' hSw; obtain ⟨s1, s2⟩ := hSw; go_simp; try with_reducible rfl)
              try simp only [Act.put]
              refine wpE_take 12 ⟨some 56, _, _, _, _, _⟩ (v := ?_) [13] rfl (by kernel_rfl) (by kernel_rfl) (by kernel_rfl) (by kernel_rfl) (fun _ _ _ h => h) hS (Or.inl ⟨by rfl, ?_⟩) ?_
              rotate_left
              · (intro V' hSw; obtain ⟨s1, s2⟩ := hSw; go_simp; try with_reducible rfl)
              try simp only [Act.put]
              refine wpE_last (by kernel_rfl) rfl (fun K' hK' => ?_)
              go_simp
              refine hK'.out _ _ ?_
              clear hK' K'
              refine wpE_done (by kernel_rfl) ?_ _
              clear hrun hS3a hS3b hcellf
              go_wp2
              go_roundw
              case rel => exact ⟨j + 1, A3, c3, by omega, by go_num, HFIN.out, HEVF.out, HTWF.out⟩
              case measure => simp [intOf]; omega
            · obtain rfl : j = q := by omega
              have htk : L.take j = L := List.take_of_length_le (by have := HQ.out; omega)
              have hev := HEV.out
              rw [htk] at hev
              have hskl : k < (l.set k ⟨x.s, x.b, Av, j, cv⟩ : List Rv).length := by rw [List.length_set]; exact hkl
              obtain ⟨p0, p1, p2⟩ := cells_rv (HOW.out.reads RK_ok) k hskl
              rw [List.getElem_set_self, Nat.zero_add] at p0 p1 p2
              have hp2 : V.cell? ⟨g, k * 3 + 2, none⟩ = some (.slice Av j cv) := p2
              have hsort := sortE_any BB Av j cv L V hev (by omega) HAP.out
              have HSORT := Lib.hid hsort; clear hsort
              have hbl : ∀ i, (Value.slice Av j cv).ownBlock = some i → BB ≤ i ∧ i < V.heap.size := hev.lt
              have HBL := Lib.hid hbl; clear hbl hev htk p0 p1 p2
              have hjj : ¬ (j : Int) < (j : Int) := by omega
              go_wp2_with fail
              with_reducible refine HSORT.out.mono ?_
              rintro E V5 ⟨rfl, hev5, hg5⟩
              have hown5 : OwnC RK V5 w.heap.size (.slice (some ⟨g, 0, none⟩) m c1) (l.set k ⟨x.s, x.b, Av, j, cv⟩) := HOW.out.kept (fun i hi => by
                injection hi with hi
                subst hi
                exact hg5.block g (by have := HGBB.out; omega) (fun e2 => by have := HBL.out g e2.symm; have := HGBB.out; omega))
              have htw5 : Tw g BB W1 V5 := HTW.out.trans (Tw.of_grown hg5 hVs (fun i hi => .inr (HBL.out i hi).1))
              have hwi := within_any (some ⟨g, 0, none⟩) m c1 V5.heap.size (l.set k ⟨x.s, x.b, Av, j, cv⟩) V5 (hown5.reads RK_ok) (Nat.le_refl _) (by omega) k hskl (sortR ordB L) (by
                rw [List.getElem_set_self]
                exact hev5.reads EN_ok) (by rw [sortR_len]; have := HQ.out; omega)
              rw [List.getElem_set_self, List.getElem?_set_ne (by omega)] at hwi
              have hnext : (l[k + 1]?).map Rv.s = (rs[k + 1]?).map Rw.s := by
                rw [← HRK.out.rows, List.getElem?_map, Option.map_map]
                rfl
              rw [hnext, within_fits HAP.out] at hwi
              have hxsr : x.s = rs[k].s := by rw [← HXW.out]; rfl
              obtain ⟨r, hr⟩ : ∃ r, r = fitsL x.s ((rs[k + 1]?).map Rw.s) L := ⟨_, rfl⟩
              have hwi' : Calls Tryz.prog 62 #[.slice (some ⟨g, 0, none⟩) m c1, .int .i64 (k : Int)] V5 fun e w' => e = .returned (.bool r) ∧ Below V5.heap.size V5 w' := by rw [hr]; exact hwi
              have HWI := Lib.hid hwi'; clear hwi hwi' hnext
              have HR := Lib.hid hr; clear hr
              have HXSR := Lib.hid hxsr; clear hxsr
              have HOW5 := Lib.hid hown5; clear hown5
              have HTW5 := Lib.hid htw5; clear htw5
              have HEV5 := Lib.hid hev5; clear hev5 hg5 hp2
              go_wp2_with fail
              with_reducible refine HWI.out.mono ?_
              rintro E V6 ⟨rfl, hb6⟩
              have htw6 : Tw g BB W1 V6 := HTW5.out.trans (Tw.of_below (hb6.mono (by have := HBB.out; have := HTW5.out.size; omega)))
              have HB6 : Hid (Below w.heap.size w V6) := Lib.hid (HB5.out.trans (htw6.below HGB.out.1 HBBw.out))
              have hLsk : leafOf (d.getD rs[k].b []) = some L := by rw [HGD.out]; exact HLEAF.out
              cases r with
              | false =>
                go_wp2
                rw [HP.out]
                unfold Opened2
                rw [HRD2.out, readL_none d rs k hkr (.inr ⟨L, hLsk, by rw [← HXSR.out]; exact HR.out.symm⟩)]
                exact ⟨rfl, HB6.out⟩
              | true =>
                have hfin : RowsAt V6 w.heap.size g m c1 rs ((Ls ++ [L]).map (sortR ordB)) (k + 1) (l.set k ⟨x.s, x.b, Av, j, cv⟩) := by
                  refine ⟨HOW5.out.below hb6, ?_, by simp [HLSL.out], fun i hi hik => ?_, fun i hi hki => ?_⟩
                  · have e : (⟨x.s, x.b, Av, j, cv⟩ : Rv).w = x.w := rfl
                    have e2 : rs[k] = (l.map Rv.w)[k]'(by simpa using hkl) := by simp only [HRK.out.rows]
                    rw [List.map_set, e, HXW.out, e2, List.set_getElem_self]
                    exact HRK.out.rows
                  · have hik' : i < k + 1 := by simpa [HLSL.out] using hik
                    rcases Nat.lt_or_ge i k with hlt2 | hge2
                    · have hE : (((Ls ++ [L]).map (sortR ordB))[i]'hik) = (Ls.map (sortR ordB))[i]'(by rw [List.length_map, HLSL.out]; exact hlt2) := by
                        simp only [List.map_append]
                        rw [List.getElem_append_left (by rw [List.length_map, HLSL.out]; exact hlt2)]
                      have hi2 : i < l.length := by simpa using hi
                      rw [hE, List.getElem_set_ne (by omega)]
                      obtain ⟨k1, k2⟩ := HRK1.out.ents i hi2 (by rw [List.length_map, HLSL.out]; exact hlt2)
                      exact ⟨k1.tw (fun z hz => ⟨by have := (k1.lt z hz).2; have := HBB.out; omega, k2 z hz⟩) htw6, k2⟩
                    · obtain rfl : i = k := by omega
                      have hE : (((Ls ++ [L]).map (sortR ordB))[i]'hik) = sortR ordB L := by
                        simp only [List.map_append, List.map_cons, List.map_nil]
                        rw [List.getElem_append_right (by rw [List.length_map, HLSL.out]; exact Nat.le_refl _)]
                        simp [HLSL.out]
                      rw [hE, List.getElem_set_self]
                      have h5 := (HEV5.out.below hb6).mono HBBw.out
                      exact ⟨h5, fun z hz e2 => by have := (HBL.out z hz).1; have := HGBB.out; omega⟩
                  · have hi2 : i < l.length := by simpa using hi
                    rw [List.getElem_set_ne (by omega)]
                    exact HRK1.out.rest i hi2 (by omega)
                have hallf : ∀ i, (hi : i < rs.length) → (hi' : i < (Ls ++ [L]).length) → leafOf (d.getD rs[i].b []) = some (Ls ++ [L])[i] ∧ fitsL rs[i].s ((rs[i + 1]?).map Rw.s) (Ls ++ [L])[i] = true := fun i hi hi' => by
                  rw [List.length_append, HLSL.out, List.length_singleton] at hi'
                  rcases Nat.lt_or_ge i k with hlt2 | hge2
                  · rw [List.getElem_append_left (by rw [HLSL.out]; exact hlt2)]
                    exact HALL.out i hi (by rw [HLSL.out]; exact hlt2)
                  · obtain rfl : i = k := by omega
                    rw [List.getElem_append_right (by rw [HLSL.out]; exact Nat.le_refl _)]
                    simp only [HLSL.out, Nat.sub_self, List.getElem_cons_zero]
                    exact ⟨hLsk, by rw [← HXSR.out]; exact HR.out.symm⟩
                have HFIN := Lib.hid hfin; clear hfin
                have HALF := Lib.hid hallf; clear hallf htw6 hb6
                go_wp2
                go_roundw
                case rel => exact ⟨k + 1, _, Ls ++ [L], by omega, by go_num, HFIN.out, HALF.out, HB6.out⟩
                case measure => simp [intOf]; omega
        · have hno : leafOf by_ = none := by rw [HLF.out, hy13]; rfl
          have hy2 : y.2 = 13 := by rw [hy13]
          rw [hy2]
          have HNO := Lib.hid hno
          clear hy13 HO5 hno
          go_wp2
          rw [HP.out]
          unfold Opened2
          rw [HRD2.out, readL_none d rs k hkr (.inl (by rw [HGD.out]; exact HNO.out))]
          exact ⟨rfl, HB5.out⟩
      · obtain rfl : k = m := by omega
        have hkk : ¬ (k : Int) < (k : Int) := by omega
        go_wp2
        rw [HP.out]
        unfold Opened2
        have hlen : Ls.length = rs.length := by have := HLSL.out; have := HM.out; omega
        rw [HRD2.out, readL_some d rs Ls hlen (fun i hi hi' => HALL.out i hi hi')]
        have hzl : (rs.zip Ls).length = k := by rw [List.length_zip]; have := HM.out; omega
        refine ⟨g, c1, l, ?_, ?_, HB.out⟩
        · rw [hzl]
        · rw [hzl, zip_fst rs Ls hlen, zip_snd (sortR ordB) rs Ls hlen]
          exact HRK.out
end Go.Proofs.YtbagocghlijleaaGreat.Ht
