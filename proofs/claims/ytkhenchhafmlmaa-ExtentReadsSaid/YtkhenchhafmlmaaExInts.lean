/- Lists of numbers in memory; whether they may be the blocks of nodes: the program's calls and the document's. -/
import Derived.Test.YtkhenchhafmlmaaExArg
import Derived.Test.YtkhenchhafmlmaaRegF
namespace Go.Proofs.Ytkhenchhafmlmaa.Ex
set_option maxRecDepth 20000
open Go.ChangeShapes Go.WideShapes Go.ChangeAt Go.RowKit Go.Deep
open Go.Proofs.Ytkhenchhafmlmaa.Mem Go.Proofs.Ytkhenchhafmlmaa.Crc Go.Proofs.Ytkhenchhafmlmaa.Rec Go.Proofs.Ytkhenchhafmlmaa.Reg Go.Proofs.Ytkhenchhafmlmaa.Lift
attribute [local go_sem ↓] ldX_eq stX_eq

def HoldsI (w : World) (B : Nat) (A : Option Addr) (n : Nat) (rs : List Int) : Prop :=
  rs.length = n ∧ (0 < n → ∃ b off, A = some ⟨b, off, none⟩ ∧ b < B ∧ ∀ k, (h : k < rs.length) → w.cell? ⟨b, off + k, none⟩ = some (.int .i64 rs[k]))
theorem HoldsI.below {w w' : World} {B : Nat} {A : Option Addr} {n : Nat} {rs : List Int} (h : HoldsI w B A n rs) (hb : Below B w w') : HoldsI w' B A n rs :=
  ⟨h.1, fun hn => by
    obtain ⟨b, off, e, hl, hc⟩ := h.2 hn
    exact ⟨b, off, e, hl, fun k hk => (hb.cell (p := ⟨b, off + k, none⟩) hl).trans (hc k hk)⟩⟩
theorem HoldsI.more {w : World} {B B' : Nat} {A : Option Addr} {n : Nat} {rs : List Int} (h : HoldsI w B A n rs) (hB : B ≤ B') : HoldsI w B' A n rs :=
  ⟨h.1, fun hn => by
    obtain ⟨b, off, e, hl, hc⟩ := h.2 hn
    exact ⟨b, off, e, by omega, hc⟩⟩
theorem HoldsI.take {w : World} {B : Nat} {A : Option Addr} {n k : Nat} {rs : List Int} (h : HoldsI w B A n rs) (hk : k ≤ n) : HoldsI w B A k (rs.take k) :=
  ⟨by rw [List.length_take, h.1]; omega, fun h0 => by
    obtain ⟨b, off, e, hl, hc⟩ := h.2 (by omega)
    refine ⟨b, off, e, hl, fun j hj => ?_⟩
    rw [List.length_take] at hj
    rw [List.getElem_take]
    exact hc j (by omega)⟩
theorem HoldsI.nil (w : World) (B : Nat) (A : Option Addr) : HoldsI w B A 0 [] := ⟨rfl, fun h => absurd h (by omega)⟩
/-- Numbers that the call made itself. -/
def OwnI (w : World) (base : Nat) (v : Value) (l : List Int) : Prop := w.ownsRow base 3 1 v l.length (l.map (Value.int .i64))
theorem OwnI.nil (w : World) (base : Nat) : OwnI w base (.slice none 0 0) [] := ⟨rfl, .inl ⟨rfl, rfl⟩⟩
theorem OwnI.shape {w : World} {base : Nat} {v : Value} {l : List Int} (h : OwnI w base v l) : ∃ A c, v = .slice A l.length c := by
  rcases h.2 with ⟨rfl, h0⟩ | ⟨g, cap, _, rfl, _⟩
  · exact ⟨none, 0, by rw [h0]⟩
  · exact ⟨_, _, rfl⟩
theorem OwnI.lt {w : World} {base : Nat} {v : Value} {l : List Int} (h : OwnI w base v l) : ∀ k, v.ownBlock = some k → base ≤ k ∧ k < w.heap.size := World.ownsRow.lt h
theorem OwnI.kept {w w' : World} {base : Nat} {v : Value} {l : List Int} (h : OwnI w base v l) (hk : ∀ g, v.ownBlock = some g → w'.heap[g]? = w.heap[g]?) : OwnI w' base v l := by
  refine ⟨h.1, h.2.imp id ?_⟩
  rintro ⟨g, cap, cur, e, h1, h2, h3⟩
  exact ⟨g, cap, cur, e, h1, (hk g (by rw [e]; rfl)).trans h2, h3⟩
theorem OwnI.below {w w' : World} {base : Nat} {v : Value} {l : List Int} (h : OwnI w base v l) (hb : Below w.heap.size w w') : OwnI w' base v l := h.kept fun g hg => hb.block g (h.lt g hg).2
theorem OwnI.mono {w : World} {base base' : Nat} {v : Value} {l : List Int} (h : OwnI w base v l) (hb : base' ≤ base) : OwnI w base' v l := by
  refine ⟨h.1, h.2.imp id ?_⟩
  rintro ⟨g, cap, cur, e, h1, h2⟩
  exact ⟨g, cap, cur, e, Nat.le_trans hb h1, h2⟩
theorem OwnI.fits {w : World} {base n c : Nat} {A : Option Addr} {l : List Int} (h : OwnI w base (.slice A n c) l) : n = l.length ∧ n ≤ c := by
  rcases h.2 with ⟨e, h0⟩ | ⟨g, cap, cur, e, h1, h2, h3, h4, _⟩
  · injection e with e1 e2 e3
    subst e2 e3
    exact ⟨h0.symm, Nat.le_refl _⟩
  · injection e with e1 e2 e3
    subst e2 e3
    exact ⟨rfl, h3⟩
theorem OwnI.reads {w : World} {base n c : Nat} {A : Option Addr} {l : List Int} (h : OwnI w base (.slice A n c) l) : HoldsI w w.heap.size A n l := by
  obtain ⟨hn, -⟩ := h.fits
  subst hn
  refine ⟨rfl, fun hn => ?_⟩
  have h0 := h
  rcases h.2 with ⟨e, h1⟩ | ⟨g, cap, cur, e, h1, h2, h3, h4, _⟩
  · omega
  · injection e with e1 e2 e3
    subst e1 e3
    refine ⟨g, 0, rfl, (Array.getElem?_eq_some_iff.1 h2).1, fun k hk => ?_⟩
    rw [Nat.zero_add, World.ownsRow.cellAt h0 k (by omega)]
    simp [hk]
theorem info_int' : (Try.prog.info? 3).map (fun i => (i.zero, i.size, i.bytes)) = some (some (.int .i64 0), 1, 8) := by kernel_rfl
/-- Numbers behind others in memory of one's own. -/
theorem run_addI (W : World) (ty : TypeId) (base : Nat) (v : Value) (l : List Int) (hown : OwnI W base v l) (B : Nat) (A : Option Addr) (m c : Nat) (rs : List Int) (hr : HoldsI W B A m rs) (hlen : (l.length + m) * 8 ≤ 140737488355328) (hbase : base ≤ W.heap.size) :
    ∃ v' W', (Builtin.append_ #[45, 45] ty #[v, .slice A m c]).run Try.prog W = .ok v' W' ∧ OwnI W' base v' (l ++ rs) ∧ W.grownBy W' v.ownBlock ∧ (∀ k, v'.ownBlock = some k → v.ownBlock = some k ∨ W.heap.size ≤ k) := by
  obtain ⟨i0, hi, hz0, hz1, hz2⟩ := info_parts info_int'
  obtain ⟨hl, hc⟩ := hr
  rcases A with _ | ad
  · have hm : m = 0 := by
      rcases Nat.eq_zero_or_pos m with h0 | h0
      · exact h0
      · obtain ⟨b, off, e, _⟩ := hc h0; cases e
    subst hm
    obtain rfl : rs = [] := List.eq_nil_of_length_eq_zero hl
    rw [List.append_nil]
    refine ⟨v, W, ?_, hown, ⟨rfl, rfl, rfl, Nat.le_refl _, fun _ _ _ => rfl⟩, fun k hk => .inl hk⟩
    rcases hown.2 with ⟨rfl, _⟩ | ⟨g, cap, cur, rfl, _, _, hnc, _⟩
    · simp [Builtin.append_, run_underlying Try.underlying45, sizeOf, typeInfo, hi, Builtin.lenOf, Builtin.firstCells]
    · have hn0 : ¬ cap < l.length := by omega
      simp [Builtin.append_, run_underlying Try.underlying45, sizeOf, typeInfo, hi, Builtin.lenOf, Builtin.firstCells, storeCells, hn0]
  · have hcells : ∀ j u, (rs.map (Value.int .i64))[j]? = some u → W.cell? (ad.add j) = some u := by
      intro j u hu
      have hj : j < rs.length := by
        rcases Nat.lt_or_ge j rs.length with h | h
        · exact h
        · rw [List.getElem?_eq_none (by simpa using h)] at hu; cases hu
      obtain ⟨b, off, e, _, hcell⟩ := hc (by omega)
      injection e with e
      subst e
      have hadd : (⟨b, off, none⟩ : Addr).add j = ⟨b, off + j, none⟩ := by unfold Addr.add; split <;> simp_all
      rw [hadd, hcell j hj]
      rw [List.getElem?_map, List.getElem?_eq_getElem hj] at hu
      exact hu
    obtain ⟨v', w', hrun, h2, h3, _, h5⟩ := run_append_own_at (P := Try.prog) W base 45 ty 3 i0 (.int .i64 0) 1 8 Try.underlying45 hi hz0 hz1 hz2 rfl (by decide) v l.length (l.map (Value.int .i64)) hown ad m c (rs.map (Value.int .i64)) (by simp; omega) hcells
      (by intro u hu; obtain ⟨c, _, rfl⟩ := List.mem_map.1 hu; rfl) (by unfold maxLen; omega) (by omega) hbase
    refine ⟨v', w', hrun, ?_, h3, fun k hk => ?_⟩
    · unfold OwnI
      rw [List.length_append, List.map_append, hl]
      exact h2
    · rcases h5 with h5 | h5
      · exact .inl (by rw [← h5]; exact hk)
      · rw [h5] at hk
        injection hk with hk
        exact .inr (by omega)
theorem reach_ints {H : Type} {ts : List TypeId} {ds : List (DataW H)} (h : (DataW.weightsEach Try.prog ts ds).all (· ≤ reachBytes) = true) {j : Nat} {d : DataW H} (ht : ts[j]? = some 45) (hd : ds[j]? = some d) :
    ∀ elems spare, d = .slice elems spare → elems.length + spare.length ≤ 17592186043904 := by
  rintro elems spare rfl
  have := sized_slice h ht hd Try.underlying45
  rw [show Try.prog.bytesOf 3 = 8 by kernel_rfl, show reachBytes = 140737488351232 from rfl] at this
  omega
theorem ints_open {H : Type} {enc : TypeId × Value → H} {W : World} {base : Nat} {v : Value} {d : DataW H} {p : List MemPlace} (hv : Value.okWide Try.prog W .any base 45 v)
    (h : DataW.Trod enc Try.prog W 0 (fun _ => true) true 45 v d p) (R : Nat) (hR : ∀ elems spare, d = .slice elems spare → elems.length + spare.length ≤ R) :
    ∃ A n c rs, v = .slice A n c ∧ HoldsI W W.heap.size A n rs ∧ (∀ x ∈ rs, -9223372036854775808 ≤ x ∧ x ≤ 9223372036854775807) ∧ n ≤ c ∧ c ≤ R := by
  obtain ⟨A, n, c, rfl⟩ := okWide_slice Try.underlying45 hv
  obtain ⟨fuel, hf⟩ := h
  rcases open_slice Try.underlying45 hf with ⟨hcs, _⟩ | ⟨a, len, cap, m, k, D, Pl, hcs, _, hl, hm, hmm, hx, hel⟩
  · simp [Value.cells] at hcs
    obtain ⟨rfl, rfl, rfl⟩ := hcs
    exact ⟨none, 0, 0, [], rfl, HoldsI.nil _ _ _, (fun x hx => by cases hx), Nat.le_refl _, Nat.zero_le _⟩
  · simp [Value.cells] at hcs
    obtain ⟨rfl, rfl, rfl⟩ := hcs
    have hC : Try.prog.cellsOf 3 = 1 := by kernel_rfl
    rw [hC] at hel
    rw [if_pos rfl] at hmm
    obtain rfl : c = m := hmm.symm
    simp only [Prod.mk.injEq] at hx
    have hle := hR _ _ hx.1
    simp only [List.length_map, List.length_range] at hle
    obtain ⟨rs, hll, hls⟩ := exists_list (p := fun i (x : Int) => (-9223372036854775808 ≤ x ∧ x ≤ 9223372036854775807) ∧ W.cell? (a.add i) = some (.int .i64 x)) n (fun i hi => by
      obtain ⟨cs', hc, ht⟩ := hel i (by omega)
      obtain ⟨_, hcl, hat⟩ := World.cells?_some hc
      obtain ⟨x, e0, _, g0⟩ := DataW.trod_int Try.underlying3 ht
      refine ⟨x, bounds_i64 g0, ?_⟩
      have := hat 0 (by omega)
      rw [Nat.mul_one] at this
      have e2 : (a.add i).add 0 = a.add i := by unfold Addr.add; split <;> simp_all
      rw [e2] at this
      rw [this]
      rw [e0]
      rfl)
    obtain ⟨b, off, spot⟩ := a
    by_cases h0 : 0 < n
    · have h00 := (hls 0 (by omega)).2
      have hspot : spot = none := by
        have := World.cell?_spot h00
        simpa [Addr.add] using this
      subst hspot
      have hbl := block_lt_of_cell h00
      rw [Addr.add_mid] at hbl
      refine ⟨_, n, c, rs, rfl, ⟨hll, fun _ => ⟨b, off, rfl, hbl, fun j hj => ?_⟩⟩, fun x hx => ?_, hl, by omega⟩
      · have := (hls j hj).2
        rwa [Addr.add_mid] at this
      · obtain ⟨j, hj, rfl⟩ := List.getElem_of_mem hx
        exact (hls j hj).1
    · have hn : n = 0 := by omega
      subst hn
      have : rs = [] := List.eq_nil_of_length_eq_zero hll
      subst this
      exact ⟨_, 0, c, [], rfl, HoldsI.nil _ _ _, (fun x hx => by cases hx), Nat.zero_le _, by omega⟩

/-! ### Which numbers may be the blocks of nodes -/
def NumOk (l : List Int) : Prop := ∀ j, (h : j < l.length) → 1 ≤ l[j] ∧ l[j] < 1024 ∧ l[j] ∉ l.take j
def numB (l : List Int) : Bool := (List.range l.length).all fun j => match l[j]? with | some x => decide (1 ≤ x ∧ x < 1024 ∧ x ∉ l.take j) | none => true
theorem numB_iff (l : List Int) : numB l = true ↔ NumOk l := by
  unfold numB NumOk
  rw [List.all_eq_true]
  constructor
  · intro h j hj
    have := h j (List.mem_range.2 hj)
    rw [List.getElem?_eq_getElem hj] at this
    exact of_decide_eq_true this
  · intro h j hj
    have hj := List.mem_range.1 hj
    rw [List.getElem?_eq_getElem hj]
    exact decide_eq_true (h j hj)
theorem numB_not {l : List Int} (h : ¬ NumOk l) : numB l = false := by
  cases hb : numB l with
  | false => rfl
  | true => exact absurd ((numB_iff l).1 hb) h
theorem take_snoc {α : Type} {l : List α} {k : Nat} (h : k < l.length) : l.take (k + 1) = l.take k ++ [l[k]] := List.take_succ_eq_append_getElem h

set_option maxRecDepth 100000 in
theorem index_any (A : Option Addr) (n c B : Nat) (xs : List Int) (v : Int) (w : World) (h : HoldsI w B A n xs) (hB : B ≤ w.heap.size) (hn : n ≤ 9223372036854775806) :
    Calls Try.prog 76 #[.slice A n c, .int .i64 v] w fun e w' => ∃ r : Int, e = .returned (.int .i64 r) ∧ (v ∈ xs ∧ 0 ≤ r ∨ v ∉ xs ∧ r = -1) ∧ Below w.heap.size w w' := by
  have hln := h.1
  have H := Lib.hid h; clear h
  have HLN := Lib.hid hln; clear hln
  have HB := Lib.hid hB; clear hB
  go_enter Try.func76, Try.ntmps76
  go_wp2
  go_loopw [8] (fun i wr => ∃ k : Nat, k ≤ n ∧ i = .int .i64 (k : Int) ∧ v ∉ xs.take k ∧ Below w.heap.size w wr) (fun i _ => n - (intOf i).toNat)
  case atStart => exact ⟨0, Nat.zero_le _, rfl, by simp, Below.refl _ _⟩
  case round =>
    obtain ⟨k, hk, rfl, hno, hbr⟩ := hrel
    have HNO := Lib.hid hno; clear hno
    have HBR := Lib.hid hbr; clear hbr
    rcases Nat.lt_or_ge k n with hlt | hge
    · have hkl : k < xs.length := by have := HLN.out; omega
      obtain ⟨b, off, rfl, hbB, hc⟩ := H.out.2 (by omega)
      have hx := ((HBR.out.mono HB.out).cell (p := ⟨b, off + k, none⟩) hbB).trans (hc k hkl)
      have ht := take_snoc hkl
      obtain ⟨x, hxe⟩ : ∃ x, x = xs[k] := ⟨_, rfl⟩
      rw [← hxe] at hx ht
      have HT := Lib.hid ht; clear ht hc
      have hmem : x ∈ xs := by rw [hxe]; exact List.getElem_mem hkl
      have HM := Lib.hid hmem; clear hmem hxe
      have hk0 : (0 : Int) ≤ (k : Int) := by omega
      have hkn : (k : Int) < (n : Int) := by omega
      by_cases hv : v = x
      · subst hv
        go_wp2
        go_ret
        exact ⟨(k : Int), rfl, .inl ⟨HM.out, by omega⟩, HBR.out⟩
      · have hvx : (v == x) = false := beq_false_of_ne hv
        have hno : v ∉ xs.take (k + 1) := by
          rw [HT.out, List.mem_append, List.mem_singleton]
          rintro (h | h)
          · exact HNO.out h
          · exact hv h
        have HNO2 := Lib.hid hno; clear hno hv
        go_wp2
        go_roundw
        case rel => exact ⟨k + 1, by omega, by go_num, HNO2.out, HBR.out⟩
        case measure => simp [intOf]; omega
    · have hkn : k = n := by omega
      subst hkn
      have hno : v ∉ xs := by
        have := HNO.out
        rwa [List.take_of_length_le (by have := HLN.out; omega)] at this
      have HNO2 := Lib.hid hno; clear hno
      have hge' : ¬ (k : Int) < (k : Int) := by omega
      go_wp2
      go_ret
      exact ⟨-1, rfl, .inr ⟨HNO2.out, rfl⟩, HBR.out⟩

set_option maxRecDepth 100000 in
theorem contains_any (A : Option Addr) (n c B : Nat) (xs : List Int) (v : Int) (w : World) (h : HoldsI w B A n xs) (hB : B ≤ w.heap.size) (hn : n ≤ 9223372036854775806) :
    Calls Try.prog 66 #[.slice A n c, .int .i64 v] w fun e w' => e = .returned (.bool (decide (v ∈ xs))) ∧ Below w.heap.size w w' := by
  have hi := index_any A n c B xs v w h hB hn
  obtain ⟨r, hr⟩ : ∃ r, r = decide (v ∈ xs) := ⟨_, rfl⟩
  rw [← hr]
  have HR := Lib.hid hr; clear hr
  have HI := Lib.hid hi; clear hi h
  go_enter Try.func66, Try.ntmps66
  go_wp2_with fail
  with_reducible refine HI.out.mono ?_
  rintro E V ⟨q, rfl, hq, hb⟩
  have HBV := Lib.hid hb; clear hb
  rcases hq with ⟨h1, h2⟩ | ⟨h1, h2⟩
  · have hd : decide (0 ≤ q) = true := decide_eq_true h2
    have HX : Hid (r = true) := Lib.hid (by rw [HR.out]; exact decide_eq_true h1)
    clear h1
    go_wp2
    go_ret
    exact ⟨by rw [HX.out]; rfl, HBV.out⟩
  · subst h2
    have HX : Hid (r = false) := Lib.hid (by rw [HR.out]; exact decide_eq_false h1)
    clear h1
    go_wp2
    go_ret
    exact ⟨by rw [HX.out]; rfl, HBV.out⟩

set_option maxRecDepth 100000 in
theorem apart_any (A : Option Addr) (n c B : Nat) (xs : List Int) (w : World) (h : HoldsI w B A n xs) (hB : B ≤ w.heap.size) (hc : n ≤ c) (hn : n ≤ 9223372036854775806) :
    Calls Try.prog 45 #[.slice A n c] w fun e w' => e = .returned (.bool (numB xs)) ∧ Below w.heap.size w w' := by
  have hln := h.1
  have hgood : NumOk xs → numB xs = true := (numB_iff xs).2
  have hbad0 : ¬ NumOk xs → numB xs = false := numB_not
  generalize numB xs = R at hgood hbad0 ⊢
  have HGOOD := Lib.hid hgood; clear hgood
  have HBAD0 := Lib.hid hbad0; clear hbad0
  have H := Lib.hid h; clear h
  have HLN := Lib.hid hln; clear hln
  have HB := Lib.hid hB; clear hB
  go_enter Try.func45, Try.ntmps45
  go_wp2
  go_loopw [7] (fun i wr => ∃ k : Nat, k ≤ n ∧ i = .int .i64 (k : Int) ∧ (∀ j, (hj : j < xs.length) → j < k → 1 ≤ xs[j] ∧ xs[j] < 1024 ∧ xs[j] ∉ xs.take j) ∧ Below w.heap.size w wr) (fun i _ => n - (intOf i).toNat)
  case atStart => exact ⟨0, Nat.zero_le _, rfl, fun j _ h => absurd h (by omega), Below.refl _ _⟩
  case round =>
    obtain ⟨k, hk, rfl, hok, hbr⟩ := hrel
    have HOK := Lib.hid hok; clear hok
    have HBR := Lib.hid hbr; clear hbr
    rcases Nat.lt_or_ge k n with hlt | hge
    · have hkl : k < xs.length := by have := HLN.out; omega
      have hcon := contains_any A k c B (xs.take k) xs[k] wr ((H.out.take (by omega)).below (HBR.out.mono HB.out)) (by have := HB.out; have := HBR.out.size; omega) (by omega)
      obtain ⟨b, off, rfl, hbB, hcl⟩ := H.out.2 (by omega)
      have hx := ((HBR.out.mono HB.out).cell (p := ⟨b, off + k, none⟩) hbB).trans (hcl k hkl)
      have hbad : ¬ (1 ≤ xs[k] ∧ xs[k] < 1024 ∧ xs[k] ∉ xs.take k) → R = false := fun h1 => HBAD0.out fun h2 => h1 (h2 k hkl)
      have hnx : 1 ≤ xs[k] → xs[k] < 1024 → xs[k] ∉ xs.take k → ∀ j, (hj : j < xs.length) → j < k + 1 → 1 ≤ xs[j] ∧ xs[j] < 1024 ∧ xs[j] ∉ xs.take j := fun h1 h2 h3 j hj hlt => by
        rcases Nat.lt_or_ge j k with h' | h'
        · exact HOK.out j hj h'
        · have hjk : j = k := by omega
          subst hjk
          exact ⟨h1, h2, h3⟩
      obtain ⟨x, hxe⟩ : ∃ x, x = xs[k] := ⟨_, rfl⟩
      rw [← hxe] at hx hcon hbad hnx
      have HNX := Lib.hid hnx; clear hnx
      have HBAD := Lib.hid hbad; clear hbad
      have HCON := Lib.hid hcon; clear hcon hcl hxe
      have hk0 : (0 : Int) ≤ (k : Int) := by omega
      have hkn : (k : Int) < (n : Int) := by omega
      have hkc : (k : Int) ≤ (c : Int) := by omega
      by_cases h1 : x < 1
      · have HF := Lib.hid (HBAD.out (fun h => by omega))
        go_wp2
        go_ret
        exact ⟨by rw [HF.out]; rfl, HBR.out⟩
      · by_cases h2 : 1024 ≤ x
        · have HF := Lib.hid (HBAD.out (fun h => by omega))
          go_wp2
          go_ret
          exact ⟨by rw [HF.out]; rfl, HBR.out⟩
        · by_cases h3 : x ∈ xs.take k
          · have HF := Lib.hid (HBAD.out (fun h => h.2.2 h3))
            have hcon := HCON.out
            rw [decide_eq_true h3] at hcon
            have HC2 := Lib.hid hcon; clear hcon HCON h3
            go_wp2_with fail
            with_reducible refine HC2.out.mono ?_
            rintro E V ⟨rfl, hb⟩
            have HBV : Hid (Below w.heap.size w V) := Lib.hid (HBR.out.trans (hb.mono HBR.out.size))
            clear hb
            go_wp2
            go_ret
            exact ⟨by rw [HF.out]; rfl, HBV.out⟩
          · have HN := Lib.hid (HNX.out (by omega) (by omega) h3)
            have hcon := HCON.out
            rw [decide_eq_false h3] at hcon
            have HC2 := Lib.hid hcon; clear hcon HCON h3
            go_wp2_with fail
            with_reducible refine HC2.out.mono ?_
            rintro E V ⟨rfl, hb⟩
            have HBV : Hid (Below w.heap.size w V) := Lib.hid (HBR.out.trans (hb.mono HBR.out.size))
            clear hb
            go_wp2
            go_roundw
            case rel => exact ⟨k + 1, by omega, by go_num, HN.out, HBV.out⟩
            case measure => simp [intOf]; omega
    · have hkn : k = n := by omega
      subst hkn
      have HT : Hid (R = true) := Lib.hid (HGOOD.out fun j hj => HOK.out j hj (by have := HLN.out; omega))
      have hge' : ¬ (k : Int) < (k : Int) := by omega
      go_wp2
      go_ret
      exact ⟨by rw [HT.out]; rfl, HBR.out⟩

set_option maxRecDepth 100000 in
set_option maxHeartbeats 2000000 in
theorem numbers_any (A : Option Addr) (n c B : Nat) (xs : List Int) (w : World) (h : HoldsI w B A n xs) (hB : B ≤ w.heap.size) (hn : n ≤ 9223372036854775806) :
    Calls Try.prog 49 #[.slice A n c] w fun e w' => e = .returned (.bool (numB xs)) ∧ Below w.heap.size w w' := by
  have hln := h.1
  have hgood : NumOk xs → numB xs = true := (numB_iff xs).2
  have hbad0 : ¬ NumOk xs → numB xs = false := numB_not
  generalize numB xs = R at hgood hbad0 ⊢
  have HGOOD := Lib.hid hgood; clear hgood
  have HBAD0 := Lib.hid hbad0; clear hbad0
  have H := Lib.hid h; clear h
  have HLN := Lib.hid hln; clear hln
  have HB := Lib.hid hB; clear hB
  go_enter Try.func49, Try.ntmps49
  go_wp2
  go_loopw [3] (fun i wr => ∃ k : Nat, k ≤ n ∧ i = .int .i64 (k : Int) ∧ (∀ j, (hj : j < xs.length) → j < k → 1 ≤ xs[j] ∧ xs[j] < 1024 ∧ xs[j] ∉ xs.take j) ∧ Below w.heap.size w wr) (fun i _ => n - (intOf i).toNat)
  case atStart => exact ⟨0, Nat.zero_le _, rfl, fun j _ h => absurd h (by omega), Below.refl _ _⟩
  case round =>
    obtain ⟨k, hk, rfl, hok, hbr⟩ := hrel
    have HOK := Lib.hid hok; clear hok
    have HBR := Lib.hid hbr; clear hbr
    rcases Nat.lt_or_ge k n with hlt | hge
    · have hkl : k < xs.length := by have := HLN.out; omega
      obtain ⟨b, off, rfl, hbB, hcl⟩ := H.out.2 (by omega)
      have hcell : ∀ j, (hj : j < xs.length) → ∀ V, Below w.heap.size w V → V.cell? ⟨b, off + j, none⟩ = some (.int .i64 xs[j]) := fun j hj V hV => ((hV.mono HB.out).cell (p := ⟨b, off + j, none⟩) hbB).trans (hcl j hj)
      have hx := hcell k hkl wr HBR.out
      have hbad : ¬ (1 ≤ xs[k] ∧ xs[k] < 1024 ∧ xs[k] ∉ xs.take k) → R = false := fun h1 => HBAD0.out fun h2 => h1 (h2 k hkl)
      have hnx : 1 ≤ xs[k] → xs[k] < 1024 → xs[k] ∉ xs.take k → ∀ j, (hj : j < xs.length) → j < k + 1 → 1 ≤ xs[j] ∧ xs[j] < 1024 ∧ xs[j] ∉ xs.take j := fun h1 h2 h3 j hj hlt => by
        rcases Nat.lt_or_ge j k with h' | h'
        · exact HOK.out j hj h'
        · have hjk : j = k := by omega
          subst hjk
          exact ⟨h1, h2, h3⟩
      have hcellk := fun V hV => hcell k hkl V hV
      obtain ⟨x, hxe⟩ : ∃ x, x = xs[k] := ⟨_, rfl⟩
      rw [← hxe] at hx hbad hnx
      have hcellk : ∀ V, Below w.heap.size w V → V.cell? ⟨b, off + k, none⟩ = some (.int .i64 x) := by rw [hxe]; exact hcellk
      have HNX := Lib.hid hnx; clear hnx
      have HBAD := Lib.hid hbad; clear hbad
      have HCELL := Lib.hid hcell; clear hcell
      have HCK := Lib.hid hcellk; clear hcellk
      clear hcl hxe
      have hk0 : (0 : Int) ≤ (k : Int) := by omega
      have hkn : (k : Int) < (n : Int) := by omega
      by_cases h1 : x < 1
      · have HF := Lib.hid (HBAD.out (fun h => by omega))
        go_wp2
        go_ret
        exact ⟨by rw [HF.out]; rfl, HBR.out⟩
      · by_cases h2 : 1024 ≤ x
        · have HF := Lib.hid (HBAD.out (fun h => by omega))
          go_wp2
          go_ret
          exact ⟨by rw [HF.out]; rfl, HBR.out⟩
        · go_wp2
          clear hx
          go_loopw [4] (fun i wr2 => ∃ j : Nat, j ≤ k ∧ i = .int .i64 (j : Int) ∧ x ∉ xs.take j ∧ Below w.heap.size w wr2) (fun i _ => k - (intOf i).toNat)
          case atStart => exact ⟨0, Nat.zero_le _, rfl, by simp, HBR.out⟩
          case round =>
            obtain ⟨j, hj, rfl, hno, hb2⟩ := hrel
            have HNO := Lib.hid hno; clear hno
            have HB2 := Lib.hid hb2; clear hb2
            rcases Nat.lt_or_ge j k with hjk | hjk
            · have hjl : j < xs.length := by omega
              have ht := take_snoc hjl
              obtain ⟨y, hye⟩ : ∃ y, y = xs[j] := ⟨_, rfl⟩
              have hs9 : ∀ V, Below wr.heap.size wr V → V.cell? ⟨b, off + j, none⟩ = some (.int .i64 y) ∧ V.cell? ⟨b, off + k, none⟩ = some (.int .i64 x) := fun V hV => by
                have hu : Below w.heap.size w V := HB2.out.trans (hV.mono HB2.out.size)
                exact ⟨by rw [hye]; exact HCELL.out j hjl V hu, HCK.out V hu⟩
              rw [← hye] at ht
              have hyin : y ∈ xs.take k := by
                rw [hye]
                exact List.mem_take_iff_getElem.2 ⟨j, by omega, rfl⟩
              have HY := Lib.hid hyin; clear hyin
              have HT := Lib.hid ht; clear ht
              have HS9 := Lib.hid hs9; clear hs9 hye
              have hj0 : (0 : Int) ≤ (j : Int) := by omega
              have hj1 : (j : Int) < (k : Int) := by omega
              have hj2 : (j : Int) < (n : Int) := by omega
              by_cases hxy : y = x
              · have HF := Lib.hid (HBAD.out (fun h => h.2.2 (hxy ▸ HY.out)))
                subst hxy
                go_wp2_with fail
                refine wp_region_E (fun V => Below wr.heap.size wr V) 99 rfl ?_
                have hS := (show Below wr.heap.size wr wr.drew from (Below.refl _ wr).drew)
                refine wpE_takeF 0 ⟨some 28, _, _, _, _, _⟩ (v := ?_) (by decide) rfl (by kernel_rfl) (by kernel_rfl) (by kernel_rfl) (fun _ _ _ h => h) hS (Or.inl ⟨by kernel_rfl, ?_⟩) ?_
                rotate_left
                · (intro V hSw; obtain ⟨hq1, hq2⟩ := HS9.out V hSw; go_simp; try with_reducible rfl)
                try simp only [Act.put]
                refine wpE_takeF 1 ⟨some 29, _, _, _, _, _⟩ (v := ?_) (by decide) rfl (by kernel_rfl) (by kernel_rfl) (by kernel_rfl) (fun _ _ _ h => h) hS (Or.inl ⟨by kernel_rfl, ?_⟩) ?_
                rotate_left
                · (intro V hSw; obtain ⟨hq1, hq2⟩ := HS9.out V hSw; go_simp; try with_reducible rfl)
                try simp only [Act.put]
                refine wpE_takeF 2 ⟨some 30, _, _, _, _, _⟩ (v := ?_) (by decide) rfl (by kernel_rfl) (by kernel_rfl) (by kernel_rfl) (fun _ _ _ h => h) hS (Or.inl ⟨by kernel_rfl, ?_⟩) ?_
                rotate_left
                · (intro V hSw; obtain ⟨hq1, hq2⟩ := HS9.out V hSw; go_simp; try with_reducible rfl)
                try simp only [Act.put]
                refine wpE_takeF 3 ⟨some 31, _, _, _, _, _⟩ (v := ?_) (by decide) rfl (by kernel_rfl) (by kernel_rfl) (by kernel_rfl) (fun _ _ _ h => h) hS (Or.inl ⟨by kernel_rfl, ?_⟩) ?_
                rotate_left
                · (intro V hSw; obtain ⟨hq1, hq2⟩ := HS9.out V hSw; go_simp; try with_reducible rfl)
                try simp only [Act.put]
                refine wpE_takeF 4 ⟨some 32, _, _, _, _, _⟩ (v := ?_) (by decide) rfl (by kernel_rfl) (by kernel_rfl) (by kernel_rfl) (fun _ _ _ h => h) hS (Or.inl ⟨by kernel_rfl, ?_⟩) ?_
                rotate_left
                · (intro V hSw; obtain ⟨hq1, hq2⟩ := HS9.out V hSw; go_simp; try with_reducible rfl)
                try simp only [Act.put]
                refine wpE_takeF 5 ⟨some 33, _, _, _, _, _⟩ (v := ?_) (by decide) rfl (by kernel_rfl) (by kernel_rfl) (by kernel_rfl) (fun _ _ _ h => h) hS (Or.inl ⟨by kernel_rfl, ?_⟩) ?_
                rotate_left
                · (intro V hSw; obtain ⟨hq1, hq2⟩ := HS9.out V hSw; go_simp; try with_reducible rfl)
                try simp only [Act.put]
                refine wpE_takeF 6 ⟨some 34, _, _, _, _, _⟩ (v := ?_) (by decide) rfl (by kernel_rfl) (by kernel_rfl) (by kernel_rfl) (fun _ _ _ h => h) hS (Or.inl ⟨by kernel_rfl, ?_⟩) ?_
                rotate_left
                · (intro V hSw; obtain ⟨hq1, hq2⟩ := HS9.out V hSw; go_simp; try with_reducible rfl)
                try simp only [Act.put]
                refine wpE_takeF 7 ⟨some 35, _, _, _, _, _⟩ (v := ?_) (by decide) rfl (by kernel_rfl) (by kernel_rfl) (by kernel_rfl) (fun _ _ _ h => h) hS (Or.inl ⟨by kernel_rfl, ?_⟩) ?_
                rotate_left
                · (intro V hSw; obtain ⟨hq1, hq2⟩ := HS9.out V hSw; go_simp; try with_reducible rfl)
                try simp only [Act.put]
                refine wpE_takeF 8 ⟨some 36, _, _, _, _, _⟩ (v := ?_) (by decide) rfl (by kernel_rfl) (by kernel_rfl) (by kernel_rfl) (fun _ _ _ h => h) hS (Or.inl ⟨by kernel_rfl, ?_⟩) ?_
                rotate_left
                · (intro V hSw; obtain ⟨hq1, hq2⟩ := HS9.out V hSw; go_simp; try with_reducible rfl)
                try simp only [Act.put]
                refine wpE_done (by kernel_rfl) ?_ _
                try simp only [List.setIfInBounds_toArray, List.set_cons_succ, List.set_cons_zero]
                go_wp2
                go_ret
                exact ⟨by rw [HF.out]; rfl, HB2.out.drew⟩
              · have hyx : (y == x) = false := beq_false_of_ne hxy
                have hno : x ∉ xs.take (j + 1) := by
                  rw [HT.out, List.mem_append, List.mem_singleton]
                  rintro (h | h)
                  · exact HNO.out h
                  · exact hxy h.symm
                have HNO2 := Lib.hid hno; clear hno hxy
                go_wp2_with fail
                refine wp_region_E (fun V => Below wr.heap.size wr V) 99 rfl ?_
                have hS := (show Below wr.heap.size wr wr.drew from (Below.refl _ wr).drew)
                refine wpE_takeF 0 ⟨some 28, _, _, _, _, _⟩ (v := ?_) (by decide) rfl (by kernel_rfl) (by kernel_rfl) (by kernel_rfl) (fun _ _ _ h => h) hS (Or.inl ⟨by kernel_rfl, ?_⟩) ?_
                rotate_left
                · (intro V hSw; obtain ⟨hq1, hq2⟩ := HS9.out V hSw; go_simp; try with_reducible rfl)
                try simp only [Act.put]
                refine wpE_takeF 1 ⟨some 29, _, _, _, _, _⟩ (v := ?_) (by decide) rfl (by kernel_rfl) (by kernel_rfl) (by kernel_rfl) (fun _ _ _ h => h) hS (Or.inl ⟨by kernel_rfl, ?_⟩) ?_
                rotate_left
                · (intro V hSw; obtain ⟨hq1, hq2⟩ := HS9.out V hSw; go_simp; try with_reducible rfl)
                try simp only [Act.put]
                refine wpE_takeF 2 ⟨some 30, _, _, _, _, _⟩ (v := ?_) (by decide) rfl (by kernel_rfl) (by kernel_rfl) (by kernel_rfl) (fun _ _ _ h => h) hS (Or.inl ⟨by kernel_rfl, ?_⟩) ?_
                rotate_left
                · (intro V hSw; obtain ⟨hq1, hq2⟩ := HS9.out V hSw; go_simp; try with_reducible rfl)
                try simp only [Act.put]
                refine wpE_takeF 3 ⟨some 31, _, _, _, _, _⟩ (v := ?_) (by decide) rfl (by kernel_rfl) (by kernel_rfl) (by kernel_rfl) (fun _ _ _ h => h) hS (Or.inl ⟨by kernel_rfl, ?_⟩) ?_
                rotate_left
                · (intro V hSw; obtain ⟨hq1, hq2⟩ := HS9.out V hSw; go_simp; try with_reducible rfl)
                try simp only [Act.put]
                refine wpE_takeF 4 ⟨some 32, _, _, _, _, _⟩ (v := ?_) (by decide) rfl (by kernel_rfl) (by kernel_rfl) (by kernel_rfl) (fun _ _ _ h => h) hS (Or.inl ⟨by kernel_rfl, ?_⟩) ?_
                rotate_left
                · (intro V hSw; obtain ⟨hq1, hq2⟩ := HS9.out V hSw; go_simp; try with_reducible rfl)
                try simp only [Act.put]
                refine wpE_takeF 5 ⟨some 33, _, _, _, _, _⟩ (v := ?_) (by decide) rfl (by kernel_rfl) (by kernel_rfl) (by kernel_rfl) (fun _ _ _ h => h) hS (Or.inl ⟨by kernel_rfl, ?_⟩) ?_
                rotate_left
                · (intro V hSw; obtain ⟨hq1, hq2⟩ := HS9.out V hSw; go_simp; try with_reducible rfl)
                try simp only [Act.put]
                refine wpE_takeF 6 ⟨some 34, _, _, _, _, _⟩ (v := ?_) (by decide) rfl (by kernel_rfl) (by kernel_rfl) (by kernel_rfl) (fun _ _ _ h => h) hS (Or.inl ⟨by kernel_rfl, ?_⟩) ?_
                rotate_left
                · (intro V hSw; obtain ⟨hq1, hq2⟩ := HS9.out V hSw; go_simp; try with_reducible rfl)
                try simp only [Act.put]
                refine wpE_takeF 7 ⟨some 35, _, _, _, _, _⟩ (v := ?_) (by decide) rfl (by kernel_rfl) (by kernel_rfl) (by kernel_rfl) (fun _ _ _ h => h) hS (Or.inl ⟨by kernel_rfl, ?_⟩) ?_
                rotate_left
                · (intro V hSw; obtain ⟨hq1, hq2⟩ := HS9.out V hSw; go_simp; try with_reducible rfl)
                try simp only [Act.put]
                refine wpE_takeF 8 ⟨some 36, _, _, _, _, _⟩ (v := ?_) (by decide) rfl (by kernel_rfl) (by kernel_rfl) (by kernel_rfl) (fun _ _ _ h => h) hS (Or.inl ⟨by kernel_rfl, ?_⟩) ?_
                rotate_left
                · (intro V hSw; obtain ⟨hq1, hq2⟩ := HS9.out V hSw; go_simp; try with_reducible rfl)
                try simp only [Act.put]
                refine wpE_done (by kernel_rfl) ?_ _
                try simp only [List.setIfInBounds_toArray, List.set_cons_succ, List.set_cons_zero]
                go_wp2
                go_roundw
                case rel => exact ⟨j + 1, by omega, by go_num, HNO2.out, HB2.out.drew⟩
                case measure => simp [intOf]; omega
            · have hje : j = k := by omega
              subst hje
              have HN := Lib.hid (HNX.out (by omega) (by omega) HNO.out)
              have hjn : ¬ (j : Int) < (j : Int) := by omega
              go_wp2
              go_roundw
              case rel => exact ⟨j + 1, by omega, by go_num, HN.out, HB2.out⟩
              case measure => simp [intOf]; omega
    · have hkn : k = n := by omega
      subst hkn
      have HT : Hid (R = true) := Lib.hid (HGOOD.out fun j hj => HOK.out j hj (by have := HLN.out; omega))
      have hge' : ¬ (k : Int) < (k : Int) := by omega
      go_wp2
      go_ret
      exact ⟨by rw [HT.out]; rfl, HBR.out⟩
end Go.Proofs.Ytkhenchhafmlmaa.Ex
