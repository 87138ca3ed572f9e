/- The parts of a list: the iterator, and what it hands to a loop's body. -/
import Derived.Test.YtkhenchhafmlmaaExHands
namespace Go.Proofs.Ytkhenchhafmlmaa.Ex
set_option maxRecDepth 20000
open Go Go.RowKit Go.Shelf
open Go.Proofs.Ytkhenchhafmlmaa.Mem Go.Proofs.Ytkhenchhafmlmaa.Crc Go.Proofs.Ytkhenchhafmlmaa.Rec Go.Proofs.Ytkhenchhafmlmaa.Reg
attribute [local go_sem] Oper.semAt_some
attribute [local go_sem ↓] ldX_eq stX_eq

theorem results_x {fn : Func} {p : Tmp} (h : fn.results = #[.cell p 24]) (tmps : Array Value) (w : World) (g : Nat) (x : X)
    (hp : tmps.getD p undef = .pointer (some ⟨g, 0, none⟩)) (hg : VarX w g x) : (results fn tmps).run Try.prog w = .ok (.agg x.c) w := by
  have hl : (loadVar 24 ⟨g, 0, none⟩).run Try.prog w = .ok (.agg x.c) w := run_loadVar_row w g _ _ x.c (0, 0) _ hg Try.underlying24 rfl (by kernel_rfl)
  have hp' : tmps[p]?.getD undef = .pointer (some ⟨g, 0, none⟩) := by simpa using hp
  simp [results, h, hp', asAddr, hl]

set_option maxRecDepth 100000 in
theorem part_any (x : X) (hx : x.sm) (f t : Int) (hf : -1048576 ≤ f ∧ f ≤ 1048576) (ht : -1048576 ≤ t ∧ t ≤ 1048576) (w : World) :
    Calls Try.prog 65 #[.agg x.c, .int .i64 f, .int .i64 t] w fun E w' => E = .returned (.agg (part x f t).c) ∧ Below w.heap.size w w' := by
  obtain ⟨C, hC⟩ : ∃ C, C = x.c := ⟨_, rfl⟩
  obtain ⟨W, hW⟩ : ∃ W, W = w.alloc (.cells C 24) := ⟨_, rfl⟩
  have hz : W.heap.size = w.heap.size + 1 := by rw [hW]; simp
  have hbw : Below w.heap.size w W := by rw [hW]; exact (Below.refl _ _).alloc (Nat.le_refl _) _
  have hv : VarX W w.heap.size x := by rw [hW, hC]; exact VarX.new w x
  obtain ⟨W2, hW2⟩ : ∃ W2, W2 = W.alloc (.cells #[.int .i64 0, .int .i64 0, .int .i64 0, .bool false] 24) := ⟨_, rfl⟩
  have hv2 : VarX W2 w.heap.size x := hW2 ▸ hv.alloc _
  obtain ⟨q0, q1, -, q3⟩ := hv2.cells
  obtain ⟨Y, hY⟩ : ∃ Y : X, Y = part x f t := ⟨_, rfl⟩
  have hst := run_stX_new W Y
  rw [← hW2, hz] at hst
  obtain ⟨W3, hW3⟩ : ∃ W3, W3 = W.alloc (.cells Y.c 24) := ⟨_, rfl⟩
  have hv3 : VarX W3 (w.heap.size + 1) Y := by rw [hW3, ← hz]; exact VarX.new W Y
  have hb3 : Below w.heap.size w W3 := by rw [hW3]; exact hbw.alloc hbw.size _
  rw [← hW3] at hst
  have hyc : Y.c = #[.int .i64 f, .int .i64 (x.s + f - x.a), .int .i64 (t - f), .bool x.u] := by rw [hY]; rfl
  rw [hyc] at hst
  rw [← hC]
  have HY := Lib.hid hY; clear hY
  have HV3 := Lib.hid hv3; clear hv3
  have HB3 := Lib.hid hb3; clear hb3
  have hW2' : W2 = (w.alloc (.cells C 24)).alloc (.cells #[.int .i64 0, .int .i64 0, .int .i64 0, .bool false] 24) := by rw [hW2, hW]
  obtain ⟨⟨xa1, xa2⟩, ⟨xs1, xs2⟩, -⟩ := hx
  generalize x.a = a at q0 hst xa1 xa2
  generalize x.s = s at q1 hst xs1 xs2
  generalize x.u = u at q3 hst
  rw [hW2'] at q0 q1 q3 hst
  have HW2 := Lib.hid hW2'
  clear hW2' hW2 hW hW3 hyc hv hv2 hbw hz hC
  obtain ⟨f1, f2⟩ := hf
  obtain ⟨t1, t2⟩ := ht
  rw [← HY.out]
  go_enter Try.func65, Try.ntmps65
  go_wp2
  exact bodyPost_ret (results_x rfl _ _ (w.heap.size + 1) Y rfl HV3.out) rfl ⟨rfl, HB3.out⟩

set_option maxHeartbeats 2000000 in
theorem parts_mk (A : Option Addr) (n c : Nat) (f t : Int) (w : World) :
    Calls Try.prog 44 #[.slice A n c, .int .i64 f, .int .i64 t] w fun e w' => e = .returned (.func (.func 64) #[] #[.pointer (some ⟨w.heap.size, 0, none⟩), .pointer (some ⟨w.heap.size + 1, 0, none⟩), .pointer (some ⟨w.heap.size + 2, 0, none⟩)]) ∧ Below w.heap.size w w' ∧
      w'.heap[w.heap.size]? = some (.cells #[.slice A n c] 22 (0, 0)) ∧ w'.heap[w.heap.size + 1]? = some (.cells #[.int .i64 f] 3 (0, 0)) ∧ w'.heap[w.heap.size + 2]? = some (.cells #[.int .i64 t] 3 (0, 0)) ∧ w'.heap.size = w.heap.size + 3 := by
  obtain ⟨W1, hW1⟩ : ∃ W1, W1 = w.alloc (.cells #[.slice A n c] 22) := ⟨_, rfl⟩
  obtain ⟨W2, hW2⟩ : ∃ W2, W2 = W1.alloc (.cells #[.int .i64 f] 3) := ⟨_, rfl⟩
  obtain ⟨W3, hW3⟩ : ∃ W3, W3 = W2.alloc (.cells #[.int .i64 t] 3) := ⟨_, rfl⟩
  have z1 : W1.heap.size = w.heap.size + 1 := by rw [hW1]; simp
  have z2 : W2.heap.size = w.heap.size + 2 := by rw [hW2]; simp; omega
  have z3 : W3.heap.size = w.heap.size + 3 := by rw [hW3]; simp; omega
  have c1 : W1.heap[w.heap.size]? = some (.cells #[.slice A n c] 22 (0, 0)) := hW1 ▸ heap_alloc_new w _
  have c2 : W2.heap[w.heap.size + 1]? = some (.cells #[.int .i64 f] 3 (0, 0)) := by rw [hW2, ← z1]; exact heap_alloc_new W1 _
  have c3 : W3.heap[w.heap.size + 2]? = some (.cells #[.int .i64 t] 3 (0, 0)) := by rw [hW3, ← z2]; exact heap_alloc_new W2 _
  have d1 : W3.heap[w.heap.size]? = some (.cells #[.slice A n c] 22 (0, 0)) := by
    rw [hW3, Below.heap_alloc _ _ _ (by omega), hW2, Below.heap_alloc _ _ _ (by omega)]; exact c1
  have d2 : W3.heap[w.heap.size + 1]? = some (.cells #[.int .i64 f] 3 (0, 0)) := by
    rw [hW3, Below.heap_alloc _ _ _ (by omega)]; exact c2
  have hb : Below w.heap.size w W3 := by
    rw [hW3, hW2, hW1]
    exact (((Below.refl _ w).alloc (Nat.le_refl _) _).alloc (by simp) _).alloc (by simp; omega) _
  have hF : W3 = ((w.alloc (.cells #[.slice A n c] 22)).alloc (.cells #[.int .i64 f] 3)).alloc (.cells #[.int .i64 t] 3) := by rw [hW3, hW2, hW1]
  have HR : Hid (Below w.heap.size w W3 ∧ W3.heap[w.heap.size]? = some (.cells #[.slice A n c] 22 (0, 0)) ∧ W3.heap[w.heap.size + 1]? = some (.cells #[.int .i64 f] 3 (0, 0)) ∧ W3.heap[w.heap.size + 2]? = some (.cells #[.int .i64 t] 3 (0, 0)) ∧ W3.heap.size = w.heap.size + 3) := Lib.hid ⟨hb, d1, d2, c3, z3⟩
  rw [hF] at HR
  clear hF hb d1 d2 c1 c2 c3 z1 z2 z3 hW1 hW2 hW3
  go_enter Try.func44, Try.ntmps44
  go_wp2
  go_ret
  exact ⟨rfl, HR.out⟩

/-! ### The iterator -/
def partV (p : X × Bool) : Array Value := #[.agg p.1.c, .bool p.2]
/-- What a loop that keeps its lists in the boxes b9 and b10 may turn: these, and the rows that they name. -/
def Tch (b9 b10 : Nat) (V : World) (q : Nat) : Prop := q = b9 ∨ q = b10 ∨ ∃ v ty, (V.heap[b9]? = some (.cells #[v] ty (0, 0)) ∨ V.heap[b10]? = some (.cells #[v] ty (0, 0))) ∧ v.ownBlock = some q
def KpT (b9 b10 : Nat) (V V' : World) : Prop := b9 < V.heap.size ∧ b10 < V.heap.size → V.heap.size ≤ V'.heap.size ∧ (∀ i cs ty z, V.heap[i]? = some (.cells cs ty z) → ¬ Tch b9 b10 V i → V'.heap[i]? = V.heap[i]?) ∧ ∀ q, Tch b9 b10 V' q → Tch b9 b10 V q ∨ V.heap.size ≤ q
def ZT (b9 b10 : Nat) (V : World) : Prop := (b9 < V.heap.size ∧ b10 < V.heap.size) ∧ ∀ q, Tch b9 b10 V q → q < V.heap.size
theorem KpT.trans {b9 b10 : Nat} {A B C : World} (h : KpT b9 b10 A B) (k : KpT b9 b10 B C) : KpT b9 b10 A C := by
  intro hb
  obtain ⟨h1, h2, h3⟩ := h hb
  obtain ⟨k1, k2, k3⟩ := k ⟨by omega, by omega⟩
  refine ⟨Nat.le_trans h1 k1, fun i cs ty z hi hn => ?_, fun q hq => ?_⟩
  · have e := h2 i cs ty z hi hn
    rw [← e]
    refine k2 i cs ty z (e.trans hi) (fun ht => ?_)
    rcases h3 i ht with h | h
    · exact hn h
    · have := (Array.getElem?_eq_some_iff.1 hi).1; omega
  · rcases k3 q hq with h | h
    · exact h3 q h
    · exact .inr (by omega)
theorem tch_of_boxes {b9 b10 : Nat} {V V' : World} (h9 : V'.heap[b9]? = V.heap[b9]?) (h10 : V'.heap[b10]? = V.heap[b10]?) (q : Nat) : Tch b9 b10 V' q ↔ Tch b9 b10 V q := by
  unfold Tch
  rw [h9, h10]
theorem KpT.of_below {b9 b10 : Nat} {A B : World} (h : Below A.heap.size A B) : KpT b9 b10 A B := by
  rintro ⟨h9, h10⟩
  exact ⟨h.size, fun i cs ty z hi _ => h.block i (Array.getElem?_eq_some_iff.1 hi).1, fun q hq => .inl ((tch_of_boxes (h.block _ h9) (h.block _ h10) q).1 hq)⟩
theorem KpT.put {b9 b10 : Nat} {W : World} {q : Nat} {o o' : Obj} (ho : W.heap[q]? = some o) (hc : o.isCells = false) (h9 : b9 ≠ q) (h10 : b10 ≠ q) : KpT b9 b10 W (W.putObj q o') := by
  rintro ⟨_, _⟩
  refine ⟨by simp, fun i cs ty z hi _ => World.putObj_heap_other (fun e => ?_), fun r hr => .inl ((tch_of_boxes (World.putObj_heap_other h9) (World.putObj_heap_other h10) r).1 hr)⟩
  subst e
  rw [ho] at hi
  injection hi with hi
  rw [hi] at hc
  cases hc
theorem ZT.below {b9 b10 : Nat} {A B : World} (h : ZT b9 b10 A) (hb : Below A.heap.size A B) : ZT b9 b10 B :=
  ⟨⟨Nat.lt_of_lt_of_le h.1.1 hb.size, Nat.lt_of_lt_of_le h.1.2 hb.size⟩, fun q hq => Nat.lt_of_lt_of_le (h.2 q ((tch_of_boxes (hb.block _ h.1.1) (hb.block _ h.1.2) q).1 hq)) hb.size⟩
/-- A block of cells that was made behind all that the loop may turn stays as it was. -/
theorem KpT.block {b9 b10 : Nat} {A B V : World} (hz : ZT b9 b10 A) (hb : Below A.heap.size A B) (hk : KpT b9 b10 B V) {i : Nat} {cs : Array Value} {ty : TypeId} {z : Nat × Nat} (hi : B.heap[i]? = some (.cells cs ty z)) (hge : A.heap.size ≤ i) : V.heap[i]? = some (.cells cs ty z) := by
  obtain ⟨_, h2, _⟩ := hk ⟨Nat.lt_of_lt_of_le hz.1.1 hb.size, Nat.lt_of_lt_of_le hz.1.2 hb.size⟩
  rw [h2 i cs ty z hi (fun ht => ?_)]
  · exact hi
  · have := hz.2 i ((tch_of_boxes (hb.block _ hz.1.1) (hb.block _ hz.1.2) i).1 ht)
    omega
theorem cells_of_cell {w : World} {p : Addr} {v : Value} (h : w.cell? p = some v) : ∃ cs ty z, w.heap[p.block]? = some (.cells cs ty z) := by
  unfold World.cell? at h
  split at h
  · rename_i cs ty z hh
    exact ⟨cs, ty, z, hh⟩
  · cases h

/-- A store of a whole extent into a variable of one's own. -/
theorem run_stX_at (W : World) (g : Nat) (x y : X) (hg : VarX W g y) :
    ∃ W', (stX (.pointer (some ⟨g, 0, none⟩)) (.agg x.c)).run Try.prog W = .ok () W' ∧ VarX W' g x ∧ (∀ B, B ≤ g → Below B W W') := by
  have hs := run_storeAt_mid (P := Try.prog) W g 0 24 x.c ?_ (by kernel_rfl) (by simp [X.c, Value.oneCell'])
  · refine ⟨_, hs, ?_, fun B hB => setCells_below g _ _ _ _ _ hB (Below.refl B W)⟩
    show (W.setCells g 0 _).heap[g]? = _
    rw [setCells_heap g _ 0 W _ _ hg (by exact Nat.le_refl _)]
    rfl
  · intro j hj
    have : j < y.c.size := hj
    rw [Nat.zero_add]
    exact ⟨by rw [cell_of_row _ _ _ _ _ _ hg, Array.getElem?_eq_getElem this]; rfl, frozen_of_row _ _ _ _ _ hg⟩

theorem clamp_max (fr a : Int) (ts : Array TypeId) (ty : TypeId) (W : World) : (Builtin.max_ ts ty #[.int .i64 fr, .int .i64 a]).run Try.prog W = .ok (.int .i64 (max fr a)) W := by
  rw [run_max_int2]
  congr 2
  split <;> omega
theorem clamp_min (fr a : Int) (ts : Array TypeId) (ty : TypeId) (W : World) : (Builtin.min_ ts ty #[.int .i64 fr, .int .i64 a]).run Try.prog W = .ok (.int .i64 (min fr a)) W := by
  rw [run_min_int2]
  congr 2
  split <;> omega
theorem clamp_ran (v lo hi : Int) (h : lo ≤ hi) : lo ≤ clampI v lo hi ∧ clampI v lo hi ≤ hi := by unfold clampI; omega

set_option maxRecDepth 100000 in
set_option maxHeartbeats 4000000 in
theorem parts_hands (n1 : Nat) (hn1 : 1 ≤ n1) (Bl B n c b9 b10 : Nat) (A : Option Addr) (L : List X) (f t : Int) (w : World)
    (h1 : w.heap[Bl]? = some (.cells #[.slice A n c] 22 (0, 0))) (h2 : w.heap[Bl + 1]? = some (.cells #[.int .i64 f] 3 (0, 0))) (h3 : w.heap[Bl + 2]? = some (.cells #[.int .i64 t] 3 (0, 0)))
    (h : HoldsX w B A n L) (hmay : ∀ x ∈ L, x.may = true) (hn : n ≤ 60) (hB9 : B ≤ b9) (hB10 : B ≤ b10) (h9 : b9 < Bl) (h10 : b10 < Bl) (hT0 : ∀ q, Tch b9 b10 w q → q = b9 ∨ q = b10) :
    Hands Fence.wide n1 Try.prog 64 #[] #[.pointer (some ⟨Bl, 0, none⟩), .pointer (some ⟨Bl + 1, 0, none⟩), .pointer (some ⟨Bl + 2, 0, none⟩)] partV (KpT b9 b10) (ZT b9 b10) (fun pre x _ _ => ∃ rest, cuts L f t = pre ++ x :: rest) (fun xs => xs = cuts L f t) w := by
  intro l J W hW hJb hJZ hY hJ0
  have hln := h.1
  have hbl : Bl < w.heap.size := (Array.getElem?_eq_some_iff.1 h1).1
  have hbl2 : Bl + 2 < w.heap.size := (Array.getElem?_eq_some_iff.1 h3).1
  have hkeep : ∀ V, KpT b9 b10 W V → V.cell? ⟨Bl, 0, none⟩ = some (.slice A n c) ∧ V.cell? ⟨Bl + 1, 0, none⟩ = some (.int .i64 f) ∧ V.cell? ⟨Bl + 2, 0, none⟩ = some (.int .i64 t) ∧ HoldsX V B A n L := fun V hV => by
    have hws := hW.size
    obtain ⟨_, k2, _⟩ := hV ⟨by omega, by omega⟩
    have hTW : ∀ q, Tch b9 b10 W q → q = b9 ∨ q = b10 := fun q hq => hT0 q ((tch_of_boxes (hW.block _ (by omega)) (hW.block _ (by omega)) q).1 hq)
    have hbx : ∀ i cs ty z, w.heap[i]? = some (.cells cs ty z) → i ≠ b9 → i ≠ b10 → V.heap[i]? = some (.cells cs ty z) := fun i cs ty z hi n9 n10 => by
      have hi' := (hW.block i (Array.getElem?_eq_some_iff.1 hi).1).trans hi
      rw [k2 i cs ty z hi' (fun ht => by rcases hTW i ht with e | e; exact n9 e; exact n10 e)]
      exact hi'
    refine ⟨cell_of_row V _ 0 _ _ _ (hbx _ _ _ _ h1 (by omega) (by omega)), cell_of_row V _ 0 _ _ _ (hbx _ _ _ _ h2 (by omega) (by omega)), cell_of_row V _ 0 _ _ _ (hbx _ _ _ _ h3 (by omega) (by omega)), h.1, fun hn0 => ?_⟩
    obtain ⟨b, off, e, hlb, hc⟩ := h.2 hn0
    refine ⟨b, off, e, hlb, fun j hj k hk => ?_⟩
    have hcell := hc j hj k hk
    have hsome : ∃ v, (L[j]).c[k]? = some v := ⟨_, Array.getElem?_eq_getElem (by exact hk)⟩
    obtain ⟨v, hv⟩ := hsome
    obtain ⟨cs, ty, z, hcs⟩ := cells_of_cell (hcell.trans hv)
    rw [← hcell]
    exact World.cell?_of_block ((hbx b cs ty z hcs (by omega) (by omega)).trans hcs.symm)
  have HKEEP := Lib.hid hkeep; clear hkeep h1 h2 h3 h
  have HY := Lib.hid hY; clear hY
  have HJB := Lib.hid hJb; clear hJb
  have HJZ := Lib.hid hJZ; clear hJZ
  have HMAY := Lib.hid hmay; clear hmay
  have HLN := Lib.hid hln; clear hln
  have HT0 := Lib.hid hT0; clear hT0
  have HW := Lib.hid hW; clear hW
  obtain ⟨b0, -, -, -⟩ := HKEEP.out W (KpT.of_below (Below.refl _ W))
  refine callsIn_of_wp Try.func64 rfl trivial ?_ rfl
  simp only [Try.ntmps64, List.size_toArray, List.length_cons, List.length_nil, Nat.reduceAdd, Nat.reduceSub, Array.replicate_succ, Array.replicate_zero, List.push_toArray, List.append_toArray, List.nil_append, List.cons_append]
  gi_wp2
  gi_loopw [13] (fun i wr => ∃ k : Nat, k ≤ n ∧ i = .int .i64 (k : Int) ∧ J (cuts (L.take k) f t) wr ∧ KpT b9 b10 W wr) (fun i _ => n - (intOf i).toNat)
  case atStart => exact ⟨0, Nat.zero_le _, rfl, hJ0, KpT.of_below (Below.refl _ W)⟩
  case round =>
    obtain ⟨k, hk, rfl, hJ, hK⟩ := hrel
    clear b0 hJ0
    rcases Nat.lt_or_ge k n with hlt | hge
    rotate_left
    · obtain rfl : k = n := by omega
      have HJ := Lib.hid hJ; clear hJ
      have hfull : L.take k = L := List.take_of_length_le (by have := HLN.out; omega)
      have HFULL := Lib.hid hfull; clear hfull hK
      gi_wp2
      go_end0
      refine ⟨⟨_, rfl⟩, _, rfl, ?_⟩
      have := HJ.out
      rw [HFULL.out] at this
      exact this
    · obtain ⟨-, b1, b2, hh⟩ := HKEEP.out wr hK
      have hkl : k < L.length := by have := HLN.out; omega
      obtain ⟨b, off, rfl, hbB⟩ := hh.addr (by omega)
      obtain ⟨e, he⟩ : ∃ e, e = L[k] := ⟨_, rfl⟩
      have hem : e.may = true := HMAY.out e (he ▸ List.getElem_mem hkl)
      have hem' := may_iff.1 hem
      have hld := run_ldX_at hh k hkl (off + k * 4) rfl
      rw [← he] at hld
      have hst := run_stX_new wr e
      obtain ⟨W1, hW1⟩ : ∃ W1, W1 = wr.alloc (.cells e.c 24) := ⟨_, rfl⟩
      have hv1 : VarX W1 wr.heap.size e := hW1 ▸ VarX.new wr e
      have hbA : Below wr.heap.size wr W1 := hW1 ▸ (Below.refl _ wr).alloc (Nat.le_refl _) _
      have hz1 : W1.heap.size = wr.heap.size + 1 := by rw [hW1]; simp
      rw [← hW1] at hst
      have hcut : cuts (L.take (k + 1)) f t = cuts (L.take k) f t ++ cuts1 e f t := by
        unfold cuts
        rw [List.take_succ_eq_append_getElem hkl, List.flatMap_append, he]
        simp
      have HCUT := Lib.hid hcut; clear hcut
      have HALL : Hid (cuts L f t = cuts (L.take (k + 1)) f t ++ cuts (L.drop (k + 1)) f t) := Lib.hid (by unfold cuts; rw [← List.flatMap_append, List.take_append_drop])
      obtain ⟨x0, -, x2, -⟩ := hv1.cells
      have x1' : W1.cell? ⟨Bl + 1, 0, none⟩ = some (.int .i64 f) := (hbA.cell (p := ⟨Bl + 1, 0, none⟩) (block_lt_of_cell b1)).trans b1
      have x2' : W1.cell? ⟨Bl + 2, 0, none⟩ = some (.int .i64 t) := (hbA.cell (p := ⟨Bl + 2, 0, none⟩) (block_lt_of_cell b2)).trans b2
      obtain ⟨a, ha⟩ : ∃ a, a = e.a := ⟨_, rfl⟩
      obtain ⟨m, hm⟩ : ∃ m, m = e.n := ⟨_, rfl⟩
      rw [← ha] at x0
      rw [← hm] at x2
      have hr1 := clamp_max f a
      have hr2 := clamp_max t a
      have hr3 := clamp_min (max f a) (a + m)
      have hr4 := clamp_min (max t a) (a + m)
      have ham : 0 ≤ a ∧ 1 ≤ m ∧ a + m ≤ 256 := by omega
      obtain ⟨ham1, ham2, ham3⟩ := ham
      have hwm : IntKind.i64.wrap (a + m) = a + m := by rw [IntKind.wrap_i64]; omega
      have hk0 : (0 : Int) ≤ (k : Int) := by omega
      have hkn : (k : Int) < (n : Int) := by omega
      have HA := Lib.hid ha; clear ha
      have HM := Lib.hid hm; clear hm
      have HEM := Lib.hid hem; clear hem hem'
      have HE := Lib.hid he; clear he
      obtain ⟨C, hC⟩ : ∃ C, C = e.c := ⟨_, rfl⟩
      rw [← hC] at hld hst
      have HC := Lib.hid hC; clear hC
      have HBA := Lib.hid hbA; clear hbA
      have HV1 := Lib.hid hv1; clear hv1
      have HZ1 := Lib.hid hz1; clear hz1
      have HW1 := Lib.hid hW1; clear hW1
      have HJ := Lib.hid hJ; clear hJ
      have HK := Lib.hid hK; clear hK hh
      gi_wp2_with fail
      clear hld hst x0 x2 x1' x2' hr1 hr2 hr3 hr4 b1 b2 hwm
      obtain ⟨e1, he1⟩ : ∃ e1, e1 = min (max f a) (a + m) := ⟨_, rfl⟩
      obtain ⟨e2, he2⟩ : ∃ e2, e2 = min (max t a) (a + m) := ⟨_, rfl⟩
      obtain ⟨e3, he3⟩ : ∃ e3, e3 = a + m := ⟨_, rfl⟩
      rw [← he1, ← he2, ← he3]
      obtain ⟨W2, hW2⟩ : ∃ W2, W2 = W1.alloc (.cells #[.int .i64 a, .int .i64 e1, .int .i64 e2, .int .i64 e3] 93) := ⟨_, rfl⟩
      rw [← hW2]
      have hg8 : W2.heap[W1.heap.size]? = some (.cells #[.int .i64 a, .int .i64 e1, .int .i64 e2, .int .i64 e3] 93 (0, 0)) := hW2 ▸ heap_alloc_new W1 _
      have hv2 : VarX W2 wr.heap.size e := hW2 ▸ HV1.out.alloc _
      have hbA2 : Below wr.heap.size wr W2 := hW2 ▸ HBA.out.alloc HBA.out.size _
      have hZw := HJZ.out _ _ HJ.out
      have hran : 0 ≤ e1 ∧ e1 ≤ 256 ∧ 0 ≤ e2 ∧ e2 ≤ 256 ∧ e3 ≤ 256 ∧ 0 ≤ e3 ∧ 0 ≤ a ∧ a ≤ 256 := by omega
      have hcuts : cuts1 e f t = [(part e a e1, false), (part e e1 e2, true), (part e e2 e3, false)].filter fun p => decide (0 < p.1.n) := by
        rw [he1, he2, he3, HA.out, HM.out]; rfl
      have hbx : ∀ V, KpT b9 b10 W2 V → VarX V wr.heap.size e ∧ V.heap[W1.heap.size]? = some (.cells #[.int .i64 a, .int .i64 e1, .int .i64 e2, .int .i64 e3] 93 (0, 0)) := fun V hV =>
        ⟨KpT.block hZw hbA2 hV hv2 (Nat.le_refl _), KpT.block hZw hbA2 hV hg8 (by rw [HZ1.out]; omega)⟩
      have hpart : ∀ (x y : Int), (0 ≤ x ∧ x ≤ 256) → (0 ≤ y ∧ y ≤ 256) → ∀ V, Calls Try.prog 65 #[.agg C, .int .i64 x, .int .i64 y] V fun E w' => E = .returned (.agg (part e x y).c) ∧ Below V.heap.size V w' := fun x y hx hy V => by
        rw [HC.out]; exact part_any e (sm_of_may HEM.out) x y (by omega) (by omega) V
      have HPART := Lib.hid hpart; clear hpart
      have HBX := Lib.hid hbx; clear hbx
      have HCUTS := Lib.hid hcuts; clear hcuts
      have HRAN := Lib.hid hran; clear hran
      have HBA2 := Lib.hid hbA2; clear hbA2
      have HZW := Lib.hid hZw; clear hZw
      have HJ2 : Hid (J (cuts (L.take k) f t) W2) := Lib.hid (HJB.out _ _ _ HJ.out HBA2.out)
      have HE1 := Lib.hid he1; clear he1
      have HE2 := Lib.hid he2; clear he2
      have HE3 := Lib.hid he3; clear he3
      clear hW2 hg8 hv2
      obtain ⟨g6, hg6⟩ : ∃ g6, g6 = wr.heap.size := ⟨_, rfl⟩
      obtain ⟨g8, hg8⟩ : ∃ g8, g8 = W1.heap.size := ⟨_, rfl⟩
      rw [← hg6, ← hg8]
      rw [← hg6, ← hg8] at HBX
      have HG6 := Lib.hid hg6; clear hg6
      have HG8 := Lib.hid hg8; clear hg8
      clear ham1 ham2 ham3
      gi_loopw [38] (fun i wr => ∃ q : Nat, q ≤ 3 ∧ i = .int .i64 (q : Int) ∧ J (cuts (L.take k) f t ++ ([(part e a e1, false), (part e e1 e2, true), (part e e2 e3, false)].take q).filter fun p => decide (0 < p.1.n)) wr ∧ KpT b9 b10 W2 wr) (fun i _ => 3 - (intOf i).toNat)
      case atStart => exact ⟨0, Nat.zero_le _, rfl, by simpa using HJ2.out, KpT.of_below (Below.refl _ W2)⟩
      case round =>
        clear HJ2
        obtain ⟨q, hq, rfl, hJq, hKq⟩ := hrel
        rcases Nat.lt_or_ge q 3 with hq3 | hq3
        rotate_left
        · obtain rfl : q = 3 := by omega
          have hJk : J (cuts (L.take (k + 1)) f t) wr := by
            rw [HCUT.out, HCUTS.out]; exact hJq
          have HJK := Lib.hid hJk; clear hJk hJq
          have HKQ : Hid (KpT b9 b10 W wr) := Lib.hid ((HK.out.trans (KpT.of_below HBA2.out)).trans hKq)
          clear hKq
          gi_wp2
          go_roundw
          case rel => exact ⟨k + 1, by omega, by go_num, HJK.out, HKQ.out⟩
          case measure => simp [intOf]; omega
        · have hVW : ∀ V, Below wr.heap.size wr V → KpT b9 b10 W2 V := fun V hV => hKq.trans (KpT.of_below hV)
          have HVW := Lib.hid hVW; clear hVW hKq
          obtain ⟨k1, k2, k3, k4, k5, k6, k7, k8⟩ := HRAN.out
          rcases (show q = 0 ∨ q = 1 ∨ q = 2 by omega) with rfl | rfl | rfl
          · have hwq : IntKind.i64.wrap 1 = 1 := by decide
            have hs : ∀ V, Below wr.heap.size wr V → (ldX (.pointer (some ⟨g6, 0, none⟩))).run Try.prog V = .ok (.agg C) V ∧ V.cell? ⟨g8, 0, none⟩ = some (.int .i64 a) ∧ V.cell? ⟨g8, 1, none⟩ = some (.int .i64 e1) := fun V hV => by
              obtain ⟨y1, y2⟩ := HBX.out V (HVW.out V hV)
              refine ⟨?_, cell_of_row V _ 0 _ _ _ y2, cell_of_row V _ 1 _ _ _ y2⟩
              rw [HC.out]; exact y1.load
            have hcall := HPART.out a e1 (by omega) (by omega)
            have HS := Lib.hid hs; clear hs
            have HCALL := Lib.hid hcall; clear hcall
            clear k1 k2 k3 k4 k5 k6 k7 k8
            obtain ⟨Y, hY⟩ : ∃ Y, Y = part e a e1 := ⟨_, rfl⟩
            rw [← hY] at HCALL
            have hYn : Y.n = e1 - a := by rw [hY]; rfl
            have HY1 := Lib.hid hY; clear hY
            have hJ1 := hJq
            have HJQ := Lib.hid hJ1; clear hJ1 hJq
            obtain ⟨D, hD⟩ : ∃ D, D = Y.c := ⟨_, rfl⟩
            rw [← hD] at HCALL
            have HD := Lib.hid hD; clear hD
            obtain ⟨yn, hyn⟩ : ∃ yn, yn = Y.n := ⟨_, rfl⟩
            have HYN : Hid (yn = e1 - a) := Lib.hid (hyn.trans hYn)
            have HYN2 := Lib.hid hyn; clear hyn hYn
            gi_wp2_with fail
            refine wpIn_wide.2 ?_
            refine wp_region_E (fun V => Below wr.heap.size wr V) 10 rfl ?_
            have hS := (show Below wr.heap.size wr wr.drew from (Below.refl _ wr).drew)
            refine wpE_take 0 ⟨some 41, _, _, _, _, _⟩ (v := ?_) [8, 10] rfl (by kernel_rfl) (by kernel_rfl) (by kernel_rfl) (by kernel_rfl) (fun _ _ _ h => h) hS (Or.inl ⟨by kernel_rfl, ?_⟩) ?_
            rotate_left
            · (intro V hSw; obtain ⟨hq1, hq2, hq3⟩ := HS.out V hSw; go_simp; try with_reducible rfl)
            try simp only [Act.put]
            refine wpE_take 1 ⟨some 42, _, _, _, _, _⟩ (v := ?_) [2, 3, 8, 10] rfl (by kernel_rfl) (by kernel_rfl) (by kernel_rfl) (by kernel_rfl) (fun _ _ _ h => h) hS (Or.inl ⟨by kernel_rfl, ?_⟩) ?_
            rotate_left
            · (intro V hSw; obtain ⟨hq1, hq2, hq3⟩ := HS.out V hSw; go_simp; try with_reducible rfl)
            try simp only [Act.put]
            refine wpE_take 2 ⟨some 43, _, _, _, _, _⟩ (v := ?_) [3, 8, 10] rfl (by kernel_rfl) (by kernel_rfl) (by kernel_rfl) (by kernel_rfl) (fun _ _ _ h => h) hS (Or.inl ⟨by kernel_rfl, ?_⟩) ?_
            rotate_left
            · (intro V hSw; obtain ⟨hq1, hq2, hq3⟩ := HS.out V hSw; go_simp; try with_reducible rfl)
            try simp only [Act.put]
            refine wpE_take 3 ⟨some 44, _, _, _, _, _⟩ (v := ?_) [8, 10] rfl (by kernel_rfl) (by kernel_rfl) (by kernel_rfl) (by kernel_rfl) (fun _ _ _ h => h) hS (Or.inl ⟨by kernel_rfl, ?_⟩) ?_
            rotate_left
            · (intro V hSw; obtain ⟨hq1, hq2, hq3⟩ := HS.out V hSw; go_simp; try with_reducible rfl)
            try simp only [Act.put]
            refine wpE_take 4 ⟨some 45, _, _, _, _, _⟩ (v := ?_) [5, 6, 7, 8, 10] rfl (by kernel_rfl) (by kernel_rfl) (by kernel_rfl) (by kernel_rfl) (fun _ _ _ h => h) hS (Or.inl ⟨by kernel_rfl, ?_⟩) ?_
            rotate_left
            · (intro V hSw; obtain ⟨hq1, hq2, hq3⟩ := HS.out V hSw; go_simp; try with_reducible rfl)
            try simp only [Act.put]
            refine wpE_take 5 ⟨some 46, _, _, _, _, _⟩ (v := ?_) [6, 7, 8, 10] rfl (by kernel_rfl) (by kernel_rfl) (by kernel_rfl) (by kernel_rfl) (fun _ _ _ h => h) hS (Or.inl ⟨by kernel_rfl, ?_⟩) ?_
            rotate_left
            · (intro V hSw; obtain ⟨hq1, hq2, hq3⟩ := HS.out V hSw; go_simp; try with_reducible rfl)
            try simp only [Act.put]
            refine wpE_take 6 ⟨some 47, _, _, _, _, _⟩ (v := ?_) [7, 8, 10] rfl (by kernel_rfl) (by kernel_rfl) (by kernel_rfl) (by kernel_rfl) (fun _ _ _ h => h) hS (Or.inl ⟨by kernel_rfl, ?_⟩) ?_
            rotate_left
            · (intro V hSw; obtain ⟨hq1, hq2, hq3⟩ := HS.out V hSw; go_simp; try with_reducible rfl)
            try simp only [Act.put]
            refine wpE_take 7 ⟨some 48, _, _, _, _, _⟩ (v := ?_) [8, 10] rfl (by kernel_rfl) (by kernel_rfl) (by kernel_rfl) (by kernel_rfl) (fun _ _ _ h => h) hS (Or.inl ⟨by kernel_rfl, ?_⟩) ?_
            rotate_left
            · (intro V hSw; obtain ⟨hq1, hq2, hq3⟩ := HS.out V hSw; go_simp; try with_reducible rfl)
            try simp only [Act.put]
            refine wpE_pair 8 9 (o := ⟨some 49, _, _, _, _, _⟩) (o' := ⟨some 10, _, _, _, _, _⟩) (by kernel_rfl) rfl rfl (fun K' hK' => ?_) (fun K' hK' => ?_)
            · rw [if_pos (by kernel_rfl)]
              refine call_wp 65 _ _ _ _ rfl Try.func65 (by kernel_rfl) rfl _ ?hv _ (HCALL.out _) ?_
              case hv => simp only [List.map_toArray, List.map_cons, List.map_nil]; go_simp
              rintro E V1 ⟨rfl, hb1⟩
              have hS1 : Below wr.heap.size wr V1 := hS.trans (hb1.mono hS.size)
              refine ⟨_, rfl, ?_⟩
              refine hK'.out _ _ hS1 (fun _ => ?_)
              clear hK' K'
              try simp only [Act.put]
              refine wpE_one 9 (by kernel_rfl) rfl (fun K' hK' => ?_)
              go_simp
              refine hK'.out _ _ (hS1.alloc hS1.size _) (fun _ => ?_)
              clear hK' K'
              try simp only [Act.put]
              have hst := run_stX_new V1 Y
              obtain ⟨V3, hV3⟩ : ∃ V3, V3 = V1.alloc (.cells Y.c 24) := ⟨_, rfl⟩
              have HV3 : Hid (VarX V3 V1.heap.size Y) := Lib.hid (hV3 ▸ VarX.new V1 Y)
              have HB3 : Hid (Below wr.heap.size wr V3) := Lib.hid (hV3 ▸ hS1.alloc hS1.size _)
              rw [← hV3, ← HD.out] at hst
              clear hV3 hb1
              refine wpE_last (by kernel_rfl) rfl (fun K' hK' => ?_)
              go_simp
              refine hK'.out _ _ ?_
              clear hK' K'
              refine wpE_done (by kernel_rfl) ?_ _
              clear hst hwq
              obtain ⟨gv, hgv⟩ : ∃ gv, gv = V1.heap.size := ⟨_, rfl⟩
              rw [← hgv]
              rw [← hgv] at HV3
              clear hgv
              have l3 := HV3.out.load
              rw [← HD.out] at l3
              obtain ⟨-, -, y2, -⟩ := HV3.out.cells
              rw [← HYN2.out] at y2
              have hJ3 := HJB.out _ _ _ HJQ.out HB3.out
              have hstep : ([(part e a e1, false), (part e e1 e2, true), (part e e2 e3, false)].take 1).filter (fun p => decide (0 < p.1.n)) = (([(part e a e1, false), (part e e1 e2, true), (part e e2 e3, false)].take 0).filter (fun p => decide (0 < p.1.n))) ++ (if 0 < yn then [(Y, false)] else []) := by
                have e4 : ([(part e a e1, false), (part e e1 e2, true), (part e e2 e3, false)].take 1) = ([(part e a e1, false), (part e e1 e2, true), (part e e2 e3, false)].take 0) ++ [(Y, false)] := by rw [HY1.out]; rfl
                rw [e4, List.filter_append, HYN2.out]
                congr 1
                by_cases hy : 0 < Y.n
                · rw [if_pos hy]; simp [hy]
                · rw [if_neg hy]; simp [hy]
              have HSTEP := Lib.hid hstep; clear hstep
              have HJ3 := Lib.hid hJ3; clear hJ3
              rcases Decidable.em (0 < yn) with hy | hy
              · have hpre : ∃ rest, cuts L f t = (cuts (L.take k) f t ++ ([(part e a e1, false), (part e e1 e2, true), (part e e2 e3, false)].take 0).filter (fun p => decide (0 < p.1.n))) ++ (Y, false) :: rest := by
                  refine ⟨([(part e a e1, false), (part e e1 e2, true), (part e e2 e3, false)].drop 1).filter (fun p => decide (0 < p.1.n)) ++ cuts (L.drop (k + 1)) f t, ?_⟩
                  have hs := HSTEP.out
                  rw [if_pos hy] at hs
                  have hsp : [(part e a e1, false), (part e e1 e2, true), (part e e2 e3, false)].filter (fun p => decide (0 < p.1.n)) = ([(part e a e1, false), (part e e1 e2, true), (part e e2 e3, false)].take 1).filter (fun p => decide (0 < p.1.n)) ++ ([(part e a e1, false), (part e e1 e2, true), (part e e2 e3, false)].drop 1).filter (fun p => decide (0 < p.1.n)) := by rw [← List.filter_append, List.take_append_drop]
                  rw [HALL.out, HCUT.out, HCUTS.out, hsp, hs]
                  simp only [List.append_assoc, List.cons_append, List.nil_append]
                obtain ⟨fn, tmps, assign, body, hyl, hR⟩ := HY.out _ (Y, false) V3 V3 HJ3.out (Below.refl _ V3) hpre
                clear hpre
                dsimp only [partV] at hyl hR
                rw [← HD.out] at hyl
                gi_wp2
                refine hR.mono ?_
                rintro E V4 ⟨rfl, hJ4, hK4⟩
                have HJ4 : Hid (J (cuts (L.take k) f t ++ ([(part e a e1, false), (part e e1 e2, true), (part e e2 e3, false)].take 1).filter (fun p => decide (0 < p.1.n))) V4) := Lib.hid (by
                  rw [HSTEP.out, if_pos hy, ← List.append_assoc]; exact hJ4)
                have HK4 : Hid (KpT b9 b10 W2 V4) := Lib.hid ((HVW.out _ HB3.out).trans hK4)
                clear hyl hR hJ4 hK4 l3 y2 hy
                gi_wp2
                go_roundw
                case rel => exact ⟨1, by omega, by go_num, HJ4.out, HK4.out⟩
                case measure => simp [intOf]
              · have HJ4 : Hid (J (cuts (L.take k) f t ++ ([(part e a e1, false), (part e e1 e2, true), (part e e2 e3, false)].take 1).filter (fun p => decide (0 < p.1.n))) V3) := Lib.hid (by
                  rw [HSTEP.out, if_neg hy, List.append_nil]; exact HJ3.out)
                have HK4 : Hid (KpT b9 b10 W2 V3) := Lib.hid (HVW.out _ HB3.out)
                clear l3
                gi_wp2
                refine ⟨fun _ h => (by cases h), ?_⟩
                gi_wp2
                go_roundw
                case rel => exact ⟨1, by omega, by go_num, HJ4.out, HK4.out⟩
                case measure => simp [intOf]
            · go_simp
              refine hK'.out _ _ (hS.alloc hS.size _) (fun _ => ?_)
              clear hK' K'
              try simp only [Act.put]
              obtain ⟨U, hU⟩ : ∃ U, U = wr.drew.alloc (.cells #[.int .i64 0, .int .i64 0, .int .i64 0, .bool false] 24) := ⟨_, rfl⟩
              have hSU : Below wr.heap.size wr U := hU ▸ hS.alloc hS.size _
              have hvU : VarX U wr.heap.size x0 := hU ▸ VarX.new wr.drew x0
              refine wpE_one 8 (o := ⟨some 49, _, _, _, _, _⟩) (by kernel_rfl) rfl (fun K' hK' => ?_)
              rw [if_pos (by kernel_rfl)]
              refine call_wp 65 _ _ _ _ rfl Try.func65 (by kernel_rfl) rfl _ ?hv _ (HCALL.out _) ?_
              case hv => simp only [List.map_toArray, List.map_cons, List.map_nil]; go_simp
              rintro E V1 ⟨rfl, hb1⟩
              have hb1' : Below U.heap.size U V1 := by rw [hU]; exact hb1
              have hS1 : Below wr.heap.size wr V1 := hSU.trans (hb1'.mono hSU.size)
              have hv1 : VarX V1 wr.heap.size x0 := hvU.keep hb1' hvU.lt
              refine ⟨_, rfl, ?_⟩
              refine hK'.out _ _ hS1 (fun _ => ?_)
              clear hK' K'
              try simp only [Act.put]
              obtain ⟨V3, hst, hv3, hb3⟩ := run_stX_at V1 wr.heap.size Y x0 hv1
              have HV3 : Hid (VarX V3 wr.heap.size Y) := Lib.hid hv3
              have HB3 : Hid (Below wr.heap.size wr V3) := Lib.hid (hS1.trans (hb3 _ (Nat.le_refl _)))
              rw [← HD.out] at hst
              clear hU hSU hvU hb1 hb1' hv1 hv3 hb3
              refine wpE_last (by kernel_rfl) rfl (fun K' hK' => ?_)
              go_simp
              refine hK'.out _ _ ?_
              clear hK' K'
              refine wpE_done (by kernel_rfl) ?_ _
              clear hst hwq
              obtain ⟨gv, hgv⟩ : ∃ gv, gv = wr.heap.size := ⟨_, rfl⟩
              rw [← hgv]
              rw [← hgv] at HV3
              clear hgv
              have l3 := HV3.out.load
              rw [← HD.out] at l3
              obtain ⟨-, -, y2, -⟩ := HV3.out.cells
              rw [← HYN2.out] at y2
              have hJ3 := HJB.out _ _ _ HJQ.out HB3.out
              have hstep : ([(part e a e1, false), (part e e1 e2, true), (part e e2 e3, false)].take 1).filter (fun p => decide (0 < p.1.n)) = (([(part e a e1, false), (part e e1 e2, true), (part e e2 e3, false)].take 0).filter (fun p => decide (0 < p.1.n))) ++ (if 0 < yn then [(Y, false)] else []) := by
                have e4 : ([(part e a e1, false), (part e e1 e2, true), (part e e2 e3, false)].take 1) = ([(part e a e1, false), (part e e1 e2, true), (part e e2 e3, false)].take 0) ++ [(Y, false)] := by rw [HY1.out]; rfl
                rw [e4, List.filter_append, HYN2.out]
                congr 1
                by_cases hy : 0 < Y.n
                · rw [if_pos hy]; simp [hy]
                · rw [if_neg hy]; simp [hy]
              have HSTEP := Lib.hid hstep; clear hstep
              have HJ3 := Lib.hid hJ3; clear hJ3
              rcases Decidable.em (0 < yn) with hy | hy
              · have hpre : ∃ rest, cuts L f t = (cuts (L.take k) f t ++ ([(part e a e1, false), (part e e1 e2, true), (part e e2 e3, false)].take 0).filter (fun p => decide (0 < p.1.n))) ++ (Y, false) :: rest := by
                  refine ⟨([(part e a e1, false), (part e e1 e2, true), (part e e2 e3, false)].drop 1).filter (fun p => decide (0 < p.1.n)) ++ cuts (L.drop (k + 1)) f t, ?_⟩
                  have hs := HSTEP.out
                  rw [if_pos hy] at hs
                  have hsp : [(part e a e1, false), (part e e1 e2, true), (part e e2 e3, false)].filter (fun p => decide (0 < p.1.n)) = ([(part e a e1, false), (part e e1 e2, true), (part e e2 e3, false)].take 1).filter (fun p => decide (0 < p.1.n)) ++ ([(part e a e1, false), (part e e1 e2, true), (part e e2 e3, false)].drop 1).filter (fun p => decide (0 < p.1.n)) := by rw [← List.filter_append, List.take_append_drop]
                  rw [HALL.out, HCUT.out, HCUTS.out, hsp, hs]
                  simp only [List.append_assoc, List.cons_append, List.nil_append]
                obtain ⟨fn, tmps, assign, body, hyl, hR⟩ := HY.out _ (Y, false) V3 V3 HJ3.out (Below.refl _ V3) hpre
                clear hpre
                dsimp only [partV] at hyl hR
                rw [← HD.out] at hyl
                gi_wp2
                refine hR.mono ?_
                rintro E V4 ⟨rfl, hJ4, hK4⟩
                have HJ4 : Hid (J (cuts (L.take k) f t ++ ([(part e a e1, false), (part e e1 e2, true), (part e e2 e3, false)].take 1).filter (fun p => decide (0 < p.1.n))) V4) := Lib.hid (by
                  rw [HSTEP.out, if_pos hy, ← List.append_assoc]; exact hJ4)
                have HK4 : Hid (KpT b9 b10 W2 V4) := Lib.hid ((HVW.out _ HB3.out).trans hK4)
                clear hyl hR hJ4 hK4 l3 y2 hy
                gi_wp2
                go_roundw
                case rel => exact ⟨1, by omega, by go_num, HJ4.out, HK4.out⟩
                case measure => simp [intOf]
              · have HJ4 : Hid (J (cuts (L.take k) f t ++ ([(part e a e1, false), (part e e1 e2, true), (part e e2 e3, false)].take 1).filter (fun p => decide (0 < p.1.n))) V3) := Lib.hid (by
                  rw [HSTEP.out, if_neg hy, List.append_nil]; exact HJ3.out)
                have HK4 : Hid (KpT b9 b10 W2 V3) := Lib.hid (HVW.out _ HB3.out)
                clear l3
                gi_wp2
                refine ⟨fun _ h => (by cases h), ?_⟩
                gi_wp2
                go_roundw
                case rel => exact ⟨1, by omega, by go_num, HJ4.out, HK4.out⟩
                case measure => simp [intOf]
          · have hwq : IntKind.i64.wrap 2 = 2 := by decide
            have hs : ∀ V, Below wr.heap.size wr V → (ldX (.pointer (some ⟨g6, 0, none⟩))).run Try.prog V = .ok (.agg C) V ∧ V.cell? ⟨g8, 1, none⟩ = some (.int .i64 e1) ∧ V.cell? ⟨g8, 2, none⟩ = some (.int .i64 e2) := fun V hV => by
              obtain ⟨y1, y2⟩ := HBX.out V (HVW.out V hV)
              refine ⟨?_, cell_of_row V _ 1 _ _ _ y2, cell_of_row V _ 2 _ _ _ y2⟩
              rw [HC.out]; exact y1.load
            have hcall := HPART.out e1 e2 (by omega) (by omega)
            have HS := Lib.hid hs; clear hs
            have HCALL := Lib.hid hcall; clear hcall
            clear k1 k2 k3 k4 k5 k6 k7 k8
            obtain ⟨Y, hY⟩ : ∃ Y, Y = part e e1 e2 := ⟨_, rfl⟩
            rw [← hY] at HCALL
            have hYn : Y.n = e2 - e1 := by rw [hY]; rfl
            have HY1 := Lib.hid hY; clear hY
            have hJ1 := hJq
            have HJQ := Lib.hid hJ1; clear hJ1 hJq
            obtain ⟨D, hD⟩ : ∃ D, D = Y.c := ⟨_, rfl⟩
            rw [← hD] at HCALL
            have HD := Lib.hid hD; clear hD
            obtain ⟨yn, hyn⟩ : ∃ yn, yn = Y.n := ⟨_, rfl⟩
            have HYN : Hid (yn = e2 - e1) := Lib.hid (hyn.trans hYn)
            have HYN2 := Lib.hid hyn; clear hyn hYn
            gi_wp2_with fail
            refine wpIn_wide.2 ?_
            refine wp_region_E (fun V => Below wr.heap.size wr V) 10 rfl ?_
            have hS := (show Below wr.heap.size wr wr.drew from (Below.refl _ wr).drew)
            refine wpE_take 0 ⟨some 41, _, _, _, _, _⟩ (v := ?_) [8, 10] rfl (by kernel_rfl) (by kernel_rfl) (by kernel_rfl) (by kernel_rfl) (fun _ _ _ h => h) hS (Or.inl ⟨by kernel_rfl, ?_⟩) ?_
            rotate_left
            · (intro V hSw; obtain ⟨hq1, hq2, hq3⟩ := HS.out V hSw; go_simp; try with_reducible rfl)
            try simp only [Act.put]
            refine wpE_take 1 ⟨some 42, _, _, _, _, _⟩ (v := ?_) [2, 3, 8, 10] rfl (by kernel_rfl) (by kernel_rfl) (by kernel_rfl) (by kernel_rfl) (fun _ _ _ h => h) hS (Or.inl ⟨by kernel_rfl, ?_⟩) ?_
            rotate_left
            · (intro V hSw; obtain ⟨hq1, hq2, hq3⟩ := HS.out V hSw; go_simp; try with_reducible rfl)
            try simp only [Act.put]
            refine wpE_take 2 ⟨some 43, _, _, _, _, _⟩ (v := ?_) [3, 8, 10] rfl (by kernel_rfl) (by kernel_rfl) (by kernel_rfl) (by kernel_rfl) (fun _ _ _ h => h) hS (Or.inl ⟨by kernel_rfl, ?_⟩) ?_
            rotate_left
            · (intro V hSw; obtain ⟨hq1, hq2, hq3⟩ := HS.out V hSw; go_simp; try with_reducible rfl)
            try simp only [Act.put]
            refine wpE_take 3 ⟨some 44, _, _, _, _, _⟩ (v := ?_) [8, 10] rfl (by kernel_rfl) (by kernel_rfl) (by kernel_rfl) (by kernel_rfl) (fun _ _ _ h => h) hS (Or.inl ⟨by kernel_rfl, ?_⟩) ?_
            rotate_left
            · (intro V hSw; obtain ⟨hq1, hq2, hq3⟩ := HS.out V hSw; go_simp; try with_reducible rfl)
            try simp only [Act.put]
            refine wpE_take 4 ⟨some 45, _, _, _, _, _⟩ (v := ?_) [5, 6, 7, 8, 10] rfl (by kernel_rfl) (by kernel_rfl) (by kernel_rfl) (by kernel_rfl) (fun _ _ _ h => h) hS (Or.inl ⟨by kernel_rfl, ?_⟩) ?_
            rotate_left
            · (intro V hSw; obtain ⟨hq1, hq2, hq3⟩ := HS.out V hSw; go_simp; try with_reducible rfl)
            try simp only [Act.put]
            refine wpE_take 5 ⟨some 46, _, _, _, _, _⟩ (v := ?_) [6, 7, 8, 10] rfl (by kernel_rfl) (by kernel_rfl) (by kernel_rfl) (by kernel_rfl) (fun _ _ _ h => h) hS (Or.inl ⟨by kernel_rfl, ?_⟩) ?_
            rotate_left
            · (intro V hSw; obtain ⟨hq1, hq2, hq3⟩ := HS.out V hSw; go_simp; try with_reducible rfl)
            try simp only [Act.put]
            refine wpE_take 6 ⟨some 47, _, _, _, _, _⟩ (v := ?_) [7, 8, 10] rfl (by kernel_rfl) (by kernel_rfl) (by kernel_rfl) (by kernel_rfl) (fun _ _ _ h => h) hS (Or.inl ⟨by kernel_rfl, ?_⟩) ?_
            rotate_left
            · (intro V hSw; obtain ⟨hq1, hq2, hq3⟩ := HS.out V hSw; go_simp; try with_reducible rfl)
            try simp only [Act.put]
            refine wpE_take 7 ⟨some 48, _, _, _, _, _⟩ (v := ?_) [8, 10] rfl (by kernel_rfl) (by kernel_rfl) (by kernel_rfl) (by kernel_rfl) (fun _ _ _ h => h) hS (Or.inl ⟨by kernel_rfl, ?_⟩) ?_
            rotate_left
            · (intro V hSw; obtain ⟨hq1, hq2, hq3⟩ := HS.out V hSw; go_simp; try with_reducible rfl)
            try simp only [Act.put]
            refine wpE_pair 8 9 (o := ⟨some 49, _, _, _, _, _⟩) (o' := ⟨some 10, _, _, _, _, _⟩) (by kernel_rfl) rfl rfl (fun K' hK' => ?_) (fun K' hK' => ?_)
            · rw [if_pos (by kernel_rfl)]
              refine call_wp 65 _ _ _ _ rfl Try.func65 (by kernel_rfl) rfl _ ?hv _ (HCALL.out _) ?_
              case hv => simp only [List.map_toArray, List.map_cons, List.map_nil]; go_simp
              rintro E V1 ⟨rfl, hb1⟩
              have hS1 : Below wr.heap.size wr V1 := hS.trans (hb1.mono hS.size)
              refine ⟨_, rfl, ?_⟩
              refine hK'.out _ _ hS1 (fun _ => ?_)
              clear hK' K'
              try simp only [Act.put]
              refine wpE_one 9 (by kernel_rfl) rfl (fun K' hK' => ?_)
              go_simp
              refine hK'.out _ _ (hS1.alloc hS1.size _) (fun _ => ?_)
              clear hK' K'
              try simp only [Act.put]
              have hst := run_stX_new V1 Y
              obtain ⟨V3, hV3⟩ : ∃ V3, V3 = V1.alloc (.cells Y.c 24) := ⟨_, rfl⟩
              have HV3 : Hid (VarX V3 V1.heap.size Y) := Lib.hid (hV3 ▸ VarX.new V1 Y)
              have HB3 : Hid (Below wr.heap.size wr V3) := Lib.hid (hV3 ▸ hS1.alloc hS1.size _)
              rw [← hV3, ← HD.out] at hst
              clear hV3 hb1
              refine wpE_last (by kernel_rfl) rfl (fun K' hK' => ?_)
              go_simp
              refine hK'.out _ _ ?_
              clear hK' K'
              refine wpE_done (by kernel_rfl) ?_ _
              clear hst hwq
              obtain ⟨gv, hgv⟩ : ∃ gv, gv = V1.heap.size := ⟨_, rfl⟩
              rw [← hgv]
              rw [← hgv] at HV3
              clear hgv
              have l3 := HV3.out.load
              rw [← HD.out] at l3
              obtain ⟨-, -, y2, -⟩ := HV3.out.cells
              rw [← HYN2.out] at y2
              have hJ3 := HJB.out _ _ _ HJQ.out HB3.out
              have hstep : ([(part e a e1, false), (part e e1 e2, true), (part e e2 e3, false)].take 2).filter (fun p => decide (0 < p.1.n)) = (([(part e a e1, false), (part e e1 e2, true), (part e e2 e3, false)].take 1).filter (fun p => decide (0 < p.1.n))) ++ (if 0 < yn then [(Y, true)] else []) := by
                have e4 : ([(part e a e1, false), (part e e1 e2, true), (part e e2 e3, false)].take 2) = ([(part e a e1, false), (part e e1 e2, true), (part e e2 e3, false)].take 1) ++ [(Y, true)] := by rw [HY1.out]; rfl
                rw [e4, List.filter_append, HYN2.out]
                congr 1
                by_cases hy : 0 < Y.n
                · rw [if_pos hy]; simp [hy]
                · rw [if_neg hy]; simp [hy]
              have HSTEP := Lib.hid hstep; clear hstep
              have HJ3 := Lib.hid hJ3; clear hJ3
              rcases Decidable.em (0 < yn) with hy | hy
              · have hpre : ∃ rest, cuts L f t = (cuts (L.take k) f t ++ ([(part e a e1, false), (part e e1 e2, true), (part e e2 e3, false)].take 1).filter (fun p => decide (0 < p.1.n))) ++ (Y, true) :: rest := by
                  refine ⟨([(part e a e1, false), (part e e1 e2, true), (part e e2 e3, false)].drop 2).filter (fun p => decide (0 < p.1.n)) ++ cuts (L.drop (k + 1)) f t, ?_⟩
                  have hs := HSTEP.out
                  rw [if_pos hy] at hs
                  have hsp : [(part e a e1, false), (part e e1 e2, true), (part e e2 e3, false)].filter (fun p => decide (0 < p.1.n)) = ([(part e a e1, false), (part e e1 e2, true), (part e e2 e3, false)].take 2).filter (fun p => decide (0 < p.1.n)) ++ ([(part e a e1, false), (part e e1 e2, true), (part e e2 e3, false)].drop 2).filter (fun p => decide (0 < p.1.n)) := by rw [← List.filter_append, List.take_append_drop]
                  rw [HALL.out, HCUT.out, HCUTS.out, hsp, hs]
                  simp only [List.append_assoc, List.cons_append, List.nil_append]
                obtain ⟨fn, tmps, assign, body, hyl, hR⟩ := HY.out _ (Y, true) V3 V3 HJ3.out (Below.refl _ V3) hpre
                clear hpre
                dsimp only [partV] at hyl hR
                rw [← HD.out] at hyl
                gi_wp2
                refine hR.mono ?_
                rintro E V4 ⟨rfl, hJ4, hK4⟩
                have HJ4 : Hid (J (cuts (L.take k) f t ++ ([(part e a e1, false), (part e e1 e2, true), (part e e2 e3, false)].take 2).filter (fun p => decide (0 < p.1.n))) V4) := Lib.hid (by
                  rw [HSTEP.out, if_pos hy, ← List.append_assoc]; exact hJ4)
                have HK4 : Hid (KpT b9 b10 W2 V4) := Lib.hid ((HVW.out _ HB3.out).trans hK4)
                clear hyl hR hJ4 hK4 l3 y2 hy
                gi_wp2
                go_roundw
                case rel => exact ⟨2, by omega, by go_num, HJ4.out, HK4.out⟩
                case measure => simp [intOf]
              · have HJ4 : Hid (J (cuts (L.take k) f t ++ ([(part e a e1, false), (part e e1 e2, true), (part e e2 e3, false)].take 2).filter (fun p => decide (0 < p.1.n))) V3) := Lib.hid (by
                  rw [HSTEP.out, if_neg hy, List.append_nil]; exact HJ3.out)
                have HK4 : Hid (KpT b9 b10 W2 V3) := Lib.hid (HVW.out _ HB3.out)
                clear l3
                gi_wp2
                refine ⟨fun _ h => (by cases h), ?_⟩
                gi_wp2
                go_roundw
                case rel => exact ⟨2, by omega, by go_num, HJ4.out, HK4.out⟩
                case measure => simp [intOf]
            · go_simp
              refine hK'.out _ _ (hS.alloc hS.size _) (fun _ => ?_)
              clear hK' K'
              try simp only [Act.put]
              obtain ⟨U, hU⟩ : ∃ U, U = wr.drew.alloc (.cells #[.int .i64 0, .int .i64 0, .int .i64 0, .bool false] 24) := ⟨_, rfl⟩
              have hSU : Below wr.heap.size wr U := hU ▸ hS.alloc hS.size _
              have hvU : VarX U wr.heap.size x0 := hU ▸ VarX.new wr.drew x0
              refine wpE_one 8 (o := ⟨some 49, _, _, _, _, _⟩) (by kernel_rfl) rfl (fun K' hK' => ?_)
              rw [if_pos (by kernel_rfl)]
              refine call_wp 65 _ _ _ _ rfl Try.func65 (by kernel_rfl) rfl _ ?hv _ (HCALL.out _) ?_
              case hv => simp only [List.map_toArray, List.map_cons, List.map_nil]; go_simp
              rintro E V1 ⟨rfl, hb1⟩
              have hb1' : Below U.heap.size U V1 := by rw [hU]; exact hb1
              have hS1 : Below wr.heap.size wr V1 := hSU.trans (hb1'.mono hSU.size)
              have hv1 : VarX V1 wr.heap.size x0 := hvU.keep hb1' hvU.lt
              refine ⟨_, rfl, ?_⟩
              refine hK'.out _ _ hS1 (fun _ => ?_)
              clear hK' K'
              try simp only [Act.put]
              obtain ⟨V3, hst, hv3, hb3⟩ := run_stX_at V1 wr.heap.size Y x0 hv1
              have HV3 : Hid (VarX V3 wr.heap.size Y) := Lib.hid hv3
              have HB3 : Hid (Below wr.heap.size wr V3) := Lib.hid (hS1.trans (hb3 _ (Nat.le_refl _)))
              rw [← HD.out] at hst
              clear hU hSU hvU hb1 hb1' hv1 hv3 hb3
              refine wpE_last (by kernel_rfl) rfl (fun K' hK' => ?_)
              go_simp
              refine hK'.out _ _ ?_
              clear hK' K'
              refine wpE_done (by kernel_rfl) ?_ _
              clear hst hwq
              obtain ⟨gv, hgv⟩ : ∃ gv, gv = wr.heap.size := ⟨_, rfl⟩
              rw [← hgv]
              rw [← hgv] at HV3
              clear hgv
              have l3 := HV3.out.load
              rw [← HD.out] at l3
              obtain ⟨-, -, y2, -⟩ := HV3.out.cells
              rw [← HYN2.out] at y2
              have hJ3 := HJB.out _ _ _ HJQ.out HB3.out
              have hstep : ([(part e a e1, false), (part e e1 e2, true), (part e e2 e3, false)].take 2).filter (fun p => decide (0 < p.1.n)) = (([(part e a e1, false), (part e e1 e2, true), (part e e2 e3, false)].take 1).filter (fun p => decide (0 < p.1.n))) ++ (if 0 < yn then [(Y, true)] else []) := by
                have e4 : ([(part e a e1, false), (part e e1 e2, true), (part e e2 e3, false)].take 2) = ([(part e a e1, false), (part e e1 e2, true), (part e e2 e3, false)].take 1) ++ [(Y, true)] := by rw [HY1.out]; rfl
                rw [e4, List.filter_append, HYN2.out]
                congr 1
                by_cases hy : 0 < Y.n
                · rw [if_pos hy]; simp [hy]
                · rw [if_neg hy]; simp [hy]
              have HSTEP := Lib.hid hstep; clear hstep
              have HJ3 := Lib.hid hJ3; clear hJ3
              rcases Decidable.em (0 < yn) with hy | hy
              · have hpre : ∃ rest, cuts L f t = (cuts (L.take k) f t ++ ([(part e a e1, false), (part e e1 e2, true), (part e e2 e3, false)].take 1).filter (fun p => decide (0 < p.1.n))) ++ (Y, true) :: rest := by
                  refine ⟨([(part e a e1, false), (part e e1 e2, true), (part e e2 e3, false)].drop 2).filter (fun p => decide (0 < p.1.n)) ++ cuts (L.drop (k + 1)) f t, ?_⟩
                  have hs := HSTEP.out
                  rw [if_pos hy] at hs
                  have hsp : [(part e a e1, false), (part e e1 e2, true), (part e e2 e3, false)].filter (fun p => decide (0 < p.1.n)) = ([(part e a e1, false), (part e e1 e2, true), (part e e2 e3, false)].take 2).filter (fun p => decide (0 < p.1.n)) ++ ([(part e a e1, false), (part e e1 e2, true), (part e e2 e3, false)].drop 2).filter (fun p => decide (0 < p.1.n)) := by rw [← List.filter_append, List.take_append_drop]
                  rw [HALL.out, HCUT.out, HCUTS.out, hsp, hs]
                  simp only [List.append_assoc, List.cons_append, List.nil_append]
                obtain ⟨fn, tmps, assign, body, hyl, hR⟩ := HY.out _ (Y, true) V3 V3 HJ3.out (Below.refl _ V3) hpre
                clear hpre
                dsimp only [partV] at hyl hR
                rw [← HD.out] at hyl
                gi_wp2
                refine hR.mono ?_
                rintro E V4 ⟨rfl, hJ4, hK4⟩
                have HJ4 : Hid (J (cuts (L.take k) f t ++ ([(part e a e1, false), (part e e1 e2, true), (part e e2 e3, false)].take 2).filter (fun p => decide (0 < p.1.n))) V4) := Lib.hid (by
                  rw [HSTEP.out, if_pos hy, ← List.append_assoc]; exact hJ4)
                have HK4 : Hid (KpT b9 b10 W2 V4) := Lib.hid ((HVW.out _ HB3.out).trans hK4)
                clear hyl hR hJ4 hK4 l3 y2 hy
                gi_wp2
                go_roundw
                case rel => exact ⟨2, by omega, by go_num, HJ4.out, HK4.out⟩
                case measure => simp [intOf]
              · have HJ4 : Hid (J (cuts (L.take k) f t ++ ([(part e a e1, false), (part e e1 e2, true), (part e e2 e3, false)].take 2).filter (fun p => decide (0 < p.1.n))) V3) := Lib.hid (by
                  rw [HSTEP.out, if_neg hy, List.append_nil]; exact HJ3.out)
                have HK4 : Hid (KpT b9 b10 W2 V3) := Lib.hid (HVW.out _ HB3.out)
                clear l3
                gi_wp2
                refine ⟨fun _ h => (by cases h), ?_⟩
                gi_wp2
                go_roundw
                case rel => exact ⟨2, by omega, by go_num, HJ4.out, HK4.out⟩
                case measure => simp [intOf]
          · have hwq : IntKind.i64.wrap 3 = 3 := by decide
            have hs : ∀ V, Below wr.heap.size wr V → (ldX (.pointer (some ⟨g6, 0, none⟩))).run Try.prog V = .ok (.agg C) V ∧ V.cell? ⟨g8, 2, none⟩ = some (.int .i64 e2) ∧ V.cell? ⟨g8, 3, none⟩ = some (.int .i64 e3) := fun V hV => by
              obtain ⟨y1, y2⟩ := HBX.out V (HVW.out V hV)
              refine ⟨?_, cell_of_row V _ 2 _ _ _ y2, cell_of_row V _ 3 _ _ _ y2⟩
              rw [HC.out]; exact y1.load
            have hcall := HPART.out e2 e3 (by omega) (by omega)
            have HS := Lib.hid hs; clear hs
            have HCALL := Lib.hid hcall; clear hcall
            clear k1 k2 k3 k4 k5 k6 k7 k8
            obtain ⟨Y, hY⟩ : ∃ Y, Y = part e e2 e3 := ⟨_, rfl⟩
            rw [← hY] at HCALL
            have hYn : Y.n = e3 - e2 := by rw [hY]; rfl
            have HY1 := Lib.hid hY; clear hY
            have hJ1 := hJq
            have HJQ := Lib.hid hJ1; clear hJ1 hJq
            obtain ⟨D, hD⟩ : ∃ D, D = Y.c := ⟨_, rfl⟩
            rw [← hD] at HCALL
            have HD := Lib.hid hD; clear hD
            obtain ⟨yn, hyn⟩ : ∃ yn, yn = Y.n := ⟨_, rfl⟩
            have HYN : Hid (yn = e3 - e2) := Lib.hid (hyn.trans hYn)
            have HYN2 := Lib.hid hyn; clear hyn hYn
            gi_wp2_with fail
            refine wpIn_wide.2 ?_
            refine wp_region_E (fun V => Below wr.heap.size wr V) 10 rfl ?_
            have hS := (show Below wr.heap.size wr wr.drew from (Below.refl _ wr).drew)
            refine wpE_take 0 ⟨some 41, _, _, _, _, _⟩ (v := ?_) [8, 10] rfl (by kernel_rfl) (by kernel_rfl) (by kernel_rfl) (by kernel_rfl) (fun _ _ _ h => h) hS (Or.inl ⟨by kernel_rfl, ?_⟩) ?_
            rotate_left
            · (intro V hSw; obtain ⟨hq1, hq2, hq3⟩ := HS.out V hSw; go_simp; try with_reducible rfl)
            try simp only [Act.put]
            refine wpE_take 1 ⟨some 42, _, _, _, _, _⟩ (v := ?_) [2, 3, 8, 10] rfl (by kernel_rfl) (by kernel_rfl) (by kernel_rfl) (by kernel_rfl) (fun _ _ _ h => h) hS (Or.inl ⟨by kernel_rfl, ?_⟩) ?_
            rotate_left
            · (intro V hSw; obtain ⟨hq1, hq2, hq3⟩ := HS.out V hSw; go_simp; try with_reducible rfl)
            try simp only [Act.put]
            refine wpE_take 2 ⟨some 43, _, _, _, _, _⟩ (v := ?_) [3, 8, 10] rfl (by kernel_rfl) (by kernel_rfl) (by kernel_rfl) (by kernel_rfl) (fun _ _ _ h => h) hS (Or.inl ⟨by kernel_rfl, ?_⟩) ?_
            rotate_left
            · (intro V hSw; obtain ⟨hq1, hq2, hq3⟩ := HS.out V hSw; go_simp; try with_reducible rfl)
            try simp only [Act.put]
            refine wpE_take 3 ⟨some 44, _, _, _, _, _⟩ (v := ?_) [8, 10] rfl (by kernel_rfl) (by kernel_rfl) (by kernel_rfl) (by kernel_rfl) (fun _ _ _ h => h) hS (Or.inl ⟨by kernel_rfl, ?_⟩) ?_
            rotate_left
            · (intro V hSw; obtain ⟨hq1, hq2, hq3⟩ := HS.out V hSw; go_simp; try with_reducible rfl)
            try simp only [Act.put]
            refine wpE_take 4 ⟨some 45, _, _, _, _, _⟩ (v := ?_) [5, 6, 7, 8, 10] rfl (by kernel_rfl) (by kernel_rfl) (by kernel_rfl) (by kernel_rfl) (fun _ _ _ h => h) hS (Or.inl ⟨by kernel_rfl, ?_⟩) ?_
            rotate_left
            · (intro V hSw; obtain ⟨hq1, hq2, hq3⟩ := HS.out V hSw; go_simp; try with_reducible rfl)
            try simp only [Act.put]
            refine wpE_take 5 ⟨some 46, _, _, _, _, _⟩ (v := ?_) [6, 7, 8, 10] rfl (by kernel_rfl) (by kernel_rfl) (by kernel_rfl) (by kernel_rfl) (fun _ _ _ h => h) hS (Or.inl ⟨by kernel_rfl, ?_⟩) ?_
            rotate_left
            · (intro V hSw; obtain ⟨hq1, hq2, hq3⟩ := HS.out V hSw; go_simp; try with_reducible rfl)
            try simp only [Act.put]
            refine wpE_take 6 ⟨some 47, _, _, _, _, _⟩ (v := ?_) [7, 8, 10] rfl (by kernel_rfl) (by kernel_rfl) (by kernel_rfl) (by kernel_rfl) (fun _ _ _ h => h) hS (Or.inl ⟨by kernel_rfl, ?_⟩) ?_
            rotate_left
            · (intro V hSw; obtain ⟨hq1, hq2, hq3⟩ := HS.out V hSw; go_simp; try with_reducible rfl)
            try simp only [Act.put]
            refine wpE_take 7 ⟨some 48, _, _, _, _, _⟩ (v := ?_) [8, 10] rfl (by kernel_rfl) (by kernel_rfl) (by kernel_rfl) (by kernel_rfl) (fun _ _ _ h => h) hS (Or.inl ⟨by kernel_rfl, ?_⟩) ?_
            rotate_left
            · (intro V hSw; obtain ⟨hq1, hq2, hq3⟩ := HS.out V hSw; go_simp; try with_reducible rfl)
            try simp only [Act.put]
            refine wpE_pair 8 9 (o := ⟨some 49, _, _, _, _, _⟩) (o' := ⟨some 10, _, _, _, _, _⟩) (by kernel_rfl) rfl rfl (fun K' hK' => ?_) (fun K' hK' => ?_)
            · rw [if_pos (by kernel_rfl)]
              refine call_wp 65 _ _ _ _ rfl Try.func65 (by kernel_rfl) rfl _ ?hv _ (HCALL.out _) ?_
              case hv => simp only [List.map_toArray, List.map_cons, List.map_nil]; go_simp
              rintro E V1 ⟨rfl, hb1⟩
              have hS1 : Below wr.heap.size wr V1 := hS.trans (hb1.mono hS.size)
              refine ⟨_, rfl, ?_⟩
              refine hK'.out _ _ hS1 (fun _ => ?_)
              clear hK' K'
              try simp only [Act.put]
              refine wpE_one 9 (by kernel_rfl) rfl (fun K' hK' => ?_)
              go_simp
              refine hK'.out _ _ (hS1.alloc hS1.size _) (fun _ => ?_)
              clear hK' K'
              try simp only [Act.put]
              have hst := run_stX_new V1 Y
              obtain ⟨V3, hV3⟩ : ∃ V3, V3 = V1.alloc (.cells Y.c 24) := ⟨_, rfl⟩
              have HV3 : Hid (VarX V3 V1.heap.size Y) := Lib.hid (hV3 ▸ VarX.new V1 Y)
              have HB3 : Hid (Below wr.heap.size wr V3) := Lib.hid (hV3 ▸ hS1.alloc hS1.size _)
              rw [← hV3, ← HD.out] at hst
              clear hV3 hb1
              refine wpE_last (by kernel_rfl) rfl (fun K' hK' => ?_)
              go_simp
              refine hK'.out _ _ ?_
              clear hK' K'
              refine wpE_done (by kernel_rfl) ?_ _
              clear hst hwq
              obtain ⟨gv, hgv⟩ : ∃ gv, gv = V1.heap.size := ⟨_, rfl⟩
              rw [← hgv]
              rw [← hgv] at HV3
              clear hgv
              have l3 := HV3.out.load
              rw [← HD.out] at l3
              obtain ⟨-, -, y2, -⟩ := HV3.out.cells
              rw [← HYN2.out] at y2
              have hJ3 := HJB.out _ _ _ HJQ.out HB3.out
              have hstep : ([(part e a e1, false), (part e e1 e2, true), (part e e2 e3, false)].take 3).filter (fun p => decide (0 < p.1.n)) = (([(part e a e1, false), (part e e1 e2, true), (part e e2 e3, false)].take 2).filter (fun p => decide (0 < p.1.n))) ++ (if 0 < yn then [(Y, false)] else []) := by
                have e4 : ([(part e a e1, false), (part e e1 e2, true), (part e e2 e3, false)].take 3) = ([(part e a e1, false), (part e e1 e2, true), (part e e2 e3, false)].take 2) ++ [(Y, false)] := by rw [HY1.out]; rfl
                rw [e4, List.filter_append, HYN2.out]
                congr 1
                by_cases hy : 0 < Y.n
                · rw [if_pos hy]; simp [hy]
                · rw [if_neg hy]; simp [hy]
              have HSTEP := Lib.hid hstep; clear hstep
              have HJ3 := Lib.hid hJ3; clear hJ3
              rcases Decidable.em (0 < yn) with hy | hy
              · have hpre : ∃ rest, cuts L f t = (cuts (L.take k) f t ++ ([(part e a e1, false), (part e e1 e2, true), (part e e2 e3, false)].take 2).filter (fun p => decide (0 < p.1.n))) ++ (Y, false) :: rest := by
                  refine ⟨([(part e a e1, false), (part e e1 e2, true), (part e e2 e3, false)].drop 3).filter (fun p => decide (0 < p.1.n)) ++ cuts (L.drop (k + 1)) f t, ?_⟩
                  have hs := HSTEP.out
                  rw [if_pos hy] at hs
                  have hsp : [(part e a e1, false), (part e e1 e2, true), (part e e2 e3, false)].filter (fun p => decide (0 < p.1.n)) = ([(part e a e1, false), (part e e1 e2, true), (part e e2 e3, false)].take 3).filter (fun p => decide (0 < p.1.n)) ++ ([(part e a e1, false), (part e e1 e2, true), (part e e2 e3, false)].drop 3).filter (fun p => decide (0 < p.1.n)) := by rw [← List.filter_append, List.take_append_drop]
                  rw [HALL.out, HCUT.out, HCUTS.out, hsp, hs]
                  simp only [List.append_assoc, List.cons_append, List.nil_append]
                obtain ⟨fn, tmps, assign, body, hyl, hR⟩ := HY.out _ (Y, false) V3 V3 HJ3.out (Below.refl _ V3) hpre
                clear hpre
                dsimp only [partV] at hyl hR
                rw [← HD.out] at hyl
                gi_wp2
                refine hR.mono ?_
                rintro E V4 ⟨rfl, hJ4, hK4⟩
                have HJ4 : Hid (J (cuts (L.take k) f t ++ ([(part e a e1, false), (part e e1 e2, true), (part e e2 e3, false)].take 3).filter (fun p => decide (0 < p.1.n))) V4) := Lib.hid (by
                  rw [HSTEP.out, if_pos hy, ← List.append_assoc]; exact hJ4)
                have HK4 : Hid (KpT b9 b10 W2 V4) := Lib.hid ((HVW.out _ HB3.out).trans hK4)
                clear hyl hR hJ4 hK4 l3 y2 hy
                gi_wp2
                go_roundw
                case rel => exact ⟨3, by omega, by go_num, HJ4.out, HK4.out⟩
                case measure => simp [intOf]
              · have HJ4 : Hid (J (cuts (L.take k) f t ++ ([(part e a e1, false), (part e e1 e2, true), (part e e2 e3, false)].take 3).filter (fun p => decide (0 < p.1.n))) V3) := Lib.hid (by
                  rw [HSTEP.out, if_neg hy, List.append_nil]; exact HJ3.out)
                have HK4 : Hid (KpT b9 b10 W2 V3) := Lib.hid (HVW.out _ HB3.out)
                clear l3
                gi_wp2
                refine ⟨fun _ h => (by cases h), ?_⟩
                gi_wp2
                go_roundw
                case rel => exact ⟨3, by omega, by go_num, HJ4.out, HK4.out⟩
                case measure => simp [intOf]
            · go_simp
              refine hK'.out _ _ (hS.alloc hS.size _) (fun _ => ?_)
              clear hK' K'
              try simp only [Act.put]
              obtain ⟨U, hU⟩ : ∃ U, U = wr.drew.alloc (.cells #[.int .i64 0, .int .i64 0, .int .i64 0, .bool false] 24) := ⟨_, rfl⟩
              have hSU : Below wr.heap.size wr U := hU ▸ hS.alloc hS.size _
              have hvU : VarX U wr.heap.size x0 := hU ▸ VarX.new wr.drew x0
              refine wpE_one 8 (o := ⟨some 49, _, _, _, _, _⟩) (by kernel_rfl) rfl (fun K' hK' => ?_)
              rw [if_pos (by kernel_rfl)]
              refine call_wp 65 _ _ _ _ rfl Try.func65 (by kernel_rfl) rfl _ ?hv _ (HCALL.out _) ?_
              case hv => simp only [List.map_toArray, List.map_cons, List.map_nil]; go_simp
              rintro E V1 ⟨rfl, hb1⟩
              have hb1' : Below U.heap.size U V1 := by rw [hU]; exact hb1
              have hS1 : Below wr.heap.size wr V1 := hSU.trans (hb1'.mono hSU.size)
              have hv1 : VarX V1 wr.heap.size x0 := hvU.keep hb1' hvU.lt
              refine ⟨_, rfl, ?_⟩
              refine hK'.out _ _ hS1 (fun _ => ?_)
              clear hK' K'
              try simp only [Act.put]
              obtain ⟨V3, hst, hv3, hb3⟩ := run_stX_at V1 wr.heap.size Y x0 hv1
              have HV3 : Hid (VarX V3 wr.heap.size Y) := Lib.hid hv3
              have HB3 : Hid (Below wr.heap.size wr V3) := Lib.hid (hS1.trans (hb3 _ (Nat.le_refl _)))
              rw [← HD.out] at hst
              clear hU hSU hvU hb1 hb1' hv1 hv3 hb3
              refine wpE_last (by kernel_rfl) rfl (fun K' hK' => ?_)
              go_simp
              refine hK'.out _ _ ?_
              clear hK' K'
              refine wpE_done (by kernel_rfl) ?_ _
              clear hst hwq
              obtain ⟨gv, hgv⟩ : ∃ gv, gv = wr.heap.size := ⟨_, rfl⟩
              rw [← hgv]
              rw [← hgv] at HV3
              clear hgv
              have l3 := HV3.out.load
              rw [← HD.out] at l3
              obtain ⟨-, -, y2, -⟩ := HV3.out.cells
              rw [← HYN2.out] at y2
              have hJ3 := HJB.out _ _ _ HJQ.out HB3.out
              have hstep : ([(part e a e1, false), (part e e1 e2, true), (part e e2 e3, false)].take 3).filter (fun p => decide (0 < p.1.n)) = (([(part e a e1, false), (part e e1 e2, true), (part e e2 e3, false)].take 2).filter (fun p => decide (0 < p.1.n))) ++ (if 0 < yn then [(Y, false)] else []) := by
                have e4 : ([(part e a e1, false), (part e e1 e2, true), (part e e2 e3, false)].take 3) = ([(part e a e1, false), (part e e1 e2, true), (part e e2 e3, false)].take 2) ++ [(Y, false)] := by rw [HY1.out]; rfl
                rw [e4, List.filter_append, HYN2.out]
                congr 1
                by_cases hy : 0 < Y.n
                · rw [if_pos hy]; simp [hy]
                · rw [if_neg hy]; simp [hy]
              have HSTEP := Lib.hid hstep; clear hstep
              have HJ3 := Lib.hid hJ3; clear hJ3
              rcases Decidable.em (0 < yn) with hy | hy
              · have hpre : ∃ rest, cuts L f t = (cuts (L.take k) f t ++ ([(part e a e1, false), (part e e1 e2, true), (part e e2 e3, false)].take 2).filter (fun p => decide (0 < p.1.n))) ++ (Y, false) :: rest := by
                  refine ⟨([(part e a e1, false), (part e e1 e2, true), (part e e2 e3, false)].drop 3).filter (fun p => decide (0 < p.1.n)) ++ cuts (L.drop (k + 1)) f t, ?_⟩
                  have hs := HSTEP.out
                  rw [if_pos hy] at hs
                  have hsp : [(part e a e1, false), (part e e1 e2, true), (part e e2 e3, false)].filter (fun p => decide (0 < p.1.n)) = ([(part e a e1, false), (part e e1 e2, true), (part e e2 e3, false)].take 3).filter (fun p => decide (0 < p.1.n)) ++ ([(part e a e1, false), (part e e1 e2, true), (part e e2 e3, false)].drop 3).filter (fun p => decide (0 < p.1.n)) := by rw [← List.filter_append, List.take_append_drop]
                  rw [HALL.out, HCUT.out, HCUTS.out, hsp, hs]
                  simp only [List.append_assoc, List.cons_append, List.nil_append]
                obtain ⟨fn, tmps, assign, body, hyl, hR⟩ := HY.out _ (Y, false) V3 V3 HJ3.out (Below.refl _ V3) hpre
                clear hpre
                dsimp only [partV] at hyl hR
                rw [← HD.out] at hyl
                gi_wp2
                refine hR.mono ?_
                rintro E V4 ⟨rfl, hJ4, hK4⟩
                have HJ4 : Hid (J (cuts (L.take k) f t ++ ([(part e a e1, false), (part e e1 e2, true), (part e e2 e3, false)].take 3).filter (fun p => decide (0 < p.1.n))) V4) := Lib.hid (by
                  rw [HSTEP.out, if_pos hy, ← List.append_assoc]; exact hJ4)
                have HK4 : Hid (KpT b9 b10 W2 V4) := Lib.hid ((HVW.out _ HB3.out).trans hK4)
                clear hyl hR hJ4 hK4 l3 y2 hy
                gi_wp2
                go_roundw
                case rel => exact ⟨3, by omega, by go_num, HJ4.out, HK4.out⟩
                case measure => simp [intOf]
              · have HJ4 : Hid (J (cuts (L.take k) f t ++ ([(part e a e1, false), (part e e1 e2, true), (part e e2 e3, false)].take 3).filter (fun p => decide (0 < p.1.n))) V3) := Lib.hid (by
                  rw [HSTEP.out, if_neg hy, List.append_nil]; exact HJ3.out)
                have HK4 : Hid (KpT b9 b10 W2 V3) := Lib.hid (HVW.out _ HB3.out)
                clear l3
                gi_wp2
                refine ⟨fun _ h => (by cases h), ?_⟩
                gi_wp2
                go_roundw
                case rel => exact ⟨3, by omega, by go_num, HJ4.out, HK4.out⟩
                case measure => simp [intOf]
end Go.Proofs.Ytkhenchhafmlmaa.Ex
