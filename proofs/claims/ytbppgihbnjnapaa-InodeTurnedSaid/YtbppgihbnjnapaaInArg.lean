/- An inode among the arguments; whether two inodes are the same, a copy of one, and the fixed fact of layer 9. -/
import Derived.Test.YtbppgihbnjnapaaInDec
import Derived.Test.YtbppgihbnjnapaaLift
import Derived.Deep.Fields
namespace Go.Proofs.Ytbppgihbnjnapaa.Ino
set_option maxRecDepth 20000
open Go.ChangeShapes Go.WideShapes Go.ChangeAt Go.RowKit Go.Deep
open Go.Proofs.Ytbppgihbnjnapaa.Mem Go.Proofs.Ytbppgihbnjnapaa.Crc Go.Proofs.Ytbppgihbnjnapaa.Rec Go.Proofs.Ytbppgihbnjnapaa.Lift
attribute [local go_sem ↓] Go.wp_at_zero Go.wp_at_succ ldI_eq stI_eq

/-- A slice of bytes that was read as a part of something. -/
theorem bytes_part {H : Type} {enc : TypeId × Value → H} {W : World} {fuel : Nat} {v : Value} {y : DataW H × List MemPlace} (h : DataW.trod enc Try.prog W 0 (fun _ => true) true fuel 22 [v] = some y) (R : Nat) (hR : ∀ elems spare, y.1 = .slice elems spare → elems.length + spare.length ≤ R) :
    ∃ A n c bs, v = .slice A n c ∧ Holds W W.heap.size A n bs ∧ n ≤ c ∧ c ≤ R := by
  rcases open_ints Try.underlying22 Try.underlying5 (by kernel_rfl) h with ⟨hcs, _⟩ | ⟨x, l, c', zs, hcs, _, hl, hm, hz, hx, hcell, hwz⟩
  · simp at hcs
    subst hcs
    exact ⟨none, 0, 0, [], rfl, ⟨rfl, fun h => absurd h (by omega)⟩, Nat.le_refl _, Nat.zero_le _⟩
  · simp at hcs
    subst hcs
    have hzl : zs.length = c' := by simpa using hz
    have hle := hR _ _ (by rw [hx])
    simp only [lits, List.length_map, List.length_take, List.length_drop] at hle
    refine ⟨_, _, _, (zs.take l).map fun z => UInt8.ofNat z.toNat, rfl, ⟨by simp; omega, fun hn => ?_⟩, hl, by omega⟩
    obtain ⟨b, off, spot⟩ := x
    have hc0 := hcell 0 (by omega)
    have hspot : spot = none := by simpa [Addr.add] using World.cell?_spot hc0
    subst hspot
    refine ⟨b, off, rfl, by simpa [Addr.add] using block_lt_of_cell hc0, fun j hj => ?_⟩
    have hjz : j < zs.length := by simp at hj; omega
    have hadd : (⟨b, off, none⟩ : Addr).add j = ⟨b, off + j, none⟩ := by unfold Addr.add; split <;> simp_all
    rw [← hadd, hcell j hjz]
    have hw := bounds_u8 (hwz zs[j] (List.getElem_mem hjz))
    have e : zs.getD j 0 = zs[j] := by simp [List.getD, hjz]
    rw [e]
    simp only [List.getElem_map, List.getElem_take]
    congr 2
    simp
    omega

theorem inode_open {H : Type} {enc : TypeId × Value → H} {W : World} {b0 : Nat} {v : Value} {d : DataW H} {p : List MemPlace} (hv : Value.okWide Try.prog W .any b0 24 v)
    (h : DataW.Trod enc Try.prog W 0 (fun _ => true) true 24 v d p) (hw : (d.weights Try.prog 24).all (· ≤ reachBytes) = true) :
    ∃ (x : In) (A : Option Addr) (c : Nat), v = .agg (x.c A c) ∧ Holds W W.heap.size A x.body.length x.body ∧ x.body.length ≤ c ∧ c ≤ 140737488351232 := by
  obtain ⟨cs, rfl, _⟩ := okWide_struct Try.underlying24 hv
  obtain ⟨fuel, hf⟩ := h
  obtain ⟨ys, n, hx1, hx2, hl, hyl, hf⟩ := DataW.trod_struct Try.underlying24 hf
  rw [show Try.prog.cellsOf 24 = 6 by kernel_rfl] at hl
  obtain ⟨l⟩ := cs
  simp only [Value.cells] at hl hf
  match l, hl, ys, hyl with
  | [v0, v1, v2, v3, v4, v5], _, [y0, y1, y2, y3, y4, y5], _ =>
    have c0 : Try.prog.cellsOf 3 = 1 := by kernel_rfl
    have c1 : Try.prog.cellsOf 4 = 1 := by kernel_rfl
    have c2 : Try.prog.cellsOf 22 = 1 := by kernel_rfl
    have h0 : DataW.trod enc Try.prog W 0 (fun _ => true) true n 3 [v0] = some y0 := by
      have h := hf 0 _ rfl
      simpa [c0] using h
    have h1 : DataW.trod enc Try.prog W 0 (fun _ => true) true n 3 [v1] = some y1 := by
      have h := hf 1 _ rfl
      simpa [c0] using h
    have h2 : DataW.trod enc Try.prog W 0 (fun _ => true) true n 3 [v2] = some y2 := by
      have h := hf 2 _ rfl
      simpa [c0] using h
    have h3 : DataW.trod enc Try.prog W 0 (fun _ => true) true n 4 [v3] = some y3 := by
      have h := hf 3 _ rfl
      simpa [c1] using h
    have h4 : DataW.trod enc Try.prog W 0 (fun _ => true) true n 3 [v4] = some y4 := by
      have h := hf 4 _ rfl
      simpa [c0] using h
    have h5 : DataW.trod enc Try.prog W 0 (fun _ => true) true n 22 [v5] = some y5 := by
      have h := hf 5 _ rfl
      simpa [c2] using h
    obtain ⟨a0, e0, _, _⟩ := DataW.trod_int Try.underlying3 h0
    obtain ⟨a1, e1, _, _⟩ := DataW.trod_int Try.underlying3 h1
    obtain ⟨a2, e2, _, _⟩ := DataW.trod_int Try.underlying3 h2
    obtain ⟨a3, e3, _⟩ := DataW.trod_bool Try.underlying4 h3
    obtain ⟨a4, e4, _, _⟩ := DataW.trod_int Try.underlying3 h4
    have hs : (DataW.weightsEach Try.prog [3, 3, 3, 4, 3, 22] [y0.1, y1.1, y2.1, y3.1, y4.1, y5.1]).all (· ≤ reachBytes) = true := by
      simp only [Prod.mk.injEq] at hx2
      rw [hx2.1] at hw
      simpa [DataW.weights, Try.underlying24] using hw
    have r5 : ∀ elems spare, y5.1 = .slice elems spare → elems.length + spare.length ≤ 140737488351232 := by
      intro elems spare hy
      have := sized_slice (j := 5) (elems := elems) (spare := spare) hs rfl (by simp [hy]) Try.underlying22
      rw [show Try.prog.bytesOf 5 = 1 by kernel_rfl, show reachBytes = 140737488351232 from rfl] at this
      omega
    simp at e0 e1 e2 e3 e4
    obtain ⟨A, m, c, bs, e5, hh, hc, hr⟩ := bytes_part h5 _ r5
    subst e0 e1 e2 e3 e4 e5
    obtain rfl : bs.length = m := hh.1
    exact ⟨⟨a0, a1, a2, a3, a4, bs⟩, A, c, rfl, hh, hc, hr⟩
theorem inode_weights {H : Type} {ts : List TypeId} {ds : List (DataW H)} (h : (DataW.weightsEach Try.prog ts ds).all (· ≤ reachBytes) = true) {j : Nat} {d : DataW H} (ht : ts[j]? = some 24) (hd : ds[j]? = some d) :
    (d.weights Try.prog 24).all (· ≤ reachBytes) = true :=
  List.all_eq_true.2 fun x hx => List.all_eq_true.1 h _ (DataW.weights_mem_each ht hd x hx)

theorem same_no {x y : In} (h : ¬ (x.kind = y.kind ∧ x.links = y.links ∧ x.size = y.size ∧ x.inl = y.inl ∧ x.attrs = y.attrs ∧ x.body = y.body)) : decide (x = y) = false :=
  decide_eq_false (fun e => h (by subst e; exact ⟨rfl, rfl, rfl, rfl, rfl, rfl⟩))
theorem same_yes {x y : In} (h : x.kind = y.kind ∧ x.links = y.links ∧ x.size = y.size ∧ x.inl = y.inl ∧ x.attrs = y.attrs ∧ x.body = y.body) : decide (x = y) = true := by
  obtain ⟨a, b, d, i, e, l⟩ := x
  obtain ⟨a', b', d', i', e', l'⟩ := y
  obtain ⟨h1, h2, h3, h4, h5, h6⟩ := h
  simp only at h1 h2 h3 h4 h5 h6
  subst h1 h2 h3 h4 h5 h6
  exact decide_eq_true rfl

set_option maxRecDepth 100000 in
set_option maxHeartbeats 1000000 in
theorem same_any (x y : In) (A A' : Option Addr) (c c' B B' : Nat) (w : World) (hx : Holds w B A x.body.length x.body) (hy : Holds w B' A' y.body.length y.body) (hB : B ≤ w.heap.size) (hB' : B' ≤ w.heap.size) :
    Calls Try.prog 14 #[.agg (x.c A c), .agg (y.c A' c')] w fun e w' => e = .returned (.bool (decide (x = y))) ∧ Below w.heap.size w w' := by
  obtain ⟨r, hr⟩ : ∃ r, r = decide (x = y) := ⟨_, rfl⟩
  rw [← hr]
  have HR := Lib.hid hr; clear hr
  obtain ⟨C, hC⟩ : ∃ C, C = x.c A c := ⟨_, rfl⟩
  obtain ⟨D, hD⟩ : ∃ D, D = y.c A' c' := ⟨_, rfl⟩
  obtain ⟨W, hW⟩ : ∃ W, W = (w.alloc (.cells C 24)).alloc (.cells D 24) := ⟨_, rfl⟩
  have hz : (w.alloc (.cells C 24)).heap.size = w.heap.size + 1 := by simp
  have hb1 : Below w.heap.size w (w.alloc (.cells C 24)) := (Below.refl _ _).alloc (Nat.le_refl _) _
  have hbw : Below w.heap.size w W := by rw [hW]; exact hb1.alloc hb1.size _
  have hv : VarI W w.heap.size x A c := by rw [hW, hC]; exact (VarI.new w x A c).alloc _
  have hv' : VarI W (w.heap.size + 1) y A' c' := by rw [hW, hD, ← hz]; exact VarI.new _ y A' c'
  obtain ⟨q0, q1, q2, q3, q4, q5⟩ := hv.cells
  obtain ⟨p0, p1, p2, p3, p4, p5⟩ := hv'.cells
  have t1 := run_text W B A x.body.length c x.body (hx.below (hbw.mono hB))
  have t2 := run_text W B' A' y.body.length c' y.body (hy.below (hbw.mono hB'))
  rw [← hC, ← hD]
  have HW := Lib.hid hW
  have HB := Lib.hid hbw
  clear hbw hv hv' hC hD hb1 hz hx hy
  obtain ⟨SX, hSX⟩ : ∃ S : ByteArray, S = ⟨x.body.toArray⟩ := ⟨_, rfl⟩
  obtain ⟨SY, hSY⟩ : ∃ S : ByteArray, S = ⟨y.body.toArray⟩ := ⟨_, rfl⟩
  rw [← hSX] at t1
  rw [← hSY] at t2
  have hs1 : x.body ≠ y.body → (SX.toList == SY.toList) = false := fun hne => by
    refine beq_false_of_ne (fun e => ?_)
    rw [hSX, hSY, ByteArray.toList_eq, ByteArray.toList_eq] at e
    exact hne e
  have hs2 : x.body = y.body → SX = SY := fun e => by rw [hSX, hSY, e]
  have HS1 := Lib.hid hs1; clear hs1
  have HS2 := Lib.hid hs2; clear hs2 hSX hSY
  obtain ⟨kind, links, size, inl, attrs, body⟩ := x
  obtain ⟨kind', links', size', inl', attrs', body'⟩ := y
  simp only at q0 q1 q2 q3 q4 q5 p0 p1 p2 p3 p4 p5 t1 t2
  rw [hW] at q0 q1 q2 q3 q4 q5 p0 p1 p2 p3 p4 p5 t1 t2
  clear hW
  go_enter Try.func14, Try.ntmps14
  rcases Decidable.em (kind = kind') with h0 | h0
  rotate_left
  · have hb : (kind == kind') = false := beq_false_of_ne h0
    go_wp2
    go_ret
    exact ⟨by rw [HR.out, same_no (by rintro ⟨a1, a2, a3, a4, a5, a6⟩; exact h0 a1)]; rfl, HW.out ▸ HB.out⟩
  subst h0
  rcases Decidable.em (links = links') with h1 | h1
  rotate_left
  · have hb : (links == links') = false := beq_false_of_ne h1
    go_wp2
    go_ret
    exact ⟨by rw [HR.out, same_no (by rintro ⟨a1, a2, a3, a4, a5, a6⟩; exact h1 a2)]; rfl, HW.out ▸ HB.out⟩
  subst h1
  rcases Decidable.em (size = size') with h2 | h2
  rotate_left
  · have hb : (size == size') = false := beq_false_of_ne h2
    go_wp2
    go_ret
    exact ⟨by rw [HR.out, same_no (by rintro ⟨a1, a2, a3, a4, a5, a6⟩; exact h2 a3)]; rfl, HW.out ▸ HB.out⟩
  subst h2
  rcases Decidable.em (inl = inl') with h3 | h3
  rotate_left
  · have hb : (inl == inl') = false := beq_false_of_ne h3
    go_wp2
    go_ret
    exact ⟨by rw [HR.out, same_no (by rintro ⟨a1, a2, a3, a4, a5, a6⟩; exact h3 a4)]; rfl, HW.out ▸ HB.out⟩
  subst h3
  rcases Decidable.em (attrs = attrs') with h4 | h4
  rotate_left
  · have hb : (attrs == attrs') = false := beq_false_of_ne h4
    go_wp2
    go_ret
    exact ⟨by rw [HR.out, same_no (by rintro ⟨a1, a2, a3, a4, a5, a6⟩; exact h4 a5)]; rfl, HW.out ▸ HB.out⟩
  subst h4
  rcases Decidable.em (body = body') with h5 | h5
  rotate_left
  · have hb := HS1.out h5
    go_wp2
    go_ret
    exact ⟨by rw [HR.out, same_no (by rintro ⟨a1, a2, a3, a4, a5, a6⟩; exact h5 a6)]; rfl, HW.out ▸ HB.out⟩
  have hb := HS2.out h5
  subst hb
  have hh : Hid (r = true) := Lib.hid (by rw [HR.out]; exact same_yes ⟨rfl, rfl, rfl, rfl, rfl, h5⟩)
  clear h5
  go_wp2
  go_ret
  exact ⟨by rw [hh.out]; rfl, HW.out ▸ HB.out⟩

set_option maxRecDepth 100000 in
theorem copy_any (x : In) (A : Option Addr) (c B : Nat) (w : World) (hx : Holds w B A x.body.length x.body) (hl : x.body.length ≤ 140737488351232) (hB : B ≤ w.heap.size) :
    Calls Try.prog 9 #[.agg (x.c A c)] w (Toldd x w) := by
  unfold Toldd
  obtain ⟨C, hC⟩ : ∃ C, C = x.c A c := ⟨_, rfl⟩
  rw [← hC]
  obtain ⟨W, hW⟩ : ∃ W, W = (w.alloc (.cells C 24)).alloc (.cells #[.int .i64 0, .int .i64 0, .int .i64 0, .bool false, .int .i64 0, .slice none 0 0] 24) := ⟨_, rfl⟩
  have hz : (w.alloc (.cells C 24)).heap.size = w.heap.size + 1 := by simp
  have hzW : W.heap.size = w.heap.size + 2 := by rw [hW]; simp
  have hb1 : Below w.heap.size w (w.alloc (.cells C 24)) := (Below.refl _ _).alloc (Nat.le_refl _) _
  have hbw : Below w.heap.size w W := by rw [hW]; exact hb1.alloc hb1.size _
  have hv : VarI W w.heap.size x A c := by rw [hW, hC]; exact (VarI.new w x A c).alloc _
  have hv' : VarI W (w.heap.size + 1) in0 none 0 := by rw [hW, ← hz]; exact VarI.new _ in0 none 0
  have ho : Owned (W.alloc (.cells #[] 5)) W.heap.size (.slice (some ⟨W.heap.size, 0, none⟩) 0 0) [] := owned_made W [] W.heap.size (Nat.le_refl _) (by unfold maxLen; simp)
  have q5 : (W.alloc (.cells #[] 5)).cell? ⟨w.heap.size, 5, none⟩ = some (.slice A x.body.length c) := (hv.alloc _).cells.2.2.2.2.2
  have hxx : Holds (W.alloc (.cells #[] 5)) B A x.body.length x.body := hx.below ((hbw.alloc hbw.size _).mono hB)
  have HV : Hid (VarI (W.alloc (.cells #[] 5)) w.heap.size x A c) := Lib.hid (hv.alloc _)
  have HV' : Hid (VarI (W.alloc (.cells #[] 5)) (w.heap.size + 1) in0 none 0) := Lib.hid (hv'.alloc _)
  have HB0 : Hid (Below w.heap.size w (W.alloc (.cells #[] 5))) := Lib.hid (hbw.alloc hbw.size _)
  have hzz : W.heap.size ≤ (W.alloc (.cells #[] 5)).heap.size := by simp
  obtain ⟨U, hU⟩ : ∃ U, U = W.alloc (.cells #[] 5) := ⟨_, rfl⟩
  rw [← hU] at ho q5 hxx HV HV' HB0 hzz
  rw [hzW] at ho hzz
  have HO := Lib.hid ho; clear ho
  have HXX := Lib.hid hxx; clear hxx
  have HZZ := Lib.hid hzz; clear hzz
  rw [hW] at hU
  have HU := Lib.hid hU
  clear hW hbw hv hv' hC hb1 hz hx hzW
  rw [hU] at q5
  clear hU
  go_enter Try.func9, Try.ntmps9
  go_wp2_with (rw [← HU.out]; at_builtin; refine wpList_addall rfl (.tmp 3) (.tmp 5) rfl (w.heap.size + 2) _ [] rfl HO.out B A x.body.length c x.body rfl HXX.out ?c2 HZZ.out ?_)
  case c2 => simp; omega
  intro v w2 ho2 hb2
  have hv2 : VarI w2 w.heap.size x A c := HV.out.keep hb2 (by omega)
  have hv2' : VarI w2 (w.heap.size + 1) in0 none 0 := HV'.out.keep hb2 (by omega)
  have hb3 : Below w.heap.size w w2 := HB0.out.trans (hb2.mono (by omega))
  obtain ⟨A1, c1, rfl, -⟩ := Owned.holds ho2
  have q5' : w2.cell? ⟨w.heap.size, 5, none⟩ = some (.slice A x.body.length c) := hv2.cells.2.2.2.2.2
  have f5 : w2.frozen? ⟨w.heap.size, 5, none⟩ = false := frozen_of_row _ _ _ _ _ hv2
  obtain ⟨w3, hw3⟩ : ∃ w3, w3 = w2.setCell ⟨w.heap.size, 5, none⟩ (.slice A1 x.body.length c1) := ⟨_, rfl⟩
  have hv3 : VarI w3 w.heap.size x A1 c1 := by
    have := heap_setCell_same w2 w.heap.size 5 (v := Value.slice A1 x.body.length c1) (hg := hv2)
    rw [hw3]
    exact this
  have hk3 : ∀ k, k ≠ w.heap.size → w3.heap[k]? = w2.heap[k]? := fun k hk => by rw [hw3]; exact Below.heap_setCell _ _ _ _ (by simpa using hk)
  have hv3' : VarI w3 (w.heap.size + 1) in0 none 0 := (hk3 _ (by omega)).trans hv2'
  have hb4 : Below w.heap.size w w3 := by rw [hw3]; exact hb3.setCell (Nat.le_refl _) _
  have ho3 : Owned w3 (w.heap.size + 2) (.slice A1 x.body.length c1) x.body := Owned.away ho2 hk3 (fun k hk => by have := Owned.base_le ho2 k hk; omega)
  have l3 := hv3.load
  obtain ⟨w4, hst, hv4, hb5, hk4⟩ := run_stI_at w3 (w.heap.size + 1) x in0 A1 none c1 0 hv3'
  have HO4 : Hid (Owned w4 w.heap.size (.slice A1 x.body.length c1) x.body) := Lib.hid (Owned.mono (Owned.away ho3 hk4 (fun k hk => by have := Owned.base_le ho3 k hk; omega)) (by omega))
  have HV4 := Lib.hid hv4
  have HB4 : Hid (Below w.heap.size w w4) := Lib.hid (hb4.trans (hb5 _ (by omega)))
  rw [hw3] at l3 hst
  clear hw3 hv3 hk3 hv3' hb4 ho3 hv4 hb5 hk4 hv2 hv2' hb3 ho2 hb2 q5
  go_wp2
  exact bodyPost_ret (results_cell_row rfl _ _ (w.heap.size + 1) _ (x.c A1 c1) (0, 0) _ rfl HV4.out Try.underlying24 rfl (by kernel_rfl)) rfl ⟨A1, c1, rfl, HO4.out, HB4.out⟩
end Go.Proofs.Ytbppgihbnjnapaa.Ino
