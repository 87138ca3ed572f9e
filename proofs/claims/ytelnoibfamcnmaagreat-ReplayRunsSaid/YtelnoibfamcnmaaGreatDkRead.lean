/- Contract of the program's reading of a block. -/
import Derived.Test.YtelnoibfamcnmaaGreatDkAdd
namespace Go.Proofs.YtelnoibfamcnmaaGreat.Disk
set_option maxRecDepth 20000
open Go.RowKit
open Go.Proofs.YtelnoibfamcnmaaGreat.Mem
attribute [local go_sem ↓] Go.wp_at_zero Go.wp_at_succ ldW_eq stW_eq newW_eq mkW_eq oneW_eq

/-- The device behind a call that answered r. -/
def Did (w : World) (p m : Nat) (L : Low) (vs vw : Value) (r : Value) (e : Ending) (w' : World) : Prop :=
  ∃ vw', e = .returned r ∧ LowAt w' p L vs vw' m ∧ (∀ k, vw'.ownBlock = some k → vw.ownBlock = some k ∨ w.heap.size ≤ k) ∧ Turns (Foot p m vs vw) w w'

/-- The bytes laid into the new write. -/
theorem run_copy_in (w : World) (i b o c : Nat) (data : List UInt8) (hl : data.length = 256) (hd : w.rangeAt b o (data.map byteV)) :
    (Builtin.copy_ #[25, 25] 3 #[Value.slice (some ⟨w.heap.size, 1, none⟩) 256 256, Value.slice (some ⟨b, o, none⟩) 256 c]).run Tryz.prog (w.alloc (.cells (Value.int .i64 (i : Int) :: (List.replicate 256 (0 : UInt8)).map byteV).toArray 83)) =
      .ok (goInt 256) (w.alloc (.cells (wcells (i, data)).toArray 83)) := by
  obtain ⟨z, hz⟩ : ∃ z, z = (List.replicate 256 (0 : UInt8)).map byteV := ⟨_, rfl⟩
  have hzl : z.length = 256 := by rw [hz, List.length_map, List.length_replicate]
  rw [← hz]
  clear hz
  have hdl : (data.map byteV).length = 256 := by rw [List.length_map, hl]
  have h := run_copy_row (P := Tryz.prog) (w.alloc (.cells (Value.int .i64 (i : Int) :: z).toArray 83)) 25 25 3 5 w.heap.size 1 256 256 ⟨b, o, none⟩ 256 c
    (Value.int .i64 (i : Int) :: z).toArray 83 (data.map byteV) Tryz.underlying25 info_byte (heap_alloc_new w _) (by rw [hdl]; rfl)
    (fun j v hv => by rw [Addr.add_mid]; exact World.rangeAt_alloc hd _ j v hv) (by rw [hdl, List.size_toArray, List.length_cons, hzl]; omega) (by intro v hv; obtain ⟨u, _, rfl⟩ := List.mem_map.1 hv; rfl)
  rw [hdl, World.setRow_alloc_new] at h
  rw [h]
  have e : List.take 1 (Value.int .i64 (i : Int) :: z) ++ (data.map byteV ++ List.drop (1 + 256) (Value.int .i64 (i : Int) :: z)) = wcells (i, data) := by
    have h0 : List.drop (1 + 256) (Value.int .i64 (i : Int) :: z) = [] := List.drop_eq_nil_of_le (by rw [List.length_cons, hzl]; omega)
    rw [h0, List.append_nil]
    rfl
  rw [List.toList_toArray, List.append_assoc, e]
  rfl

set_option maxRecDepth 100000 in
set_option maxHeartbeats 1000000 in
theorem write_some (i : Nat) (b o c : Nat) (data : List UInt8) (L : Low) (p m n : Nat) (vs vw : Value) (w : World) (h : LowAt w p L vs vw m) (hn : L.st.length = 256 * n) (hm : n ≤ 1024) (hi : i < n) (hl : data.length = 256)
    (hd : w.rangeAt b o (data.map byteV)) (hw : L.ws.length ≤ 1048576) (hpd : L.pend ≤ 1048576) (hbl : L.blown = false) (hlf : L.left ≤ 9223372036854775807) :
    Calls Tryz.prog 62 #[.pointer (some ⟨p, 0, none⟩), .int .i64 (i : Int), .slice (some ⟨b, o, none⟩) 256 c] w (Did w p m (Low.burnt { L with ws := L.ws ++ [(i, data)], pend := L.pend + 1 }) vs vw (.int .i64 0)) := by
  have hhas : hasB n (i : Int) = true := by simp [hasB]; omega
  have hcp := run_copy_in w i b o c data hl hd
  obtain ⟨cs0, hcs0⟩ : ∃ cs0, cs0 = Value.int .i64 (i : Int) :: (List.replicate 256 (0 : UInt8)).map byteV := ⟨_, rfl⟩
  have hl0 : cs0.length = 257 := by rw [hcs0]; simp
  have hone0 : ∀ v ∈ cs0, v.oneCell' = true := by
    intro v hv; rw [hcs0] at hv
    rcases List.mem_cons.1 hv with e | e
    · subst e; rfl
    · obtain ⟨u, _, rfl⟩ := List.mem_map.1 e; rfl
  have hmk := fun W => run_mkW (i : Int) W
  rw [← hcs0] at hmk hcp
  have hnw := run_newW
  have hst := fun W => run_stW_new W cs0 hl0 hone0
  obtain ⟨cs, hcs⟩ : ∃ cs, cs = wcells (i, data) := ⟨_, rfl⟩
  rw [← hcs] at hcp
  have hcl : cs.length = 257 := by rw [hcs, wcells_len _ hl]
  have HCS := Lib.hid hcs; clear hcs
  have HCL := Lib.hid hcl; clear hcl
  have HC0 := Lib.hid hcs0; clear hcs0
  have HL0 := Lib.hid hl0; clear hl0
  have HO0 := Lib.hid hone0; clear hone0
  have HN := Lib.hid hn; clear hn
  have HL := Lib.hid hl; clear hl
  have HBL := Lib.hid hbl; clear hbl
  go_enter Tryz.func62, Tryz.ntmps62
  go_wp2_with fail
  refine (has_any i L p m n vs vw _ h HN.out hm).mono ?_
  rintro e w' ⟨rfl, rfl⟩
  go_wp2_with fail
  clear hcp hst
  have ht1 : Turns (fun _ => False) w (w.alloc (.cells cs.toArray 83)) := (Turns.refl _ w).alloc _
  have hB : (w.alloc (.cells cs.toArray 83)).heap[w.heap.size]? = some (.cells cs.toArray 83 (0, 0)) := heap_alloc_new w _
  have hW1 : w.heap.size < (w.alloc (.cells cs.toArray 83)).heap.size := by simp
  generalize w.alloc (.cells cs.toArray 83) = W at ht1 hB hW1 ⊢
  have h1 : LowAt W p L vs vw m := h.turns ht1 (fun _ _ e => e)
  have hld : (ldW (.pointer (some ⟨w.heap.size, 0, none⟩))).run Tryz.prog W = .ok (.agg cs.toArray) W := run_ldW W _ 0 cs (fun j v hv => by rw [Nat.zero_add, cell_of_row _ _ _ _ _ _ hB]; simpa using hv) HCL.out
  have HB := Lib.hid hB; clear hB
  have H := Lib.hid h; clear h
  refine (blown_any L p m vs vw W h1).mono ?_
  rintro e w' ⟨rfl, rfl⟩
  rw [HBL.out]
  go_wp2_with fail
  clear hld
  rw [HCS.out]
  refine (add_any L p m n (i, data) vs vw W h1 hm hi HL.out hw hpd).mono ?_
  rintro e w2 ⟨vw2, rfl, h2, hfr2, ht2⟩
  go_wp2_with fail
  refine (burn_any _ p m vs vw2 w2 h2 (by have := HBL.out; simpa [Low.blown] using this) hlf).mono ?_
  rintro e w3 ⟨rfl, h3, ht3⟩
  go_wp2
  go_ret
  have hh := H.out
  refine ⟨vw2, rfl, h3, fun k hk => ?_, ?_⟩
  · rcases hfr2 k hk with e | e
    · exact .inl e
    · exact .inr (by omega)
  · refine ((ht1.mono (F := Foot p m vs vw) (fun _ _ e => e.elim)).trans (ht2.mono (F := Foot p m vs vw) ?_) (fun _ _ e => e)).trans ht3 (fun k _ e => .inl e)
    rintro k _ (e | e | e)
    · exact .inl e
    · exact .inr (.inl e)
    · exact .inr (.inr (.inr e))
end Go.Proofs.YtelnoibfamcnmaaGreat.Disk

namespace Go.Proofs.YtelnoibfamcnmaaGreat.Disk
set_option maxRecDepth 20000
open Go.RowKit
open Go.Proofs.YtelnoibfamcnmaaGreat.Mem
attribute [local go_sem ↓] Go.wp_at_zero Go.wp_at_succ ldW_eq stW_eq newW_eq mkW_eq oneW_eq

/-- What the table says, in whatever world holds it. -/
theorem run_lookup (W : World) (m k : Nat) (bs : List Nat) (b : Nat) (hb : b ≤ 4294967296) (h : W.ownsMap Tryz.prog 3 (plainElem Tryz.prog 3) m k (lastD bs)) :
    (Instr.lookup 78 (.map (some m)) (.int .i64 (b : Int)) true).run Tryz.prog W = .ok (.tuple #[.int .i64 (((lastAt bs b).getD 0 : Nat) : Int), .bool (lastAt bs b).isSome]) W := by
  have hz : (zeroValue 3).run Tryz.prog W = .ok (.int .i64 0) W := by rfl
  obtain ⟨v, ps, hrun, hv⟩ := h.look_ok intKey Tryz.underlying78 hz (plainElem_int Tryz.underlying3 (by decide)) (Maps.keyOf_int_mk Tryz.underlying3 (intLit b hb))
  obtain ⟨c, rfl, hc, _⟩ := plainElem_int_inv Tryz.underlying3 hv
  rw [hrun]
  have h1 := lastD_has b bs
  have h2 := lastD_at b bs
  unfold keyL at h1 h2
  rw [h1]
  simp only [Prod.mk.injEq] at hc
  rw [h2] at hc
  have hc := hc.1
  unfold placeD at hc
  injection hc with hc
  injection hc with _ hc
  rw [hc]

/-- A write of the row, cell by cell. -/
theorem writes_range {w : World} {g cap : Nat} {cur : Array Value} {ws : List Wr} (hg : w.heap[g]? = some (.cells cur 83 (0, 0))) (h4 : cur.toList.take (ws.length * 257) = flat ws) (_h3 : cur.size = cap * 257)
    (hx : ∀ x ∈ ws, x.2.length = 256) (k : Nat) (hk : k < ws.length) : w.rangeAt g (k * 257) (wcells ws[k]) := by
  intro j v hv
  have hl := wcells_len ws[k] (hx _ (List.getElem_mem hk))
  have hj : j < 257 := by
    have := (List.getElem?_eq_some_iff.1 hv).1
    omega
  have h1 : (cur.toList.take (ws.length * 257))[k * 257 + j]? = (flat ws)[k * 257 + j]? := by rw [h4]
  have hlt : k * 257 + j < ws.length * 257 := by
    have : k + 1 ≤ ws.length := hk
    have := Nat.mul_le_mul_right 257 this
    omega
  rw [List.getElem?_take, if_pos hlt, flat_get ws hx k hk j hj] at h1
  rw [cell_of_row _ _ _ _ _ _ hg, ← hv, ← h1]
  simp

/-- What is read of a block. -/
def readL (L : Low) (i : Nat) : List UInt8 := match lastAt (nums L.ws) i with
  | some k => match L.ws[k]? with
    | some x => x.2
    | none => []
  | none => (L.st.drop (i * 256)).take 256

/-- The answer lies in a block of its own. -/
def Reads (w : World) (bs : List UInt8) (e : Ending) (w' : World) : Prop := e = .returned (.tuple #[.slice (some ⟨w.heap.size, 0, none⟩) 256 256, .int .i64 0]) ∧ bs.length = 256 ∧ w' = w.alloc (.cells (bs.map byteV).toArray 5)

theorem run_make256 (w : World) : (Instr.makeSlice 25 (.int .i64 256) (.int .i64 256)).run Tryz.prog w = .ok (.slice (some ⟨w.heap.size, 0, none⟩) 256 256) (w.alloc (.cells (madeCells #[.int .u8 0] 256) 5)) :=
  run_make_row' 25 5 (.int .u8 0) 1 Tryz.underlying25 info_u8 rfl .i64 .i64 256 (by omega) (by omega) w

/-- 256 bytes laid into new memory. -/
theorem run_copy_out (w : World) (b o k c : Nat) (bs : List UInt8) (hl : bs.length = 256) (hk : 256 ≤ k) (hd : w.rangeAt b o (bs.map byteV)) (z : Array Value) (hz : z.size = 256) :
    (Builtin.copy_ #[25, 25] 3 #[Value.slice (some ⟨w.heap.size, 0, none⟩) 256 256, Value.slice (some ⟨b, o, none⟩) k c]).run Tryz.prog (w.alloc (.cells z 5)) =
      .ok (goInt 256) (w.alloc (.cells (bs.map byteV).toArray 5)) := by
  have hdl : (bs.map byteV).length = 256 := by rw [List.length_map, hl]
  have h := run_copy_row (P := Tryz.prog) (w.alloc (.cells z 5)) 25 25 3 5 w.heap.size 0 256 256 ⟨b, o, none⟩ k c
    z 5 (bs.map byteV) Tryz.underlying25 info_byte (heap_alloc_new w _) (by rw [hdl]; exact (Nat.min_eq_right hk).symm)
    (fun j v hv => by rw [Addr.add_mid]; exact World.rangeAt_alloc hd _ j v hv) (by rw [hdl, hz]; omega) (by intro v hv; obtain ⟨u, _, rfl⟩ := List.mem_map.1 hv; rfl)
  rw [hdl, World.setRow_alloc_new] at h
  rw [h]
  have e : List.take 0 z.toList ++ (bs.map byteV ++ List.drop (0 + 256) z.toList) = bs.map byteV := by
    have h0 : List.drop (0 + 256) z.toList = [] := List.drop_eq_nil_of_le (by simp [hz])
    rw [h0, List.append_nil]
    rfl
  rw [List.append_assoc, e]
  rfl

set_option maxRecDepth 100000 in
set_option maxHeartbeats 1000000 in
theorem read_some (i : Nat) (L : Low) (p m n : Nat) (vs vw : Value) (w : World) (h : LowAt w p L vs vw m) (hn : L.st.length = 256 * n) (hm : n ≤ 1024) (hi : i < n) (hx : ∀ x ∈ L.ws, x.2.length = 256) (hw : L.ws.length ≤ 1048576) :
    Calls Tryz.prog 23 #[.pointer (some ⟨p, 0, none⟩), .int .i64 (i : Int)] w (Reads w (readL L i)) := by
  have hhas : hasB n (i : Int) = true := by simp [hasB]; omega
  have c0 := h.f0
  have c1 := h.f1
  have c3 := h.f3
  have hpl := h.p_lt
  have hlk := run_lookup (w.alloc (.cells (madeCells #[.int .u8 0] 256) 5)) m _ _ i (by omega) (h.last.alloc _)
  have hmk := run_make256 w
  have hzs : (madeCells #[.int .u8 0] 256).size = 256 := size_madeCells _ _
  have hbl := fun k hk => Below.heap_alloc w (.cells (madeCells #[.int .u8 0] 256) 5) k hk
  have a0 : (w.alloc (.cells (madeCells #[.int .u8 0] 256) 5)).cell? ⟨p, 0, none⟩ = some vs := by rw [World.cell?_of_block (hbl p hpl)]; exact c0
  have a1 : (w.alloc (.cells (madeCells #[.int .u8 0] 256) 5)).cell? ⟨p, 1, none⟩ = some vw := by rw [World.cell?_of_block (hbl p hpl)]; exact c1
  have a3 : (w.alloc (.cells (madeCells #[.int .u8 0] 256) 5)).cell? ⟨p, 3, none⟩ = some (.map (some m)) := by rw [World.cell?_of_block (hbl p hpl)]; exact c3
  clear hbl c0 c1 c3
  obtain ⟨z, hz⟩ : ∃ z, z = madeCells #[.int .u8 0] 256 := ⟨_, rfl⟩
  rw [← hz] at hlk hmk hzs a0 a1 a3
  have HZ := Lib.hid hz; clear hz
  have HN := Lib.hid hn; clear hn
  unfold readL
  cases hla : lastAt (nums L.ws) i with
  | none =>
    rw [hla] at hlk
    obtain ⟨g, cap, cur, rfl, hg, hc1, hc2, hc3, hc4⟩ := h.st.cut (by have := HN.out; omega)
    have hr : w.rangeAt g (i * 256) (((L.st.drop (i * 256)).take 256).map byteV) := by
      intro j v hv
      have hj : j < 256 := by
        have := (List.getElem?_eq_some_iff.1 hv).1
        simp at this; omega
      have h4 : (cur.toList.take (L.st.length * 1))[i * 256 + j]? = (L.st.map byteV)[i * 256 + j]? := by rw [hc4]
      rw [List.getElem?_take, if_pos (by have := HN.out; omega)] at h4
      rw [cell_of_row _ _ _ _ _ _ hg]
      rw [List.getElem?_map, List.getElem?_take, if_pos hj, List.getElem?_drop, ← List.getElem?_map] at hv
      rw [← hv, ← h4]; simp
    have hlen : ((L.st.drop (i * 256)).take 256).length = 256 := by have := HN.out; simp; omega
    have hcp := run_copy_out w g (i * 256) (L.st.length - i * 256) (cap - i * 256) _ hlen (by have := HN.out; omega) hr z hzs
    obtain ⟨bs, hbs⟩ : ∃ bs, bs = (L.st.drop (i * 256)).take 256 := ⟨_, rfl⟩
    rw [← hbs] at hcp hlen
    show Calls _ _ _ _ (Reads w ((L.st.drop (i * 256)).take 256))
    rw [← hbs]
    have q1 := fun W => run_slice_from W g L.st.length cap (i * 256) ((i : Int) * 256) (by omega) (by have := HN.out; omega) hc1
    have q2 := fun W => run_sliceAt_from W g L.st.length cap (i * 256) ((i : Int) * 256) (by omega) (by have := HN.out; omega) hc1
    have HBS := Lib.hid hbs; clear hbs
    have HLE := Lib.hid hlen; clear hlen
    have H4 := Lib.hid hc4; clear hc4
    have H3 := Lib.hid hc3; clear hc3
    have HG := Lib.hid hg; clear hg
    have HR := Lib.hid hr; clear hr
    have HZS := Lib.hid hzs; clear hzs
    have HLA := Lib.hid hla; clear hla
    go_enter Tryz.func23, Tryz.ntmps23
    go_wp2_with fail
    refine (has_any i L p m n _ vw _ h HN.out hm).mono ?_
    rintro e w' ⟨rfl, rfl⟩
    go_wp2
    go_ret2
    exact ⟨rfl, HLE.out, rfl⟩
  | some k =>
    rw [hla] at hlk
    have hkl := (lastAt_lt _ _ _ hla).1
    rw [nums, List.length_map] at hkl
    have hxk : L.ws[k]? = some L.ws[k] := List.getElem?_eq_getElem hkl
    have hlen : (L.ws[k]).2.length = 256 := hx _ (List.getElem_mem hkl)
    obtain ⟨g, cap, cur, rfl, hg, hc1, hc2, hc3, hc4⟩ := h.ws.cut (by omega)
    have hr0 := writes_range hg hc4 hc3 hx k hkl
    have hr : w.rangeAt g (k * 257 + 1) ((L.ws[k]).2.map byteV) := by
      intro j v hv
      have := hr0 (j + 1) v (by rw [wcells, List.getElem?_cons_succ]; exact hv)
      rw [show k * 257 + 1 + j = k * 257 + (j + 1) by omega]
      exact this
    have hcp := run_copy_out w g (k * 257 + 1) 256 256 _ hlen (by omega) hr z hzs
    show Calls _ _ _ _ (Reads w (match L.ws[k]? with | some x => x.2 | none => []))
    rw [hxk]
    show Calls _ _ _ _ (Reads w (L.ws[k]).2)
    obtain ⟨bs, hbs⟩ : ∃ bs, bs = (L.ws[k]).2 := ⟨_, rfl⟩
    rw [← hbs] at hcp hlen ⊢
    have hk1 : (0 : Int) ≤ (k : Int) := by omega
    have hk2 : (k : Int) < (L.ws.length : Int) := by omega
    have HBS := Lib.hid hbs; clear hbs
    have HLE := Lib.hid hlen; clear hlen
    have H4 := Lib.hid hc4; clear hc4
    have H3 := Lib.hid hc3; clear hc3
    have HG := Lib.hid hg; clear hg
    have HR := Lib.hid hr; clear hr
    have HR0 := Lib.hid hr0; clear hr0
    have HZS := Lib.hid hzs; clear hzs
    have HXK := Lib.hid hxk; clear hxk
    have HX := Lib.hid hx; clear hx
    have HLA := Lib.hid hla; clear hla
    go_enter Tryz.func23, Tryz.ntmps23
    go_wp2_with fail
    refine (has_any i L p m n _ _ _ h HN.out hm).mono ?_
    rintro e w' ⟨rfl, rfl⟩
    go_wp2
    go_ret2
    exact ⟨rfl, HLE.out, rfl⟩
end Go.Proofs.YtelnoibfamcnmaaGreat.Disk
