/- RecordBack: for every record and every bytes behind it, a record's blocks are read again, whatever stands behind, and neither with another number nor cut short. -/
import Derived.Test.YtjbelbhcdbbelaaRcLaws
import Derived.Deep.RegionWith
namespace Go.Proofs.Ytjbelbhcdbbelaa.RecordBack
set_option maxRecDepth 20000
open Go.ChangeShapes Go.WideShapes Go.ChangeAt Go.RowKit
open Go.Proofs.Ytjbelbhcdbbelaa.Mem Go.Proofs.Ytjbelbhcdbbelaa.Rec Go.Proofs.Ytjbelbhcdbbelaa.Lift

/-! ### An append whose sum may pass 2^47 bytes -/
theorem next_quarter {need old : Nat} (h : old < need) (h2 : 1024 ≤ need) : Builtin.nextslicecap need old ≤ need + need / 4 + 192 := by
  unfold Builtin.nextslicecap
  split
  · omega
  · split
    · omega
    · rw [growBy_four]
      repeat' split
      all_goals omega
theorem run_addbig (w : World) (ty : TypeId) (base : Nat) (v : Value) (bs : List UInt8) (hown : Owned w base v bs) (h0 : 512 ≤ bs.length ∧ bs.length ≤ 1048576) (B : Nat) (A : Option Addr) (m c : Nat) (ys : List UInt8) (hr : Holds w B A m ys)
    (hlen : bs.length + m ≤ 140737489403904) (hbase : base ≤ w.heap.size) :
    ∃ v' w', (Builtin.append_ #[27, 27] ty #[v, .slice A m c]).run Try.prog w = .ok v' w' ∧ Owned w' base v' (bs ++ ys) ∧ Below base w w' := by
  by_cases hs : bs.length + m ≤ 140737488355328
  · exact run_addall w ty base v bs hown B A m c ys hr hs hbase
  obtain ⟨i0, hi, hz0, hz1, hz2⟩ := info_parts info_u8
  obtain ⟨hl, hc⟩ := hr
  obtain ⟨g, cap, cur, rfl, hg, hlt, hh, hc1, hc2, hcs, hct⟩ := Owned.cut hown (by omega)
  by_cases hm0 : m = 0
  · omega
  obtain ⟨b, off, rfl, -, hcell⟩ := hc (by omega)
  have hcells : ∀ j u, (ys.map byteV)[j]? = some u → w.cell? ((⟨b, off, none⟩ : Addr).add j) = some u := by
    intro j u hu
    have hj : j < ys.length := by
      have := (List.getElem?_eq_some_iff.1 hu).1
      simpa using this
    have hadd : (⟨b, off, none⟩ : Addr).add j = ⟨b, off + j, none⟩ := by unfold Addr.add; split <;> simp_all
    rw [hadd, hcell j hj]
    simpa [byteV, hj] using hu
  have hone : ∀ u ∈ ys.map byteV, u.oneCell' = true := by
    intro u hu
    obtain ⟨c, _, rfl⟩ := List.mem_map.1 hu
    rfl
  have hnews : (ys.map byteV).length = m * i0.size := by rw [hz1]; simp; omega
  have holds : (bs.map byteV).length = bs.length * i0.size := by rw [hz1]; simp
  have hol : (bs ++ ys).length = bs.length + m := by rw [List.length_append, hl]
  have hlow : ∀ k, (Value.slice (some ⟨g, 0, none⟩) bs.length cap).ownBlock = some k → base ≤ k := Owned.base_le hown
  by_cases hroom : bs.length + m ≤ cap
  · have hr := run_append_room (P := Try.prog) w 27 ty 5 i0 Try.underlying27 hi g bs.length cap cur hh ⟨b, off, none⟩ m c (ys.map byteV) hnews hcells hone hroom (by rw [hnews, hz1, Nat.mul_one, Nat.mul_one, hcs]; exact hroom)
    refine ⟨_, _, hr, ?_, ?_⟩
    · unfold Owned
      rw [hol]
      refine ⟨by simp; omega, .inr ⟨g, cap, _, rfl, hg, setRow_heap w g cur _ 5 _ hh, hroom, hc2, ?_, ?_⟩⟩
      · simp [hz1]; omega
      · have e1 : cur.toList.take (bs.length * i0.size) = bs.map byteV := by rw [hz1, Nat.mul_one]; exact hct
        rw [e1, List.map_append, show (bs.length + m) * 1 = (bs.map byteV ++ ys.map byteV).length by simp; omega]
        exact List.take_left
    · exact (Below.refl base w).grown (row := (Value.slice (some ⟨g, 0, none⟩) bs.length cap).ownBlock) ⟨rfl, rfl, rfl, by simp, fun k _ hk => setRow_other w g k _ (fun e => hk (by simp [Value.ownBlock, e]))⟩ hbase hlow
  · have hgr := run_append_grow (P := Try.prog) w 27 ty 5 i0 (.int .u8 0) Try.underlying27 hi hz0 ⟨g, 0, none⟩ bs.length cap (bs.map byteV) holds (fun j u hu => by
        have hj : j < bs.length := by
          have := (List.getElem?_eq_some_iff.1 hu).1
          simpa using this
        have hadd : (⟨g, 0, none⟩ : Addr).add j = ⟨g, j, none⟩ := by unfold Addr.add; split <;> simp_all
        rw [hadd, cell_of_row w g j cur _ _ hh, ← Array.getElem?_toList]
        have := congrArg (fun l => l[j]?) hct
        simp only [List.getElem?_take] at this
        rw [if_pos hj] at this
        rw [this]; exact hu) ⟨b, off, none⟩ m c (ys.map byteV) hnews hcells (by omega) (by omega) (by
        rw [hz2, Nat.mul_one]
        have := next_quarter (need := bs.length + m) (old := cap) (by omega) (by omega)
        omega)
    have hge := grownCap_ge w (bs.length + m) cap 5
    have hle := grownCap_le_maxLen w (bs.length + m) cap 5 (by unfold maxLen; omega)
    refine ⟨_, _, hgr, ?_, ((Below.refl base w).drew).alloc (by show base ≤ w.heap.size; exact hbase) _⟩
    unfold Owned
    rw [hol]
    refine ⟨by simp; omega, .inr ⟨w.heap.size, _, _, rfl, hbase, heap_alloc_new w.drew _, hge, hle, ?_, ?_⟩⟩
    · simp only [Array.size_append, List.size_toArray, size_zeroCells, List.length_map, hl]
      simp [Value.cells]
      omega
    · simp only [Array.toList_append, List.append_assoc]
      rw [← List.append_assoc, ← List.map_append, show (bs.length + m) * 1 = ((bs ++ ys).map byteV).length by simp; omega]
      exact List.take_left
/-- The same, as the walk comes to it. -/
theorem wpList_addbig {w : World} {ops : Array Oper} {rest : List Oper} {o : Oper} {a : Act} {Q : Exit → Act → World → Prop} (hgd : o.guard = none) (s x : Operand)
    (ho : o.op = .call { callee := .builtin .append, args := #[s, x], argTypes := #[27, 27] })
    (base : Nat) (v : Value) (bs : List UInt8) (hs : a.eval s = v) (hown : Owned w base v bs) (h0 : 512 ≤ bs.length ∧ bs.length ≤ 1048576) (B : Nat) (A : Option Addr) (m c : Nat) (ys : List UInt8) (hx : a.eval x = .slice A m c) (hr : Holds w B A m ys)
    (hlen : bs.length + m ≤ 140737489403904) (hbase : base ≤ w.heap.size)
    (h : ∀ v' w', Owned w' base v' (bs ++ ys) → Below base w w' → wpList Try.prog ops Q rest (a.put o.dst v') w') : wpList Try.prog ops Q (o :: rest) a w := by
  refine wpList_plain hgd fun K hK => ?_
  obtain ⟨v', w', hrun, h2, h3⟩ := run_addbig w o.type base v bs hown h0 B A m c ys hr hlen hbase
  unfold Oper.wp execOp
  simp only [ho, resolve, invoke, builtin, Sem.run_bind, Sem.run_pure, Result.andThen_ok, List.map_toArray, List.map_cons, List.map_nil, hs, hx, hrun]
  exact hK _ _ (h v' w' h2 h3)

set_option maxRecDepth 100000 in
set_option maxHeartbeats 4000000 in
theorem walk (t : Tx) (Aw Ar : Option Addr) (nw cw nr cr : Nat) (A : Option Addr) (n c : Nat) (bs : List UInt8) (w : World) (ht : TxAt w w.heap.size t Aw nw cw Ar nr cr) (h : Holds w w.heap.size A n bs) (hn : n ≤ 140737488355328) :
    Calls Try.prog 3 #[.agg #[.int .u64 (t.seq : Int), .slice Aw nw cw, .slice Ar nr cr], .slice A n c] w fun e w' => e = .returned (.bool true) ∧ Below w.heap.size w w' := by
  have H := Lib.hid h; clear h
  have HSQ := Lib.hid ht.seq
  have HNW : Hid (t.ws.length = nw) := Lib.hid ht.ws.1
  have HT := Lib.hid ht; clear ht
  obtain ⟨cur, hcur⟩ : ∃ c, c = #[Value.int .u64 (t.seq : Int), .slice Aw nw cw, .slice Ar nr cr] := ⟨_, rfl⟩
  have hb0 := (Below.refl w.heap.size w).alloc (Nat.le_refl _) (.cells cur 26)
  have hbk := heap_alloc_new w (.cells cur 26)
  have hs0 : w.heap.size < (w.alloc (.cells cur 26)).heap.size := by simp
  have HB0 := Lib.hid hb0; clear hb0
  have HBK := Lib.hid hbk; clear hbk
  have HS0 := Lib.hid hs0; clear hs0
  obtain ⟨W, hW⟩ : ∃ W, W = w.alloc (.cells cur 26) := ⟨_, rfl⟩
  rw [← hW] at HB0 HBK HS0
  go_enter Try.func3, Try.ntmps3
  go_wp2_with fail
  rw [← hcur, ← hW]
  have HCUR := Lib.hid hcur; clear hcur
  clear hW
  refine (alive_any W).mono ?_
  rintro e w1 ⟨rfl, hb1⟩
  have P0 : Hid (∀ v, Below W.heap.size W v → v.cell? ⟨w.heap.size, 0, none⟩ = some (.int .u64 (t.seq : Int)) ∧ v.cell? ⟨w.heap.size, 1, none⟩ = some (.slice Aw nw cw) ∧ v.cell? ⟨w.heap.size, 2, none⟩ = some (.slice Ar nr cr) ) := Lib.hid (fun v hv => by
    have hh : v.heap[w.heap.size]? = some (.cells cur 26) := (hv.block _ HS0.out).trans HBK.out
    rw [HCUR.out] at hh
    exact ⟨cell_of_row _ _ _ _ _ _ hh, cell_of_row _ _ _ _ _ _ hh, cell_of_row _ _ _ _ _ _ hh⟩)
  cases hm : t.mayB
  · have hC := enc_unfit t Aw Ar nw cw nr cr w.heap.size w1 (HT.out.below (HB0.out.trans (hb1.mono HB0.out.size))) (Nat.le_trans HB0.out.size hb1.size) hm
    obtain ⟨p0, p1, p2⟩ := P0.out w1 hb1
    have HC := Lib.hid hC; clear hC
    have HB1 := Lib.hid (HB0.out.trans (hb1.mono HB0.out.size)); clear hb1
    go_wp2_with fail
    refine HC.out.mono ?_
    rintro e w2 ⟨rfl, hb2⟩
    have HB2 := Lib.hid (HB1.out.trans (hb2.mono HB1.out.size)); clear hb2
    go_wp2
    go_ret
    exact ⟨rfl, HB2.out⟩
  · have hC := enc_fits t Aw Ar nw cw nr cr w.heap.size w1 (HT.out.below (HB0.out.trans (hb1.mono HB0.out.size))) (Nat.le_trans HB0.out.size hb1.size) hm
    obtain ⟨p0, p1, p2⟩ := P0.out w1 hb1
    have HC := Lib.hid hC; clear hC
    have HB1 := Lib.hid hb1; clear hb1
    go_wp2_with fail
    refine HC.out.mono ?_
    rintro e w2 ⟨b, off, cb, rfl, ho, hcb, hcm, hb2⟩
    have hlen : t.enc.length ≤ 15360 := by
      have := enc_len t ((mayB_iff t).1 hm)
      have := ((mayB_iff t).1 hm).hi
      omega
    have hx2 := Owned.reads ho
    have HX2 := Lib.hid hx2; clear hx2
    have hB2 : Below w.heap.size w w2 := HB0.out.trans ((HB1.out.trans (hb2.mono HB1.out.size)).mono HB0.out.size)
    have HB2 := Lib.hid hB2; clear hB2
    have HW2 : Hid (Below W.heap.size W w2) := Lib.hid (HB1.out.trans (hb2.mono HB1.out.size))
    clear hb2 p0 p1 p2 ho HC
    have HCB := Lib.hid hcb; clear hcb
    have HCM := Lib.hid hcm; clear hcm
    obtain ⟨E, hE⟩ : ∃ E, E = t.enc.length := ⟨_, rfl⟩
    rw [← hE] at hlen ⊢
    have HE := Lib.hid hE; clear hE
    have hoe := owned_made w2 [] w2.heap.size (Nat.le_refl _) (by unfold maxLen; simp)
    go_wp2_with (at_builtin; refine wpList_addall (o := ⟨some 34, _, _, _, _, _⟩) rfl _ _ rfl w2.heap.size _ [] rfl hoe w2.heap.size (some ⟨b, off, none⟩) E cb t.enc rfl ?c1 ?c2 ?c3 ?_)
    case c1 => rw [HE.out]; exact HX2.out.below ((Below.refl _ _).alloc (Nat.le_refl _) _)
    case c2 => simp; omega
    case c3 => simp
    intro g w3 ho3 hb3
    have hz3 : Below w2.heap.size w2 w3 := ((Below.refl _ _).alloc (Nat.le_refl _) _).trans hb3
    have HZ3 := Lib.hid hz3; clear hz3 hb3 hoe
    have HO3 := Lib.hid ho3; clear ho3
    have hy3 := (H.out.below HB2.out).below (HZ3.out.mono HB2.out.size)
    go_wp2_with (at_builtin; refine wpList_addbig (o := ⟨some 36, _, _, _, _, _⟩) rfl _ _ rfl w2.heap.size g t.enc rfl HO3.out ?d1 w.heap.size A n c bs rfl hy3 ?d2 ?d3 ?_)
    case d1 => have h5 := enc_len t ((mayB_iff t).1 hm); have := ((mayB_iff t).1 hm).hi; omega
    case d2 => rw [← HE.out]; omega
    case d3 => exact HZ3.out.size
    intro g4 w4 ho4 hb4
    have hz4 := HZ3.out.trans hb4
    obtain ⟨A4, c4, rfl, hg4⟩ := Owned.holds ho4
    obtain ⟨b4, off4, rfl⟩ := Go.Proofs.Ytjbelbhcdbbelaa.Rec.Holds.addr hg4 (by rw [List.length_append, ← HE.out, HE.out, enc_len t ((mayB_iff t).1 hm)]; omega)
    have hf4 := Owned.fits ho4
    have HF4 := Lib.hid hf4; clear hf4
    have hl4 : (t.enc ++ bs).length = E + n := by rw [List.length_append, ← HE.out, H.out.1]
    rw [hl4] at hg4 HF4 ⊢
    have HG4 := Lib.hid hg4; clear hg4
    have HZ4 := Lib.hid hz4; clear hz4 hb4 ho4 hy3 HZ3 HO3 hl4
    have HD : Hid (Calls Try.prog 6 #[.slice (some ⟨b4, off4, none⟩) (E + n) c4, .int .u64 (t.seq : Int)] w4 fun e w' =>
      ∃ Ax cx Ar cr, e = .returned (.tuple #[.agg #[.int .u64 (t.seq : Int), .slice Ax t.ws.length cx, .slice Ar t.rs.length cr], .int .i64 ((t.ws.length : Int) + 2), .bool true]) ∧
        TxAt w' w'.heap.size t Ax t.ws.length cx Ar t.rs.length cr ∧ Below w4.heap.size w4 w') := Lib.hid (dec_fits t bs _ (E + n) c4 w4.heap.size w4 HG4.out (Nat.le_refl _) HF4.out.1 HF4.out.2 HSQ.out hm)
    obtain ⟨p0, p1, p2⟩ := P0.out w4 (HW2.out.trans (HZ4.out.mono HW2.out.size))
    go_wp2_with fail
    refine HD.out.mono ?_
    clear HD p0 p1 p2
    rintro e w5 ⟨Ax, cx, Ay, cy, rfl, ht5, hb5⟩
    rw [HNW.out] at ht5 ⊢
    have HT5 := Lib.hid ht5; clear ht5
    have HB5 := Lib.hid hb5; clear hb5
    obtain ⟨cur2, hcur2⟩ : ∃ c, c = #[Value.int .u64 (t.seq : Int), .slice Ax nw cx, .slice Ay t.rs.length cy] := ⟨_, rfl⟩
    have hb6 := (Below.refl w5.heap.size w5).alloc (Nat.le_refl _) (.cells cur2 26)
    have hbk6 := heap_alloc_new w5 (.cells cur2 26)
    have hs6 : w5.heap.size < (w5.alloc (.cells cur2 26)).heap.size := by simp
    have HB6 := Lib.hid hb6; clear hb6
    have HBK6 := Lib.hid hbk6; clear hbk6
    have HS6 := Lib.hid hs6; clear hs6
    obtain ⟨W6, hW6⟩ : ∃ W, W = w5.alloc (.cells cur2 26) := ⟨_, rfl⟩
    rw [← hW6] at HB6 HBK6 HS6
    have HW6 : Hid (Below W.heap.size W W6) := Lib.hid (HW2.out.trans ((HZ4.out.trans ((HB5.out.trans (HB6.out.mono HB5.out.size)).mono HZ4.out.size)).mono HW2.out.size))
    have HG6 : Hid (Holds W6 w4.heap.size (some ⟨b4, off4, none⟩) (E + n) (t.enc ++ bs)) := Lib.hid (HG4.out.below (HB5.out.trans (HB6.out.mono HB5.out.size)))
    have hz6 : w4.heap.size ≤ W6.heap.size := Nat.le_trans HB5.out.size HB6.out.size
    have q5 : w5.cell? ⟨w.heap.size, 0, none⟩ = some (.int .u64 (t.seq : Int)) := (P0.out w5 (HW2.out.trans ((HZ4.out.trans (HB5.out.mono HZ4.out.size)).mono HW2.out.size))).1
    have hlt5 : w.heap.size < w5.heap.size := by have := HS0.out; have := HW2.out.size; have := HZ4.out.size; have := HB5.out.size; omega
    obtain ⟨s1, hs1⟩ : ∃ s, s = (t.seq + 1) % 18446744073709551616 := ⟨_, rfl⟩
    have HS1 := Lib.hid hs1; clear hs1
    have hno : Hid (decB (t.enc ++ bs) s1 = false) := Lib.hid (dec_other t ((mayB_iff t).1 hm) HSQ.out bs s1 (by have := HS1.out; omega) (by have := HS1.out; have := HSQ.out; omega))
    have HWW := Lib.hid hW6; clear hW6
    have HC2 := Lib.hid hcur2; clear hcur2
    go_wp2_with fail
    rw [← HC2.out, ← HWW.out]
    refine (dec_not (t.enc ++ bs) _ s1 (by have := HS1.out; have := HSQ.out; first | (rw [IntKind.wrap_u64]; omega) | (unfold IntKind.wrap; simp; omega)) _ (E + n) c4 w4.heap.size W6 HG6.out hz6 HF4.out.1 HF4.out.2 (by have := HS1.out; omega) hno.out).mono ?_
    rintro e w7 ⟨rfl, hb7⟩
    clear q5 hlt5 hno
    have HB7 : Hid (Below w4.heap.size W6 w7) := Lib.hid (hb7.mono hz6)
    have HW7 : Hid (Below W.heap.size W w7) := Lib.hid (HW6.out.trans (hb7.mono HW6.out.size))
    have HX7 : Hid (Below W6.heap.size W6 w7) := Lib.hid hb7
    clear hb7
    have hE5 : 512 ≤ E := by rw [HE.out, enc_len t ((mayB_iff t).1 hm)]; omega
    obtain ⟨k, hk⟩ : ∃ k, k + 1 = E := ⟨E - 1, by omega⟩
    have hk1 : IntKind.i64.wrap ((E : Int) - 1) = (k : Int) := by rw [IntWalk.i64_in _ (by omega)]; omega
    have hkc : k ≤ c4 := by have := HF4.out; omega
    have hkn : k ≤ E + n := by omega
    have q7 : w7.cell? ⟨w.heap.size, 0, none⟩ = some (.int .u64 (t.seq : Int)) := (P0.out w7 HW7.out).1
    have hlt7 : w.heap.size < w7.heap.size := by have := HS0.out; have := HW7.out.size; omega
    have HK := Lib.hid hk; clear hk
    have hb8 := (Below.refl w7.heap.size w7).alloc (Nat.le_refl _) (.cells #[.int .u64 0, .slice none 0 0, .slice none 0 0] 26)
    obtain ⟨W8, hW8⟩ : ∃ W, W = w7.alloc (.cells #[.int .u64 0, .slice none 0 0, .slice none 0 0] 26) := ⟨_, rfl⟩
    rw [← hW8] at hb8
    have HB8 : Hid (Below w7.heap.size w7 W8) := Lib.hid hb8
    have HW8 : Hid (Below W.heap.size W W8) := Lib.hid (HW7.out.trans (hb8.mono HW7.out.size))
    clear hb8
    have HWW8 := Lib.hid hW8; clear hW8
    go_wp2_with fail
    rw [← HWW8.out]
    clear q7 hlt7
    have q8 : W8.cell? ⟨w.heap.size, 0, none⟩ = some (.int .u64 (t.seq : Int)) := (P0.out W8 HW8.out).1
    have HC8 : Hid (∀ v, Below W8.heap.size W8 v → Calls Try.prog 6 #[.slice (some ⟨b4, off4, none⟩) k c4, .int .u64 (t.seq : Int)] v fun e w' =>
      e = .returned (.tuple #[.agg #[.int .u64 0, .slice none 0 0, .slice none 0 0], .int .i64 0, .bool false]) ∧ Below W8.heap.size W8 w' ∧ Below v.heap.size v w') := Lib.hid (by
      intro v hv
      have hsh := dec_short t ((mayB_iff t).1 hm) bs t.seq
      have hh := ((HG6.out.below (HB7.out.trans ((HB8.out.trans (hv.mono HB8.out.size)).mono (Nat.le_trans hz6 HX7.out.size)))).take (k := k) hkn)
      rw [← HE.out, ← HK.out, Nat.add_sub_cancel] at hsh
      refine (dec_not _ _ t.seq rfl _ k c4 w4.heap.size v hh (Nat.le_trans hz6 (Nat.le_trans HX7.out.size (Nat.le_trans HB8.out.size hv.size))) hkc HF4.out.2 HSQ.out hsh).mono ?_
      rintro e w' ⟨rfl, hb⟩
      exact ⟨rfl, hv.trans (hb.mono hv.size), hb⟩)
    have hlt8 : w.heap.size < W8.heap.size := by have := HS0.out; have := HW8.out.size; omega
    go_region_with (first
      | (go_at_call 6
         refine (HC8.out ((W8.alloc (.cells #[.int .u64 0, .slice none 0 0, .slice none 0 0] 26)).drew) (((Below.refl W8.heap.size W8).alloc (Nat.le_refl _) _).drew)).mono ?_
         rintro e w9 ⟨rfl, hb9, hv9⟩
         have hr9 : w9.heap[W8.heap.size]? = some (.cells #[.int .u64 0, .slice none 0 0, .slice none 0 0] 26 (0, 0)) := (hv9.block _ (by show W8.heap.size < (W8.alloc _).heap.size; simp)).trans (heap_alloc_new W8 _)
         have a0 := cell_of_row _ _ 0 _ _ _ hr9
         have a1 := cell_of_row _ _ 1 _ _ _ hr9
         have a2 := cell_of_row _ _ 2 _ _ _ hr9
         have f0 := frozen_of_row _ _ 0 _ _ hr9
         have f1 := frozen_of_row _ _ 1 _ _ hr9
         have f2 := frozen_of_row _ _ 2 _ _ hr9
         simp at a0 a1 a2
         clear hr9 hv9
         have HB9 := Lib.hid hb9; clear hb9)
      | (go_at_call 6
         refine (HC8.out W8.drew (Below.refl W8.heap.size W8).drew).mono ?_
         rintro e w9 ⟨rfl, hb9, hv9⟩
         clear hv9
         have HB9 := Lib.hid hb9; clear hb9))
    all_goals
      first
        | (have _ := a0
           have hX : Below W8.heap.size W8 (((w9.setCell ⟨W8.heap.size, 0, none⟩ (.int .u64 0)).setCell ⟨W8.heap.size, 1, none⟩ (.slice none 0 0)).setCell ⟨W8.heap.size, 2, none⟩ (.slice none 0 0)) := ((HB9.out.setCell (Nat.le_refl _) _).setCell (Nat.le_refl _) _).setCell (Nat.le_refl _) _
           generalize (((w9.setCell ⟨W8.heap.size, 0, none⟩ (.int .u64 0)).setCell ⟨W8.heap.size, 1, none⟩ (.slice none 0 0)).setCell ⟨W8.heap.size, 2, none⟩ (.slice none 0 0)) = X at hX ⊢
           clear a0 a1 a2 f0 f1 f2)
        | (have hX : Below W8.heap.size W8 (w9.alloc (.cells #[.int .u64 0, .slice none 0 0, .slice none 0 0] 26)) := HB9.out.alloc HB9.out.size _
           generalize w9.alloc (.cells #[.int .u64 0, .slice none 0 0, .slice none 0 0] 26) = X at hX ⊢)
      have hX1 : Below W.heap.size W X := HW8.out.trans (hX.mono HW8.out.size)
      obtain ⟨p0, p1, p2⟩ := P0.out X hX1
      have hX6 : Below W6.heap.size W6 X := HX7.out.trans ((HB8.out.trans (hX.mono HB8.out.size)).mono HX7.out.size)
      have hrow : X.heap[w5.heap.size]? = some (.cells #[.int .u64 (t.seq : Int), .slice Ax nw cx, .slice Ay t.rs.length cy] 26) := by
        rw [← HC2.out]; exact (hX6.block _ HS6.out).trans HBK6.out
      have x0 := cell_of_row _ _ 0 _ _ _ hrow
      have x1 := cell_of_row _ _ 1 _ _ _ hrow
      have x2 := cell_of_row _ _ 2 _ _ _ hrow
      simp at x0 x1 x2
      have hX5 : Below w5.heap.size w5 X := HB6.out.trans (hX6.mono HB6.out.size)
      have hXw : Below w.heap.size w X := HB0.out.trans (hX1.mono HB0.out.size)
      have HSM := Lib.hid (same_any t t Ax Ay nw cx t.rs.length cy w5.heap.size Aw Ar nw cw nr cr w.heap.size X (HT5.out.below hX5) hX5.size (HT.out.below hXw) hXw.size (by have := HT5.out.fits; omega) (by have := HT5.out.fits; omega))
      rw [(sameB_iff t t).2 rfl] at HSM
      have HXw := Lib.hid hXw; clear hXw
      clear hX hX1 hX6 hX5 hrow q8 hlt8
      have hnw : nw ≤ 58 := by have := ((mayB_iff t).1 hm).hi; have := HNW.out; omega
      have hE2 : 256 * ((nw : Int) + 2) = (E : Int) := by have := enc_len t ((mayB_iff t).1 hm); rw [HNW.out, ← HE.out] at this; omega
      go_wp2_with fail
      refine HSM.out.mono ?_
      rintro e wz ⟨rfl, hbz⟩
      have HBZ := Lib.hid hbz; clear hbz
      go_wp2
      go_ret
      exact ⟨rfl, HXw.out.trans (HBZ.out.mono HXw.out.size)⟩
theorem walks : Walks 3 Try.f3 All := by
  intro H enc W base args ds p hval hA hsz _
  rw [Try.params3] at hA hval hsz
  obtain ⟨v0, vs0, d0, ds0, p0, q0, hargs, rfl, rfl, h0, r0⟩ := trodAll_cons hA
  obtain ⟨v1, vs1, d1, ds1, p1, q1, rfl, rfl, rfl, h1, r1⟩ := trodAll_cons r0
  obtain ⟨rfl, rfl, rfl⟩ := trodAll_nil r1
  obtain rfl : args = #[v0, v1] := by cases args; simp_all
  obtain ⟨t, Aw, nw, cw, Ar, nr, cr, rfl, ht⟩ := txn_open (hval 0 _ v0 rfl rfl) h0 (txn_weights hsz (j := 0) rfl rfl)
  obtain ⟨A, n, c, bs, rfl, hb, hnc, hcr⟩ := open_bytesC (hval 1 _ v1 rfl rfl) h1 _ (reach_bytes hsz (j := 1) rfl rfl)
  exact walk t Aw Ar nw cw nr cr A n c bs W ht hb (by omega)

set_option maxRecDepth 100000 in
theorem proved : Rows.RecordBackSaid :=
  OpenClaim.holds_of_wide 3 Try.f3 rfl rfl rfl rfl rfl rfl rfl ⟨rfl, rfl, rfl, rfl, rfl⟩ rfl rfl rfl rfl rfl (by kernel_rfl) Try.func3 (by kernel_rfl)
    (of_decide_eq_true (by kernel_rfl)) (by unfold Func.isWrapper; first | (rw [if_pos (by decide +kernel)]; kernel_rfl) | (rw [if_neg (by decide +kernel)]; exact ⟨rfl, rfl⟩))
    (fun os started H enc _ => lifted (s := Rows.recordBackSpec) walks (by kernel_rfl) rfl rfl (fun H ds hl => by match ds, hl with | [d1, d2], _ => rfl) (by kernel_rfl) Try.func3 os started H enc
      (ChangeSpec.witness6 (enc := enc) (C := Try.checked) false ⟨#[], #[.agg #[.int .u64 0, .slice none 0 0, .slice none 0 0], .slice none 0 0], []⟩ 8 (by kernel_rfl) (by kernel_rfl) (by kernel_rfl) (by kernel_rfl)))
#print axioms proved
end Go.Proofs.Ytjbelbhcdbbelaa.RecordBack
