/- Bytes read out of runs: the program's call. -/
import Derived.Test.YtmbmjdogfjmlpaaDoorSpCalls
namespace Go.Proofs.YtmbmjdogfjmlpaaDoor.Sp
set_option maxRecDepth 20000
open Go.RowKit
open Go.Proofs.YtmbmjdogfjmlpaaDoor.Mem Go.Proofs.YtmbmjdogfjmlpaaDoor.Rec Go.Proofs.YtmbmjdogfjmlpaaDoor.Reg
attribute [local go_sem ↓] ldX_eq stX_eq

/-- 'copy(d[k:], s)', s a text. -/
theorem run_copy_text (w : World) (ty : TypeId) (base g n cap : Nat) (bs ys : List UInt8) (k dl dc : Nat) (h : Owned w base (.slice (some ⟨g, 0, none⟩) n cap) bs) (h0 : 0 < ys.length) (hd : ys.length ≤ dl) (hk : k + ys.length ≤ n) :
    ∃ w', (Builtin.copy_ #[41, 9] ty #[.slice (some ⟨g, k, none⟩) dl dc, .string ⟨ys.toArray⟩]).run Tryd.prog w = .ok (goInt ys.length) w' ∧ Owned w' base (.slice (some ⟨g, 0, none⟩) n cap) (over bs k ys) ∧ Below base w w' ∧ ∀ i, i ≠ g → w'.heap[i]? = w.heap[i]? := by
  obtain rfl : n = bs.length := Owned.len h
  obtain ⟨g', cap', cur, hv, hb, hgl, hg, hc1, hc2, hc3, hc4⟩ := Owned.cut h (by omega)
  injection hv with e1 e2 e3
  injection e1 with e1
  injection e1 with e1
  subst e1 e3
  have hsz : (⟨ys.toArray⟩ : ByteArray).size = ys.length := by simp [ByteArray.size]
  have hrun := Lib.run_copy_row_string (P := Tryd.prog) w 41 9 ty 5 g k dl dc ⟨ys.toArray⟩ cur 5 Tryd.underlying41 (by kernel_rfl) hg (by rw [hsz]; exact hd) (by rw [hsz]; omega)
  rw [hsz] at hrun
  refine ⟨_, hrun, Owned.laid h hk cur hg ?_, below_setRow (Below.refl base w) hb _, fun i hi => setRow_other w g i _ hi⟩
  rw [setRow_heap w g _ _ _ _ hg]
  congr 2
  rw [List.append_assoc]
  rfl
theorem step_copy2 {w : World} {ops : Array Oper} {o : Oper} {a : Act} {K : Act → World → Prop} {Q : Exit → Act → World → Prop} {E : Prop} (hgd : o.guard = none) (d x : Operand) (dT sT : TypeId)
    (ho : o.op = .call { callee := .builtin .copy, args := #[d, x], argTypes := #[dT, sT] }) (vd vx : Value) (hd : a.eval d = vd) (hx : a.eval x = vx) (v : Value) (w' : World) (hrun : (Builtin.copy_ #[dT, sT] o.type #[vd, vx]).run Tryd.prog w = .ok v w')
    (h : K (a.put o.dst v) w') : if Region.wanted o (yielded ops a.tmps) = true then Oper.wp Tryd.prog o a w K Q else E := by
  subst hd hx
  exact step_copyrun hgd d x dT sT ho v w' hrun h
theorem cont_snoc : ∀ (l : List Rn) (y : Rn) (f : Int), chk f (l ++ [y]) = true → ∀ i, cont (l ++ [y]) i = if y.a ≤ i ∧ i < y.e then y.t.getD (i - y.a).toNat 0 else cont l i
  | [], y, f, _, i => rfl
  | x :: l, y, f, h, i => by
    have h0 := chk_cons.1 (show chk f (x :: (l ++ [y])) = true from h)
    have hx := okR_iff.1 h0.1
    have hxe : x.e = x.a + (x.t.length : Int) := rfl
    have hy := okR_iff.1 (chk_mem h0.2 y (by simp))
    show cont (x :: (l ++ [y])) i = _
    by_cases h1 : x.a ≤ i ∧ i < x.e
    · rw [cont_in h1.1 h1.2, if_neg (by omega), cont_in h1.1 h1.2]
    · rw [cont_out (by omega), cont_snoc l y _ h0.2 i, cont_out (x := x) (by omega)]
theorem bytes_nil (p : Int) (n : Nat) : bytesL [] p n = List.replicate n 0 := by
  unfold bytesL
  rw [List.eq_replicate_iff]
  refine ⟨by simp, fun b hb => ?_⟩
  obtain ⟨j, _, rfl⟩ := List.mem_map.1 hb
  rfl
theorem over_get (bs : List UInt8) (k : Nat) (ys : List UInt8) (h : k + ys.length ≤ bs.length) (i : Nat) : (over bs k ys).getD i 0 = if k ≤ i ∧ i < k + ys.length then ys.getD (i - k) 0 else bs.getD i 0 := by
  unfold over
  by_cases h1 : i < k
  · rw [if_neg (by omega), getD_append_left (by rw [List.length_take]; omega), getD_take h1]
  · by_cases h2 : i < k + ys.length
    · rw [if_pos (by omega), getD_append_right (by rw [List.length_take]; omega), getD_append_left (by rw [List.length_take]; omega)]
      congr 1
      rw [List.length_take]; omega
    · rw [if_neg (by omega), getD_append_right (by rw [List.length_take]; omega), getD_append_right (by rw [List.length_take]; omega), getD_drop]
      congr 1
      rw [List.length_take]; omega
theorem list_getD {a b : List UInt8} (hl : a.length = b.length) (h : ∀ i, i < a.length → a.getD i 0 = b.getD i 0) : a = b := by
  apply List.ext_getElem hl
  intro i h1 h2
  have := h i h1
  rw [List.getD_eq_getElem?_getD, List.getD_eq_getElem?_getD, List.getElem?_eq_getElem h1, List.getElem?_eq_getElem h2, Option.getD_some, Option.getD_some] at this
  exact this
theorem bytes_step (l : List Rn) (y : Rn) (f p : Int) (n : Nat) (h : chk f (l ++ [y]) = true) (h1 : p ≤ y.a) (h2 : y.e ≤ p + (n : Int)) : bytesL (l ++ [y]) p n = over (bytesL l p n) (y.a - p).toNat y.t := by
  have hy : y.e = y.a + (y.t.length : Int) := rfl
  have hle : (y.a - p).toNat + y.t.length ≤ (bytesL l p n).length := by rw [bytesL_len]; omega
  refine list_getD (by rw [over_len _ _ _ hle, bytesL_len, bytesL_len]) fun i hi => ?_
  rw [bytesL_len] at hi
  rw [bytesL_get _ _ _ _ hi, over_get _ _ _ hle, bytesL_get _ _ _ _ hi, cont_snoc _ _ _ h]
  by_cases h3 : y.a ≤ p + (i : Int) ∧ p + (i : Int) < y.e
  · rw [if_pos h3, if_pos (by omega)]
    congr 1
    omega
  · rw [if_neg h3, if_neg (by omega)]
theorem bytes_clip {l : List Rn} (hl : right l = true) (p : Int) (n : Nat) : bytesL (clip p (p + (n : Int)) l) p n = bytesL l p n := by
  refine list_getD (by rw [bytesL_len, bytesL_len]) fun i hi => ?_
  rw [bytesL_len] at hi
  rw [bytesL_get _ _ _ _ hi, bytesL_get _ _ _ _ hi, cont_clip _ _ (g := 0) hl, if_pos (by omega)]
theorem chk_take : ∀ {l : List Rn} {f : Int} (k : Nat), chk f l = true → chk f (l.take k) = true
  | [], _, k, _ => by simp [chk]
  | x :: l, f, 0, _ => rfl
  | x :: l, f, k + 1, h => by
    have h0 := chk_cons.1 h
    exact chk_cons.2 ⟨h0.1, chk_take k h0.2⟩

/-- A text and an error's number. -/
def Text2 (w : World) (r : List UInt8 × Int) (e : Ending) (w' : World) : Prop := e = .returned (.tuple #[.string ⟨r.1.toArray⟩, .int .i64 r.2]) ∧ Below w.heap.size w w'
set_option maxRecDepth 100000 in
set_option maxHeartbeats 16000000 in
theorem Bytes_any (A : Option Addr) (n c B : Nat) (l : List Rn) (p m : Int) (w : World) (h : HoldsX w B A n l) (hB : B ≤ w.heap.size) (hn : n ≤ 8796093022208) (hrep : ∀ x ∈ l, x.rep)
    (hp : -9223372036854775808 ≤ p ∧ p ≤ 9223372036854775807) :
    Calls Tryd.prog 20 #[.slice A n c, .int .i64 p, .int .i64 m] w (Text2 w (bytesA l p m)) := by
  obtain ⟨post, hpost⟩ : ∃ post, post = Text2 w (bytesA l p m) := ⟨_, rfl⟩
  rw [← hpost]
  have HP := Lib.hid hpost; clear hpost
  have hck := check_any A n c B l w h hB hn hrep
  rcases Int.lt_or_le p 0 with h1 | h1
  · have he : bytesA l p m = ([], 1) := by unfold bytesA; rw [if_pos (.inl h1)]
    rw [he] at HP
    clear he hck h
    go_enter Tryd.func20, Tryd.ntmps20
    go_wp2
    rw [HP.out]
    exact ⟨rfl, Below.refl _ _⟩
  have h1' : ¬ p < 0 := by omega
  rcases Int.lt_or_le m 0 with h2 | h2
  · have he : bytesA l p m = ([], 1) := by unfold bytesA; rw [if_pos (.inr (.inl h2))]
    rw [he] at HP
    clear he hck h
    go_enter Tryd.func20, Tryd.ntmps20
    go_wp2
    rw [HP.out]
    exact ⟨rfl, Below.refl _ _⟩
  have h2' : ¬ m < 0 := by omega
  cases hr : right l with
  | false =>
    have he : bytesA l p m = ([], 1) := by unfold bytesA; rw [if_pos (.inr (.inr hr))]
    rw [he] at HP
    rw [hr, if_neg (by decide)] at hck
    clear he h hr
    have HCK := Lib.hid hck; clear hck
    go_enter Tryd.func20, Tryd.ntmps20
    go_wp2_with fail
    with_reducible refine HCK.out.mono ?_
    rintro E w1 ⟨rfl, hb1⟩
    have HB1 := Lib.hid hb1; clear hb1
    go_wp2
    rw [HP.out]
    exact ⟨rfl, HB1.out⟩
  | true =>
    rw [hr, if_pos rfl] at hck
    have hby := fun V => beyond_any p m ⟨h1, hp.2⟩ V
    have hll := right_len hr
    have hnn : n ≤ 65538 := by rw [← h.1]; exact hll
    have hok : ∀ x ∈ l, okE x := okE_right (Int.le_refl 0) hr
    rcases Int.lt_or_le (65536 - p) m with h3 | h3
    · have he : bytesA l p m = ([], 10) := by unfold bytesA; rw [if_neg (by rw [hr]; simp; omega), if_pos h3]
      rw [he] at HP
      simp only [decide_eq_true h3] at hby
      clear he h hr hll hok
      have HCK := Lib.hid hck; clear hck
      have HBY := Lib.hid hby; clear hby h3
      go_enter Tryd.func20, Tryd.ntmps20
      go_wp2_with fail
      with_reducible refine HCK.out.mono ?_
      rintro E w1 ⟨rfl, hb1⟩
      have HB1 := Lib.hid hb1; clear hb1
      go_wp2_with fail
      with_reducible refine (HBY.out w1).mono ?_
      rintro E w2 ⟨rfl, rfl⟩
      go_wp2
      rw [HP.out]
      exact ⟨rfl, HB1.out⟩
    · obtain ⟨N, rfl⟩ : ∃ N : Nat, m = (N : Int) := ⟨m.toNat, by omega⟩
      have he : bytesA l p (N : Int) = (bytesL (clip p (p + (N : Int)) l) p N, 0) := by unfold bytesA; rw [if_neg (by rw [hr]; simp; omega), if_neg (by omega), bytes_clip hr, show ((N : Int)).toNat = N by omega]
      rw [he] at HP
      have hw1 := fun V (hV : Below w.heap.size w V) => within_any A n c B l p (p + (N : Int)) V (h.below (hV.mono hB)) (Nat.le_trans hB hV.size) (by omega) hok
      have hk1 := chk_clip p (p + (N : Int)) (l := l) (g := 0) hr
      have hlen1 := Nat.le_trans (clip_len p (p + (N : Int)) l) hll
      have hct := clip_top p (p + (N : Int)) (l := l)
      have hmk := fun W => run_makeZ N (by omega) W
      simp only [decide_eq_false (show ¬ 65536 - p < (N : Int) by omega)] at hby
      have hN : (N : Int) ≤ 65536 := by omega
      have hpN : p + (N : Int) ≤ 65536 := by omega
      clear he h hr hll hok
      generalize clip p (p + (N : Int)) l = M at *
      have HCK := Lib.hid hck; clear hck
      have HBY := Lib.hid hby; clear hby
      have HW1 := Lib.hid hw1; clear hw1
      have HCT := Lib.hid hct; clear hct
      have HK1 := Lib.hid hk1; clear hk1
      have hz0 : bytesL ([] : List Rn) p N = List.replicate N 0 := bytes_nil p N
      obtain ⟨Z, hZ⟩ : ∃ Z, Z = (((List.replicate N (0 : UInt8)).map byteV).toArray) := ⟨_, rfl⟩
      have hown0 : ∀ W : World, Owned (W.alloc (.cells Z 5)) W.heap.size (.slice (some ⟨W.heap.size, 0, none⟩) N N) (bytesL ([] : List Rn) p N) := fun W => by
        have := owned_made W (List.replicate N 0) W.heap.size (Nat.le_refl _) (by rw [List.length_replicate]; unfold maxLen; omega)
        rw [List.length_replicate] at this
        rw [hZ, hz0]; exact this
      simp only [← hZ] at hmk
      have HOWN0 := Lib.hid hown0; clear hown0 hz0 hZ
      go_enter Tryd.func20, Tryd.ntmps20
      go_wp2_with fail
      with_reducible refine HCK.out.mono ?_
      rintro E w1 ⟨rfl, hb1⟩
      have HB1 := Lib.hid hb1; clear hb1
      go_wp2_with fail
      with_reducible refine (HBY.out w1).mono ?_
      rintro E w2 ⟨rfl, rfl⟩
      go_wp2_with fail
      obtain ⟨g, hg⟩ : ∃ g, g = w2.heap.size := ⟨_, rfl⟩
      obtain ⟨w3, hw3⟩ : ∃ w3, w3 = w2.alloc (.cells Z 5) := ⟨_, rfl⟩
      have hb3 : Below w.heap.size w w3 := by rw [hw3]; exact HB1.out.alloc HB1.out.size _
      have ho3 : Owned w3 w.heap.size (.slice (some ⟨g, 0, none⟩) N N) (bytesL ([] : List Rn) p N) := by rw [hw3, hg]; exact Owned.mono (HOWN0.out w2) HB1.out.size
      have hgw : w.heap.size ≤ g := by rw [hg]; exact HB1.out.size
      have hg3 : g < w3.heap.size := by rw [hw3, hg]; simp
      rw [← hw3, ← hg]
      have HB3 := Lib.hid hb3; clear hb3
      have HO3 := Lib.hid ho3; clear ho3
      have HG := Lib.hid hgw; clear hgw
      have HG3 := Lib.hid hg3; clear hg3 hg hw3 hmk HB1
      with_reducible refine (HW1.out w3 HB3.out).mono ?_
      rintro E w4 ⟨A4, c4, rfl, ho4, hb4⟩
      have HB4 : Hid (Below w.heap.size w w4) := Lib.hid (HB3.out.trans (hb4.mono HB3.out.size))
      have HO34 : Hid (Owned w4 w.heap.size (.slice (some ⟨g, 0, none⟩) N N) (bytesL ([] : List Rn) p N)) := Lib.hid (Owned.keep HO3.out hb4 (Nat.le_refl _))
      have HM4 := Lib.hid ho4; clear ho4
      -- the runs lie in blocks of their own
      have hmo : ∀ q, (Value.slice A4 M.length c4).ownBlock = some q → q ≠ g := fun q hq => by have := (HM4.out.lt q hq).1; have := HG3.out; omega
      have HMO := Lib.hid hmo; clear hmo hb4 HO3
      have HZ4 := HB4.out.size
      have hml : M.length ≤ 65538 := hlen1
      clear hlen1
      obtain ⟨ml, hmld⟩ : ∃ ml, ml = M.length := ⟨_, rfl⟩
      rw [← hmld] at HM4 HMO hml ⊢
      have HML := Lib.hid hmld; clear hmld
      go_wp2
      go_loopw [34] (fun i wr => ∃ k : Nat, k ≤ ml ∧ i = .int .i64 (k : Int) ∧ Owned wr w.heap.size (.slice (some ⟨g, 0, none⟩) N N) (bytesL (M.take k) p N) ∧ OwnX wr (w3.heap.size) (.slice A4 ml c4) M ∧ Below w.heap.size w wr) (fun i _ => ml - (intOf i).toNat)
      case atStart => exact ⟨0, Nat.zero_le _, rfl, HO34.out, HM4.out, HB4.out⟩
      case round =>
        obtain ⟨k, hk, rfl, hown, hmx, hbr⟩ := hrel
        have HO := Lib.hid hown; clear hown
        rcases Nat.lt_or_ge k ml with hlt | hge
        rotate_left
        · have hkn : ¬ (k : Int) < (ml : Int) := by omega
          have hall : M.take k = M := List.take_of_length_le (by rw [← HML.out]; omega)
          rw [hall] at HO
          have htx := run_text wr _ _ N N _ (Owned.reads HO.out)
          have HBR := Lib.hid hbr; clear hbr hmx hall
          generalize bytesL M p N = bs at *
          go_wp2
          rw [HP.out]
          exact ⟨rfl, HBR.out⟩
        · have hkl : k < M.length := by rw [← HML.out]; exact hlt
          obtain ⟨gm, rfl, hgm1, hgm2, hgm3⟩ := hmx.form (by omega)
          obtain ⟨y, hy⟩ : ∃ y, y = M[k] := ⟨_, rfl⟩
          have hym : y ∈ M := by rw [hy]; exact List.getElem_mem hkl
          have hld := run_ldX_at hmx.reads k hkl (0 + k * 2) rfl
          rw [← hy, Nat.zero_add] at hld
          have hst := run_stX_new wr y
          have hvar : VarX (wr.alloc (.cells y.c 33)) wr.heap.size y := VarX.new wr y
          obtain ⟨q0, q1⟩ := hvar.cells
          have hb1 : Below w.heap.size w (wr.alloc (.cells y.c 33)) := hbr.alloc hbr.size _
          have ho1 : Owned (wr.alloc (.cells y.c 33)) w.heap.size (.slice (some ⟨g, 0, none⟩) N N) (bytesL (M.take k) p N) := Owned.keep HO.out ((Below.refl _ wr).alloc (Nat.le_refl _) _) (Nat.le_refl _)
          have hm1 : OwnX (wr.alloc (.cells y.c 33)) (w3.heap.size) (.slice (some ⟨gm, 0, none⟩) ml c4) M := hmx.below ((Below.refl _ wr).alloc (Nat.le_refl _) _)
          have hsz1 : (wr.alloc (.cells y.c 33)).heap.size = wr.heap.size + 1 := by simp
          have hch : chk (max 0 p) (M.take k ++ [y]) = true := by
            have := chk_take (k + 1) HK1.out
            rwa [List.take_succ_eq_append_getElem hkl, ← hy] at this
          obtain ⟨ht1, ht2⟩ := HCT.out y hym
          have hyk := okR_iff.1 (chk_mem hch y (by simp))
          have hye : y.e = y.a + (y.t.length : Int) := rfl
          have hstep := bytes_step (M.take k) y (max 0 p) p N hch ht2 ht1
          have hnext : bytesL (M.take (k + 1)) p N = over (bytesL (M.take k) p N) (y.a - p).toNat y.t := by
            rw [List.take_succ_eq_append_getElem hkl, ← hy]; exact hstep
          obtain ⟨o, ho⟩ : ∃ o : Nat, y.a - p = (o : Int) := ⟨(y.a - p).toNat, by omega⟩
          rw [show (y.a - p).toNat = o by omega] at hnext
          have hcp := fun (W : World) (hO : Owned W w.heap.size (.slice (some ⟨g, 0, none⟩) N N) (bytesL (M.take k) p N)) => run_copy_text W 3 w.heap.size g N N (bytesL (M.take k) p N) y.t o (N - o) (N - o) hO hyk.2.2.1 (by omega) (by omega)
          rw [← hnext] at hcp
          have hsy : (⟨y.t.toArray⟩ : ByteArray).size = y.t.length := text_size y.t
          have hob : (o : Int) ≤ (N : Int) := by omega
          have hob2 : (o : Int) ≤ 65536 := by omega
          have hwr : IntKind.i64.wrap (o : Int) = (o : Int) := by rw [IntKind.wrap_i64]; omega
          have hoN : ¬ N = o := by omega
          have hk0 : (0 : Int) ≤ (k : Int) := by omega
          have hkn : (k : Int) < (ml : Int) := by omega
          obtain ⟨a, ha⟩ : ∃ a, a = y.a := ⟨_, rfl⟩
          rw [← ha] at q0 ho
          obtain ⟨C, hC⟩ : ∃ C, C = y.c := ⟨_, rfl⟩
          rw [← hC] at hld hst q0 q1 hb1 ho1 hm1 hsz1
          obtain ⟨S, hS⟩ : ∃ S : ByteArray, S = ⟨y.t.toArray⟩ := ⟨_, rfl⟩
          rw [← hS] at q1
          simp only [← hS] at hcp
          have hle5 : (0 : Int) ≤ (o : Int) := by omega
          have HB1 := Lib.hid hb1; clear hb1
          have HO1 := Lib.hid ho1; clear ho1
          have HM1 := Lib.hid hm1; clear hm1
          have HCP := Lib.hid hcp; clear hcp
          have HSZ := Lib.hid hsz1; clear hsz1
          have HGM : Hid (gm ≠ g) := Lib.hid (HMO.out gm rfl)
          have HGML : Hid (gm < wr.heap.size) := Lib.hid hgm2
          clear hstep hch ht1 ht2 hyk hye hnext hsy hC ha hS hvar hmx hgm1 hgm2 hgm3 hy hym hbr HO
          obtain ⟨gv, hgv⟩ : ∃ gv, gv = wr.heap.size := ⟨_, rfl⟩
          rw [← hgv] at q0 q1 HSZ
          have HGV := Lib.hid hgv; clear hgv
          go_wp2
          clear hst hld
          rw [← HGV.out]
          generalize wr.alloc (.cells C 33) = W1 at HB1 HO1 HM1 HSZ q0 q1 ⊢
          obtain ⟨W5, hrun, ho5, hb5, hoth⟩ := HCP.out W1.drew (Owned.keep HO1.out (Below.refl _ _).drew (Nat.le_refl _))
          have HB5 : Hid (Below w.heap.size w W5) := Lib.hid (HB1.out.drew.trans hb5)
          have HO5 := Lib.hid ho5; clear ho5
          have HM5 : Hid (OwnX W5 w3.heap.size (.slice (some ⟨gm, 0, none⟩) ml c4) M) := Lib.hid (OwnX.kept (HM1.out.below (Below.refl _ _).drew) fun g' hg' => by
            injection hg' with hg'
            dsimp only at hg'
            subst hg'
            exact hoth _ HGM.out)
          clear hb5 hoth
          have hld3 := fun V (hV : V = W1.drew) => And.intro (show V.cell? ⟨gv, 0, none⟩ = some (.int .i64 a) by rw [hV]; exact q0) (show V.cell? ⟨gv, 1, none⟩ = some (.string S) by rw [hV]; exact q1)
          clear q0 q1
          have HQ := Lib.hid hld3; clear hld3
          refine wp_region_E (fun V => V = W1.drew) 8 rfl ?_
          have hS : W1.drew = W1.drew := rfl
          refine wpE_take 0 ⟨some 38, _, _, _, _, _⟩ (v := ?_) [5, 8] rfl (by kernel_rfl) (by kernel_rfl) (by kernel_rfl) (by kernel_rfl) (fun _ _ _ h => h) hS (Or.inl ⟨by rfl, ?_⟩) ?_
          rotate_left
          · (intro V hSw; obtain ⟨q0, q1⟩ := HQ.out V hSw; clear hSw; go_simp; try with_reducible rfl)
          try simp only [Act.put]
          refine wpE_take 1 ⟨some 39, _, _, _, _, _⟩ (v := ?_) [2, 4, 5, 8] rfl (by kernel_rfl) (by kernel_rfl) (by kernel_rfl) (by kernel_rfl) (fun _ _ _ h => h) hS (Or.inl ⟨by rfl, ?_⟩) ?_
          rotate_left
          · (intro V hSw; obtain ⟨q0, q1⟩ := HQ.out V hSw; clear hSw; go_simp; try with_reducible rfl)
          try simp only [Act.put]
          refine wpE_take 2 ⟨some 40, _, _, _, _, _⟩ (v := ?_) [4, 5, 8] rfl (by kernel_rfl) (by kernel_rfl) (by kernel_rfl) (by kernel_rfl) (fun _ _ _ h => h) hS (Or.inl ⟨by rfl, ?_⟩) ?_
          rotate_left
          · (intro V hSw; obtain ⟨q0, q1⟩ := HQ.out V hSw; clear hSw; go_simp; try with_reducible rfl)
          try simp only [Act.put]
          refine wpE_take 3 ⟨some 41, _, _, _, _, _⟩ (v := ?_) [4, 5, 8] rfl (by kernel_rfl) (by kernel_rfl) (by kernel_rfl) (by kernel_rfl) (fun _ _ _ h => h) hS (Or.inl ⟨by rfl, ?_⟩) ?_
          rotate_left
          · (intro V hSw; obtain ⟨q0, q1⟩ := HQ.out V hSw; clear hSw; go_simp; try with_reducible rfl)
          try simp only [Act.put]
          refine wpE_take 4 ⟨some 42, _, _, _, _, _⟩ (v := ?_) [5, 8] rfl (by kernel_rfl) (by kernel_rfl) (by kernel_rfl) (by kernel_rfl) (fun _ _ _ h => h) hS (Or.inl ⟨by rfl, ?_⟩) ?_
          rotate_left
          · (intro V hSw; obtain ⟨q0, q1⟩ := HQ.out V hSw; clear hSw; go_simp; try with_reducible rfl)
          try simp only [Act.put]
          refine wpE_take 5 ⟨some 43, _, _, _, _, _⟩ (v := ?_) [8] rfl (by kernel_rfl) (by kernel_rfl) (by kernel_rfl) (by kernel_rfl) (fun _ _ _ h => h) hS (Or.inl ⟨by rfl, ?_⟩) ?_
          rotate_left
          · (intro V hSw; obtain ⟨q0, q1⟩ := HQ.out V hSw; clear hSw; go_simp; try with_reducible rfl)
          try simp only [Act.put]
          refine wpE_take 6 ⟨some 44, _, _, _, _, _⟩ (v := ?_) [7, 8] rfl (by kernel_rfl) (by kernel_rfl) (by kernel_rfl) (by kernel_rfl) (fun _ _ _ h => h) hS (Or.inl ⟨by rfl, ?_⟩) ?_
          rotate_left
          · (intro V hSw; obtain ⟨q0, q1⟩ := HQ.out V hSw; clear hSw; go_simp; try with_reducible rfl)
          try simp only [Act.put]
          refine wpE_take 7 ⟨some 45, _, _, _, _, _⟩ (v := ?_) [8] rfl (by kernel_rfl) (by kernel_rfl) (by kernel_rfl) (by kernel_rfl) (fun _ _ _ h => h) hS (Or.inl ⟨by rfl, ?_⟩) ?_
          rotate_left
          · (intro V hSw; obtain ⟨q0, q1⟩ := HQ.out V hSw; clear hSw; go_simp; try with_reducible rfl)
          try simp only [Act.put]
          refine wpE_last (o := ⟨some 46, _, _, _, _, _⟩) (by kernel_rfl) rfl (fun K' hK' => ?_)
          refine step_copy2 rfl (.tmp 43) (.tmp 45) 41 9 rfl (.slice (some ⟨g, o, none⟩) (N - o) (N - o)) (.string S) ?hva ?hvb (goInt y.t.length) W5 hrun ?_
          case hva => go_simp; try with_reducible rfl
          case hvb => go_simp; try with_reducible rfl
          refine hK'.out _ _ ?_
          clear hK' K'
          refine wpE_done (by kernel_rfl) ?_ _
          try simp only [List.setIfInBounds_toArray, List.set_cons_succ, List.set_cons_zero]
          go_wp2
          go_roundw
          case rel => exact ⟨k + 1, by omega, by go_num, HO5.out, HM5.out, HB5.out⟩
          case measure => simp [intOf]; omega
end Go.Proofs.YtmbmjdogfjmlpaaDoor.Sp
