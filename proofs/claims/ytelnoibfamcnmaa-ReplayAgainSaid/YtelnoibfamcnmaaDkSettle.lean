/- Contract of the program's settling of some pending writes. -/
import Derived.Test.YtelnoibfamcnmaaDkFlush
namespace Go.Proofs.Ytelnoibfamcnmaa.Disk
set_option maxRecDepth 20000
open Go.RowKit
open Go.Proofs.Ytelnoibfamcnmaa.Mem
attribute [local go_sem ↓] Go.wp_at_zero Go.wp_at_succ ldW_eq stW_eq newW_eq mkW_eq oneW_eq

/-- The stable bytes behind the first k writes, those laid whose bits are 1. -/
def settleL (bits : List UInt8) (ws : List Wr) (st : List UInt8) : Nat → List UInt8
  | 0 => st
  | k + 1 => if Dk.bit bits k then laid (settleL bits ws st k) (ws.getD k (0, [])) 0 4 else settleL bits ws st k
/-- By block, the last of the first k writes that becomes stable: as the map has it, and plainly. -/
def setD (bits : List UInt8) (ws : List Wr) : Nat → DataW Unit
  | 0 => .map []
  | k + 1 => if Dk.bit bits k then (setD bits ws k).put (keyL (ws.getD k (0, [])).1) (placeD k) else setD bits ws k
def setAt (bits : List UInt8) (ws : List Wr) (b : Nat) : Nat → Option Nat
  | 0 => none
  | k + 1 => if Dk.bit bits k then (if (ws.getD k (0, [])).1 = b then some k else setAt bits ws b k) else setAt bits ws b k
/-- Whether write number j stays pending, and those of the first k that do. -/
def staysO (o : Option Nat) (j : Nat) : Bool := match o with
  | some a => decide (a < j)
  | none => true
def stays (bits : List UInt8) (ws : List Wr) (j : Nat) : Bool := staysO (setAt bits ws (ws.getD j (0, [])).1 ws.length) j
def keptL (bits : List UInt8) (ws : List Wr) : Nat → List Wr
  | 0 => []
  | k + 1 => if stays bits ws k then keptL bits ws k ++ [ws.getD k (0, [])] else keptL bits ws k

theorem setD_isMap (bits : List UInt8) (ws : List Wr) : ∀ k, Maps.IsMap (setD bits ws k)
  | 0 => ⟨[], rfl⟩
  | k + 1 => by unfold setD; split; exact (setD_isMap bits ws k).put _ _; exact setD_isMap bits ws k
theorem setD_has (bits : List UInt8) (ws : List Wr) (b : Nat) : ∀ k, Maps.has (setD bits ws k) (keyL b) = (setAt bits ws b k).isSome
  | 0 => rfl
  | k + 1 => by
    unfold setD setAt
    split
    · by_cases h : (ws.getD k (0, [])).1 = b
      · rw [if_pos h, h, Maps.has_put_same (setD_isMap bits ws k) (by unfold keyL; trivial)]; rfl
      · rw [if_neg h, Maps.has_put_other (by rw [Ne, key_inj]; exact fun e => h e.symm), setD_has bits ws b k]
    · exact setD_has bits ws b k
theorem setD_at (bits : List UInt8) (ws : List Wr) (b : Nat) : ∀ k, (setD bits ws k).atKey (keyL b) (.lit (.int .i64 0)) = placeD ((setAt bits ws b k).getD 0)
  | 0 => rfl
  | k + 1 => by
    unfold setD setAt
    split
    · by_cases h : (ws.getD k (0, [])).1 = b
      · rw [if_pos h, h, Maps.atKey_put_same (setD_isMap bits ws k) (by unfold keyL; trivial)]; rfl
      · rw [if_neg h, Maps.atKey_put_other (by rw [Ne, key_inj]; exact fun e => h e.symm), setD_at bits ws b k]
    · exact setD_at bits ws b k
theorem settleL_len (bits : List UInt8) (ws : List Wr) (st : List UInt8) (n : Nat) (hn : st.length = 256 * n) (hx : ∀ x ∈ ws, x.1 < n ∧ x.2.length = 256) : ∀ k, k ≤ ws.length → (settleL bits ws st k).length = 256 * n
  | 0, _ => hn
  | k + 1, h => by
    unfold settleL
    have hg : ws.getD k (0, []) = ws[k] := by rw [List.getD_eq_getElem?_getD, List.getElem?_eq_getElem (by omega)]; rfl
    have := hx _ (List.getElem_mem (show k < ws.length by omega))
    rw [hg]
    split
    · exact laid_len _ _ 0 4 n (settleL_len bits ws st n hn hx k (by omega)) this.1 this.2 (by omega) (by omega)
    · exact settleL_len bits ws st n hn hx k (by omega)
theorem keptL_len (bits : List UInt8) (ws : List Wr) : ∀ k, (keptL bits ws k).length ≤ k
  | 0 => Nat.le_refl _
  | k + 1 => by
    unfold keptL
    have := keptL_len bits ws k
    split
    · simp; omega
    · omega

/-- What a table says, in whatever world holds it. -/
theorem run_look (W : World) (m k : Nat) (D : DataW Unit) (b : Nat) (o : Option Nat) (hb : b ≤ 4294967296) (h : W.ownsMap Try.prog 3 (plainElem Try.prog 3) m k D) (h1 : Maps.has D (keyL b) = o.isSome) (h2 : D.atKey (keyL b) (.lit (.int .i64 0)) = placeD (o.getD 0)) :
    (Instr.lookup 106 (.map (some m)) (.int .i64 (b : Int)) true).run Try.prog W = .ok (.tuple #[.int .i64 ((o.getD 0 : Nat) : Int), .bool o.isSome]) W := by
  have hz : (zeroValue 3).run Try.prog W = .ok (.int .i64 0) W := by rfl
  obtain ⟨v, ps, hrun, hv⟩ := h.look_ok intKey Try.underlying106 hz (plainElem_int Try.underlying3 (by decide)) (Maps.keyOf_int_mk Try.underlying3 (intLit b hb))
  obtain ⟨c, rfl, hc, _⟩ := plainElem_int_inv Try.underlying3 hv
  rw [hrun]
  unfold keyL at h1 h2
  rw [h1]
  simp only [Prod.mk.injEq] at hc
  rw [h2] at hc
  have hc := hc.1
  unfold placeD at hc
  injection hc with hc
  injection hc with _ hc
  rw [hc]

theorem settle_blown (A : Option Addr) (nb cb : Nat) (L : Low) (p m : Nat) (vs vw : Value) (w : World) (h : LowAt w p L vs vw m) (hb : L.blown = true) :
    Calls Try.prog 49 #[.pointer (some ⟨p, 0, none⟩), .slice A nb cb] w fun e w' => e = .returned (.tuple #[]) ∧ w = w' := by
  go_enter Try.func49, Try.ntmps49
  go_wp2_with fail
  refine (blown_any L p m vs vw w h).mono ?_
  rintro e w' ⟨rfl, rfl⟩
  go_wp2
  refine bodyPost_ret (results_none rfl _ _ _) rfl ?_
  exact ⟨rfl, rfl⟩

/-- The device behind a settling. -/
def Settled (w : World) (p m : Nat) (L : Low) (vs : Value) (F : Nat → Prop) (e : Ending) (w' : World) : Prop :=
  ∃ vw', e = .returned (.tuple #[]) ∧ LowAt w' p L vs vw' m ∧ (∀ k, vw'.ownBlock = some k → w.heap.size ≤ k) ∧ Turns F w w'

set_option maxRecDepth 100000 in
set_option maxHeartbeats 4000000 in
theorem settle_some (A : Option Addr) (nb cb B : Nat) (bits : List UInt8) (L : Low) (p m n : Nat) (vs vw : Value) (w : World) (h : LowAt w p L vs vw m) (hn : L.st.length = 256 * n) (hm : n ≤ 1024) (hx : ∀ x ∈ L.ws, x.1 < n ∧ x.2.length = 256)
    (hw : L.ws.length ≤ 1048576) (hb : L.blown = false) (hbits : ∀ w', Turns (Foot p m vs vw) w w' → Holds w' B A nb bits) (hnb : nb ≤ maxLen) :
    Calls Try.prog 49 #[.pointer (some ⟨p, 0, none⟩), .slice A nb cb] w
      (Settled w p m { L with st := settleL bits L.ws L.st L.ws.length, ws := keptL bits L.ws L.ws.length, pend := (keptL bits L.ws L.ws.length).length } vs (Foot p m vs vw)) := by
  have c1 := h.f1
  have hfl := h.foot_lt
  have hap := h.apart
  obtain ⟨D, cp, rfl, hcp, hD⟩ := h.ws.shape2
  clear hD
  have HAP := Lib.hid hap; clear hap
  have HFL := Lib.hid hfl; clear hfl
  have HN := Lib.hid hn; clear hn
  have HX := Lib.hid hx; clear hx
  have HBL := Lib.hid hb; clear hb
  have HBI := Lib.hid hbits; clear hbits
  have hnw := run_newW
  have hmm := @run_makeMap Try.prog
  have a1 : (w.alloc (.map #[] 0)).cell? ⟨p, 1, none⟩ = some (.slice D L.ws.length cp) := by rw [World.cell?_of_block (Below.heap_alloc w _ p h.p_lt)]; exact c1
  have H := Lib.hid h; clear h
  go_enter Try.func49, Try.ntmps49
  go_wp2_with fail
  refine (blown_any L p m vs _ w H.out).mono ?_
  rintro e w' ⟨rfl, rfl⟩
  rw [HBL.out]
  go_wp2
  have ht0 : Turns (fun _ => False) w (w.alloc (.map #[] 0)) := (Turns.refl _ w).alloc _
  have hM0 := World.ownsMap_made w Try.prog 3 (plainElem (H := Unit) Try.prog 3)
  clear hmm a1 c1
  go_loopw [24] (fun i wr => ∃ k : Nat, k ≤ L.ws.length ∧ i = .int .i64 k ∧ LowAt wr p { L with st := settleL bits L.ws L.st k } vs (.slice D L.ws.length cp) m ∧
      wr.ownsMap Try.prog 3 (plainElem Try.prog 3) w.heap.size k (setD bits L.ws k) ∧ Turns (fun k => vs.ownBlock = some k) w wr) (fun i _ => L.ws.length - (intOf i).toNat)
  case atStart => exact ⟨0, by omega, rfl, H.out.turns ht0 (fun _ _ e => e), hM0, ht0.mono (fun _ _ e => e.elim)⟩
  case round =>
    obtain ⟨k, hk, rfl, hL, hM, hT⟩ := hrel
    by_cases hlt : k < L.ws.length
    · obtain ⟨w1, hw1⟩ : ∃ w1, w1 = wr := ⟨_, rfl⟩
      subst hw1
      have hkw := hlt
      obtain ⟨g, cap, cur, hv, hg, -, -, h3, h4⟩ := hL.ws.cut (show 0 < L.ws.length by omega)
      obtain ⟨rfl, rfl⟩ : D = some ⟨g, 0, none⟩ ∧ cp = cap := by
        injection hv with e1 _ e2
        exact ⟨e1, e2⟩
      clear hv
      have hx1 := HX.out
      have hr0 := writes_range hg h4 h3 (fun x hx => (hx1 x hx).2) k hkw
      have hxk := hx1 _ (List.getElem_mem hkw)
      have hgd : L.ws.getD k (0, []) = L.ws[k] := by rw [List.getD_eq_getElem?_getD, List.getElem?_eq_getElem hkw]; rfl
      have HGD := Lib.hid hgd; clear hgd
      obtain ⟨x, hxe⟩ : ∃ x, x = L.ws[k] := ⟨_, rfl⟩
      change Hid (L.ws.getD k (0, []) = L.ws[k]) at HGD
      rw [← hxe] at hr0 hxk HGD
      have HXE := Lib.hid hxe; clear hxe
      obtain ⟨cs, hcs⟩ : ∃ cs, cs = wcells x := ⟨_, rfl⟩
      rw [← hcs] at hr0
      have hcl : cs.length = 257 := by rw [hcs, wcells_len _ hxk.2]
      have hone : ∀ v ∈ cs, v.oneCell' = true := by rw [hcs]; intro v hv; exact flat_one [x] v (by simpa [flat] using hv)
      have hld := run_ldW w1 g (k * 257) cs hr0 hcl
      have hst := fun W => run_stW_new W cs hcl hone
      have hldb := run_ldW (w1.alloc (.cells cs.toArray 112)) w1.heap.size 0 cs (range_new w1 cs 112) hcl
      have hk1 : (0 : Int) ≤ (k : Int) := by omega
      have hk2 : (k : Int) < (L.ws.length : Int) := by omega
      have HCS := Lib.hid hcs; clear hcs
      have HCL := Lib.hid hcl; clear hcl
      have HON := Lib.hid hone; clear hone
      have HR := Lib.hid hr0; clear hr0
      have HG := Lib.hid hg; clear hg
      have H3 := Lib.hid h3; clear h3
      have H4 := Lib.hid h4; clear h4
      clear hx1
      obtain ⟨hx1, hx2⟩ := hxk
      have HX2 := Lib.hid hx2; clear hx2
      have HL := Lib.hid hL; clear hL
      have HT := Lib.hid hT; clear hT
      go_wp2_with fail
      have ht1 : Turns (fun _ => False) w1 (w1.alloc (.cells cs.toArray 112)) := (Turns.refl _ w1).alloc _
      have hB : (w1.alloc (.cells cs.toArray 112)).heap[w1.heap.size]? = some (.cells cs.toArray 112 (0, 0)) := heap_alloc_new w1 _
      have hsz : w1.heap.size < (w1.alloc (.cells cs.toArray 112)).heap.size := by simp
      generalize hW : w1.alloc (.cells cs.toArray 112) = W at ht1 hB hsz ⊢
      clear hW
      clear hld hst hldb
      have HB := Lib.hid hB; clear hB
      have HT1 := Lib.hid ht1; clear ht1
      have hldw := run_ldW W w1.heap.size 0 cs (fun j v hv => by rw [Nat.zero_add, cell_of_row _ _ _ _ _ _ HB.out]; simpa using hv) HCL.out
      have hTW : Turns (fun k => vs.ownBlock = some k) w W := HT.out.trans (HT1.out.mono (F := fun k => vs.ownBlock = some k) (fun _ _ e => e.elim)) (fun _ _ e => e)
      have hLW : LowAt W p { L with st := settleL bits L.ws L.st k } vs (.slice (some ⟨g, 0, none⟩) L.ws.length cp) m := HL.out.turns HT1.out (fun _ _ e => e)
      have hMW : W.ownsMap Try.prog 3 (plainElem Try.prog 3) w.heap.size k (setD bits L.ws k) := by
        obtain ⟨es, clock, g1, g2⟩ := hM
        exact ⟨es, clock, (HT1.out.block _ (Array.getElem?_eq_some_iff.1 g1).1 (fun e => e)).trans g1, g2⟩
      have hhb := HBI.out W (hTW.mono (fun _ _ e => .inr (.inr (.inl e))))
      have HTW := Lib.hid hTW; clear hTW
      have HLW := Lib.hid hLW; clear hLW
      have HMW := Lib.hid hMW; clear hMW hM
      have HHB := Lib.hid hhb; clear hhb
      cases hbit : Dk.bit bits k
      · have HBT := Lib.hid hbit; clear hbit
        refine (isOne_int A nb cb B (k : Int) k bits W rfl HHB.out hnb (by omega)).mono ?_
        rintro e w' ⟨rfl, rfl⟩
        rw [HBT.out]
        go_wp2
        go_roundw
        case rel =>
          refine ⟨k + 1, by omega, by go_num, ?_, ?_, HTW.out⟩
          · unfold settleL; rw [if_neg (by rw [HBT.out]; simp)]; exact HLW.out
          · unfold setD; rw [if_neg (by rw [HBT.out]; simp)]; exact HMW.out.mono (by omega)
        case measure => simp [intOf]; omega
      · have HBT := Lib.hid hbit; clear hbit
        refine (isOne_int A nb cb B (k : Int) k bits W rfl HHB.out hnb (by omega)).mono ?_
        rintro e w' ⟨rfl, rfl⟩
        rw [HBT.out]
        go_wp2_with fail
        clear hldw
        have hkp := keep_any { L with st := settleL bits L.ws L.st k } p m n 0 4 x vs (.slice (some ⟨g, 0, none⟩) L.ws.length cp) W HLW.out (settleL_len bits L.ws L.st n HN.out HX.out k (by omega)) hm hx1 HX2.out (by omega) (by omega)
        rw [← HCS.out] at hkp
        refine hkp.mono ?_
        rintro e w3 ⟨rfl, hL3, hT3⟩
        have hvs : ∀ q, vs.ownBlock = some q → q < w.heap.size := fun q hq => HFL.out q (.inr (.inr (.inl hq)))
        have hW1 : w.heap.size ≤ w1.heap.size := HT.out.size
        have hcell : w3.cell? ⟨w1.heap.size, 0, none⟩ = some (.int .i64 (x.1 : Int)) := by
          rw [World.cell?_of_block (hT3.block w1.heap.size hsz (fun e => by have := hvs _ e; omega)), cell_of_row _ _ _ _ _ _ HB.out, HCS.out]; rfl
        have hM3 : w3.ownsMap Try.prog 3 (plainElem Try.prog 3) w.heap.size k (setD bits L.ws k) := by
          obtain ⟨es, clock, g1, g2⟩ := HMW.out
          exact ⟨es, clock, (hT3.block _ (Array.getElem?_eq_some_iff.1 g1).1 (fun e => by have := hvs _ e; omega)).trans g1, g2⟩
        have hky : keyOf Try.prog 3 (.int .i64 (x.1 : Int)) = some (keyL x.1) := Maps.keyOf_int_mk Try.underlying3 (intLit x.1 (by omega))
        have hvl : plainElem (H := Unit) Try.prog 3 (.int .i64 (k : Int)) = some (placeD k, []) := plainElem_int Try.underlying3 (intLit k (by omega))
        obtain ⟨w4, hrun, hM4, hg4⟩ := hM3.update (t := 106) intKey Try.underlying106 (by unfold maxLen; omega) hky hvl
        clear hky hvl hM3 hvs
        have hT4 : Turns (fun q => q = w.heap.size) w3 w4 := (Turns.refl _ w3).grown hg4 (fun q hq _ => by injection hq with hq; exact hq.symm)
        have HL3 := Lib.hid hL3; clear hL3
        have HT3 := Lib.hid hT3; clear hT3
        have HM4 := Lib.hid hM4; clear hM4
        have HT4 := Lib.hid hT4; clear hT4
        clear hg4
        go_wp2
        go_roundw
        case rel =>
          refine ⟨k + 1, by omega, by go_num, ?_, ?_, ?_⟩
          · unfold settleL; rw [if_pos HBT.out, HGD.out]
            exact HL3.out.turns HT4.out (fun q hq e => by have := HFL.out q hq; omega)
          · unfold setD; rw [if_pos HBT.out, HGD.out]; exact HM4.out
          · exact (HTW.out.trans HT3.out (fun _ _ e => e)).trans HT4.out (fun q hq e => by omega)
        case measure => simp [intOf]; omega
    · obtain rfl : k = L.ws.length := by omega
      have HL := Lib.hid hL; clear hL
      have HM := Lib.hid hM; clear hM
      have HT := Lib.hid hT; clear hT
      have c1 := HL.out.f1
      go_wp2_with fail
      refine (forget_any _ p m vs _ wr HL.out).mono ?_
      rintro e w3 ⟨rfl, hL3, hT3⟩
      have hrow : Row w3 112 257 (.slice D L.ws.length cp) L.ws.length (flat L.ws) := HL.out.ws.turns hT3 (fun q hq e => by
        have hap := HAP.out
        rcases e with e | e
        · subst e; exact hap.2.2.1 hq
        · subst e; exact hap.2.2.2.2.1 hq)
      have hM3 : w3.ownsMap Try.prog 3 (plainElem Try.prog 3) w.heap.size L.ws.length (setD bits L.ws L.ws.length) := by
        obtain ⟨es, clock, g1, g2⟩ := HM.out
        exact ⟨es, clock, (hT3.block _ (Array.getElem?_eq_some_iff.1 g1).1 (fun e => by
          have h1 := HFL.out p (.inl rfl)
          have h2 := HFL.out m (.inr (.inl rfl))
          omega)).trans g1, g2⟩
      have hTT : Turns (Foot p m vs (.slice D L.ws.length cp)) w w3 := (HT.out.mono (fun _ _ e => .inr (.inr (.inl e)))).trans hT3 (fun _ _ e => by rcases e with e | e; exact .inl e; exact .inr (.inl e))
      have hws : w.heap.size < w3.heap.size := by
        have h1 := HM.out.lt
        have h2 := hT3.size
        omega
      clear c1
      have HL3 := Lib.hid hL3; clear hL3
      have HROW := Lib.hid hrow; clear hrow
      have HM3 := Lib.hid hM3; clear hM3
      have HTT := Lib.hid hTT; clear hTT
      clear hT3
      go_wp2
      go_loopw [48] (fun i wr => ∃ (k : Nat) (vk : Value), k ≤ L.ws.length ∧ i = .int .i64 k ∧ LowAt wr p { L with st := settleL bits L.ws L.st L.ws.length, ws := keptL bits L.ws k, pend := (keptL bits L.ws k).length } vs vk m ∧
        (∀ q, vk.ownBlock = some q → w.heap.size < q) ∧ wr.ownsMap Try.prog 3 (plainElem Try.prog 3) w.heap.size L.ws.length (setD bits L.ws L.ws.length) ∧ Row wr 112 257 (.slice D L.ws.length cp) L.ws.length (flat L.ws) ∧
        w.heap.size < wr.heap.size ∧ Turns (Foot p m vs (.slice D L.ws.length cp)) w wr) (fun i _ => L.ws.length - (intOf i).toNat)
      case atStart => exact ⟨0, _, by omega, rfl, HL3.out, (fun q hq => by cases hq), HM3.out, HROW.out, hws, HTT.out⟩
      case round =>
        obtain ⟨k, vk, hk, rfl, hL, hvk, hM, hrw, hsw, hT⟩ := hrel
        by_cases hlt : k < L.ws.length
        · obtain ⟨w1, hw1⟩ : ∃ w1, w1 = wr := ⟨_, rfl⟩
          subst hw1
          obtain ⟨g, cap, cur, hv, hg, -, -, h3, h4⟩ := hrw.cut (show 0 < L.ws.length by omega)
          obtain ⟨rfl, rfl⟩ : D = some ⟨g, 0, none⟩ ∧ cp = cap := by
            injection hv with e1 _ e2
            exact ⟨e1, e2⟩
          clear hv
          have hr0 := writes_range hg h4 h3 (fun x hx => (HX.out x hx).2) k hlt
          have hxk := HX.out _ (List.getElem_mem hlt)
          have hgd : L.ws.getD k (0, []) = L.ws[k] := by rw [List.getD_eq_getElem?_getD, List.getElem?_eq_getElem hlt]; rfl
          have HGD := Lib.hid hgd; clear hgd
          obtain ⟨x, hxe⟩ : ∃ x, x = L.ws[k] := ⟨_, rfl⟩
          change Hid (L.ws.getD k (0, []) = L.ws[k]) at HGD
          rw [← hxe] at hr0 hxk HGD
          have HXE := Lib.hid hxe; clear hxe
          obtain ⟨cs, hcs⟩ : ∃ cs, cs = wcells x := ⟨_, rfl⟩
          rw [← hcs] at hr0
          have hcl : cs.length = 257 := by rw [hcs, wcells_len _ hxk.2]
          have hone : ∀ v ∈ cs, v.oneCell' = true := by rw [hcs]; intro v hv; exact flat_one [x] v (by simpa [flat] using hv)
          have hld := run_ldW w1 g (k * 257) cs hr0 hcl
          have hst := fun W => run_stW_new W cs hcl hone
          have hldb := run_ldW (w1.alloc (.cells cs.toArray 112)) w1.heap.size 0 cs (range_new w1 cs 112) hcl
          obtain ⟨o, ho⟩ : ∃ o, setAt bits L.ws x.1 L.ws.length = o := ⟨_, rfl⟩
          have hMW := hM.alloc (.cells cs.toArray 112)
          have hlk := run_look (w1.alloc (.cells cs.toArray 112)) w.heap.size _ _ x.1 o (by omega) hMW (by rw [setD_has, ho]) (by rw [setD_at, ho])
          have hcell : (w1.alloc (.cells cs.toArray 112)).cell? ⟨w1.heap.size, 0, none⟩ = some (.int .i64 (x.1 : Int)) := by
            rw [cell_of_row _ _ _ _ _ _ (heap_alloc_new w1 _), hcs]; rfl
          have hk1 : (0 : Int) ≤ (k : Int) := by omega
          have hk2 : (k : Int) < (L.ws.length : Int) := by omega
          have ht1 : Turns (fun _ => False) w1 (w1.alloc (.cells cs.toArray 112)) := (Turns.refl _ w1).alloc _
          have hsz : w1.heap.size < (w1.alloc (.cells cs.toArray 112)).heap.size := by simp
          have HCS := Lib.hid hcs; clear hcs
          have HCL := Lib.hid hcl; clear hcl
          have HON := Lib.hid hone; clear hone
          have HR := Lib.hid hr0; clear hr0
          have HG := Lib.hid hg; clear hg
          have H3 := Lib.hid h3; clear h3
          have H4 := Lib.hid h4; clear h4
          obtain ⟨hx1, hx2⟩ := hxk
          have HX2 := Lib.hid hx2; clear hx2
          have HL := Lib.hid hL; clear hL
          have HT := Lib.hid hT; clear hT
          have HM := Lib.hid hM; clear hM
          have HMW := Lib.hid hMW; clear hMW
          have HVK := Lib.hid hvk; clear hvk
          have HRW := Lib.hid hrw; clear hrw
          have HT1 := Lib.hid ht1; clear ht1
          have HSA := Lib.hid ho; clear ho
          have hst2 : stays bits L.ws k = staysO o k := by unfold stays; rw [HGD.out, HSA.out]
          cases o with
          | none =>
            have hst3 : stays bits L.ws k = true := hst2
            clear hst2
            have HST := Lib.hid hst3; clear hst3
            go_wp2_with fail
            clear hld hst hldb hlk hcell
            have hAdd := add_any { L with st := settleL bits L.ws L.st L.ws.length, ws := keptL bits L.ws k, pend := (keptL bits L.ws k).length } p m n x vs vk (w1.alloc (.cells cs.toArray 112)) (HL.out.turns HT1.out (fun _ _ e => e)) hm hx1 HX2.out (by have := keptL_len bits L.ws k; simp; omega) (by have := keptL_len bits L.ws k; simp; omega)
            rw [← HCS.out] at hAdd
            refine hAdd.mono ?_
            rintro e w3 ⟨vk2, rfl, hL3, hF3, hT3⟩
            have hL3' : LowAt w3 p { L with st := settleL bits L.ws L.st L.ws.length, ws := keptL bits L.ws (k + 1), pend := (keptL bits L.ws (k + 1)).length } vs vk2 m := by
              have e : keptL bits L.ws (k + 1) = keptL bits L.ws k ++ [x] := by
                show (if stays bits L.ws k = true then keptL bits L.ws k ++ [L.ws.getD k (0, [])] else keptL bits L.ws k) = _
                rw [if_pos HST.out, HGD.out]
              rw [e, List.length_append]
              exact hL3
            have hsp := HFL.out p (.inl rfl)
            have hsm := HFL.out m (.inr (.inl rfl))
            have hap := HAP.out
            have hT13 : Turns (fun q => q = p ∨ q = m ∨ vk.ownBlock = some q) w1 w3 := (HT1.out.mono (F := fun q => q = p ∨ q = m ∨ vk.ownBlock = some q) (fun _ _ e => e.elim)).trans hT3 (fun _ _ e => e)
            have hM3 : w3.ownsMap Try.prog 3 (plainElem Try.prog 3) w.heap.size L.ws.length (setD bits L.ws L.ws.length) := by
              obtain ⟨es, clock, g1, g2⟩ := HM.out
              exact ⟨es, clock, (hT13.block _ (Array.getElem?_eq_some_iff.1 g1).1 (fun e => by
                rcases e with e | e | e
                · omega
                · omega
                · have := HVK.out _ e; omega)).trans g1, g2⟩
            have hR3 : Row w3 112 257 (.slice (some ⟨g, 0, none⟩) L.ws.length cp) L.ws.length (flat L.ws) := HRW.out.turns hT13 (fun q hq e => by
              have hq2 := HFL.out q (.inr (.inr (.inr hq)))
              rcases e with e | e | e
              · subst e; exact hap.2.2.1 hq
              · subst e; exact hap.2.2.2.2.1 hq
              · have := HVK.out _ e; omega)
            have hvk3 : ∀ q, vk2.ownBlock = some q → w.heap.size < q := fun q hq => by
              rcases hF3 q hq with e | e
              · exact HVK.out q e
              · omega
            have hTw : Turns (Foot p m vs (.slice (some ⟨g, 0, none⟩) L.ws.length cp)) w w3 := HT.out.trans hT13 (fun q hq e => by
              rcases e with e | e | e
              · exact .inl e
              · exact .inr (.inl e)
              · have := HVK.out _ e; omega)
            have hs3 : w.heap.size < w3.heap.size := by have := hT13.size; omega
            have HL3 := Lib.hid hL3'; clear hL3' hL3
            have HM3 := Lib.hid hM3; clear hM3
            have HR3 := Lib.hid hR3; clear hR3
            have HV3 := Lib.hid hvk3; clear hvk3
            have HTW := Lib.hid hTw; clear hTw
            clear hF3 hT3 hT13 hAdd hap
            go_wp2
            go_roundw
            case rel => exact ⟨k + 1, vk2, by omega, by go_num, HL3.out, HV3.out, HM3.out, HR3.out, hs3, HTW.out⟩
            case measure => simp [intOf]; omega
          | some a =>
            by_cases hak : a < k
            · have hst3 : stays bits L.ws k = true := by rw [hst2]; simp [staysO, hak]
              clear hst2
              have HST := Lib.hid hst3; clear hst3
              go_wp2_with fail
              clear hld hst hldb hlk hcell
              have hAdd := add_any { L with st := settleL bits L.ws L.st L.ws.length, ws := keptL bits L.ws k, pend := (keptL bits L.ws k).length } p m n x vs vk (w1.alloc (.cells cs.toArray 112)) (HL.out.turns HT1.out (fun _ _ e => e)) hm hx1 HX2.out (by have := keptL_len bits L.ws k; simp; omega) (by have := keptL_len bits L.ws k; simp; omega)
              rw [← HCS.out] at hAdd
              refine hAdd.mono ?_
              rintro e w3 ⟨vk2, rfl, hL3, hF3, hT3⟩
              have hL3' : LowAt w3 p { L with st := settleL bits L.ws L.st L.ws.length, ws := keptL bits L.ws (k + 1), pend := (keptL bits L.ws (k + 1)).length } vs vk2 m := by
                have e : keptL bits L.ws (k + 1) = keptL bits L.ws k ++ [x] := by
                  show (if stays bits L.ws k = true then keptL bits L.ws k ++ [L.ws.getD k (0, [])] else keptL bits L.ws k) = _
                  rw [if_pos HST.out, HGD.out]
                rw [e, List.length_append]
                exact hL3
              have hsp := HFL.out p (.inl rfl)
              have hsm := HFL.out m (.inr (.inl rfl))
              have hap := HAP.out
              have hT13 : Turns (fun q => q = p ∨ q = m ∨ vk.ownBlock = some q) w1 w3 := (HT1.out.mono (F := fun q => q = p ∨ q = m ∨ vk.ownBlock = some q) (fun _ _ e => e.elim)).trans hT3 (fun _ _ e => e)
              have hM3 : w3.ownsMap Try.prog 3 (plainElem Try.prog 3) w.heap.size L.ws.length (setD bits L.ws L.ws.length) := by
                obtain ⟨es, clock, g1, g2⟩ := HM.out
                exact ⟨es, clock, (hT13.block _ (Array.getElem?_eq_some_iff.1 g1).1 (fun e => by
                  rcases e with e | e | e
                  · omega
                  · omega
                  · have := HVK.out _ e; omega)).trans g1, g2⟩
              have hR3 : Row w3 112 257 (.slice (some ⟨g, 0, none⟩) L.ws.length cp) L.ws.length (flat L.ws) := HRW.out.turns hT13 (fun q hq e => by
                have hq2 := HFL.out q (.inr (.inr (.inr hq)))
                rcases e with e | e | e
                · subst e; exact hap.2.2.1 hq
                · subst e; exact hap.2.2.2.2.1 hq
                · have := HVK.out _ e; omega)
              have hvk3 : ∀ q, vk2.ownBlock = some q → w.heap.size < q := fun q hq => by
                rcases hF3 q hq with e | e
                · exact HVK.out q e
                · omega
              have hTw : Turns (Foot p m vs (.slice (some ⟨g, 0, none⟩) L.ws.length cp)) w w3 := HT.out.trans hT13 (fun q hq e => by
                rcases e with e | e | e
                · exact .inl e
                · exact .inr (.inl e)
                · have := HVK.out _ e; omega)
              have hs3 : w.heap.size < w3.heap.size := by have := hT13.size; omega
              have HL3 := Lib.hid hL3'; clear hL3' hL3
              have HM3 := Lib.hid hM3; clear hM3
              have HR3 := Lib.hid hR3; clear hR3
              have HV3 := Lib.hid hvk3; clear hvk3
              have HTW := Lib.hid hTw; clear hTw
              clear hF3 hT3 hT13 hAdd hap
              go_wp2
              go_roundw
              case rel => exact ⟨k + 1, vk2, by omega, by go_num, HL3.out, HV3.out, HM3.out, HR3.out, hs3, HTW.out⟩
              case measure => simp [intOf]; omega
            · have hst3 : stays bits L.ws k = false := by rw [hst2]; simp [staysO, hak]
              clear hst2
              have HST := Lib.hid hst3; clear hst3
              have hd : decide ((k : Int) > (a : Int)) = false := by simp; omega
              go_wp2
              have hL3' : LowAt (w1.alloc (.cells cs.toArray 112)) p { L with st := settleL bits L.ws L.st L.ws.length, ws := keptL bits L.ws (k + 1), pend := (keptL bits L.ws (k + 1)).length } vs vk m := by
                have e : keptL bits L.ws (k + 1) = keptL bits L.ws k := by
                  show (if stays bits L.ws k = true then keptL bits L.ws k ++ [L.ws.getD k (0, [])] else keptL bits L.ws k) = _
                  rw [if_neg (by rw [HST.out]; simp)]
                rw [e]
                exact HL.out.turns HT1.out (fun _ _ e => e)
              have hR3 := HRW.out.turns HT1.out (fun _ _ e => e)
              have hTw := HT.out.trans (HT1.out.mono (F := Foot p m vs (.slice (some ⟨g, 0, none⟩) L.ws.length cp)) (fun _ _ e => e.elim)) (fun _ _ e => e)
              go_roundw
              case rel => exact ⟨k + 1, vk, by omega, by go_num, hL3', HVK.out, HMW.out, hR3, by omega, hTw⟩
              case measure => simp [intOf]; omega
        · obtain rfl : k = L.ws.length := by omega
          have HL := Lib.hid hL; clear hL
          have HM := Lib.hid hM; clear hM
          have HT := Lib.hid hT; clear hT
          have HVK := Lib.hid hvk; clear hvk
          have HRW := Lib.hid hrw; clear hrw
          go_wp2
          go_end0
          exact ⟨vk, rfl, HL.out, fun q hq => Nat.le_of_lt (HVK.out q hq), HT.out⟩
end Go.Proofs.Ytelnoibfamcnmaa.Disk
