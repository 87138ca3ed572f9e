/- Contracts of the program's flush of a disk: of one that is blown, and of one that isn't. -/
import Derived.Test.YtelnoibfamcnmaaGreatDkNil
import Derived.Laws.Cover3
namespace Go.Proofs.YtelnoibfamcnmaaGreat.Disk
set_option maxRecDepth 20000
open Go.RowKit
open Go.Proofs.YtelnoibfamcnmaaGreat.Mem

/-- New memory that reads as these bytes. -/
def Made (w : World) (bs : List UInt8) (e : Ending) (w' : World) : Prop := ∃ A c, e = .returned (.slice A bs.length c) ∧ Owned w' w.heap.size (.slice A bs.length c) bs ∧ Below w.heap.size w w'

set_option maxRecDepth 100000 in
theorem clone_any (a : Addr) (n c B : Nat) (bs : List UInt8) (w : World) (h : Holds w B (some a) n bs) (hn : n ≤ 140737488355328) (hB : B ≤ w.heap.size) :
    Calls Tryz.prog 37 #[.slice (some a) n c] w (Made w bs) := by
  obtain rfl : bs.length = n := h.1
  have hq : ∀ W, (binOp .eql 25 (.slice (some a) bs.length c) (.slice none 0 0)).run Tryz.prog W = .ok (.bool false) W := fun W => by
    simp [binOp, Op.equal, run_equalIn_slice_nil (P := Tryz.prog) W 9999 25 5 (some a) bs.length c Tryz.underlying25, show Op.maxDepth = 9999 + 1 from rfl, Result.andThen]
  have ho := owned_made w [] w.heap.size (Nat.le_refl _) (by unfold maxLen; simp)
  go_enter Tryz.func37, Tryz.ntmps37
  go_wp2_with (at_builtin; refine wpList_addall rfl _ _ rfl w.heap.size _ [] rfl ho B (some a) bs.length c bs rfl ?c1 ?c2 ?c3 ?_)
  case c1 => exact h.below (((Below.refl w.heap.size w).alloc (Nat.le_refl _) _).mono hB)
  case c2 => simp; omega
  case c3 => simp
  intro g w2 ho2 hb2
  obtain ⟨A2, c2, rfl, -⟩ := Owned.holds ho2
  have HO := Lib.hid ho2; clear ho2
  have HB := Lib.hid hb2; clear hb2
  clear ho
  go_wp2
  go_ret
  exact ⟨A2, c2, rfl, HO.out, ((Below.refl w.heap.size w).alloc (Nat.le_refl _) _).trans HB.out⟩

theorem stable_any (L : Low) (p m n : Nat) (vs vw : Value) (w : World) (h : LowAt w p L vs vw m) (hn : L.st.length = 256 * n) (h1 : 1 ≤ n) (hm : n ≤ 1024) :
    Calls Tryz.prog 10 #[.pointer (some ⟨p, 0, none⟩)] w (Made w L.st) := by
  have c0 := h.f0
  obtain ⟨A, c, rfl, hh⟩ := h.st.holds
  rcases A with _ | a
  · obtain ⟨b, off, e, _⟩ := hh.2 (by omega)
    cases e
  have HN := Lib.hid hn; clear hn
  have H := Lib.hid h; clear h
  go_enter Tryz.func10, Tryz.ntmps10
  go_wp2_with fail
  refine (clone_any a L.st.length c w.heap.size L.st w hh (by have := HN.out; omega) (Nat.le_refl _)).mono ?_
  rintro e w' ⟨A', c', rfl, ho, hb⟩
  go_wp2
  go_ret
  exact ⟨A', c', rfl, ho, hb⟩
end Go.Proofs.YtelnoibfamcnmaaGreat.Disk

namespace Go.Proofs.YtelnoibfamcnmaaGreat.Disk
set_option maxRecDepth 20000
open Go.RowKit
open Go.Proofs.YtelnoibfamcnmaaGreat.Mem
attribute [local go_sem ↓] Go.wp_at_zero Go.wp_at_succ ldW_eq stW_eq newW_eq mkW_eq oneW_eq

/-- The first k writes laid whole, one behind the other. -/
def flushL (ws : List Wr) (st : List UInt8) : Nat → List UInt8
  | 0 => st
  | k + 1 => laid (flushL ws st k) (ws.getD k (0, [])) 0 4
theorem flushL_len (ws : List Wr) (st : List UInt8) (n : Nat) (hn : st.length = 256 * n) (hx : ∀ x ∈ ws, x.1 < n ∧ x.2.length = 256) : ∀ k, k ≤ ws.length → (flushL ws st k).length = 256 * n
  | 0, _ => hn
  | k + 1, h => by
    unfold flushL
    have hg : ws.getD k (0, []) = ws[k] := by rw [List.getD_eq_getElem?_getD, List.getElem?_eq_getElem (by omega)]; rfl
    have := hx _ (List.getElem_mem (show k < ws.length by omega))
    rw [hg]
    exact laid_len _ _ 0 4 n (flushL_len ws st n hn hx k (by omega)) this.1 this.2 (by omega) (by omega)

theorem flush_blown (L : Low) (p m : Nat) (vs vw : Value) (w : World) (h : LowAt w p L vs vw m) (hb : L.blown = true) :
    Calls Tryz.prog 22 #[.pointer (some ⟨p, 0, none⟩)] w fun e w' => e = .returned (.tuple #[]) ∧ w = w' := by
  go_enter Tryz.func22, Tryz.ntmps22
  go_wp2_with fail
  refine (blown_any L p m vs vw w h).mono ?_
  rintro e w' ⟨rfl, rfl⟩
  go_wp2
  refine bodyPost_ret (results_none rfl _ _ _) rfl ?_
  exact ⟨rfl, rfl⟩

set_option maxRecDepth 100000 in
set_option maxHeartbeats 2000000 in
theorem flush_some (L : Low) (p m n : Nat) (vs vw : Value) (w : World) (h : LowAt w p L vs vw m) (hn : L.st.length = 256 * n) (hm : n ≤ 1024) (hx : ∀ x ∈ L.ws, x.1 < n ∧ x.2.length = 256)
    (hw : L.ws.length ≤ 1048576) (hb : L.blown = false) (hlf : L.left ≤ 9223372036854775807) :
    Calls Tryz.prog 22 #[.pointer (some ⟨p, 0, none⟩)] w fun e w' =>
      e = .returned (.tuple #[]) ∧ LowAt w' p (Low.burnt { L with st := flushL L.ws L.st L.ws.length, ws := [], pend := 0 }) vs (.slice none 0 0) m ∧ Turns (fun k => k = p ∨ k = m ∨ vs.ownBlock = some k) w w' := by
  have c1 := h.f1
  obtain ⟨D, cp, rfl, hcp, hD⟩ := h.ws.shape2
  clear hD
  have HN := Lib.hid hn; clear hn
  have HX := Lib.hid hx; clear hx
  have HBL := Lib.hid hb; clear hb
  have hnw := run_newW
  have H := Lib.hid h; clear h
  go_enter Tryz.func22, Tryz.ntmps22
  go_wp2_with fail
  refine (blown_any L p m vs _ w H.out).mono ?_
  rintro e w' ⟨rfl, rfl⟩
  rw [HBL.out]
  go_wp2
  go_loopw [15] (fun i wr => ∃ k : Nat, k ≤ L.ws.length ∧ i = .int .i64 k ∧ LowAt wr p { L with st := flushL L.ws L.st k } vs (.slice D L.ws.length cp) m ∧ Turns (fun k => vs.ownBlock = some k) w wr) (fun i _ => L.ws.length - (intOf i).toNat)
  case atStart => exact ⟨0, by omega, rfl, H.out, Turns.refl _ w⟩
  case round =>
    obtain ⟨k, hk, rfl, hL, hT⟩ := hrel
    by_cases hlt : k < L.ws.length
    · obtain ⟨w1, hw1⟩ : ∃ w1, w1 = wr := ⟨_, rfl⟩
      subst hw1
      have hkw := hlt
      obtain ⟨g, cap, cur, hv, hg, -, -, h3, h4⟩ := hL.ws.cut (show 0 < L.ws.length by omega)
      obtain ⟨rfl, rfl⟩ : D = some ⟨g, 0, none⟩ ∧ cp = cap := by
        injection hv with e1 _ e2
        exact ⟨e1, e2⟩
      clear hv
      have hx1 := HX.out
      have hr0 := writes_range hg h4 h3 (fun x hx => (hx1 x hx).2) k hkw
      have hxk := hx1 _ (List.getElem_mem hkw)
      have hgd : L.ws.getD k (0, []) = L.ws[k] := by rw [List.getD_eq_getElem?_getD, List.getElem?_eq_getElem hkw]; rfl
      have HGD := Lib.hid hgd; clear hgd
      obtain ⟨x, hxe⟩ : ∃ x, x = L.ws[k] := ⟨_, rfl⟩
      change Hid (L.ws.getD k (0, []) = L.ws[k]) at HGD
      rw [← hxe] at hr0 hxk HGD
      have HXE := Lib.hid hxe; clear hxe
      obtain ⟨cs, hcs⟩ : ∃ cs, cs = wcells x := ⟨_, rfl⟩
      rw [← hcs] at hr0
      have hcl : cs.length = 257 := by rw [hcs, wcells_len _ hxk.2]
      have hone : ∀ v ∈ cs, v.oneCell' = true := by rw [hcs]; intro v hv; exact flat_one [x] v (by simpa [flat] using hv)
      have hld := run_ldW w1 g (k * 257) cs hr0 hcl
      have hst := fun W => run_stW_new W cs hcl hone
      have hldb := run_ldW (w1.alloc (.cells cs.toArray 83)) w1.heap.size 0 cs (range_new w1 cs 83) hcl
      have hk1 : (0 : Int) ≤ (k : Int) := by omega
      have hk2 : (k : Int) < (L.ws.length : Int) := by omega
      have HCS := Lib.hid hcs; clear hcs
      have HCL := Lib.hid hcl; clear hcl
      have HON := Lib.hid hone; clear hone
      have HR := Lib.hid hr0; clear hr0
      have HG := Lib.hid hg; clear hg
      have H3 := Lib.hid h3; clear h3
      have H4 := Lib.hid h4; clear h4
      clear hx1
      obtain ⟨hx1, hx2⟩ := hxk
      have HX2 := Lib.hid hx2; clear hx2
      have HL := Lib.hid hL; clear hL
      have HT := Lib.hid hT; clear hT
      go_wp2_with fail
      have ht1 : Turns (fun _ => False) w1 (w1.alloc (.cells cs.toArray 83)) := (Turns.refl _ w1).alloc _
      have hB : (w1.alloc (.cells cs.toArray 83)).heap[w1.heap.size]? = some (.cells cs.toArray 83 (0, 0)) := heap_alloc_new w1 _
      have hsz : w1.heap.size < (w1.alloc (.cells cs.toArray 83)).heap.size := by simp
      generalize hW : w1.alloc (.cells cs.toArray 83) = W at ht1 hB hsz ⊢
      clear hW
      clear hld hst hldb
      have HB := Lib.hid hB; clear hB
      have HT1 := Lib.hid ht1; clear ht1
      have hkp := keep_any { L with st := flushL L.ws L.st k } p m n 0 4 x vs (.slice (some ⟨g, 0, none⟩) L.ws.length cp) W (HL.out.turns HT1.out (fun _ _ e => e)) (flushL_len L.ws L.st n HN.out HX.out k (by omega)) hm hx1 HX2.out (by omega) (by omega)
      rw [← HCS.out] at hkp
      refine hkp.mono ?_
      rintro e w3 ⟨rfl, hL3, hT3⟩
      go_wp2
      go_roundw
      case rel =>
        refine ⟨k + 1, by omega, by go_num, ?_, (HT.out.trans (HT1.out.mono (F := fun k => vs.ownBlock = some k) (fun _ _ e => e.elim)) (fun _ _ e => e)).trans hT3 (fun _ _ e => e)⟩
        unfold flushL
        rw [HGD.out]
        exact hL3
      case measure => simp [intOf]; omega
    · obtain rfl : k = L.ws.length := by omega
      have HL := Lib.hid hL; clear hL
      have HT := Lib.hid hT; clear hT
      go_wp2_with fail
      refine (forget_any _ p m vs _ wr HL.out).mono ?_
      rintro e w3 ⟨rfl, hL3, hT3⟩
      have HL3 := Lib.hid hL3; clear hL3
      have HT3 := Lib.hid hT3; clear hT3
      go_wp2_with fail
      refine (burn_any _ p m vs _ w3 HL3.out (by have := HBL.out; simpa [Low.blown] using this) hlf).mono ?_
      rintro e w4 ⟨rfl, hL4, hT4⟩
      go_wp2
      go_end0
      refine ⟨rfl, hL4, ?_⟩
      have ht := ((HT.out.mono (F := fun k => k = p ∨ k = m ∨ vs.ownBlock = some k) (fun _ _ e => .inr (.inr e))).trans HT3.out (fun _ _ e => by rcases e with e | e; exact .inl e; exact .inr (.inl e)))
      exact ht.trans hT4 (fun _ _ e => .inl e)
end Go.Proofs.YtelnoibfamcnmaaGreat.Disk
