/- Contract of the program's crash of a disk. -/
import Derived.Test.YtelnoibfamcnmaaGreatDkRead
import Derived.LoopTactic
namespace Go.Proofs.YtelnoibfamcnmaaGreat.Disk
set_option maxRecDepth 20000
open Go.RowKit
open Go.Proofs.YtelnoibfamcnmaaGreat.Mem
attribute [local go_sem ↓] Go.wp_at_zero Go.wp_at_succ ldW_eq stW_eq newW_eq mkW_eq oneW_eq

theorem isOne_int (A : Option Addr) (nb c B : Nat) (i : Int) (k : Nat) (bs : List UInt8) (w : World) (hi : i = (k : Int)) (h : Holds w B A nb bs) (hm : nb ≤ maxLen) (hk : k ≤ 4398046511104) :
    Calls Tryz.prog 34 #[.slice A nb c, .int .i64 i] w fun e w' => e = .returned (.bool (Dk.bit bs k)) ∧ w = w' := by
  subst hi; exact isOne_any A nb c B k bs w h hm hk

/-- The sectors of one write, those ahead of number s laid where their bits are 1. -/
def tearL (bits : List UInt8) (k : Nat) (x : Wr) (st : List UInt8) : Nat → List UInt8
  | 0 => st
  | s + 1 => if Dk.bit bits (4 * k + s) then laid (tearL bits k x st s) x s (s + 1) else tearL bits k x st s
/-- The first k writes torn, one behind the other. -/
def crashL (bits : List UInt8) (ws : List Wr) (st : List UInt8) : Nat → List UInt8
  | 0 => st
  | k + 1 => tearL bits k (ws.getD k (0, [])) (crashL bits ws st k) 4

theorem laid_len (st : List UInt8) (x : Wr) (f t n : Nat) (hn : st.length = 256 * n) (hx : x.1 < n) (hl : x.2.length = 256) (hf : f < t) (ht : t ≤ 4) : (laid st x f t).length = 256 * n := by
  unfold laid
  rw [length_splice _ _ _ (by simp; omega), hn]
theorem tearL_len (bits : List UInt8) (k : Nat) (x : Wr) (st : List UInt8) (n : Nat) (hn : st.length = 256 * n) (hx : x.1 < n) (hl : x.2.length = 256) : ∀ s, s ≤ 4 → (tearL bits k x st s).length = 256 * n
  | 0, _ => hn
  | s + 1, h => by
    unfold tearL
    split
    · exact laid_len _ x s (s + 1) n (tearL_len bits k x st n hn hx hl s (by omega)) hx hl (by omega) h
    · exact tearL_len bits k x st n hn hx hl s (by omega)
theorem crashL_len (bits : List UInt8) (ws : List Wr) (st : List UInt8) (n : Nat) (hn : st.length = 256 * n) (hx : ∀ x ∈ ws, x.1 < n ∧ x.2.length = 256) : ∀ k, k ≤ ws.length → (crashL bits ws st k).length = 256 * n
  | 0, _ => hn
  | k + 1, h => by
    unfold crashL
    have hg : ws.getD k (0, []) = ws[k] := by rw [List.getD_eq_getElem?_getD, List.getElem?_eq_getElem (by omega)]; rfl
    have := hx _ (List.getElem_mem (show k < ws.length by omega))
    rw [hg]
    exact tearL_len bits k _ _ n (crashL_len bits ws st n hn hx k (by omega)) this.1 this.2 4 (by omega)

theorem run_slice_to (W : World) (A : Option Addr) (n cap k : Nat) (hk : k ≤ cap) (hA : A = none ∨ ∃ g, A = some ⟨g, 0, none⟩) :
    (Instr.slice 77 (.slice A n cap) none (some (.int .i64 (k : Int))) none).run Tryz.prog W = .ok (.slice A k cap) W := by
  have h := run_slice_h (P := Tryz.prog) W 77 A n cap (by rw [Tryz.underlying77]; rfl) .i64 (k : Int) (by omega) (by omega)
  rw [h]
  have hs : (sizeOf (Tryz.prog.elem 77)).run Tryz.prog W = .ok 257 W := by rfl
  rw [hs]
  rcases hA with rfl | ⟨g, rfl⟩
  · simp [Result.andThen, sliced]
  · simp [Result.andThen, sliced, Addr.add_mid]
theorem run_sliceAt_to (W : World) (A : Option Addr) (n cap k : Nat) (hk : k ≤ cap) (hA : A = none ∨ ∃ g, A = some ⟨g, 0, none⟩) :
    (Instr.sliceAt 77 (.slice A n cap) none (some (.int .i64 (k : Int))) none).run Tryz.prog W = .ok (.slice A k cap) W := by
  rw [run_sliceAt_slice (P := Tryz.prog) W 77 _ _ _ _ (by rw [Tryz.underlying77]; rfl)]
  exact run_slice_to W A n cap k hk hA
theorem Row.shape2 {w : World} {e : TypeId} {size : Nat} {v : Value} {n : Nat} {xs : List Value} (h : Row w e size v n xs) : ∃ A c, v = .slice A n c ∧ n ≤ c ∧ (A = none ∨ ∃ g, A = some ⟨g, 0, none⟩) := by
  rcases h.2 with ⟨rfl, rfl⟩ | ⟨g, cap, cur, rfl, _, _, hc, _⟩
  · exact ⟨none, 0, rfl, Nat.le_refl _, .inl rfl⟩
  · exact ⟨_, _, rfl, hc, .inr ⟨g, rfl⟩⟩

set_option maxRecDepth 100000 in
set_option maxHeartbeats 2000000 in
theorem crash_any (A : Option Addr) (nb cb B : Nat) (bits : List UInt8) (L : Low) (p m n : Nat) (vs vw : Value) (w : World) (h : LowAt w p L vs vw m) (hn : L.st.length = 256 * n) (hm : n ≤ 1024) (hx : ∀ x ∈ L.ws, x.1 < n ∧ x.2.length = 256)
    (hp : L.pend ≤ L.ws.length) (hw : L.ws.length ≤ 1048576) (hbits : ∀ w', Turns (Foot p m vs vw) w w' → Holds w' B A nb bits) (hnb : nb ≤ maxLen) :
    Calls Tryz.prog 8 #[.pointer (some ⟨p, 0, none⟩), .slice A nb cb] w fun e w' =>
      e = .returned (.tuple #[]) ∧ LowAt w' p { st := crashL bits L.ws L.st L.pend, ws := [], pend := 0, fused := false, left := 0 } vs (.slice none 0 0) m ∧ Turns (fun k => k = p ∨ k = m ∨ vs.ownBlock = some k) w w' := by
  have c1 := h.f1
  have c2 := h.f2
  obtain ⟨D, cp, rfl, hcp, hD⟩ := h.ws.shape2
  have q1 := fun W => run_slice_to W D L.ws.length cp L.pend (by omega) hD
  have q2 := fun W => run_sliceAt_to W D L.ws.length cp L.pend (by omega) hD
  have HDS := Lib.hid hD; clear hD
  have HN := Lib.hid hn; clear hn
  have HX := Lib.hid hx; clear hx
  have HBI := Lib.hid hbits; clear hbits
  have H := Lib.hid h; clear h
  have hnw := run_newW
  go_enter Tryz.func8, Tryz.ntmps8
  go_wp2
  go_region_held3 (fun w' => w'.cell? ⟨p, 1, none⟩ = some (.slice D L.ws.length cp) ∧ w'.cell? ⟨p, 2, none⟩ = some (.int .i64 (L.pend : Int))) (go_keep) (fail)
  go_wp2
  go_loopw [19] (fun i wr => ∃ k : Nat, k ≤ L.pend ∧ i = .int .i64 k ∧ LowAt wr p { L with st := crashL bits L.ws L.st k } vs (.slice D L.ws.length cp) m ∧ Turns (fun k => vs.ownBlock = some k) w wr) (fun i _ => L.pend - (intOf i).toNat)
  case atStart => exact ⟨0, by omega, rfl, H.out.turns (F := fun _ => False) ⟨rfl, rfl, rfl, Nat.le_refl _, fun _ _ _ => rfl⟩ (fun _ _ e => e), (Turns.refl _ w).drew⟩
  case round =>
    obtain ⟨k, hk, rfl, hL, hT⟩ := hrel
    by_cases hlt : k < L.pend
    · obtain ⟨w1, hw1⟩ : ∃ w1, w1 = wr := ⟨_, rfl⟩
      subst hw1
      have hkw : k < L.ws.length := by omega
      obtain ⟨g, cap, cur, hv, hg, -, -, h3, h4⟩ := hL.ws.cut (show 0 < L.ws.length by omega)
      obtain ⟨rfl, rfl⟩ : D = some ⟨g, 0, none⟩ ∧ cp = cap := by
        injection hv with e1 _ e2
        exact ⟨e1, e2⟩
      clear hv
      have hx1 := HX.out
      have hr0 := writes_range hg h4 h3 (fun x hx => (hx1 x hx).2) k hkw
      have hxk := hx1 _ (List.getElem_mem hkw)
      have hgd : L.ws.getD k (0, []) = L.ws[k] := by rw [List.getD_eq_getElem?_getD, List.getElem?_eq_getElem hkw]; rfl
      have HGD := Lib.hid hgd; clear hgd
      obtain ⟨x, hxe⟩ : ∃ x, x = L.ws[k] := ⟨_, rfl⟩
      change Hid (L.ws.getD k (0, []) = L.ws[k]) at HGD
      rw [← hxe] at hr0 hxk HGD
      have HXE := Lib.hid hxe; clear hxe
      obtain ⟨cs, hcs⟩ : ∃ cs, cs = wcells x := ⟨_, rfl⟩
      rw [← hcs] at hr0
      have hcl : cs.length = 257 := by rw [hcs, wcells_len _ hxk.2]
      have hone : ∀ v ∈ cs, v.oneCell' = true := by rw [hcs]; intro v hv; exact flat_one [x] v (by simpa [flat] using hv)
      have hld := run_ldW w1 g (k * 257) cs hr0 hcl
      have hst := fun W => run_stW_new W cs hcl hone
      have hk1 : (0 : Int) ≤ (k : Int) := by omega
      have hk2 : (k : Int) < (L.pend : Int) := by omega
      have HCS := Lib.hid hcs; clear hcs
      have HCL := Lib.hid hcl; clear hcl
      have HON := Lib.hid hone; clear hone
      have HR := Lib.hid hr0; clear hr0
      have HG := Lib.hid hg; clear hg
      have H3 := Lib.hid h3; clear h3
      have H4 := Lib.hid h4; clear h4
      clear hx1
      obtain ⟨hx1, hx2⟩ := hxk
      have HX2 := Lib.hid hx2; clear hx2
      have HL := Lib.hid hL; clear hL
      have HT := Lib.hid hT; clear hT
      go_wp2
      have ht1 : Turns (fun _ => False) w1 (w1.alloc (.cells cs.toArray 83)) := (Turns.refl _ w1).alloc _
      have hB : (w1.alloc (.cells cs.toArray 83)).heap[w1.heap.size]? = some (.cells cs.toArray 83 (0, 0)) := heap_alloc_new w1 _
      have hsz : w1.heap.size < (w1.alloc (.cells cs.toArray 83)).heap.size := by simp
      generalize hW : w1.alloc (.cells cs.toArray 83) = W at ht1 hB hsz ⊢
      clear hW
      clear hld hst
      have HB := Lib.hid hB; clear hB
      have HT1 := Lib.hid ht1; clear ht1
      go_loopw [24] (fun j w2 => ∃ s : Nat, s ≤ 4 ∧ j = .int .i64 s ∧ LowAt w2 p { L with st := tearL bits k x (crashL bits L.ws L.st k) s } vs (.slice (some ⟨g, 0, none⟩) L.ws.length cp) m ∧ Turns (fun k => vs.ownBlock = some k) W w2) (fun j _ => 4 - (intOf j).toNat)
      case atStart => exact ⟨0, by omega, rfl, HL.out.turns HT1.out (fun _ _ e => e), Turns.refl _ _⟩
      case round =>
        obtain ⟨s, hs, rfl, hL2, hT2⟩ := hrel
        by_cases hs4 : s < 4
        · have hhb := HBI.out wr ((HT.out.mono (F := Foot p m vs (.slice (some ⟨g, 0, none⟩) L.ws.length cp)) (fun _ _ e => .inr (.inr (.inl e)))).trans ((HT1.out.mono (F := fun k => vs.ownBlock = some k) (fun _ _ e => e.elim)).trans hT2 (fun _ _ e => e)) (fun _ _ e => .inr (.inr (.inl e))))
          have hwb : wr.heap[w1.heap.size]? = some (.cells cs.toArray 83 (0, 0)) := (hT2.block _ hsz (fun e => by have := HL.out.st.lt e; omega)).trans HB.out
          have hldb := run_ldW wr w1.heap.size 0 cs (fun j v hv => by rw [Nat.zero_add, cell_of_row _ _ _ _ _ _ hwb]; simpa using hv) HCL.out
          clear hwb
          have HL2 := Lib.hid hL2; clear hL2
          have HT2 := Lib.hid hT2; clear hT2
          have HHB := Lib.hid hhb; clear hhb
          cases hbit : Dk.bit bits (4 * k + s)
          · have HBT := Lib.hid hbit; clear hbit
            go_wp2_with fail
            refine (isOne_int A nb cb B (4 * (k : Int) + (s : Int)) (4 * k + s) bits wr (by omega) HHB.out hnb (by omega)).mono ?_
            rintro e w' ⟨rfl, rfl⟩
            rw [HBT.out]
            go_wp2
            go_roundw
            case rel => exact ⟨s + 1, by omega, by go_num, by unfold tearL; rw [if_neg (by rw [HBT.out]; simp)]; exact HL2.out, HT2.out⟩
            case measure => simp [intOf]; omega
          · have HBT := Lib.hid hbit; clear hbit
            go_wp2_with fail
            refine (isOne_int A nb cb B (4 * (k : Int) + (s : Int)) (4 * k + s) bits wr (by omega) HHB.out hnb (by omega)).mono ?_
            rintro e w' ⟨rfl, rfl⟩
            rw [HBT.out]
            go_wp2_with fail
            have hk := keep_any _ p m n s (s + 1) x vs _ wr HL2.out (tearL_len bits k x _ n (crashL_len bits L.ws L.st n HN.out HX.out k (by omega)) hx1 HX2.out s (by omega)) hm hx1 HX2.out (by omega) (by omega)
            rw [← HCS.out] at hk
            refine hk.mono ?_
            rintro e w3 ⟨rfl, hL3, hT3⟩
            go_wp2
            go_roundw
            case rel => exact ⟨s + 1, by omega, by go_num, by unfold tearL; rw [if_pos HBT.out]; exact hL3, HT2.out.trans hT3 (fun _ _ e => e)⟩
            case measure => simp [intOf]; omega
        · obtain rfl : s = 4 := by omega
          have HL2 := Lib.hid hL2; clear hL2
          have HT2 := Lib.hid hT2; clear hT2
          go_wp2
          go_roundw
          case rel =>
            refine ⟨k + 1, by omega, by go_num, ?_, (HT.out.trans (HT1.out.mono (F := fun k => vs.ownBlock = some k) (fun _ _ e => e.elim)) (fun _ _ e => e)).trans HT2.out (fun _ _ e => e)⟩
            unfold crashL
            rw [HGD.out]
            exact HL2.out
          case measure => simp [intOf]; omega
    · obtain rfl : k = L.pend := by omega
      have HL := Lib.hid hL; clear hL
      have HT := Lib.hid hT; clear hT
      go_wp2_with fail
      refine (forget_any _ p m vs _ wr HL.out).mono ?_
      rintro e w3 ⟨rfl, hL3, hT3⟩
      have g4 := hL3.f4
      have g5 := hL3.f5
      have z4 := hL3.open_ 4
      have z5 := hL3.open_ 5
      have HL3 := Lib.hid hL3; clear hL3
      have HT3 := Lib.hid hT3; clear hT3
      go_wp2
      go_end0
      refine ⟨rfl, (HL3.out.number (L' := { st := crashL bits L.ws L.st L.pend, ws := [], pend := 0, fused := false, left := L.left }) 4 _ rfl rfl rfl).number 5 _ rfl rfl rfl, ?_⟩
      have ht := ((HT.out.mono (F := fun k => k = p ∨ k = m ∨ vs.ownBlock = some k) (fun _ _ e => .inr (.inr e))).trans HT3.out (fun _ _ e => by rcases e with e | e; exact .inl e; exact .inr (.inl e)))
      exact (ht.setCell (p := ⟨p, 4, none⟩) (fun _ => .inl rfl) _).setCell (p := ⟨p, 5, none⟩) (fun _ => .inl rfl) _
end Go.Proofs.YtelnoibfamcnmaaGreat.Disk
