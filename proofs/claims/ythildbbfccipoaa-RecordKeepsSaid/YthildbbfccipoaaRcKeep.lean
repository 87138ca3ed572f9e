/- A record of the call's own whose bytes are set one by one, and appended to. -/
import Derived.Test.YthildbbfccipoaaRcOver
import Derived.Laws.BitsAllLaws
namespace Go.Proofs.Ythildbbfccipoaa.Rec
open Go.RowKit
open Go.Proofs.Ythildbbfccipoaa.Mem Go.Proofs.Ythildbbfccipoaa.Crc

theorem wcells_setv : ∀ (ws : List Wt) (vs : List Value) (k : Nat) (v' : Value), vs.length = ws.length → wcells ws (vs.set k v') = (wcells ws vs).set (k * 2 + 1) v'
  | [], [], k, v', _ => by simp [wcells]
  | z :: r, v :: vs, 0, v', _ => rfl
  | z :: r, v :: vs, k + 1, v', h => by
    rw [show (k + 1) * 2 + 1 = k * 2 + 1 + 1 + 1 by omega]
    simp only [List.set_cons_succ, wcells, wcells_setv r vs k v' (by simpa using h)]
  | [], _ :: _, _, _, h => by simp at h
  | _ :: _, [], _, _, h => by simp at h

theorem OwnsW.froz {w : World} {base : Nat} {b n c : Nat} {ws : List Wt} {vs : List Value} (h : OwnsW w base (some ⟨b, 0, none⟩) n c ws vs) (j : Nat) : w.frozen? ⟨b, j, none⟩ = false := World.ownsRow.frozenAt h.row j

/-- The bytes of one of the Writes lie in another slice now: the elder one, or new memory. -/
theorem OwnsW.repl {w w' : World} {base : Nat} {b n c : Nat} {ws : List Wt} {vs : List Value} (h : OwnsW w base (some ⟨b, 0, none⟩) n c ws vs) {k : Nat} {x : Wt} {v v' : Value} {y : List UInt8} (hx : ws[k]? = some x) (hv : vs[k]? = some v)
    (hy : Owned w' base v' y) (hg : w.grownBy w' v.ownBlock) (hat : ∀ q, v'.ownBlock = some q → v.ownBlock = some q ∨ w.heap.size ≤ q) :
    OwnsW (w'.setCell ⟨b, k * 2 + 1, none⟩ v') base (some ⟨b, 0, none⟩) n c (ws.set k (x.1, y)) (vs.set k v') := by
  have hvo := h.data k x v hx hv
  have hrow' := ownsRow_grown h.row hvo (by decide) hg
  obtain ⟨cur, hb'⟩ := row_type hrow' (k := b) rfl
  have hdata : ∀ (j : Nat) (z : Wt) (u : Value), ws[j]? = some z → vs[j]? = some u → j ≠ k → Owned w' base u z.2 := fun j z u hz hu hj => by
    refine World.ownsRow.kept (h.data j z u hz hu) hg ?_
    cases hq : u.ownBlock with
    | none => exact .inl rfl
    | some q => exact .inr (fun e => h.apart j k u v q hu hv hj hq e.symm)
  refine ⟨by rw [List.length_set]; exact h.cnt, by rw [List.length_set, List.length_set]; exact h.len, ?_, fun j z u hz hu => ?_, fun i j u u' q hu hu' hij hq e => ?_⟩
  · rw [wcells_set ws _ k x y hx, wcells_setv ws vs k v' h.len]
    exact (World.ownsRow.stored hrow' (k * 2 + 1) v').1
  · refine ownsRow_store ?_ hb' (by decide)
    by_cases hjk : k = j
    · subst hjk
      rw [List.getElem?_set_self (List.getElem?_eq_some_iff.1 hx).1] at hz
      rw [List.getElem?_set_self (List.getElem?_eq_some_iff.1 hv).1] at hu
      injection hz with hz
      injection hu with hu
      subst hz hu
      exact hy
    · rw [List.getElem?_set_ne hjk] at hz
      rw [List.getElem?_set_ne hjk] at hu
      exact hdata j z u hz hu (fun e => hjk e.symm)
  · have hother : ∀ (j : Nat) (u : Value), vs[j]? = some u → j ≠ k → u.ownBlock = some q → v'.ownBlock = some q → False := fun j u hu hj h1 h2 => by
      obtain ⟨z, hz⟩ : ∃ z, ws[j]? = some z := ⟨_, List.getElem?_eq_getElem (by rw [← h.len]; exact (List.getElem?_eq_some_iff.1 hu).1)⟩
      rcases hat q h2 with h3 | h3
      · exact h.apart j k u v q hu hv hj h1 h3
      · have := (World.ownsRow.lt (h.data j z u hz hu) q h1).2
        omega
    by_cases hik : k = i
    · subst hik
      rw [List.getElem?_set_self (List.getElem?_eq_some_iff.1 hv).1] at hu
      injection hu with hu
      subst hu
      rw [List.getElem?_set_ne hij] at hu'
      exact hother j u' hu' (fun e => hij e.symm) e hq
    · rw [List.getElem?_set_ne hik] at hu
      by_cases hjk : k = j
      · subst hjk
        rw [List.getElem?_set_self (List.getElem?_eq_some_iff.1 hv).1] at hu'
        injection hu' with hu'
        subst hu'
        exact hother i u hu hij hq e
      · rw [List.getElem?_set_ne hjk] at hu'
        exact h.apart i j u u' q hu hu' hij hq e

/-- A record of the call's own, in a box at block y. -/
structure Kp (W wr : World) (y base seq : Nat) (ws : List Wt) (rs : List Int) (Bw : Option Addr) (nw dw : Nat) (Br : Option Addr) (nr dr : Nat) (vs : List Value) : Prop where
  own : OwnsW wr base Bw nw dw ws vs
  ints : wr.ownsRow base 3 1 (.slice Br nr dr) nr (rs.map (Value.int .i64))
  box : wr.heap[y]? = some (.cells #[.int .u64 (seq : Int), .slice Bw nw dw, .slice Br nr dr] 52 (0, 0))
  below : Below W.heap.size W wr
  bb : W.heap.size ≤ base
  size : base ≤ wr.heap.size

theorem Kp.set {W wr : World} {y base seq nw dw nr dr i k g L c2 : Nat} {ws : List Wt} {rs : List Int} {Bw Br : Option Addr} {vs : List Value} {x1 : Int} {x2 : List UInt8} (u : UInt8)
    (h : Kp W wr y base seq ws rs Bw nw dw Br nr dr vs) (hx : ws[i]? = some (x1, x2)) (hv : vs[i]? = some (.slice (some ⟨g, 0, none⟩) L c2)) (hk : k < x2.length) :
    Kp W (wr.setCell ⟨g, k, none⟩ (byteV u)) y base seq (ws.set i (x1, x2.set k u)) rs Bw nw dw Br nr dr vs := by
  have ho := h.own.data i _ _ hx hv
  have hl : L = x2.length := Owned.len ho
  subst hl
  obtain ⟨cur, hg⟩ := row_type ho (k := g) rfl
  obtain ⟨g', cap', hv', hbg, hgl, hcp, hrow⟩ := Owned.row ho (by show 0 < x2.length; omega)
  injection hv' with e1 _ e3
  injection e1 with e1
  injection e1 with e1
  subst e1 e3
  obtain ⟨r1, r2⟩ := (hrow k hk).2.2 u
  have hfr : ∀ q, q ≠ g → (wr.setCell ⟨g, k, none⟩ (byteV u)).heap[q]? = wr.heap[q]? := fun q hq => Below.heap_setCell _ _ _ _ hq
  have hb2 : Below base wr (wr.setCell ⟨g, k, none⟩ (byteV u)) := (Below.refl base wr).setCell hbg _
  have hr1 : Owned (wr.setCell ⟨g, k, none⟩ (byteV u)) base (.slice (some ⟨g, 0, none⟩) x2.length c2) (x2.set k u) := by
    have := r1
    exact this
  refine ⟨h.own.over hx hv hr1 (fun q hq => hfr q (fun e => hq (by rw [e]; rfl))), ownsRow_store h.ints hg (by decide), ?_, h.below.trans (hb2.mono h.bb), h.bb, by rw [show (wr.setCell ⟨g, k, none⟩ (byteV u)).heap.size = wr.heap.size by simp [World.setCell]]; exact h.size⟩
  rw [hfr y (fun e => ?_)]
  · exact h.box
  · subst e
    have := h.box
    rw [hg] at this
    injection this with this
    injection this with _ this
    exact absurd this (by decide)

theorem Kp.app {W wr w' : World} {y base seq nw dw nr dr i b : Nat} {ws : List Wt} {rs : List Int} {Br : Option Addr} {vs : List Value} {x : Wt} {v v' : Value} {z : List UInt8}
    (h : Kp W wr y base seq ws rs (some ⟨b, 0, none⟩) nw dw Br nr dr vs) (hx : ws[i]? = some x) (hv : vs[i]? = some v) (hy : Owned w' base v' z) (hg : wr.grownBy w' v.ownBlock) (hat : ∀ q, v'.ownBlock = some q → v.ownBlock = some q ∨ wr.heap.size ≤ q) :
    Kp W (w'.setCell ⟨b, i * 2 + 1, none⟩ v') y base seq (ws.set i (x.1, z)) rs (some ⟨b, 0, none⟩) nw dw Br nr dr (vs.set i v') := by
  have hvo := h.own.data i x v hx hv
  have hrow' := ownsRow_grown h.own.row hvo (by decide) hg
  obtain ⟨cur, hb'⟩ := row_type hrow' (k := b) rfl
  have hbox' := block_grown h.box hvo (by decide) hg
  have hbb : base ≤ b := (World.ownsRow.lt h.own.row b rfl).1
  have hbw : Below W.heap.size W w' := h.below.grown hg (by have := h.bb; have := h.size; omega) (fun q e => by have := (World.ownsRow.lt hvo q e).1; have := h.bb; omega)
  refine ⟨h.own.repl hx hv hy hg hat, ownsRow_store (ownsRow_grown h.ints hvo (by decide) hg) hb' (by decide), ?_, hbw.setCell (by show W.heap.size ≤ b; have := h.bb; omega) _, h.bb, ?_⟩
  · rw [Below.heap_setCell _ _ _ _ ?_]
    · exact hbox'
    · show y ≠ b
      intro e
      subst e
      rw [hb'] at hbox'
      injection hbox' with hbox'
      injection hbox' with _ hbox'
      exact absurd hbox' (by decide)
  · have := hg.size
    have := h.size
    rw [show (w'.setCell ⟨b, i * 2 + 1, none⟩ v').heap.size = w'.heap.size by simp [World.setCell]]
    omega

theorem Kp.look {W wr : World} {y base seq nw dw nr dr i b L c2 : Nat} {ws : List Wt} {rs : List Int} {A2 Br : Option Addr} {vs : List Value} {x : Wt}
    (h : Kp W wr y base seq ws rs (some ⟨b, 0, none⟩) nw dw Br nr dr vs) (hx : ws[i]? = some x) (hv : vs[i]? = some (.slice A2 L c2)) :
    wr.cell? ⟨y, 1, none⟩ = some (.slice (some ⟨b, 0, none⟩) nw dw) ∧ wr.cell? ⟨b, i * 2 + 1, none⟩ = some (.slice A2 L c2) ∧ wr.frozen? ⟨b, i * 2 + 1, none⟩ = false ∧ Owned wr base (.slice A2 L c2) x.2 ∧ b < wr.heap.size ∧ y < wr.heap.size := by
  obtain ⟨b', A3, c3, hb, hv', _, e1, ho, hbl, _⟩ := h.own.at hx
  injection hb with hb
  injection hb with hb
  subst hb
  rw [hv] at hv'
  injection hv' with hv'
  rw [← hv'] at e1
  exact ⟨cell_of_row _ _ _ _ _ _ h.box, e1, h.own.froz _, h.own.data i x _ hx hv, hbl, (Array.getElem?_eq_some_iff.1 h.box).1⟩

/-- A record's blocks are read; what is made is the call's own. -/
theorem dec_ownT (t : Tx) (behind : List UInt8) (A : Option Addr) (N c B : Nat) (w : World) (h : Holds w B A N (t.enc ++ behind)) (hB : B ≤ w.heap.size) (hc : N ≤ c) (hm : c ≤ 9223372036854775807) (hs : t.seq < 18446744073709551616) (hmay : t.mayB = true) :
    Calls Try.prog 32 #[.slice A N c, .int .u64 (t.seq : Int)] w fun e w' =>
      ∃ Ax cx Ar cr vs, e = .returned (.tuple #[.agg #[.int .u64 (t.seq : Int), .slice Ax t.ws.length cx, .slice Ar t.rs.length cr], .int .i64 ((t.ws.length : Int) + 2), .bool true]) ∧
        OwnsT w' w.heap.size t Ax cx Ar cr vs ∧ Below w.heap.size w w' := by
  have hM := (mayB_iff t).1 hmay
  obtain ⟨hW, hR, _, hL⟩ := tell_enc t hM behind
  have hd := (dec_back t hM behind).1
  refine (dec_any A N c B _ t.seq w h hB hc hm hs).mono ?_
  rintro e w' (⟨_, Aw, cw, Ar, cr, vs, rfl, ho, hb⟩ | ⟨hn, _⟩)
  · rw [hW, hR]
    have e : tellL (t.enc ++ behind) t.seq = t := hL t.seq
    rw [e] at ho
    exact ⟨Aw, cw, Ar, cr, vs, rfl, ho, hb⟩
  · rw [hd] at hn; cases hn

/-! Bytes turned -/
def xorB (x y : Value) : Sem Value := binOp .xor 5 x y
theorem xorB_eq (x y : Value) : binOp .xor 5 x y = xorB x y := rfl
theorem flip_u8 (u : UInt8) : Go.bits .xor .u8 (u.toNat : Int) 255 = ((UInt8.ofNat (u.toNat ^^^ 255)).toNat : Int) := by
  have h := u.toNat_lt
  have e := u8_xor_nat u.toNat 255 (by omega) (by omega)
  have hx : u.toNat ^^^ 255 < 2 ^ 8 := Nat.xor_lt_two_pow (by omega) (by omega)
  rw [show (255 : Int) = ((255 : Nat) : Int) from rfl, e, UInt8.toNat_ofNat']
  congr 1
  omega
theorem run_xorB (u : UInt8) (W : World) : (xorB (.int .u8 (u.toNat : Int)) (.int .u8 255)).run Try.prog W = .ok (.int .u8 ((u ^^^ 255).toNat : Int)) W := by
  have h : (binOp .xor 5 (.int .u8 (u.toNat : Int)) (.int .u8 255)).run Try.prog W = .ok (.int .u8 (Go.bits .xor .u8 (u.toNat : Int) 255)) W := rfl
  rw [flip_u8] at h
  rw [show (u ^^^ 255).toNat = (UInt8.ofNat (u.toNat ^^^ 255)).toNat by
    rw [UInt8.toNat_ofNat', UInt8.toNat_xor]
    have hx : u.toNat ^^^ 255 < 2 ^ 8 := Nat.xor_lt_two_pow u.toNat_lt (by omega)
    rw [Nat.mod_eq_of_lt hx]
    rfl]
  exact h
end Go.Proofs.Ythildbbfccipoaa.Rec
