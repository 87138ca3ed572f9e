/- Bytes of a record of the call's own that are written over; and where the log's mark stands in a record's blocks, in plain words. -/
import Derived.Test.YthildbbfccipoaaRfGiven
import Derived.IntWalk
namespace Go.Proofs.Ythildbbfccipoaa.Rec
open Go.RowKit
open Go.Proofs.Ythildbbfccipoaa.Mem Go.Proofs.Ythildbbfccipoaa.Crc

/-- 'copy(d, "..")': no other block is turned. -/
theorem copy_const_frame (w : World) (ty : TypeId) (base g n cap : Nat) (bs ys : List UInt8) (dl dc : Nat) (h : Owned w base (.slice (some ⟨g, 0, none⟩) n cap) bs) (h0 : 0 < ys.length) (hd : ys.length ≤ dl) (hk : ys.length ≤ n) :
    ∃ w', (Builtin.copy_ #[33, 9] ty #[.slice (some ⟨g, 0, none⟩) dl dc, .string ⟨ys.toArray⟩]).run Try.prog w = .ok (goInt ys.length) w' ∧ Owned w' base (.slice (some ⟨g, 0, none⟩) n cap) (over bs 0 ys) ∧ Below base w w' ∧ ∀ q, q ≠ g → w'.heap[q]? = w.heap[q]? := by
  obtain rfl : n = bs.length := Owned.len h
  obtain ⟨g', cap', cur, hv, hb, hgl, hg, hc1, hc2, hc3, hc4⟩ := Owned.cut h (by omega)
  injection hv with e1 e2 e3
  injection e1 with e1
  injection e1 with e1
  subst e1 e3
  have hsz : (⟨ys.toArray⟩ : ByteArray).size = ys.length := by simp [ByteArray.size]
  have hrun := Lib.run_copy_row_string (P := Try.prog) w 33 9 ty 5 g 0 dl dc ⟨ys.toArray⟩ cur 5 Try.underlying33 (by kernel_rfl) hg (by rw [hsz]; exact hd) (by rw [hsz]; omega)
  rw [hsz] at hrun
  refine ⟨_, hrun, Owned.laid (k := 0) h (by omega) cur hg ?_, Go.below_setRow (Below.refl base w) hb _, fun q hq => setRow_other w g q _ hq⟩
  rw [setRow_heap w g _ _ _ _ hg]
  congr 2

theorem wcells_set : ∀ (ws : List Wt) (vs : List Value) (k : Nat) (x : Wt) (y : List UInt8), ws[k]? = some x → wcells (ws.set k (x.1, y)) vs = wcells ws vs
  | z :: r, v :: vs, 0, x, y, h => by
    simp at h
    subst h
    rfl
  | z :: r, v :: vs, k + 1, x, y, h => by
    simp only [List.getElem?_cons_succ] at h
    simp only [List.set_cons_succ, wcells, wcells_set r vs k x y h]
  | z :: r, [], 0, x, y, h => rfl
  | z :: r, [], k + 1, x, y, h => rfl
  | [], _, _, _, _, h => by simp at h

/-- What lies where, of one of the Writes. -/
theorem OwnsW.at {w : World} {base : Nat} {A : Option Addr} {n c : Nat} {ws : List Wt} {vs : List Value} (h : OwnsW w base A n c ws vs) {k : Nat} {x : Wt} (hx : ws[k]? = some x) :
    ∃ b A2 c2, A = some ⟨b, 0, none⟩ ∧ vs[k]? = some (.slice A2 x.2.length c2) ∧ w.cell? ⟨b, k * 2, none⟩ = some (.int .i64 x.1) ∧ w.cell? ⟨b, k * 2 + 1, none⟩ = some (.slice A2 x.2.length c2) ∧
      Owned w base (.slice A2 x.2.length c2) x.2 ∧ b < w.heap.size ∧ base ≤ b := by
  have hk := (List.getElem?_eq_some_iff.1 hx).1
  obtain ⟨v, hv⟩ : ∃ v, vs[k]? = some v := ⟨_, List.getElem?_eq_getElem (by rw [h.len]; exact hk)⟩
  have ho := h.data k x v hx hv
  obtain ⟨A2, c2, rfl⟩ := Owned.shape ho
  obtain ⟨q1, q2⟩ := wcells_get ws vs k x _ hx hv
  have hlen : (wcells ws vs).length = n * 2 := by rw [wcells_len _ _ h.len, h.cnt]
  rcases h.row.2 with ⟨hv0, h0⟩ | ⟨g, cap, cur, hv0, hg, hh, hc, hm, hs, ht⟩
  · have := h.cnt; omega
  · injection hv0 with e1 _ e3
    have hcell : ∀ j u, (wcells ws vs)[j]? = some u → w.cell? ⟨g, j, none⟩ = some u := fun j u hu => by
      rw [cell_of_row _ _ _ _ _ _ hh]
      have hj := (List.getElem?_eq_some_iff.1 hu).1
      rw [← ht, List.getElem?_take, if_pos (by omega)] at hu
      simpa using hu
    exact ⟨g, A2, c2, e1, hv, hcell _ _ q1, hcell _ _ q2, ho, (Array.getElem?_eq_some_iff.1 hh).1, hg⟩

/-- The bytes of one of the Writes are others now. -/
theorem OwnsW.over {w w' : World} {base : Nat} {A : Option Addr} {n c : Nat} {ws : List Wt} {vs : List Value} (h : OwnsW w base A n c ws vs) {k : Nat} {x : Wt} {v : Value} {y : List UInt8} (hx : ws[k]? = some x) (hv : vs[k]? = some v)
    (hy : Owned w' base v y) (hfr : ∀ q, v.ownBlock ≠ some q → w'.heap[q]? = w.heap[q]?) : OwnsW w' base A n c (ws.set k (x.1, y)) vs := by
  have hkeep : ∀ {e : TypeId} {size m : Nat} {u : Value} {xs : List Value}, w.ownsRow base e size u m xs → (∀ q, u.ownBlock = some q → v.ownBlock ≠ some q) → w'.ownsRow base e size u m xs := fun {e size m u xs} ho hne => by
    obtain ⟨h1, h2⟩ := ho
    refine ⟨h1, ?_⟩
    rcases h2 with h2 | ⟨g, cap, cur, ev, hg, hh, r⟩
    · exact .inl h2
    · exact .inr ⟨g, cap, cur, ev, hg, (hfr g (hne g (by rw [ev]; rfl))).trans hh, r⟩
  refine ⟨by rw [List.length_set]; exact h.cnt, by rw [List.length_set]; exact h.len, ?_, fun j z u hz hu => ?_, h.apart⟩
  · rw [wcells_set ws vs k x y hx]
    refine hkeep h.row fun q hq e => ?_
    obtain ⟨cur, h1⟩ := row_type h.row hq
    obtain ⟨cur', h2⟩ := row_type (h.data k x v hx hv) e
    rw [h1] at h2
    injection h2 with h2
    injection h2 with _ h2
    exact absurd h2 (by decide)
  · by_cases hjk : k = j
    · subst hjk
      rw [hv] at hu
      injection hu with hu
      rw [List.getElem?_set_self (List.getElem?_eq_some_iff.1 hx).1] at hz
      injection hz with hz
      subst hu hz
      exact hy
    · rw [List.getElem?_set_ne hjk] at hz
      exact hkeep (h.data j z u hz hu) fun q hq e => h.apart j k u v q hu hv (fun e => hjk e.symm) hq e

theorem and_bits (x : Int) (m s : Nat) (hm : m = 2 ^ s - 1) (hs : s ≤ 8) : ∃ k : Nat, k < 2 ^ s ∧ bits .and .i64 x (m : Int) = (k : Int) := by
  have hp : 2 ^ s ≤ 2 ^ 8 := Nat.pow_le_pow_right (by omega) hs
  have h1 : 0 < 2 ^ s := Nat.two_pow_pos s
  have e : (BitVec.ofInt 64 (m : Int)).toNat = m := by
    rw [BitVec.ofInt_natCast, BitVec.toNat_ofNat]; exact Nat.mod_eq_of_lt (by omega)
  have hk : (BitVec.ofInt 64 x &&& BitVec.ofInt 64 (m : Int)).toNat < 2 ^ s := by
    rw [BitVec.toNat_and, e]
    exact Nat.and_lt_two_pow _ (by omega)
  refine ⟨_, hk, ?_⟩
  show IntKind.i64.wrap ((BitVec.ofInt 64 x &&& BitVec.ofInt 64 (m : Int)).toNat : Int) = _
  exact IntWalk.i64_in _ (by omega)


/-! Where the mark stands -/
theorem over_take (a y : List UInt8) (k : Nat) (hk : 4 ≤ k) (ha : 4 ≤ a.length) : (over a k y).take 4 = a.take 4 := by
  unfold over
  rw [List.take_append_of_le_length (by rw [List.length_take]; omega), List.take_take, Nat.min_eq_left hk]
theorem drop_past (a b : List UInt8) (k : Nat) : (a ++ b).drop (a.length + k) = b.drop k := by
  rw [← List.drop_drop, List.drop_left]
theorem ownL_mark (kind : UInt8) (seq : Nat) (rest : List UInt8) (h : rest.length ≤ 236) : (ownL kind seq rest).take 4 = markL := by
  have h3 : (own3 kind seq).take 4 = markL := by rw [own3_eq]; rfl
  unfold ownL own4
  rw [over_take _ _ 252 (by omega) (by rw [over_len _ _ _ (by rw [own3_len]; omega), own3_len]; omega), over_take _ _ 16 (by omega) (by rw [own3_len]; omega)]
  exact h3
theorem bareL_unlooks (bs : List UInt8) : (bareL bs).take 4 ≠ markL := by
  unfold bareL
  split
  · intro e
    have : (over bs 0 (List.replicate 4 0)).take 4 = List.replicate 4 0 := by
      unfold over
      rw [List.take_zero, List.nil_append, List.take_append_of_le_length (by simp)]
      rfl
    rw [this] at e
    exact absurd e (by decide)
  · rename_i hl
    intro e
    apply hl
    exact decide_eq_true e
theorem bodyL_drop : ∀ (ws : List Wt) (k : Nat), (∀ x ∈ ws, x.2.length = 256) → (bodyL ws).drop (256 * k) = bodyL (ws.drop k)
  | ws, 0, _ => by simp
  | [], k + 1, _ => by simp [bodyL]
  | x :: r, k + 1, h => by
    have hx : (bareL x.2).length = 256 := by rw [bareL_len]; exact h x (by simp)
    have hb : bodyL (x :: r) = bareL x.2 ++ bodyL r := by simp [bodyL]
    rw [hb, show 256 * (k + 1) = (bareL x.2).length + 256 * k by rw [hx]; omega, drop_past, List.drop_succ_cons]
    exact bodyL_drop r k (fun y hy => h y (by simp [hy]))
/-- Of a record's blocks the first and the last begin with the mark, and no other one does. -/
theorem enc_marks (t : Tx) (hM : t.May) (k : Nat) (hk : k < t.ws.length + 2) : (t.enc.drop (256 * k)).take 4 = markL ↔ (k = 0 ∨ k = t.ws.length + 1) := by
  have hs : t.slots.length ≤ 236 := by have := slots_len t; have := hM.hi; omega
  have h1 : (ownL 1 t.seq t.slots).length = 256 := ownL_len _ _ _ hs
  have hbl := bodyL_len t.ws hM.data
  have henc : t.enc = ownL 1 t.seq t.slots ++ (bodyL t.ws ++ ownL 2 t.seq (bytesL (sum t.head) 4)) := by
    unfold Tx.enc Tx.head; rw [List.append_assoc]
  have ho2 := ownL_mark 2 t.seq (bytesL (sum t.head) 4) (by rw [bytesL_len]; omega)
  have hl2 : (ownL 2 t.seq (bytesL (sum t.head) 4)).length = 256 := ownL_len _ _ _ (by rw [bytesL_len]; omega)
  rw [henc]
  cases k with
  | zero =>
    rw [Nat.mul_zero, List.drop_zero, List.take_append_of_le_length (by omega), ownL_mark 1 t.seq t.slots hs]
    simp
  | succ k =>
    rw [show 256 * (k + 1) = (ownL 1 t.seq t.slots).length + 256 * k by rw [h1]; omega, drop_past]
    by_cases hkw : k = t.ws.length
    · subst hkw
      rw [← hbl, List.drop_left, ho2]
      simp
    · have hlt : k < t.ws.length := by omega
      rw [List.drop_append_of_le_length (by omega), bodyL_drop _ _ hM.data]
      obtain ⟨x, hx⟩ : ∃ x, t.ws[k]? = some x := ⟨_, List.getElem?_eq_getElem hlt⟩
      have hd : t.ws.drop k = x :: t.ws.drop (k + 1) := by
        obtain ⟨_, rfl⟩ := List.getElem?_eq_some_iff.1 hx
        exact List.drop_eq_getElem_cons hlt
      have hxl : x.2.length = 256 := hM.data x (List.mem_of_getElem? hx)
      have hb : bodyL (t.ws.drop k) = bareL x.2 ++ bodyL (t.ws.drop (k + 1)) := by rw [hd]; simp [bodyL]
      rw [hb, List.append_assoc, List.take_append_of_le_length (by rw [bareL_len]; omega)]
      constructor
      · intro e; exact absurd e (bareL_unlooks x.2)
      · intro e; omega
end Go.Proofs.Ythildbbfccipoaa.Rec
