/- Plain words: what Encode tells is told again, whatever stands behind; with another number, or cut short, nothing is. -/
import Derived.Test.YtjbelbhcdbbelaaRcDec
namespace Go.Proofs.Ytjbelbhcdbbelaa.Rec
set_option maxRecDepth 20000
open Go.RowKit
open Go.Proofs.Ytjbelbhcdbbelaa.Mem Go.Proofs.Ytjbelbhcdbbelaa.Crc

theorem bytesL_getD (v L k : Nat) (hk : k < L) : (bytesL v L).getD k 0 = byteN v k := by
  simp [bytesL, List.getD, hk]
theorem num_bytesL (v L : Nat) : ∀ k, k ≤ L → numAt (bytesL v L) k = v % 2 ^ (8 * k)
  | 0, _ => by simp [numAt, Nat.mod_one]
  | k + 1, hk => by
    have ih := num_bytesL v L k (by omega)
    show numAt (bytesL v L) k ||| ((bytesL v L).getD k 0).toNat * 2 ^ (8 * k) = _
    rw [ih, bytesL_getD v L k (by omega)]
    have e : (byteN v k).toNat = v / 2 ^ (8 * k) % 256 := by simp [byteN]
    have hlt : v % 2 ^ (8 * k) < 2 ^ (8 * k) := Nat.mod_lt _ (Nat.pow_pos (by omega))
    rw [e, Nat.or_comm, Nat.mul_comm, ← Nat.two_pow_add_eq_or_of_lt hlt, show 8 * (k + 1) = 8 * k + 8 by omega, Nat.pow_add, Nat.mod_mul, show (2 : Nat) ^ 8 = 256 from rfl]
    omega
theorem numFrom_at (a c : List UInt8) (v n k : Nat) (hk : k = a.length) (hv : v < 2 ^ (8 * n)) : numFrom (a ++ (bytesL v n ++ c)) k n = v := by
  subst hk
  unfold numFrom
  rw [List.drop_left, List.take_left' (bytesL_len v n), num_bytesL v n n (Nat.le_refl _), Nat.mod_eq_of_lt hv]
theorem numBs_split (ws : List Wt) (i : Nat) (x : Wt) (h : ws[i]? = some x) : numBs ws = numBs (ws.take i) ++ (bytesL (numb x) 4 ++ numBs (ws.drop (i + 1))) := by
  obtain ⟨hi, rfl⟩ := List.getElem?_eq_some_iff.1 h
  have e : ws = ws.take i ++ (ws[i] :: ws.drop (i + 1)) := by
    rw [← List.drop_eq_getElem_cons hi, List.take_append_drop]
  have e2 : numBs ws = numBs (ws.take i ++ (ws[i] :: ws.drop (i + 1))) := congrArg numBs e
  rw [e2]
  unfold numBs
  rw [List.flatMap_append, List.flatMap_cons]
theorem revBs_split (rs : List Int) (i : Nat) (x : Int) (h : rs[i]? = some x) : revBs rs = revBs (rs.take i) ++ (bytesL x.toNat 4 ++ revBs (rs.drop (i + 1))) := by
  obtain ⟨hi, rfl⟩ := List.getElem?_eq_some_iff.1 h
  have e : rs = rs.take i ++ (rs[i] :: rs.drop (i + 1)) := by
    rw [← List.drop_eq_getElem_cons hi, List.take_append_drop]
  have e2 : revBs rs = revBs (rs.take i ++ (rs[i] :: rs.drop (i + 1))) := congrArg revBs e
  rw [e2]
  unfold revBs
  rw [List.flatMap_append, List.flatMap_cons]
theorem bodyL_split (ws : List Wt) (i : Nat) (x : Wt) (h : ws[i]? = some x) : bodyL ws = bodyL (ws.take i) ++ (bareL x.2 ++ bodyL (ws.drop (i + 1))) := by
  obtain ⟨hi, rfl⟩ := List.getElem?_eq_some_iff.1 h
  have e : ws = ws.take i ++ (ws[i] :: ws.drop (i + 1)) := by
    rw [← List.drop_eq_getElem_cons hi, List.take_append_drop]
  have e2 : bodyL ws = bodyL (ws.take i ++ (ws[i] :: ws.drop (i + 1))) := congrArg bodyL e
  rw [e2]
  unfold bodyL
  rw [List.flatMap_append, List.flatMap_cons]

/-- The blocks of a record, laid open. -/
theorem enc_form (t : Tx) (h : t.May) : ∃ R C : List UInt8, R.length = 252 - (16 + t.slots.length) + 4 ∧ C = ownL 2 t.seq (bytesL (sum t.head) 4) ∧
    t.enc = headL 1 t.seq ++ (bytesL t.ws.length 2 ++ (bytesL t.rs.length 2 ++ (numBs t.ws ++ (revBs t.rs ++ (R ++ (bodyL t.ws ++ C)))))) := by
  have hsl := slots_len t
  have hhi := h.hi
  refine ⟨List.replicate (236 - t.slots.length) 0 ++ bytesL (sum (ownP 1 t.seq t.slots)) 4, _, ?_, rfl, ?_⟩
  · rw [List.length_append, List.length_replicate, bytesL_len]; omega
  · unfold Tx.enc Tx.head
    rw [ownL_eq 1 t.seq t.slots (by omega)]
    unfold ownP Tx.slots
    simp only [List.append_assoc]

theorem outNum_numb (x : Wt) (h : 0 ≤ x.1 ∧ x.1 < 1048576) : (outNum (numb x) : Int) = x.1 := by
  unfold outNum numb
  split <;> split <;> omega
theorem outData_numb (x : Wt) (h : 0 ≤ x.1 ∧ x.1 < 1048576) : outData (numb x) (bareL x.2) = x.2 := by
  unfold outData numb
  cases hl : looks x.2
  · simp only [Bool.false_eq_true, if_false]
    rw [if_neg (by omega), bareL_not _ hl]
  · simp only [if_true]
    rw [if_pos (by omega), bareL_eq _ hl]
    have e : x.2.take 4 = markL := of_decide_eq_true hl
    have h1 := over_mid [] [0, 0, 0, 0] (x.2.drop 4) markL 0 rfl rfl
    simp only [List.nil_append] at h1
    rw [h1, ← e, List.take_append_drop]

theorem tell_enc (t : Tx) (h : t.May) (behind : List UInt8) : nW (t.enc ++ behind) = t.ws.length ∧ nR (t.enc ++ behind) = t.rs.length ∧ tellB (t.enc ++ behind) = true ∧ ∀ seq', tellL (t.enc ++ behind) seq' = { t with seq := seq' } := by
  obtain ⟨R, C, hR, hC, hf⟩ := enc_form t h
  have hhi := h.hi
  have hlo := h.lo
  have hlen := enc_len t h
  have hall : t.enc ++ behind = headL 1 t.seq ++ (bytesL t.ws.length 2 ++ (bytesL t.rs.length 2 ++ (numBs t.ws ++ (revBs t.rs ++ (R ++ (bodyL t.ws ++ (C ++ behind))))))) := by
    rw [hf]; simp only [List.append_assoc]
  have hW : nW (t.enc ++ behind) = t.ws.length := by
    unfold nW
    rw [hall, numFrom_at _ _ _ _ 16 (headL_len _ _).symm (by omega)]
  have hRr : nR (t.enc ++ behind) = t.rs.length := by
    unfold nR
    have e : t.enc ++ behind = (headL 1 t.seq ++ bytesL t.ws.length 2) ++ (bytesL t.rs.length 2 ++ (numBs t.ws ++ (revBs t.rs ++ (R ++ (bodyL t.ws ++ (C ++ behind)))))) := by
      rw [hall]; simp only [List.append_assoc]
    rw [e, numFrom_at _ _ _ _ 18 (by rw [List.length_append, headL_len, bytesL_len]) (by omega)]
  have hB : tellB (t.enc ++ behind) = true := by
    unfold tellB
    rw [hW, hRr, List.length_append, hlen]
    simp only [Bool.and_eq_true, decide_eq_true_eq]
    omega
  refine ⟨hW, hRr, hB, fun seq' => ?_⟩
  unfold tellL
  rw [hW, hRr]
  have e1 : (List.range t.ws.length).map (wtAt (t.enc ++ behind)) = t.ws := by
    apply List.ext_getElem?
    intro i
    rw [List.getElem?_map]
    by_cases hi : i < t.ws.length
    · rw [List.getElem?_range hi, Option.map_some]
      have hx : t.ws[i]? = some t.ws[i] := List.getElem?_eq_getElem hi
      rw [hx]
      congr 1
      obtain ⟨x, hxe⟩ : ∃ x, x = t.ws[i] := ⟨_, rfl⟩
      rw [← hxe] at hx ⊢
      have hmem : x ∈ t.ws := List.mem_of_getElem? hx
      have hxn := h.nums x.1 (List.mem_append_left _ (List.mem_map.2 ⟨x, hmem, rfl⟩))
      have hnum : numFrom (t.enc ++ behind) (20 + 4 * i) 4 = numb x := by
        have e : t.enc ++ behind = (headL 1 t.seq ++ (bytesL t.ws.length 2 ++ (bytesL t.rs.length 2 ++ numBs (t.ws.take i)))) ++ (bytesL (numb x) 4 ++ (numBs (t.ws.drop (i + 1)) ++ (revBs t.rs ++ (R ++ (bodyL t.ws ++ (C ++ behind)))))) := by
          rw [hall, numBs_split t.ws i x hx]; simp only [List.append_assoc]
        rw [e, numFrom_at _ _ _ _ _ ?_ (numb_bits x hxn).1]
        simp only [List.length_append, headL_len, bytesL_len, numBs_len, List.length_take]
        omega
      have hblk : ((t.enc ++ behind).drop ((i + 1) * 256)).take 256 = bareL x.2 := by
        have e : t.enc ++ behind = (headL 1 t.seq ++ (bytesL t.ws.length 2 ++ (bytesL t.rs.length 2 ++ (numBs t.ws ++ (revBs t.rs ++ (R ++ bodyL (t.ws.take i))))))) ++ (bareL x.2 ++ (bodyL (t.ws.drop (i + 1)) ++ (C ++ behind))) := by
          rw [hall, bodyL_split t.ws i x hx]; simp only [List.append_assoc]
        have hl : (headL 1 t.seq ++ (bytesL t.ws.length 2 ++ (bytesL t.rs.length 2 ++ (numBs t.ws ++ (revBs t.rs ++ (R ++ bodyL (t.ws.take i))))))).length = (i + 1) * 256 := by
          have hb := bodyL_len (t.ws.take i) (fun y hy => h.data y (List.mem_of_mem_take hy))
          have hsl := slots_len t
          rw [List.length_take] at hb
          simp only [List.length_append, headL_len, bytesL_len, numBs_len, revBs_len, hR, hb]
          omega
        rw [e, List.drop_left' hl, List.take_left' (by rw [bareL_len]; exact h.data x hmem)]
      unfold wtAt
      rw [hnum, hblk, outNum_numb x hxn, outData_numb x hxn]
    · rw [List.getElem?_eq_none (by simpa using hi), List.getElem?_eq_none (by omega)]; rfl
  have e2 : (List.range t.rs.length).map (rvAt (t.enc ++ behind) t.ws.length) = t.rs := by
    apply List.ext_getElem?
    intro i
    rw [List.getElem?_map]
    by_cases hi : i < t.rs.length
    · rw [List.getElem?_range hi, Option.map_some]
      have hx : t.rs[i]? = some t.rs[i] := List.getElem?_eq_getElem hi
      rw [hx]
      congr 1
      obtain ⟨x, hxe⟩ : ∃ x, x = t.rs[i] := ⟨_, rfl⟩
      rw [← hxe] at hx ⊢
      have hxn := h.nums x (List.mem_append_right _ (List.mem_of_getElem? hx))
      unfold rvAt
      have e : t.enc ++ behind = (headL 1 t.seq ++ (bytesL t.ws.length 2 ++ (bytesL t.rs.length 2 ++ (numBs t.ws ++ revBs (t.rs.take i))))) ++ (bytesL x.toNat 4 ++ (revBs (t.rs.drop (i + 1)) ++ (R ++ (bodyL t.ws ++ (C ++ behind))))) := by
        rw [hall, revBs_split t.rs i x hx]; simp only [List.append_assoc]
      rw [e, numFrom_at _ _ x.toNat _ _ ?_ (by omega)]
      · omega
      · simp only [List.length_append, headL_len, bytesL_len, numBs_len, revBs_len, List.length_take]
        omega
    · rw [List.getElem?_eq_none (by simpa using hi), List.getElem?_eq_none (by omega)]; rfl
  rw [e1, e2]

/-- P3.2: what Encode tells is read again. -/
theorem dec_back (t : Tx) (h : t.May) (behind : List UInt8) : decB (t.enc ++ behind) t.seq = true ∧ tellL (t.enc ++ behind) t.seq = t := by
  obtain ⟨hW, hR, hB, hL⟩ := tell_enc t h behind
  have e : tellL (t.enc ++ behind) t.seq = t := hL t.seq
  refine ⟨?_, e⟩
  unfold decB
  rw [hB, e, (mayB_iff t).2 h]
  simp only [Bool.true_and]
  unfold preB
  rw [List.take_left]
  simp
theorem enc_seq (t u : Tx) (ht : t.May) (hu : u.May) (h1 : t.seq < 18446744073709551616) (h2 : u.seq < 18446744073709551616) (a b : List UInt8) (h : t.enc ++ a = u.enc ++ b) : t.seq = u.seq := by
  obtain ⟨R, C, _, _, hf⟩ := enc_form t ht
  obtain ⟨R', C', _, _, hf'⟩ := enc_form u hu
  have e1 : numFrom (t.enc ++ a) 8 8 = t.seq := by
    have e : t.enc ++ a = (markL ++ [1, 0, 0, 0]) ++ (bytesL t.seq 8 ++ (bytesL t.ws.length 2 ++ (bytesL t.rs.length 2 ++ (numBs t.ws ++ (revBs t.rs ++ (R ++ (bodyL t.ws ++ (C ++ a)))))))) := by
      rw [hf]; unfold headL; simp only [List.append_assoc]
    rw [e, numFrom_at _ _ _ _ 8 rfl (by omega)]
  have e2 : numFrom (u.enc ++ b) 8 8 = u.seq := by
    have e : u.enc ++ b = (markL ++ [1, 0, 0, 0]) ++ (bytesL u.seq 8 ++ (bytesL u.ws.length 2 ++ (bytesL u.rs.length 2 ++ (numBs u.ws ++ (revBs u.rs ++ (R' ++ (bodyL u.ws ++ (C' ++ b)))))))) := by
      rw [hf']; unfold headL; simp only [List.append_assoc]
    rw [e, numFrom_at _ _ _ _ 8 rfl (by omega)]
  rw [← e1, h, e2]
/-- With another number nothing is read. -/
theorem dec_other (t : Tx) (h : t.May) (hs : t.seq < 18446744073709551616) (behind : List UInt8) (s : Nat) (hs2 : s < 18446744073709551616) (hne : s ≠ t.seq) : decB (t.enc ++ behind) s = false := by
  obtain ⟨_, _, hB, hL⟩ := tell_enc t h behind
  cases hd : decB (t.enc ++ behind) s
  · rfl
  · exfalso
    unfold decB at hd
    rw [hL s] at hd
    simp only [Bool.and_eq_true] at hd
    obtain ⟨_, hm, hp⟩ := hd
    have hp2 : (t.enc ++ behind).take ({ t with seq := s } : Tx).enc.length = ({ t with seq := s } : Tx).enc := of_decide_eq_true hp
    have hm2 := (mayB_iff _).1 hm
    have e : t.enc ++ behind = ({ t with seq := s } : Tx).enc ++ (t.enc ++ behind).drop ({ t with seq := s } : Tx).enc.length := by
      rw [← hp2, List.length_take]
      have := List.take_append_drop ({ t with seq := s } : Tx).enc.length (t.enc ++ behind)
      have hle : ({ t with seq := s } : Tx).enc.length ≤ (t.enc ++ behind).length := by
        have := congrArg List.length hp2
        rw [List.length_take] at this; omega
      rw [Nat.min_eq_left hle]; exact this.symm
    have := enc_seq t { t with seq := s } h hm2 hs hs2 _ _ e
    exact hne this.symm
/-- Cut short nothing is read. -/
theorem dec_short (t : Tx) (h : t.May) (behind : List UInt8) (s : Nat) : decB ((t.enc ++ behind).take (t.enc.length - 1)) s = false := by
  have hlen := enc_len t h
  obtain ⟨hW, hR, _, _⟩ := tell_enc t h behind
  cases hd : decB ((t.enc ++ behind).take (t.enc.length - 1)) s
  · rfl
  · exfalso
    unfold decB tellB at hd
    simp only [Bool.and_eq_true, decide_eq_true_eq] at hd
    obtain ⟨⟨h1, h2, h3⟩, _⟩ := hd
    have e : nW ((t.enc ++ behind).take (t.enc.length - 1)) = nW (t.enc ++ behind) := by
      unfold nW numFrom
      rw [List.drop_take, List.take_take, Nat.min_eq_left (by omega)]
    rw [e, hW, List.length_take, List.length_append, hlen] at h3
    omega
theorem dec_again (bs : List UInt8) (s : Nat) (h : decB bs s = true) : (tellL bs s).May ∧ bs.take (tellL bs s).enc.length = (tellL bs s).enc := by
  unfold decB at h
  simp only [Bool.and_eq_true] at h
  exact ⟨(mayB_iff _).1 h.2.1, of_decide_eq_true h.2.2⟩
end Go.Proofs.Ytjbelbhcdbbelaa.Rec
