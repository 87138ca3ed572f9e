/- An inode in plain words: whether it may be, its bytes, what bytes tell, and what follows: it is read again with its own number alone, and not with bits turned within 32 side by side. -/
import Derived.Test.YtbppgihbnjnapaaBurst
namespace Go.Proofs.Ytbppgihbnjnapaa.Ino
set_option maxRecDepth 20000
open Go.RowKit
open Go.Proofs.Ytbppgihbnjnapaa.Mem Go.Proofs.Ytbppgihbnjnapaa.Crc Go.Proofs.Ytbppgihbnjnapaa.Rec Go.Proofs.Ytbppgihbnjnapaa.Bst

/-- An inode's fields. -/
structure In where
  (kind links size : Int)
  (inl : Bool)
  (attrs : Int)
  (body : List UInt8)
  deriving DecidableEq
def in0 : In := ⟨0, 0, 0, false, 0, []⟩
def In.c (x : In) (A : Option Addr) (c : Nat) : Array Value := #[.int .i64 x.kind, .int .i64 x.links, .int .i64 x.size, .bool x.inl, .int .i64 x.attrs, .slice A x.body.length c]
def In.nil (x : In) : Bool := decide (x = in0)
def In.may (x : In) : Bool := decide (1 ≤ x.kind ∧ x.kind ≤ 3 ∧ 0 ≤ x.links ∧ x.links ≤ 100 ∧ 0 ≤ x.size ∧ x.size ≤ 65536 ∧ 0 ≤ x.attrs ∧ x.attrs ≤ 1023 ∧ x.body.length = 60 ∧ (x.inl = true → x.kind ≠ 2 ∧ x.size ≤ 60))

theorem over_zeros (p : List UInt8) (n k : Nat) (y : List UInt8) (hk : p.length = k) : over (p ++ List.replicate n 0) k y = (p ++ y) ++ List.replicate (n - y.length) 0 := by
  unfold over
  subst hk
  rw [List.take_left', List.drop_append, List.drop_of_length_le (by omega), List.drop_replicate]
  · simp [Nat.add_sub_cancel_left]
  · rfl

def zer : List UInt8 := List.replicate 128 0
theorem zer_len : zer.length = 128 := by simp [zer]
def inlB (b : Bool) : UInt8 := if b then 1 else 0
/-- What stands in an inode's bytes, part by part. -/
def p0 (x : In) : List UInt8 := [UInt8.ofNat x.kind.toNat, inlB x.inl]
def p1 (x : In) : List UInt8 := p0 x ++ bytesL x.links.toNat 2
def p2 (x : In) : List UInt8 := p1 x ++ bytesL x.size.toNat 4
def p3 (x : In) : List UInt8 := p2 x ++ bytesL x.attrs.toNat 4
def p4 (x : In) : List UInt8 := p3 x ++ x.body
def ahead (x : In) : List UInt8 := p4 x ++ List.replicate 52 0
def code (x : In) (n : Nat) : List UInt8 := ahead x ++ bytesL (sum (bytesL n 4 ++ ahead x)) 4

theorem p0_len (x : In) : (p0 x).length = 2 := rfl
theorem p1_len (x : In) : (p1 x).length = 4 := by unfold p1; rw [List.length_append, p0_len, bytesL_len]
theorem p2_len (x : In) : (p2 x).length = 8 := by unfold p2; rw [List.length_append, p1_len, bytesL_len]
theorem p3_len (x : In) : (p3 x).length = 12 := by unfold p3; rw [List.length_append, p2_len, bytesL_len]
theorem p4_len (x : In) (h : x.body.length = 60) : (p4 x).length = 72 := by unfold p4; rw [List.length_append, p3_len, h]
theorem ahead_len (x : In) (h : x.body.length = 60) : (ahead x).length = 124 := by unfold ahead; rw [List.length_append, p4_len x h, List.length_replicate]
theorem code_len (x : In) (n : Nat) (h : x.body.length = 60) : (code x n).length = 128 := by unfold code; rw [List.length_append, ahead_len x h, bytesL_len]
theorem may_body {x : In} (h : x.may = true) : x.body.length = 60 := by
  have := of_decide_eq_true h
  exact this.2.2.2.2.2.2.2.2.1

/-- What bytes tell. -/
def told (bs : List UInt8) : In := ⟨((bs.getD 0 0).toNat : Int), (numAt ((bs.drop 2).take 2) 2 : Int), (numAt ((bs.drop 4).take 4) 4 : Int), decide (bs.getD 1 0 ≠ 0), (numAt ((bs.drop 8).take 4) 4 : Int), (bs.drop 12).take 60⟩
def toldR (bs : List UInt8) : In := ⟨((bs.getD 0 0).toNat : Int), (numAt ((bs.drop 2).take 2) 2 : Int), (numAt ((bs.drop 4).take 4) 4 : Int), decide (bs.getD 1 0 = 1), (numAt ((bs.drop 8).take 4) 4 : Int), (bs.drop 12).take 60⟩
def toldZ (bs : List UInt8) : In := if bs = zer then in0 else told bs

/-- The bytes that Encode answers, and its error. -/
def enc (x : In) (n : Int) : List UInt8 × Int :=
  if 0 ≤ n ∧ n ≤ 1048576 then (if x.nil then (zer, 0) else if x.may then (code x n.toNat, 0) else ([], 1)) else ([], 1)
/-- The inode that Decode answers, and its error. -/
def dec (bs : List UInt8) (n : Int) : In × Int :=
  if 0 ≤ n ∧ n ≤ 1048576 then (if bs.length = 128 then (if (enc (toldZ bs) n).2 = 0 ∧ bs = (enc (toldZ bs) n).1 then (toldZ bs, 0) else (in0, 13)) else (in0, 13)) else (in0, 1)
def rdec (bs : List UInt8) (n : Int) : In × Int :=
  if 0 ≤ n ∧ n ≤ 1048576 then (if bs.length = 128 then (if bs = zer then (in0, 0) else if (enc (toldR bs) n).2 = 0 ∧ bs = (enc (toldR bs) n).1 then (toldR bs, 0) else (in0, 13)) else (in0, 13)) else (in0, 1)

theorem nil_in0 : in0.nil = true := by decide
theorem nil_eq {x : In} (h : x.nil = true) : x = in0 := of_decide_eq_true h
theorem not_nil {x : In} (h : x.body.length = 60) : x.nil = false := by
  unfold In.nil
  rw [decide_eq_false_iff_not]
  rintro rfl
  simp [in0] at h
theorem may_not_nil {x : In} (h : x.may = true) : x.nil = false := not_nil (may_body h)
theorem enc_in0 (n : Int) (h : 0 ≤ n ∧ n ≤ 1048576) : enc in0 n = (zer, 0) := by
  unfold enc; rw [if_pos h, nil_in0]; rfl
theorem enc_may (x : In) (n : Int) (h : 0 ≤ n ∧ n ≤ 1048576) (hm : x.may = true) : enc x n = (code x n.toNat, 0) := by
  unfold enc; rw [if_pos h, may_not_nil hm, hm]; rfl
theorem enc_not (x : In) (n : Int) (h : x.nil = false) (hm : x.may = false) : enc x n = ([], 1) := by
  unfold enc; rw [h, hm]; split <;> rfl
theorem enc_far (x : In) (n : Int) (h : ¬ (0 ≤ n ∧ n ≤ 1048576)) : enc x n = ([], 1) := by
  unfold enc; rw [if_neg h]
/-- The ways of an Encode. -/
theorem enc_ways (x : In) (n : Int) : enc x n = ([], 1) ∨ ((0 ≤ n ∧ n ≤ 1048576) ∧ ((x = in0 ∧ enc x n = (zer, 0)) ∨ (x.may = true ∧ enc x n = (code x n.toNat, 0)))) := by
  by_cases h : 0 ≤ n ∧ n ≤ 1048576
  · cases h1 : x.nil with
    | true => obtain rfl := nil_eq h1; exact .inr ⟨h, .inl ⟨rfl, enc_in0 n h⟩⟩
    | false =>
      cases h2 : x.may with
      | true => exact .inr ⟨h, .inr ⟨rfl, enc_may x n h h2⟩⟩
      | false => exact .inl (enc_not x n h1 h2)
  · exact .inl (enc_far x n h)
theorem enc_err {x : In} {n : Int} (h : (enc x n).2 ≠ 0) : enc x n = ([], 1) := by
  rcases enc_ways x n with e | ⟨_, ⟨_, e⟩ | ⟨_, e⟩⟩
  · exact e
  · rw [e] at h; exact absurd rfl h
  · rw [e] at h; exact absurd rfl h

theorem code_split (x : In) (n : Nat) : code x n = UInt8.ofNat x.kind.toNat :: inlB x.inl :: (bytesL x.links.toNat 2 ++ (bytesL x.size.toNat 4 ++ (bytesL x.attrs.toNat 4 ++ (x.body ++ (List.replicate 52 0 ++ bytesL (sum (bytesL n 4 ++ ahead x)) 4))))) := by
  unfold code
  generalize bytesL (sum (bytesL n 4 ++ ahead x)) 4 = s
  simp [ahead, p4, p3, p2, p1, p0, List.append_assoc]
theorem code_0 (x : In) (n : Nat) : (code x n).getD 0 0 = UInt8.ofNat x.kind.toNat := by rw [code_split]; rfl
theorem code_1 (x : In) (n : Nat) : (code x n).getD 1 0 = inlB x.inl := by rw [code_split]; rfl
theorem drop_pre {a b : List UInt8} {k : Nat} (h : a.length = k) : (a ++ b).drop k = b := by subst h; simp
theorem take_pre {a b : List UInt8} {k : Nat} (h : a.length = k) : (a ++ b).take k = a := by subst h; simp
theorem code_2 (x : In) (n : Nat) : ((code x n).drop 2).take 2 = bytesL x.links.toNat 2 := by
  rw [code_split]
  show List.take 2 (bytesL x.links.toNat 2 ++ _) = _
  rw [take_pre (bytesL_len _ _)]
theorem code_4 (x : In) (n : Nat) : ((code x n).drop 4).take 4 = bytesL x.size.toNat 4 := by
  rw [code_split]
  show List.take 4 (List.drop 2 (bytesL x.links.toNat 2 ++ _)) = _
  rw [drop_pre (bytesL_len _ _), take_pre (bytesL_len _ _)]
theorem code_8 (x : In) (n : Nat) : ((code x n).drop 8).take 4 = bytesL x.attrs.toNat 4 := by
  rw [code_split]
  show List.take 4 (List.drop 6 (bytesL x.links.toNat 2 ++ _)) = _
  rw [show 6 = 2 + 4 from rfl, ← List.drop_drop, drop_pre (bytesL_len _ _), drop_pre (bytesL_len _ _), take_pre (bytesL_len _ _)]
theorem code_12 (x : In) (n : Nat) (h : x.body.length = 60) : ((code x n).drop 12).take 60 = x.body := by
  rw [code_split]
  show List.take 60 (List.drop 10 (bytesL x.links.toNat 2 ++ _)) = _
  rw [show 10 = 2 + 4 + 4 from rfl, ← List.drop_drop, ← List.drop_drop, drop_pre (bytesL_len _ _), drop_pre (bytesL_len _ _), drop_pre (bytesL_len _ _), take_pre h]

theorem told_code (x : In) (n : Nat) (hm : x.may = true) : told (code x n) = x := by
  have hb := may_body hm
  obtain ⟨h1, h2, h3, h4, h5, h6, h7, h8, _, _⟩ := of_decide_eq_true hm
  unfold told
  rw [code_0, code_1, code_2, code_4, code_8, code_12 x n hb, num_bytesL _ 2 2 (by omega), num_bytesL _ 4 4 (by omega), num_bytesL _ 4 4 (by omega)]
  obtain ⟨kind, links, size, inl, attrs, body⟩ := x
  simp only at h1 h2 h3 h4 h5 h6 h7 h8
  have e1 : ((UInt8.ofNat kind.toNat).toNat : Int) = kind := by simp; omega
  have e2 : ((links.toNat % 2 ^ (8 * 2) : Nat) : Int) = links := by omega
  have e3 : ((size.toNat % 2 ^ (8 * 4) : Nat) : Int) = size := by omega
  have e4 : ((attrs.toNat % 2 ^ (8 * 4) : Nat) : Int) = attrs := by omega
  have e5 : decide (inlB inl ≠ 0) = inl := by cases inl <;> decide
  simp only [e1, e2, e3, e4, e5]
theorem code_not_zer (x : In) (n : Nat) (hm : x.may = true) : code x n ≠ zer := by
  intro e
  have h := told_code x n hm
  rw [e] at h
  have hk := congrArg In.kind h
  obtain ⟨h1, _⟩ := of_decide_eq_true hm
  have : (told zer).kind = 0 := rfl
  omega
theorem toldZ_code (x : In) (n : Nat) (hm : x.may = true) : toldZ (code x n) = x := by
  unfold toldZ; rw [if_neg (code_not_zer x n hm), told_code x n hm]
theorem toldZ_zer : toldZ zer = in0 := by unfold toldZ; rw [if_pos rfl]

theorem dec_zer (n : Int) (h : 0 ≤ n ∧ n ≤ 1048576) : dec zer n = (in0, 0) := by
  unfold dec
  rw [if_pos h, if_pos zer_len, toldZ_zer, enc_in0 n h, if_pos ⟨rfl, rfl⟩]
theorem dec_code (x : In) (n : Int) (h : 0 ≤ n ∧ n ≤ 1048576) (hm : x.may = true) : dec (code x n.toNat) n = (x, 0) := by
  unfold dec
  rw [if_pos h, if_pos (code_len x _ (may_body hm)), toldZ_code x _ hm, enc_may x n h hm, if_pos ⟨rfl, rfl⟩]
theorem dec_enc {x : In} {n : Int} (h : (enc x n).2 = 0) : dec (enc x n).1 n = (x, 0) := by
  rcases enc_ways x n with e | ⟨hn, ⟨rfl, e⟩ | ⟨hm, e⟩⟩
  · rw [e] at h; simp at h
  · rw [e]; exact dec_zer n hn
  · rw [e]; exact dec_code x n hn hm
theorem dec_err {bs : List UInt8} {n : Int} (h : (dec bs n).2 ≠ 0) : (dec bs n).1 = in0 := by
  unfold dec at h ⊢
  split at h
  · split at h
    · split at h
      · simp at h
      · rename_i h1 h2 h3
        rw [if_pos h1, if_pos h2, if_neg h3]
    · rename_i h1 h2
      rw [if_pos h1, if_neg h2]
  · rename_i h1
    rw [if_neg h1]
theorem dec_ok {bs : List UInt8} {n : Int} (h : (dec bs n).2 = 0) : (0 ≤ n ∧ n ≤ 1048576) ∧ bs.length = 128 ∧ (dec bs n).1 = toldZ bs ∧ enc (toldZ bs) n = (bs, 0) := by
  unfold dec at h ⊢
  split at h
  · split at h
    · split at h
      · rename_i h1 h2 h3
        rw [if_pos h1, if_pos h2, if_pos h3]
        refine ⟨h1, h2, rfl, ?_⟩
        exact Prod.ext h3.2.symm h3.1
      · simp at h
    · simp at h
  · simp at h
theorem dec_two (bs : List UInt8) (n : Int) : dec bs n = (in0, 1) ∨ dec bs n = (in0, 13) ∨ (dec bs n).2 = 0 := by
  unfold dec
  split
  · split
    · split
      · exact .inr (.inr rfl)
      · exact .inr (.inl rfl)
    · exact .inr (.inl rfl)
  · exact .inl rfl
/-- What is read makes the bytes that it was read from, and may be. -/
theorem enc_dec {bs : List UInt8} {n : Int} (h : (dec bs n).2 = 0) : enc (dec bs n).1 n = (bs, 0) ∧ ((dec bs n).1.kind = 0 ∨ (dec bs n).1.may = true) := by
  obtain ⟨hn, hl, h1, h2⟩ := dec_ok h
  rw [h1]
  refine ⟨h2, ?_⟩
  rcases enc_ways (toldZ bs) n with e | ⟨hn, ⟨e1, e⟩ | ⟨hm, e⟩⟩
  · rw [h2] at e
    have := congrArg Prod.snd e
    simp at this
  · left; rw [e1]; rfl
  · exact .inr hm

theorem rdec_eq (bs : List UInt8) (n : Int) : rdec bs n = dec bs n := by
  unfold rdec dec
  by_cases hn : 0 ≤ n ∧ n ≤ 1048576
  · rw [if_pos hn, if_pos hn]
    by_cases hl : bs.length = 128
    · rw [if_pos hl, if_pos hl]
      by_cases hz : bs = zer
      · rw [if_pos hz, hz, toldZ_zer, enc_in0 n hn, if_pos ⟨rfl, rfl⟩]
      · rw [if_neg hz]
        have hZ : toldZ bs = told bs := by unfold toldZ; rw [if_neg hz]
        rw [hZ]
        by_cases h1 : bs.getD 1 0 = 0 ∨ bs.getD 1 0 = 1
        · have e : toldR bs = told bs := by
            unfold toldR told
            rcases h1 with h1 | h1 <;> rw [h1] <;> rfl
          rw [e]
        · have hbod : ∀ t : In, t = told bs ∨ t = toldR bs → t.body.length = 60 := by
            rintro t (rfl | rfl)
            · simp [told, hl]
            · simp [toldR, hl]
          have key : ∀ t : In, t = told bs ∨ t = toldR bs → ¬ ((enc t n).2 = 0 ∧ bs = (enc t n).1) := by
            rintro t ht ⟨e1, e2⟩
            rcases enc_ways t n with e | ⟨_, ⟨e, _⟩ | ⟨hm, e⟩⟩
            · rw [e] at e1; simp at e1
            · have := hbod t ht
              rw [e] at this
              simp [in0] at this
            · rw [e] at e2
              have := code_1 t n.toNat
              have e3 : bs = code t n.toNat := e2
              rw [← e3] at this
              apply h1
              rw [this]
              unfold inlB
              split
              · exact .inr rfl
              · exact .inl rfl
          rw [if_neg (key _ (.inr rfl)), if_neg (key _ (.inl rfl))]
    · rw [if_neg hl, if_neg hl]
  · rw [if_neg hn, if_neg hn]

theorem num_app_xor (p a b : List UInt8) : num (p ++ a) ^^^ num (p ++ b) = 2 ^ (8 * p.length) * (num a ^^^ num b) := by
  have key : ∀ q : List UInt8, num (p ++ q) = num p ^^^ 2 ^ (8 * p.length) * num q := fun q => by
    rw [num_app]
    have h := Nat.two_pow_add_eq_or_of_lt (num_lt p) (num q)
    rw [Nat.add_comm, h]
    apply Nat.eq_of_testBit_eq
    intro i
    rw [Nat.testBit_xor, Nat.testBit_or]
    rcases Nat.lt_or_ge i (8 * p.length) with hi | hi
    · have : (2 ^ (8 * p.length) * num q).testBit i = false := by
        rw [Nat.testBit_two_pow_mul]
        simp; omega
      simp [this]
    · have : (num p).testBit i = false := Nat.testBit_lt_two_pow (Nat.lt_of_lt_of_le (num_lt p) (Nat.pow_le_pow_right (by omega) hi))
      simp [this]
  rw [key, key, mul_pow_xor]
  rw [show num p ^^^ 2 ^ (8 * p.length) * num a ^^^ (num p ^^^ 2 ^ (8 * p.length) * num b) = 2 ^ (8 * p.length) * num a ^^^ 2 ^ (8 * p.length) * num b from xor_cancel4 _ _ _]
theorem Burst.behind {a b : List UInt8} (h : Burst a b) (p : List UInt8) : Burst (p ++ a) (p ++ b) := by
  obtain ⟨hl, first, m, hf, hm, hx⟩ := h
  refine ⟨by simp [hl], 8 * p.length + first, m, by simp; omega, hm, ?_⟩
  rw [num_app_xor, hx, Nat.pow_add, Nat.mul_assoc]
theorem code_burst (x y : In) (n : Nat) (h : Burst (code x n) (code y n)) : code x n = code y n := by
  have h2 := Burst.behind h (bytesL n 4)
  unfold code at h2 ⊢
  rw [← List.append_assoc, ← List.append_assoc] at h2
  have h3 := h2.eq (sum_own _ _)
  rw [List.append_assoc, List.append_assoc] at h3
  exact List.append_cancel_left h3

/-- Numbers of an inode differ within 32 bits, so its sums do. -/
theorem code_num (x : In) (n m : Nat) (hn : n ≤ 1048576) (hm : m ≤ 1048576) (h : code x n = code x m) : n = m := by
  unfold code at h
  have h1 := List.append_cancel_left h
  have h2 : sum (bytesL n 4 ++ ahead x) = sum (bytesL m 4 ++ ahead x) := by
    rw [← num_bytes4 (sum (bytesL n 4 ++ ahead x)) (sum_lt _), h1, num_bytes4 _ (sum_lt _)]
  have hb : Burst (bytesL n 4 ++ ahead x) (bytesL m 4 ++ ahead x) := by
    refine ⟨by simp [bytesL_len], 0, n ^^^ m, by omega, Nat.xor_lt_two_pow (n := 32) (by omega) (by omega), ?_⟩
    rw [num_app, num_app, bytesL_len, bytesL_len, num_bytes4 n (by omega), num_bytes4 m (by omega)]
    have key : ∀ a q : Nat, a < 2 ^ 32 → a + 2 ^ (8 * 4) * q = a ^^^ 2 ^ 32 * q := fun a q ha => by
      rw [Nat.add_comm, show 8 * 4 = 32 from rfl, Nat.two_pow_add_eq_or_of_lt ha q]
      apply Nat.eq_of_testBit_eq
      intro i
      rw [Nat.testBit_xor, Nat.testBit_or]
      rcases Nat.lt_or_ge i 32 with hi | hi
      · have : (2 ^ 32 * q).testBit i = false := by
          rw [Nat.testBit_two_pow_mul]
          simp; omega
        simp [this]
      · have : a.testBit i = false := Nat.testBit_lt_two_pow (Nat.lt_of_lt_of_le ha (Nat.pow_le_pow_right (by omega) hi))
        simp [this]
    rw [key n _ (by omega), key m _ (by omega), Nat.pow_zero, Nat.one_mul]
    rw [Nat.xor_comm n, Nat.xor_comm m, xor_cancel4]
  have h3 := hb.eq h2
  have h4 := List.append_cancel_right h3
  rw [← num_bytes4 n (by omega), h4, num_bytes4 m (by omega)]

/-- With another number it is not read. -/
theorem dec_other {x : In} {n m : Int} (h : (enc x n).2 = 0) (hk : x.kind ≠ 0) (hne : m ≠ n) : (dec (enc x n).1 m).2 ≠ 0 := by
  intro h0
  rcases enc_ways x n with e | ⟨hn, ⟨rfl, e⟩ | ⟨hm, e⟩⟩
  · rw [e] at h; simp at h
  · exact hk rfl
  · rw [e] at h0
    obtain ⟨h1, _, _, h2⟩ := dec_ok h0
    rw [toldZ_code x _ hm, enc_may x m h1 hm] at h2
    have h3 := congrArg Prod.fst h2
    have := code_num x m.toNat n.toNat (by omega) (by omega) h3
    omega

/-- With bits turned within 32 side by side it is not read, but as no inode. -/
theorem dec_turned (x : In) (n : Int) (burst first : Nat) (h : 0 ≤ n ∧ n ≤ 1048576) (hm : x.may = true) (hf : first ≤ 1024) (hz : turnTo burst first (code x n.toNat) 32 ≠ zer) (hk : mask burst first 128 32 ≠ 0) : dec (turnTo burst first (code x n.toNat) 32) n = (in0, 13) := by
  have hl := code_len x n.toNat (may_body hm)
  have hb := turn_burst burst first (code x n.toNat) (by rw [hl]; omega)
  have hne := turn_some burst first (code x n.toNat) (by rw [hl]; exact hk)
  have htl : (turnTo burst first (code x n.toNat) 32).length = 128 := by rw [turn_len, hl]
  rcases dec_two (turnTo burst first (code x n.toNat) 32) n with e | e | e
  · exfalso
    unfold dec at e
    rw [if_pos h, if_pos htl] at e
    split at e <;> simp at e
  · exact e
  · exfalso
    obtain ⟨_, _, _, h2⟩ := dec_ok e
    generalize turnTo burst first (code x n.toNat) 32 = T at hb hne hz h2 htl
    rcases enc_ways (toldZ T) n with e1 | ⟨_, ⟨_, e1⟩ | ⟨hm1, e1⟩⟩
    · rw [h2] at e1
      have := congrArg Prod.snd e1
      simp at this
    · rw [h2] at e1
      exact hz (congrArg Prod.fst e1)
    · rw [h2] at e1
      have h3 : T = code (toldZ T) n.toNat := congrArg Prod.fst e1
      rw [h3] at hb hne
      exact hne (code_burst _ _ _ hb)
end Go.Proofs.Ytbppgihbnjnapaa.Ino
