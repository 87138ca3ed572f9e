/- What a record in memory is: its Writes and its Revokes as lists; and, in plain words, whether it may be and what its blocks are. -/
import Derived.Test.YtbmbolgmeehloaaRcOwn
namespace Go.Proofs.Ytbmbolgmeehloaa.Rec
set_option maxRecDepth 20000
open Go.RowKit
open Go.Proofs.Ytbmbolgmeehloaa.Mem Go.Proofs.Ytbmbolgmeehloaa.Crc

/-- A Write: its block's number, and what it is to hold. -/
abbrev Wt := Int × List UInt8
structure Tx where
  seq : Nat
  ws : List Wt
  rs : List Int
def IsInt (x : Int) : Prop := -9223372036854775808 ≤ x ∧ x ≤ 9223372036854775807

def HoldsW (w : World) (B : Nat) (A : Option Addr) (n : Nat) (ws : List Wt) : Prop :=
  ws.length = n ∧ (0 < n → ∃ b off, A = some ⟨b, off, none⟩ ∧ b < B ∧ ∀ k x, ws[k]? = some x → w.cell? ⟨b, off + k * 2, none⟩ = some (.int .i64 x.1) ∧
    ∃ A' c', w.cell? ⟨b, off + k * 2 + 1, none⟩ = some (.slice A' x.2.length c') ∧ Holds w B A' x.2.length x.2 ∧ x.2.length ≤ c' ∧ c' ≤ maxLen)
def HoldsI (w : World) (B : Nat) (A : Option Addr) (n : Nat) (rs : List Int) : Prop :=
  rs.length = n ∧ (0 < n → ∃ b off, A = some ⟨b, off, none⟩ ∧ b < B ∧ ∀ k x, rs[k]? = some x → w.cell? ⟨b, off + k, none⟩ = some (.int .i64 x))

theorem HoldsW.below {w w' : World} {B : Nat} {A : Option Addr} {n : Nat} {ws : List Wt} (h : HoldsW w B A n ws) (hb : Below B w w') : HoldsW w' B A n ws :=
  ⟨h.1, fun hn => by
    obtain ⟨b, off, e, hl, hc⟩ := h.2 hn
    refine ⟨b, off, e, hl, fun k x hx => ?_⟩
    obtain ⟨h1, A', c', h2, h3, h4, h5⟩ := hc k x hx
    exact ⟨(hb.cell (p := ⟨b, off + k * 2, none⟩) hl).trans h1, A', c', (hb.cell (p := ⟨b, off + k * 2 + 1, none⟩) hl).trans h2, h3.below hb, h4, h5⟩⟩
theorem HoldsW.more {w : World} {B B' : Nat} {A : Option Addr} {n : Nat} {ws : List Wt} (h : HoldsW w B A n ws) (hB : B ≤ B') : HoldsW w B' A n ws :=
  ⟨h.1, fun hn => by
    obtain ⟨b, off, e, hl, hc⟩ := h.2 hn
    refine ⟨b, off, e, by omega, fun k x hx => ?_⟩
    obtain ⟨h1, A', c', h2, h3, h4, h5⟩ := hc k x hx
    exact ⟨h1, A', c', h2, h3.more hB, h4, h5⟩⟩
theorem HoldsI.below {w w' : World} {B : Nat} {A : Option Addr} {n : Nat} {rs : List Int} (h : HoldsI w B A n rs) (hb : Below B w w') : HoldsI w' B A n rs :=
  ⟨h.1, fun hn => by
    obtain ⟨b, off, e, hl, hc⟩ := h.2 hn
    exact ⟨b, off, e, hl, fun k x hx => (hb.cell (p := ⟨b, off + k, none⟩) hl).trans (hc k x hx)⟩⟩
theorem HoldsI.more {w : World} {B B' : Nat} {A : Option Addr} {n : Nat} {rs : List Int} (h : HoldsI w B A n rs) (hB : B ≤ B') : HoldsI w B' A n rs :=
  ⟨h.1, fun hn => by
    obtain ⟨b, off, e, hl, hc⟩ := h.2 hn
    exact ⟨b, off, e, by omega, hc⟩⟩

structure TxAt (w : World) (B : Nat) (t : Tx) (Aw : Option Addr) (nw cw : Nat) (Ar : Option Addr) (nr cr : Nat) : Prop where
  ws : HoldsW w B Aw nw t.ws
  rs : HoldsI w B Ar nr t.rs
  seq : t.seq < 18446744073709551616
  fits : nw ≤ cw ∧ nw ≤ 140737488355328 ∧ nr ≤ cr ∧ nr ≤ 140737488355328
  intW : ∀ x ∈ t.ws, IsInt x.1
  intR : ∀ x ∈ t.rs, IsInt x
theorem TxAt.below {w w' : World} {B : Nat} {t : Tx} {Aw Ar : Option Addr} {nw cw nr cr : Nat} (h : TxAt w B t Aw nw cw Ar nr cr) (hb : Below B w w') : TxAt w' B t Aw nw cw Ar nr cr :=
  ⟨h.ws.below hb, h.rs.below hb, h.seq, h.fits, h.intW, h.intR⟩
theorem TxAt.more {w : World} {B B' : Nat} {t : Tx} {Aw Ar : Option Addr} {nw cw nr cr : Nat} (h : TxAt w B t Aw nw cw Ar nr cr) (hB : B ≤ B') : TxAt w B' t Aw nw cw Ar nr cr :=
  ⟨h.ws.more hB, h.rs.more hB, h.seq, h.fits, h.intW, h.intR⟩

/-! In plain words -/
def Tx.nums (t : Tx) : List Int := t.ws.map (·.1) ++ t.rs
structure Tx.May (t : Tx) : Prop where
  lo : 1 ≤ t.ws.length + t.rs.length
  hi : t.ws.length + t.rs.length ≤ 58
  data : ∀ x ∈ t.ws, x.2.length = 256
  nums : ∀ x ∈ t.nums, 0 ≤ x ∧ x < 1048576
  once : t.nums.Nodup
def numb (x : Wt) : Nat := if looks x.2 then x.1.toNat + 2147483648 else x.1.toNat
def numBs (ws : List Wt) : List UInt8 := ws.flatMap fun x => bytesL (numb x) 4
def revBs (rs : List Int) : List UInt8 := rs.flatMap fun x => bytesL x.toNat 4
def Tx.slots (t : Tx) : List UInt8 := bytesL t.ws.length 2 ++ bytesL t.rs.length 2 ++ numBs t.ws ++ revBs t.rs
def bodyL (ws : List Wt) : List UInt8 := ws.flatMap fun x => bareL x.2
def Tx.head (t : Tx) : List UInt8 := ownL 1 t.seq t.slots ++ bodyL t.ws
def Tx.enc (t : Tx) : List UInt8 := t.head ++ ownL 2 t.seq (bytesL (sum t.head) 4)

theorem numBs_snoc (ws : List Wt) (k : Nat) (x : Wt) (h : ws[k]? = some x) : numBs (ws.take (k + 1)) = numBs (ws.take k) ++ bytesL (numb x) 4 := by
  obtain ⟨hk, rfl⟩ := List.getElem?_eq_some_iff.1 h
  rw [List.take_succ_eq_append_getElem hk]; unfold numBs; rw [List.flatMap_append, List.flatMap_cons, List.flatMap_nil, List.append_nil]
theorem revBs_snoc (rs : List Int) (k : Nat) (x : Int) (h : rs[k]? = some x) : revBs (rs.take (k + 1)) = revBs (rs.take k) ++ bytesL x.toNat 4 := by
  obtain ⟨hk, rfl⟩ := List.getElem?_eq_some_iff.1 h
  rw [List.take_succ_eq_append_getElem hk]; unfold revBs; rw [List.flatMap_append, List.flatMap_cons, List.flatMap_nil, List.append_nil]
theorem bodyL_snoc (ws : List Wt) (k : Nat) (x : Wt) (h : ws[k]? = some x) : bodyL (ws.take (k + 1)) = bodyL (ws.take k) ++ bareL x.2 := by
  obtain ⟨hk, rfl⟩ := List.getElem?_eq_some_iff.1 h
  rw [List.take_succ_eq_append_getElem hk]; unfold bodyL; rw [List.flatMap_append, List.flatMap_cons, List.flatMap_nil, List.append_nil]
theorem numBs_len (ws : List Wt) : (numBs ws).length = 4 * ws.length := by
  induction ws with
  | nil => rfl
  | cons x r ih => simp only [numBs, List.flatMap_cons, List.length_append, bytesL_len, List.length_cons] at ih ⊢; omega
theorem revBs_len (rs : List Int) : (revBs rs).length = 4 * rs.length := by
  induction rs with
  | nil => rfl
  | cons x r ih => simp only [revBs, List.flatMap_cons, List.length_append, bytesL_len, List.length_cons] at ih ⊢; omega
theorem slots_len (t : Tx) : t.slots.length = 4 + 4 * t.ws.length + 4 * t.rs.length := by
  unfold Tx.slots
  simp only [List.length_append, bytesL_len, numBs_len, revBs_len]
theorem bodyL_len (ws : List Wt) (h : ∀ x ∈ ws, x.2.length = 256) : (bodyL ws).length = 256 * ws.length := by
  induction ws with
  | nil => rfl
  | cons x r ih =>
    have h1 := ih (fun y hy => h y (by simp [hy]))
    have h2 := h x (by simp)
    simp only [bodyL, List.flatMap_cons, List.length_append, bareL_len, List.length_cons] at h1 ⊢
    omega
theorem head_len (t : Tx) (h : t.May) : t.head.length = 256 * (t.ws.length + 1) := by
  have hs := slots_len t
  have hi := h.hi
  unfold Tx.head
  rw [List.length_append, ownL_len _ _ _ (by omega), bodyL_len _ h.data]; omega
theorem enc_len (t : Tx) (h : t.May) : t.enc.length = 256 * (t.ws.length + 2) := by
  unfold Tx.enc
  rw [List.length_append, head_len t h, ownL_len _ _ _ (by rw [bytesL_len]; omega)]; omega
theorem numb_bits (x : Wt) (h : 0 ≤ x.1 ∧ x.1 < 1048576) : numb x < 4294967296 ∧ (looks x.2 = false → (numb x : Int) = x.1) ∧ (looks x.2 = true → (numb x : Int) = x.1 + 2147483648) := by
  unfold numb
  refine ⟨?_, fun e => ?_, fun e => ?_⟩
  · split <;> omega
  · rw [e]; simp; omega
  · rw [e]; simp; omega
end Go.Proofs.Ytbmbolgmeehloaa.Rec

namespace Go.Proofs.Ytbmbolgmeehloaa.Rec
set_option maxRecDepth 20000
open Go.RowKit
open Go.Proofs.Ytbmbolgmeehloaa.Mem Go.Proofs.Ytbmbolgmeehloaa.Crc

theorem over_mid (a b c y : List UInt8) (k : Nat) (hk : k = a.length) (h : y.length = b.length) : over (a ++ (b ++ c)) k y = a ++ (y ++ c) := by
  subst hk
  unfold over
  rw [List.take_left, h, ← List.append_assoc a b c, List.drop_left' (by simp)]
def headL (kind : UInt8) (seq : Nat) : List UInt8 := markL ++ [kind, 0, 0, 0] ++ bytesL seq 8
theorem headL_len (kind : UInt8) (seq : Nat) : (headL kind seq).length = 16 := by
  unfold headL
  simp only [List.length_append, bytesL_len]; rfl
theorem zeros_add (a b : Nat) : List.replicate (a + b) (0 : UInt8) = List.replicate a 0 ++ List.replicate b 0 := (List.replicate_append_replicate).symm
theorem own1_eq : over (List.replicate 256 0) 0 markL = markL ++ List.replicate 252 0 := by
  have h := over_mid [] (List.replicate 4 0) (List.replicate 252 0) markL 0 rfl rfl
  rw [← zeros_add] at h
  exact h
theorem own2_eq (kind : UInt8) : (over (List.replicate 256 0) 0 markL).set 4 kind = (markL ++ [kind, 0, 0, 0]) ++ (List.replicate 8 0 ++ List.replicate 240 0) := by
  rw [own1_eq, ← zeros_add, show (252 : Nat) = 4 + 248 from rfl, zeros_add]
  rfl
theorem own3_eq (kind : UInt8) (seq : Nat) : own3 kind seq = headL kind seq ++ List.replicate 240 0 := by
  unfold own3
  rw [own2_eq, over_mid _ _ _ _ 8 rfl (by rw [bytesL_len, List.length_replicate])]
  unfold headL
  rw [List.append_assoc, List.append_assoc, List.append_assoc]
theorem own4_eq (kind : UInt8) (seq : Nat) (rest : List UInt8) (h : rest.length ≤ 236) : own4 kind seq rest = (headL kind seq ++ rest ++ List.replicate (236 - rest.length) 0) ++ (List.replicate 4 0 ++ []) := by
  unfold own4
  rw [own3_eq, show (240 : Nat) = rest.length + (240 - rest.length) by omega, zeros_add, over_mid _ _ _ _ 16 (headL_len _ _).symm (by rw [List.length_replicate])]
  rw [show 240 - rest.length = (236 - rest.length) + 4 by omega, zeros_add]
  simp only [List.append_assoc, List.append_nil]
/-- The first 252 bytes of one of the record's own blocks. -/
def ownP (kind : UInt8) (seq : Nat) (rest : List UInt8) : List UInt8 := headL kind seq ++ rest ++ List.replicate (236 - rest.length) 0
theorem ownP_len (kind : UInt8) (seq : Nat) (rest : List UInt8) (h : rest.length ≤ 236) : (ownP kind seq rest).length = 252 := by
  unfold ownP
  simp only [List.length_append, headL_len, List.length_replicate]; omega
theorem ownL_eq (kind : UInt8) (seq : Nat) (rest : List UInt8) (h : rest.length ≤ 236) : ownL kind seq rest = ownP kind seq rest ++ bytesL (sum (ownP kind seq rest)) 4 := by
  have hl := ownP_len kind seq rest h
  have e : own4 kind seq rest = ownP kind seq rest ++ (List.replicate 4 0 ++ []) := own4_eq kind seq rest h
  unfold ownL
  rw [e, List.take_left' hl, over_mid _ _ _ _ 252 hl.symm (by rw [bytesL_len]; rfl)]
  rw [List.append_nil]
theorem bareL_eq (bs : List UInt8) (h : looks bs = true) : bareL bs = [0, 0, 0, 0] ++ bs.drop 4 := by
  unfold bareL
  rw [h]
  rfl
theorem bareL_not (bs : List UInt8) (h : looks bs = false) : bareL bs = bs := by
  unfold bareL
  rw [h]; rfl
end Go.Proofs.Ytbmbolgmeehloaa.Rec
