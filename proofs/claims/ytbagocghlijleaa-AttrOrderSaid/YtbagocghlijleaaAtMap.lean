/- A table that counts names. -/
import Derived.Test.YtbagocghlijleaaAtMem
import Derived.Maps.OwnSet
import Derived.Maps.OwnOps
import Derived.Maps.Ext
namespace Go.Proofs.Ytbagocghlijleaa.At
set_option maxRecDepth 20000
open Go.RowKit
open Go.Proofs.Ytbagocghlijleaa.Mem Go.Proofs.Ytbagocghlijleaa.Crc Go.Proofs.Ytbagocghlijleaa.Rec

def keyS (t : List UInt8) : Lit := .string t
def cV (n : Nat) : DataW Unit := .lit (.int .i64 (n : Int))
theorem keyS_inj (a b : List UInt8) : keyS a = keyS b ↔ a = b := by
  unfold keyS
  constructor
  · intro h; injection h
  · intro h; rw [h]
def cntS (bs : List (List UInt8)) : Nat → DataW Unit
  | 0 => .map []
  | k + 1 => (cntS bs k).put (keyS (bs.getD k [])) (cV ((bs.take k).count (bs.getD k []) + 1))
theorem cntS_isMap (bs : List (List UInt8)) : ∀ k, Maps.IsMap (cntS bs k)
  | 0 => ⟨[], rfl⟩
  | k + 1 => (cntS_isMap bs k).put _ _
theorem take_snocS (bs : List (List UInt8)) (k : Nat) (h : k < bs.length) : bs.take (k + 1) = bs.take k ++ [bs.getD k []] := by
  rw [List.take_succ_eq_append_getElem h]; simp [List.getD, h]
theorem cntS_at (bs : List (List UInt8)) (b : List UInt8) : ∀ k, k ≤ bs.length → (cntS bs k).atKey (keyS b) (.lit (.int .i64 0)) = cV ((bs.take k).count b)
  | 0, _ => by simp [cntS]; rfl
  | k + 1, hk => by
    have ih := cntS_at bs b k (by omega)
    rw [take_snocS bs k (by omega)]
    show DataW.atKey ((cntS bs k).put _ _) _ _ = _
    by_cases h : b = bs.getD k []
    · subst h
      rw [Maps.atKey_put_same (cntS_isMap bs k) (by unfold keyS; trivial)]
      simp [List.count_append]
    · rw [Maps.atKey_put_other (by rw [Ne, keyS_inj]; exact h), ih]
      rw [List.count_append]
      have : List.count b [bs.getD k []] = 0 := List.count_eq_zero.2 (by rw [List.mem_singleton]; exact h)
      rw [this]; rfl
theorem strKey : Maps.Keyed Try.prog 9 := Maps.string_keyed Try.underlying9
abbrev Counts (w : World) (m n : Nat) (bs : List (List UInt8)) (k : Nat) : Prop := w.ownsMap Try.prog 9 (plainElem Try.prog 3) m n (cntS bs k)

set_option maxRecDepth 100000 in
/-- 'm[b]', in whatever world holds the table. -/
theorem run_count (W : World) (m n k : Nat) (bs : List (List UInt8)) (S : ByteArray) (b : List UInt8) (hS : S.data.toList = b) (hb : b.length ≤ maxLen) (hk : k ≤ bs.length) (h : Counts W m n bs k) :
    (Instr.lookup 43 (.map (some m)) (.string S) false).run Try.prog W = .ok (.int .i64 ((bs.take k).count b : Int)) W := by
  subst hS
  have hz : (zeroValue 3).run Try.prog W = .ok (.int .i64 0) W := by rfl
  have hsz : S.size ≤ maxLen := by rw [show S.size = S.data.toList.length from Array.length_toList.symm]; exact hb
  obtain ⟨c, hrun, hat, _⟩ := h.lookup_int strKey Try.underlying43 Try.underlying3 hz (WideMaps.keyOf_string_mk Try.underlying9 hsz)
  rw [hrun]
  have h2 := cntS_at bs S.data.toList k hk
  unfold keyS at h2
  rw [h2] at hat
  unfold cV at hat
  injection hat with hat
  injection hat with _ hat
  rw [hat]
/-- 'm[b]++'. -/
theorem run_meet (W : World) (m n k : Nat) (bs : List (List UInt8)) (S : ByteArray) (b : List UInt8) (hS : S.data.toList = b) (hb : b.length ≤ maxLen) (hk : k < bs.length) (hget : bs.getD k [] = b) (hn : n < maxLen) (hbs : k ≤ 65536) (h : Counts W m n bs k) :
    ∃ w', (Instr.mapUpdate 43 (.map (some m)) (.string S) (.int .i64 (((bs.take k).count b : Int) + 1))).run Try.prog W = .ok () w' ∧ Counts w' m (n + 1) bs (k + 1) ∧ W.grownBy w' (some m) := by
  subst hS
  have hsz : S.size ≤ maxLen := by rw [show S.size = S.data.toList.length from Array.length_toList.symm]; exact hb
  have hkey : keyOf Try.prog 9 (.string S) = some (keyS S.data.toList) := WideMaps.keyOf_string_mk Try.underlying9 hsz
  have hle : (bs.take k).count S.data.toList ≤ 65536 := Nat.le_trans List.count_le_length (by rw [List.length_take]; omega)
  have hwf : (Lit.int .i64 (((bs.take k).count S.data.toList : Int) + 1)).wf = true := by
    simp [Lit.wf, show IntKind.i64.min = -9223372036854775808 from rfl, show IntKind.i64.max = 9223372036854775807 from rfl]
    omega
  have hv : plainElem (H := Unit) Try.prog 3 (.int .i64 (((bs.take k).count S.data.toList : Int) + 1)) = some (cV ((bs.take k).count S.data.toList + 1), []) := by
    have := plainElem_int (H := Unit) (P := Try.prog) (a := (((bs.take k).count S.data.toList : Int) + 1)) Try.underlying3 hwf
    rw [this]; rfl
  obtain ⟨w2, hrun, hM2, hg2⟩ := h.update (t := 43) strKey Try.underlying43 hn hkey hv
  refine ⟨w2, hrun, ?_, hg2⟩
  have e : cntS bs (k + 1) = (cntS bs k).put (keyS S.data.toList) (cV ((bs.take k).count S.data.toList + 1)) := by
    show (cntS bs k).put _ _ = _
    rw [hget]
  show w2.ownsMap _ _ _ _ _ (cntS bs (k + 1))
  rw [e]; exact hM2
end Go.Proofs.Ytbagocghlijleaa.At
