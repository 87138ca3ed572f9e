/- Contracts of the library's comparing and cloning of bytes, and of the program's small calls on a block: whether it begins with the mark, the block without it, a number at a place, and a Write out of a number and a block. -/
import Derived.Test.YtbmbolgmeehloaaRcMem
import Derived.Lib.SlBytesConst
import Derived.WalkSpells
namespace Go.Proofs.Ytbmbolgmeehloaa.Rec
set_option maxRecDepth 20000
open Go.RowKit
open Go.Proofs.Ytbmbolgmeehloaa.Mem Go.Proofs.Ytbmbolgmeehloaa.Crc

def eqB (a b : List UInt8) : Bool := decide (a = b)
def preB (p b : List UInt8) : Bool := decide (b.take p.length = p)

theorem equal_any (A A' : Option Addr) (n n' c c' B B' : Nat) (bs bs' : List UInt8) (w : World) (h : Holds w B A n bs) (h' : Holds w B' A' n' bs') :
    Calls Try.prog 85 #[.slice A n c, .slice A' n' c'] w fun e w' => e = .returned (.bool (eqB bs bs')) ∧ w = w' := by
  have t1 := run_text w B A n c bs h
  have t2 := run_text w B' A' n' c' bs' h'
  clear h h'
  unfold eqB
  by_cases heq : bs = bs'
  · subst heq
    go_enter Try.func85, Try.ntmps85
    go_wp2
    go_ret
    exact ⟨by simp, rfl⟩
  · have hne : (⟨bs.toArray⟩ : ByteArray) ≠ ⟨bs'.toArray⟩ := by
      intro e
      injection e with e
      exact heq (by simpa using congrArg Array.toList e)
    have hd : decide (bs = bs') = false := by simpa using heq
    go_enter Try.func85, Try.ntmps85
    go_wp2
    go_ret
    exact ⟨by simp [heq], rfl⟩

theorem hasPrefix_any (A A' : Option Addr) (n n' c c' B B' : Nat) (bs bs' : List UInt8) (w : World) (h : Holds w B A n bs) (h' : Holds w B' A' n' bs') (h0 : 0 < n') (hc : n ≤ c) :
    Calls Try.prog 119 #[.slice A n c, .slice A' n' c'] w fun e w' => e = .returned (.bool (preB bs' bs)) ∧ w = w' := by
  have hl := h.1
  have hl' := h'.1
  by_cases hle : n' ≤ n
  · obtain ⟨b, off, rfl⟩ := Holds.addr h (by omega)
    have ht := h.take hle
    have hq : eqB (bs.take n') bs' = preB bs' bs := by unfold eqB preB; rw [hl']
    have HQ := Lib.hid hq; clear hq
    have HL := Lib.hid hl; clear hl
    have HL' := Lib.hid hl'; clear hl'
    have H := Lib.hid h; clear h
    go_enter Try.func119, Try.ntmps119
    go_wp2_with fail
    refine (equal_any _ A' n' n' c c' B B' (bs.take n') bs' w ht h').mono ?_
    rintro e w' ⟨rfl, rfl⟩
    rw [HQ.out]
    go_wp2
    go_ret
    exact ⟨rfl, rfl⟩
  · have hf : preB bs' bs = false := by
      unfold preB
      rw [decide_eq_false_iff_not]
      intro e
      have := congrArg List.length e
      rw [List.length_take] at this
      omega
    have hd : decide (n' ≤ n) = false := by simpa using hle
    rw [hf]
    have HF := Lib.hid hf; clear hf
    have HL := Lib.hid hl; clear hl
    have HL' := Lib.hid hl'; clear hl'
    have H := Lib.hid h; clear h
    have H' := Lib.hid h'; clear h'
    go_enter Try.func119, Try.ntmps119
    go_wp2
    go_ret
    exact ⟨rfl, rfl⟩

theorem bclone_any (A : Option Addr) (n c B : Nat) (bs : List UInt8) (w : World) (h : Holds w B A n bs) (hn : n ≤ 140737488355328) (hB : B ≤ w.heap.size) :
    Calls Try.prog 106 #[.slice A n c] w (Made w bs) := by
  obtain rfl : bs.length = n := h.1
  rcases A with _ | a
  · have h0 : bs.length = 0 := by
      rcases Nat.eq_zero_or_pos bs.length with e | e
      · exact e
      · obtain ⟨b, off, e, _⟩ := h.2 e; cases e
    obtain rfl : bs = [] := List.eq_nil_of_length_eq_zero h0
    have hq : ∀ W, (binOp .eql 33 (.slice none 0 c) (.slice none 0 0)).run Try.prog W = .ok (.bool true) W := fun W => Lib.run_eql_slice_nil W _ _ none 0 c 0 0 Try.underlying33
    clear h h0
    go_enter Try.func106, Try.ntmps106
    go_wp2
    go_ret
    exact ⟨none, 0, rfl, World.ownsRow_nil _ _ _ _, Below.refl _ _⟩
  · have hq : ∀ W, (binOp .eql 33 (.slice (some a) bs.length c) (.slice none 0 0)).run Try.prog W = .ok (.bool false) W := fun W => Lib.run_eql_slice_nil W _ _ (some a) bs.length c 0 0 Try.underlying33
    have ho := owned_made w [] w.heap.size (Nat.le_refl _) (by unfold maxLen; simp)
    go_enter Try.func106, Try.ntmps106
    go_wp2_with (at_builtin; refine wpList_addall rfl _ _ rfl w.heap.size _ [] rfl ho B (some a) bs.length c bs rfl ?c1 ?c2 ?c3 ?_)
    case c1 => exact h.below (((Below.refl w.heap.size w).alloc (Nat.le_refl _) _).mono hB)
    case c2 => simp; omega
    case c3 => simp
    intro g w2 ho2 hb2
    obtain ⟨A2, c2, rfl, -⟩ := Owned.holds ho2
    have HO := Lib.hid ho2; clear ho2
    have HB := Lib.hid hb2; clear hb2
    clear ho
    go_wp2
    go_ret
    exact ⟨A2, c2, rfl, HO.out, ((Below.refl w.heap.size w).alloc (Nat.le_refl _) _).trans HB.out⟩

/-- The log's mark. -/
def markL : List UInt8 := [85, 76, 79, 71]
def looks (bs : List UInt8) : Bool := preB markL bs

theorem marked_any (A : Option Addr) (n c B : Nat) (bs : List UInt8) (w : World) (h : Holds w B A n bs) (hB : B ≤ w.heap.size) (hc : n ≤ c) :
    Calls Try.prog 114 #[.slice A n c] w fun e w' => e = .returned (.bool (looks bs)) ∧ Below w.heap.size w w' := by
  have kc := fun (w : World) (C : Array Value) (n c : Nat) => Lib.run_convert_bytes_const (P := Try.prog) w 33 5 C n c Try.underlying33 Try.underlying5
  have hx := h.below (((Below.refl w.heap.size w).alloc (Nat.le_refl _) (.cells #[.int .u8 85, .int .u8 76, .int .u8 79, .int .u8 71] 5 (4, 5))).mono hB)
  have HX := Lib.hid hx; clear hx
  have H := Lib.hid h; clear h
  go_enter Try.func114, Try.ntmps114
  go_wp2_with fail
  refine (hasPrefix_any A _ n 4 c 4 B _ bs markL _ HX.out (holds_lit w markL _ rfl (4, 5)) (by omega) hc).mono ?_
  rintro e w' ⟨rfl, rfl⟩
  go_wp2
  go_ret
  exact ⟨rfl, (Below.refl w.heap.size w).alloc (Nat.le_refl _) _⟩

/-- The block as it stands in the log. -/
def bareL (bs : List UInt8) : List UInt8 := if looks bs then over bs 0 (List.replicate 4 0) else bs
theorem looks_len (bs : List UInt8) (h : looks bs = true) : 4 ≤ bs.length := by
  have e := of_decide_eq_true h
  have := congrArg List.length e
  rw [List.length_take] at this
  have e4 : markL.length = 4 := rfl
  omega
theorem bareL_len (bs : List UInt8) : (bareL bs).length = bs.length := by
  unfold bareL
  split
  · rename_i h
    have := looks_len bs h
    rw [over_len _ _ _ (by simp; omega)]
  · rfl

theorem bare_any (A : Option Addr) (n c B : Nat) (bs : List UInt8) (w : World) (h : Holds w B A n bs) (hn : n ≤ 140737488355328) (hB : B ≤ w.heap.size) :
    Calls Try.prog 98 #[.slice A n c] w (Made w (bareL bs)) := by
  have hbl := bareL_len bs
  unfold Made
  rw [hbl]
  have HBL := Lib.hid hbl; clear hbl
  have H := Lib.hid h; clear h
  go_enter Try.func98, Try.ntmps98
  go_wp2_with fail
  refine (bclone_any A n c B bs _ H.out hn hB).mono ?_
  rintro e w1 ⟨A1, c1, rfl, ho1, hb1⟩
  have hf := Owned.fits ho1
  have HO := Lib.hid ho1; clear ho1
  have HB1 := Lib.hid hb1; clear hb1
  go_wp2_with fail
  refine (marked_any A1 bs.length c1 w1.heap.size bs w1 (Owned.reads HO.out) (Nat.le_refl _) hf.1).mono ?_
  rintro e w2 ⟨rfl, hb2⟩
  have ho2 := HO.out.keep hb2 (Nat.le_refl _)
  have HO2 := Lib.hid ho2; clear ho2
  have HB2 : Hid (Below w.heap.size w w2) := Lib.hid (HB1.out.trans (hb2.mono HB1.out.size))
  clear hb2
  cases hlk : looks bs
  · have HLK := Lib.hid hlk; clear hlk
    go_wp2
    go_ret
    refine ⟨A1, c1, rfl, ?_, HB2.out⟩
    have e : bareL bs = bs := by unfold bareL; rw [HLK.out]; rfl
    rw [e]; exact HO2.out
  · have h4 := looks_len bs hlk
    have HLK := Lib.hid hlk; clear hlk
    obtain ⟨g, cap, cur, hv, -⟩ := Owned.cut HO2.out (by omega)
    injection hv with e1 e2 e3
    clear e2
    subst e1 e3
    obtain ⟨w3, hrun, ho3, hb3⟩ := run_clear_bytes w2 0 w.heap.size g _ c1 bs 4 c1 HO2.out (by omega) h4
    have HO3 := Lib.hid ho3; clear ho3
    have HB3 := Lib.hid hb3; clear hb3
    go_wp2
    go_ret
    have e : bareL bs = over bs 0 (List.replicate 4 0) := by unfold bareL; rw [HLK.out]; rfl
    refine ⟨some ⟨g, 0, none⟩, c1, rfl, ?_, HB2.out.trans (HB3.out.mono (Nat.le_refl _))⟩
    rw [e]; exact HO3.out

/-- The number of n bytes from a place on. -/
def numFrom (bs : List UInt8) (at_ n : Nat) : Nat := numAt ((bs.drop at_).take n) n
theorem numFrom_lt (bs : List UInt8) (at_ n : Nat) : numFrom bs at_ n < 2 ^ (8 * n) := numAt_lt _ _

/-- A Write out of the log: its block's number, and what it holds. -/
def outNum (k : Nat) : Nat := if 2147483648 ≤ k then k - 2147483648 else k
def outData (k : Nat) (bs : List UInt8) : List UInt8 := if 2147483648 ≤ k then over bs 0 markL else bs
theorem outData_len (k : Nat) (bs : List UInt8) (h : 4 ≤ bs.length) : (outData k bs).length = bs.length := by
  unfold outData
  split
  · rw [over_len _ _ _ (by simp [markL]; omega)]
  · rfl

end Go.Proofs.Ytbmbolgmeehloaa.Rec
