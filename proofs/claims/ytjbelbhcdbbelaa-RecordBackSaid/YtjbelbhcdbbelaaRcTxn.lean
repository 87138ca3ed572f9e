/- What a record in memory is: its Writes and its Revokes as lists; and, in plain words, whether it may be and what its blocks are. -/
import Derived.Test.YtjbelbhcdbbelaaRcMem
import Derived.Lib.SlBytesConst
import Derived.WalkSpells
import Derived.RegionTactic
import Derived.ChangeAlike
import Derived.Deep.RegionWith
import Derived.Deep.OwnRows
namespace Go.Proofs.Ytjbelbhcdbbelaa.Rec
set_option maxRecDepth 20000
open Go.RowKit
open Go.Proofs.Ytjbelbhcdbbelaa.Mem Go.Proofs.Ytjbelbhcdbbelaa.Crc

def eqB (a b : List UInt8) : Bool := decide (a = b)
def preB (p b : List UInt8) : Bool := decide (b.take p.length = p)

theorem equal_any (A A' : Option Addr) (n n' c c' B B' : Nat) (bs bs' : List UInt8) (w : World) (h : Holds w B A n bs) (h' : Holds w B' A' n' bs') :
    Calls Try.prog 22 #[.slice A n c, .slice A' n' c'] w fun e w' => e = .returned (.bool (eqB bs bs')) ∧ w = w' := by
  have t1 := run_text w B A n c bs h
  have t2 := run_text w B' A' n' c' bs' h'
  clear h h'
  unfold eqB
  by_cases heq : bs = bs'
  · subst heq
    go_enter Try.func22, Try.ntmps22
    go_wp2
    go_ret
    exact ⟨by simp, rfl⟩
  · have hne : (⟨bs.toArray⟩ : ByteArray) ≠ ⟨bs'.toArray⟩ := by
      intro e
      injection e with e
      exact heq (by simpa using congrArg Array.toList e)
    have hd : decide (bs = bs') = false := by simpa using heq
    go_enter Try.func22, Try.ntmps22
    go_wp2
    go_ret
    exact ⟨by simp [heq], rfl⟩

theorem hasPrefix_any (A A' : Option Addr) (n n' c c' B B' : Nat) (bs bs' : List UInt8) (w : World) (h : Holds w B A n bs) (h' : Holds w B' A' n' bs') (h0 : 0 < n') (hc : n ≤ c) :
    Calls Try.prog 15 #[.slice A n c, .slice A' n' c'] w fun e w' => e = .returned (.bool (preB bs' bs)) ∧ w = w' := by
  have hl := h.1
  have hl' := h'.1
  by_cases hle : n' ≤ n
  · obtain ⟨b, off, rfl⟩ := Holds.addr h (by omega)
    have ht := h.take hle
    have hq : eqB (bs.take n') bs' = preB bs' bs := by unfold eqB preB; rw [hl']
    have HQ := Lib.hid hq; clear hq
    have HL := Lib.hid hl; clear hl
    have HL' := Lib.hid hl'; clear hl'
    have H := Lib.hid h; clear h
    go_enter Try.func15, Try.ntmps15
    go_wp2_with fail
    refine (equal_any _ A' n' n' c c' B B' (bs.take n') bs' w ht h').mono ?_
    rintro e w' ⟨rfl, rfl⟩
    rw [HQ.out]
    go_wp2
    go_ret
    exact ⟨rfl, rfl⟩
  · have hf : preB bs' bs = false := by
      unfold preB
      rw [decide_eq_false_iff_not]
      intro e
      have := congrArg List.length e
      rw [List.length_take] at this
      omega
    have hd : decide (n' ≤ n) = false := by simpa using hle
    rw [hf]
    have HF := Lib.hid hf; clear hf
    have HL := Lib.hid hl; clear hl
    have HL' := Lib.hid hl'; clear hl'
    have H := Lib.hid h; clear h
    have H' := Lib.hid h'; clear h'
    go_enter Try.func15, Try.ntmps15
    go_wp2
    go_ret
    exact ⟨rfl, rfl⟩

theorem bclone_any (A : Option Addr) (n c B : Nat) (bs : List UInt8) (w : World) (h : Holds w B A n bs) (hn : n ≤ 140737488355328) (hB : B ≤ w.heap.size) :
    Calls Try.prog 18 #[.slice A n c] w (Made w bs) := by
  obtain rfl : bs.length = n := h.1
  rcases A with _ | a
  · have h0 : bs.length = 0 := by
      rcases Nat.eq_zero_or_pos bs.length with e | e
      · exact e
      · obtain ⟨b, off, e, _⟩ := h.2 e; cases e
    obtain rfl : bs = [] := List.eq_nil_of_length_eq_zero h0
    have hq : ∀ W, (binOp .eql 27 (.slice none 0 c) (.slice none 0 0)).run Try.prog W = .ok (.bool true) W := fun W => Lib.run_eql_slice_nil W _ _ none 0 c 0 0 Try.underlying27
    clear h h0
    go_enter Try.func18, Try.ntmps18
    go_wp2
    go_ret
    exact ⟨none, 0, rfl, World.ownsRow_nil _ _ _ _, Below.refl _ _⟩
  · have hq : ∀ W, (binOp .eql 27 (.slice (some a) bs.length c) (.slice none 0 0)).run Try.prog W = .ok (.bool false) W := fun W => Lib.run_eql_slice_nil W _ _ (some a) bs.length c 0 0 Try.underlying27
    have ho := owned_made w [] w.heap.size (Nat.le_refl _) (by unfold maxLen; simp)
    go_enter Try.func18, Try.ntmps18
    go_wp2_with (at_builtin; refine wpList_addall rfl _ _ rfl w.heap.size _ [] rfl ho B (some a) bs.length c bs rfl ?c1 ?c2 ?c3 ?_)
    case c1 => exact h.below (((Below.refl w.heap.size w).alloc (Nat.le_refl _) _).mono hB)
    case c2 => simp; omega
    case c3 => simp
    intro g w2 ho2 hb2
    obtain ⟨A2, c2, rfl, -⟩ := Owned.holds ho2
    have HO := Lib.hid ho2; clear ho2
    have HB := Lib.hid hb2; clear hb2
    clear ho
    go_wp2
    go_ret
    exact ⟨A2, c2, rfl, HO.out, ((Below.refl w.heap.size w).alloc (Nat.le_refl _) _).trans HB.out⟩

/-- The log's mark. -/
def markL : List UInt8 := [85, 76, 79, 71]
def looks (bs : List UInt8) : Bool := preB markL bs

theorem marked_any (A : Option Addr) (n c B : Nat) (bs : List UInt8) (w : World) (h : Holds w B A n bs) (hB : B ≤ w.heap.size) (hc : n ≤ c) :
    Calls Try.prog 17 #[.slice A n c] w fun e w' => e = .returned (.bool (looks bs)) ∧ Below w.heap.size w w' := by
  have kc := fun (w : World) (C : Array Value) (n c : Nat) => Lib.run_convert_bytes_const (P := Try.prog) w 27 5 C n c Try.underlying27 Try.underlying5
  have hx := h.below (((Below.refl w.heap.size w).alloc (Nat.le_refl _) (.cells #[.int .u8 85, .int .u8 76, .int .u8 79, .int .u8 71] 5 (4, 5))).mono hB)
  have HX := Lib.hid hx; clear hx
  have H := Lib.hid h; clear h
  go_enter Try.func17, Try.ntmps17
  go_wp2_with fail
  refine (hasPrefix_any A _ n 4 c 4 B _ bs markL _ HX.out (holds_lit w markL _ rfl (4, 5)) (by omega) hc).mono ?_
  rintro e w' ⟨rfl, rfl⟩
  go_wp2
  go_ret
  exact ⟨rfl, (Below.refl w.heap.size w).alloc (Nat.le_refl _) _⟩

/-- The block as it stands in the log. -/
def bareL (bs : List UInt8) : List UInt8 := if looks bs then over bs 0 (List.replicate 4 0) else bs
theorem looks_len (bs : List UInt8) (h : looks bs = true) : 4 ≤ bs.length := by
  have e := of_decide_eq_true h
  have := congrArg List.length e
  rw [List.length_take] at this
  have e4 : markL.length = 4 := rfl
  omega
theorem bareL_len (bs : List UInt8) : (bareL bs).length = bs.length := by
  unfold bareL
  split
  · rename_i h
    have := looks_len bs h
    rw [over_len _ _ _ (by simp; omega)]
  · rfl

theorem bare_any (A : Option Addr) (n c B : Nat) (bs : List UInt8) (w : World) (h : Holds w B A n bs) (hn : n ≤ 140737488355328) (hB : B ≤ w.heap.size) :
    Calls Try.prog 11 #[.slice A n c] w (Made w (bareL bs)) := by
  have hbl := bareL_len bs
  unfold Made
  rw [hbl]
  have HBL := Lib.hid hbl; clear hbl
  have H := Lib.hid h; clear h
  go_enter Try.func11, Try.ntmps11
  go_wp2_with fail
  refine (bclone_any A n c B bs _ H.out hn hB).mono ?_
  rintro e w1 ⟨A1, c1, rfl, ho1, hb1⟩
  have hf := Owned.fits ho1
  have HO := Lib.hid ho1; clear ho1
  have HB1 := Lib.hid hb1; clear hb1
  go_wp2_with fail
  refine (marked_any A1 bs.length c1 w1.heap.size bs w1 (Owned.reads HO.out) (Nat.le_refl _) hf.1).mono ?_
  rintro e w2 ⟨rfl, hb2⟩
  have ho2 := HO.out.keep hb2 (Nat.le_refl _)
  have HO2 := Lib.hid ho2; clear ho2
  have HB2 : Hid (Below w.heap.size w w2) := Lib.hid (HB1.out.trans (hb2.mono HB1.out.size))
  clear hb2
  cases hlk : looks bs
  · have HLK := Lib.hid hlk; clear hlk
    go_wp2
    go_ret
    refine ⟨A1, c1, rfl, ?_, HB2.out⟩
    have e : bareL bs = bs := by unfold bareL; rw [HLK.out]; rfl
    rw [e]; exact HO2.out
  · have h4 := looks_len bs hlk
    have HLK := Lib.hid hlk; clear hlk
    obtain ⟨g, cap, cur, hv, -⟩ := Owned.cut HO2.out (by omega)
    injection hv with e1 e2 e3
    clear e2
    subst e1 e3
    obtain ⟨w3, hrun, ho3, hb3⟩ := run_clear_bytes w2 0 w.heap.size g _ c1 bs 4 c1 HO2.out (by omega) h4
    have HO3 := Lib.hid ho3; clear ho3
    have HB3 := Lib.hid hb3; clear hb3
    go_wp2
    go_ret
    have e : bareL bs = over bs 0 (List.replicate 4 0) := by unfold bareL; rw [HLK.out]; rfl
    refine ⟨some ⟨g, 0, none⟩, c1, rfl, ?_, HB2.out.trans (HB3.out.mono (Nat.le_refl _))⟩
    rw [e]; exact HO3.out

/-- The number of n bytes from a place on. -/
def numFrom (bs : List UInt8) (at_ n : Nat) : Nat := numAt ((bs.drop at_).take n) n
theorem numFrom_lt (bs : List UInt8) (at_ n : Nat) : numFrom bs at_ n < 2 ^ (8 * n) := numAt_lt _ _

/-- A Write out of the log: its block's number, and what it holds. -/
def outNum (k : Nat) : Nat := if 2147483648 ≤ k then k - 2147483648 else k
def outData (k : Nat) (bs : List UInt8) : List UInt8 := if 2147483648 ≤ k then over bs 0 markL else bs
theorem outData_len (k : Nat) (bs : List UInt8) (h : 4 ≤ bs.length) : (outData k bs).length = bs.length := by
  unfold outData
  split
  · rw [over_len _ _ _ (by simp [markL]; omega)]
  · rfl

end Go.Proofs.Ytjbelbhcdbbelaa.Rec

namespace Go.Proofs.Ytjbelbhcdbbelaa.Rec
set_option maxRecDepth 20000
open Go.RowKit
open Go.Proofs.Ytjbelbhcdbbelaa.Mem Go.Proofs.Ytjbelbhcdbbelaa.Crc

def own3 (kind : UInt8) (seq : Nat) : List UInt8 := over ((over (List.replicate 256 0) 0 markL).set 4 kind) 8 (bytesL seq 8)
def own4 (kind : UInt8) (seq : Nat) (rest : List UInt8) : List UInt8 := over (own3 kind seq) 16 rest
def ownL (kind : UInt8) (seq : Nat) (rest : List UInt8) : List UInt8 := over (own4 kind seq rest) 252 (bytesL (sum ((own4 kind seq rest).take 252)) 4)
theorem own2_len : (over (List.replicate 256 0) 0 markL).length = 256 := by
  rw [over_len _ _ _ (by rw [List.length_replicate]; show 0 + 4 ≤ 256; omega), List.length_replicate]
theorem own3_len (kind : UInt8) (seq : Nat) : (own3 kind seq).length = 256 := by
  unfold own3
  rw [over_len _ _ _ (by rw [List.length_set, own2_len, bytesL_len]; omega), List.length_set, own2_len]
theorem own4_len (kind : UInt8) (seq : Nat) (rest : List UInt8) (h : rest.length ≤ 236) : (own4 kind seq rest).length = 256 := by
  unfold own4
  rw [over_len _ _ _ (by rw [own3_len]; omega), own3_len]
theorem ownL_len (kind : UInt8) (seq : Nat) (rest : List UInt8) (h : rest.length ≤ 236) : (ownL kind seq rest).length = 256 := by
  unfold ownL
  rw [over_len _ _ _ (by rw [own4_len _ _ _ h, bytesL_len]; omega), own4_len _ _ _ h]

set_option maxRecDepth 100000 in
set_option maxHeartbeats 1000000 in
theorem own_any (kind : UInt8) (seq : Nat) (A : Option Addr) (n c B : Nat) (rest : List UInt8) (w : World) (h : Holds w B A n rest) (h0 : 0 < n) (hn : n ≤ 236) (hB : B ≤ w.heap.size) :
    Calls Try.prog 9 #[.int .u8 (kind.toNat : Int), .int .u64 (seq : Int), .slice A n c] w (Made w (ownL kind seq rest)) := by
  have hl := h.1
  have hol := ownL_len kind seq rest (by omega)
  unfold Made
  rw [hol]
  have HL := Lib.hid hl; clear hl
  clear hol
  obtain ⟨Z, hZ⟩ : ∃ Z, Z = List.replicate 256 (0 : UInt8) := ⟨_, rfl⟩
  have hmk : ∀ W, (Instr.makeSlice 27 (.int .i64 256) (.int .i64 256)).run Try.prog W = .ok (.slice (some ⟨W.heap.size, 0, none⟩) 256 256) (W.alloc (.cells (Z.map byteV).toArray 5)) := by
    rw [hZ]
    exact run_makeZ 256 (by omega)
  have hZl : Z.length = 256 := by rw [hZ, List.length_replicate]
  have ho := owned_made w Z w.heap.size (Nat.le_refl _) (by unfold maxLen; rw [hZl]; omega)
  have hb := (Below.refl w.heap.size w).alloc (Nat.le_refl _) (.cells (Z.map byteV).toArray 5)
  have hg0 : w.heap.size < (w.alloc (.cells (Z.map byteV).toArray 5)).heap.size := by simp
  have hl2 : (over Z 0 markL).length = 256 := by rw [hZ]; exact own2_len
  have h3 : over ((over Z 0 markL).set 4 kind) 8 (bytesL seq 8) = own3 kind seq := by rw [hZ]; rfl
  have H3 := Lib.hid h3; clear h3
  have HZL := Lib.hid hZl; clear hZl
  have HL2 := Lib.hid hl2; clear hl2
  clear hZ
  have HMK := Lib.hid hmk; clear hmk
  have HO := Lib.hid ho; clear ho
  have HB := Lib.hid hb; clear hb
  have HG := Lib.hid hg0; clear hg0
  have H := Lib.hid h; clear h
  go_enter Try.func9, Try.ntmps9
  go_wp2_with fail
  rw [HMK.out]
  simp only [Result.andThen]
  rw [Oper.upon_value]
  generalize w.alloc (.cells (Z.map byteV).toArray 5) = w1 at HO HB HG ⊢
  have ho := HO.out
  obtain ⟨w2, hrun, ho2, hb2⟩ := run_copy_const w1 3 w.heap.size w.heap.size _ _ Z markL 256 256 ho (by show 0 < 4; omega) (by show 4 ≤ 256; omega) (by rw [HZL.out]; show 4 ≤ 256; omega)
  clear ho
  have hrun' : (Builtin.copy_ #[27, 9] 3 #[.slice (some ⟨w.heap.size, 0, none⟩) 256 256, .string ⟨#[85, 76, 79, 71]⟩]).run Try.prog w1 = .ok (goInt 4) w2 := hrun
  clear hrun
  rw [HZL.out] at ho2
  obtain ⟨g', cap', hv, -, hgl, -, hrow⟩ := Owned.row ho2 (by rw [HL2.out]; omega)
  injection hv with e1 e2 e3
  clear e2
  injection e1 with e1
  injection e1 with e1
  subst e1 e3
  obtain ⟨hc4, hf4, hset⟩ := hrow 4 (by rw [HL2.out]; omega)
  obtain ⟨ho3, hb3⟩ := hset kind
  have HO3 := Lib.hid ho3; clear ho3
  have HB3 : Hid (Below w.heap.size w (w2.setCell ⟨w.heap.size, 4, none⟩ (byteV kind))) := Lib.hid (HB.out.trans (hb2.trans hb3))
  obtain ⟨u4, hd4⟩ : ∃ u, w2.cell? ⟨w.heap.size, 4, none⟩ = some (byteV u) := ⟨_, hc4⟩
  clear hset hrow ho2 hb2 hb3 hc4
  go_wp2_with fail
  have HC := Lib.hid hrun'; clear hrun'
  clear hd4 hf4
  have HO3a : Hid (Owned (w2.setCell ⟨w.heap.size, 4, none⟩ (.int .u8 (kind.toNat : Int))) w.heap.size (.slice (some ⟨w.heap.size, 0, none⟩) 256 256) ((over Z 0 markL).set 4 kind)) := HO3
  have HB3a : Hid (Below w.heap.size w (w2.setCell ⟨w.heap.size, 4, none⟩ (.int .u8 (kind.toNat : Int)))) := HB3
  clear HO3 HB3
  have HO3 := HO3a
  have HB3 := HB3a
  clear HO3a HB3a
  generalize w2.setCell ⟨w.heap.size, 4, none⟩ (.int .u8 (kind.toNat : Int)) = w3 at HO3 HB3 ⊢
  obtain ⟨b2, hb2⟩ : ∃ b, b = (over Z 0 markL).set 4 kind := ⟨_, rfl⟩
  rw [← hb2] at HO3 H3
  clear hb2 HL2 HZL HMK HO HB HG HC
  have HO3' : Hid (Owned w3.drew w.heap.size (.slice (some ⟨w.heap.size, 0, none⟩) 256 256) b2) := HO3
  have HZ3 : Hid (w.heap.size ≤ w3.drew.heap.size) := Lib.hid HB3.out.size
  go_region_with (go_at_call 12; refine (bytes_laid _ seq 8 rfl _ w.heap.size w.heap.size 256 256 b2 8 248 248 HO3'.out HZ3.out (by omega) (by omega) (by omega) (by omega)).mono ?_; rintro e w4 ⟨A4, c4, w5, rfl, hrun5, ho5, hb5⟩; have HO5 := Lib.hid ho5; have HB5 := Lib.hid hb5; clear ho5 hb5)
  all_goals
    clear hrun5
    have HB5w : Hid (Below w.heap.size w w5) := Lib.hid (HB3.out.drew.trans HB5.out)
    obtain ⟨w6, hrun6, ho6, hb6⟩ := run_copy_bytes w5 3 w.heap.size w.heap.size 256 256 (over b2 8 (bytesL seq 8)) rest 16 240 240 HO5.out B A n c (H.out.below (HB5w.out.mono hB)) h0 (by omega) (by omega)
    rw [H3.out] at ho6
    obtain ⟨b4, hb4⟩ : ∃ b, b = own4 kind seq rest := ⟨_, rfl⟩
    have ho6' : Owned w6 w.heap.size (.slice (some ⟨w.heap.size, 0, none⟩) 256 256) b4 := by rw [hb4]; exact ho6
    have hend : over b4 252 (bytesL (sum (b4.take 252)) 4) = ownL kind seq rest := by rw [hb4]; rfl
    have HEND := Lib.hid hend; clear hend
    have HO6 := Lib.hid ho6'; clear ho6 ho6' hb4
    have HB6 : Hid (Below w.heap.size w w6) := Lib.hid (HB5w.out.trans hb6)
    clear hb6
    go_wp2_with fail
    clear hrun6
    have HO6' : Hid (Owned w6.drew w.heap.size (.slice (some ⟨w.heap.size, 0, none⟩) 256 256) b4) := HO6
    have HB6' : Hid (Below w.heap.size w w6.drew) := Lib.hid HB6.out.drew
    have HR6 : Hid (Holds w6.drew w6.drew.heap.size (some ⟨w.heap.size, 0, none⟩) 252 (b4.take 252)) := Lib.hid ((Owned.reads HO6'.out).take (by omega))
    go_region_with
      (first
        | (go_at_call 13
           refine (sum_any (some ⟨w.heap.size, 0, none⟩) 252 256 (b4.take 252) _ HR6.out (by unfold maxLen; omega)).mono ?_
           rintro e w7 ⟨rfl, hb7⟩
           have HO7 := Lib.hid (Owned.keep HO6'.out hb7 (Nat.le_refl _))
           have HB7 : Hid (Below w.heap.size w w7) := Lib.hid (HB6'.out.trans (hb7.mono HB6'.out.size))
           clear hb7)
        | (go_at_call 12
           refine (bytes_laid _ (sum (b4.take 252)) 4 (wrap_sum _) _ w.heap.size w.heap.size 256 256 b4 252 4 4 HO7.out HB7.out.size (by omega) (by omega) (by omega) (by omega)).mono ?_
           rintro e w8 ⟨A8, c8, w9, rfl, hrun9, ho9, hb9⟩
           have HO9 := Lib.hid ho9
           have HB9 : Hid (Below w.heap.size w w9) := Lib.hid (HB7.out.trans hb9)
           clear ho9 hb9))
    all_goals
      clear hrun9
      go_wp2
      go_ret
      have ho := HO9.out
      rw [HEND.out] at ho
      exact ⟨_, _, rfl, ho, HB9.out⟩
end Go.Proofs.Ytjbelbhcdbbelaa.Rec

namespace Go.Proofs.Ytjbelbhcdbbelaa.Rec
set_option maxRecDepth 20000
open Go.RowKit
open Go.Proofs.Ytjbelbhcdbbelaa.Mem Go.Proofs.Ytjbelbhcdbbelaa.Crc

/-- A Write: its block's number, and what it is to hold. -/
abbrev Wt := Int × List UInt8
structure Tx where
  seq : Nat
  ws : List Wt
  rs : List Int
def IsInt (x : Int) : Prop := -9223372036854775808 ≤ x ∧ x ≤ 9223372036854775807

def HoldsW (w : World) (B : Nat) (A : Option Addr) (n : Nat) (ws : List Wt) : Prop :=
  ws.length = n ∧ (0 < n → ∃ b off, A = some ⟨b, off, none⟩ ∧ b < B ∧ ∀ k x, ws[k]? = some x → w.cell? ⟨b, off + k * 2, none⟩ = some (.int .i64 x.1) ∧
    ∃ A' c', w.cell? ⟨b, off + k * 2 + 1, none⟩ = some (.slice A' x.2.length c') ∧ Holds w B A' x.2.length x.2 ∧ x.2.length ≤ c' ∧ c' ≤ maxLen)
def HoldsI (w : World) (B : Nat) (A : Option Addr) (n : Nat) (rs : List Int) : Prop :=
  rs.length = n ∧ (0 < n → ∃ b off, A = some ⟨b, off, none⟩ ∧ b < B ∧ ∀ k x, rs[k]? = some x → w.cell? ⟨b, off + k, none⟩ = some (.int .i64 x))

theorem HoldsW.below {w w' : World} {B : Nat} {A : Option Addr} {n : Nat} {ws : List Wt} (h : HoldsW w B A n ws) (hb : Below B w w') : HoldsW w' B A n ws :=
  ⟨h.1, fun hn => by
    obtain ⟨b, off, e, hl, hc⟩ := h.2 hn
    refine ⟨b, off, e, hl, fun k x hx => ?_⟩
    obtain ⟨h1, A', c', h2, h3, h4, h5⟩ := hc k x hx
    exact ⟨(hb.cell (p := ⟨b, off + k * 2, none⟩) hl).trans h1, A', c', (hb.cell (p := ⟨b, off + k * 2 + 1, none⟩) hl).trans h2, h3.below hb, h4, h5⟩⟩
theorem HoldsW.more {w : World} {B B' : Nat} {A : Option Addr} {n : Nat} {ws : List Wt} (h : HoldsW w B A n ws) (hB : B ≤ B') : HoldsW w B' A n ws :=
  ⟨h.1, fun hn => by
    obtain ⟨b, off, e, hl, hc⟩ := h.2 hn
    refine ⟨b, off, e, by omega, fun k x hx => ?_⟩
    obtain ⟨h1, A', c', h2, h3, h4, h5⟩ := hc k x hx
    exact ⟨h1, A', c', h2, h3.more hB, h4, h5⟩⟩
theorem HoldsI.below {w w' : World} {B : Nat} {A : Option Addr} {n : Nat} {rs : List Int} (h : HoldsI w B A n rs) (hb : Below B w w') : HoldsI w' B A n rs :=
  ⟨h.1, fun hn => by
    obtain ⟨b, off, e, hl, hc⟩ := h.2 hn
    exact ⟨b, off, e, hl, fun k x hx => (hb.cell (p := ⟨b, off + k, none⟩) hl).trans (hc k x hx)⟩⟩
theorem HoldsI.more {w : World} {B B' : Nat} {A : Option Addr} {n : Nat} {rs : List Int} (h : HoldsI w B A n rs) (hB : B ≤ B') : HoldsI w B' A n rs :=
  ⟨h.1, fun hn => by
    obtain ⟨b, off, e, hl, hc⟩ := h.2 hn
    exact ⟨b, off, e, by omega, hc⟩⟩

structure TxAt (w : World) (B : Nat) (t : Tx) (Aw : Option Addr) (nw cw : Nat) (Ar : Option Addr) (nr cr : Nat) : Prop where
  ws : HoldsW w B Aw nw t.ws
  rs : HoldsI w B Ar nr t.rs
  seq : t.seq < 18446744073709551616
  fits : nw ≤ cw ∧ nw ≤ 140737488355328 ∧ nr ≤ cr ∧ nr ≤ 140737488355328
  intW : ∀ x ∈ t.ws, IsInt x.1
  intR : ∀ x ∈ t.rs, IsInt x
theorem TxAt.below {w w' : World} {B : Nat} {t : Tx} {Aw Ar : Option Addr} {nw cw nr cr : Nat} (h : TxAt w B t Aw nw cw Ar nr cr) (hb : Below B w w') : TxAt w' B t Aw nw cw Ar nr cr :=
  ⟨h.ws.below hb, h.rs.below hb, h.seq, h.fits, h.intW, h.intR⟩
theorem TxAt.more {w : World} {B B' : Nat} {t : Tx} {Aw Ar : Option Addr} {nw cw nr cr : Nat} (h : TxAt w B t Aw nw cw Ar nr cr) (hB : B ≤ B') : TxAt w B' t Aw nw cw Ar nr cr :=
  ⟨h.ws.more hB, h.rs.more hB, h.seq, h.fits, h.intW, h.intR⟩

/-! In plain words -/
def Tx.nums (t : Tx) : List Int := t.ws.map (·.1) ++ t.rs
structure Tx.May (t : Tx) : Prop where
  lo : 1 ≤ t.ws.length + t.rs.length
  hi : t.ws.length + t.rs.length ≤ 58
  data : ∀ x ∈ t.ws, x.2.length = 256
  nums : ∀ x ∈ t.nums, 0 ≤ x ∧ x < 1048576
  once : t.nums.Nodup
def numb (x : Wt) : Nat := if looks x.2 then x.1.toNat + 2147483648 else x.1.toNat
def numBs (ws : List Wt) : List UInt8 := ws.flatMap fun x => bytesL (numb x) 4
def revBs (rs : List Int) : List UInt8 := rs.flatMap fun x => bytesL x.toNat 4
def Tx.slots (t : Tx) : List UInt8 := bytesL t.ws.length 2 ++ bytesL t.rs.length 2 ++ numBs t.ws ++ revBs t.rs
def bodyL (ws : List Wt) : List UInt8 := ws.flatMap fun x => bareL x.2
def Tx.head (t : Tx) : List UInt8 := ownL 1 t.seq t.slots ++ bodyL t.ws
def Tx.enc (t : Tx) : List UInt8 := t.head ++ ownL 2 t.seq (bytesL (sum t.head) 4)

theorem numBs_snoc (ws : List Wt) (k : Nat) (x : Wt) (h : ws[k]? = some x) : numBs (ws.take (k + 1)) = numBs (ws.take k) ++ bytesL (numb x) 4 := by
  obtain ⟨hk, rfl⟩ := List.getElem?_eq_some_iff.1 h
  rw [List.take_succ_eq_append_getElem hk]; unfold numBs; rw [List.flatMap_append, List.flatMap_cons, List.flatMap_nil, List.append_nil]
theorem revBs_snoc (rs : List Int) (k : Nat) (x : Int) (h : rs[k]? = some x) : revBs (rs.take (k + 1)) = revBs (rs.take k) ++ bytesL x.toNat 4 := by
  obtain ⟨hk, rfl⟩ := List.getElem?_eq_some_iff.1 h
  rw [List.take_succ_eq_append_getElem hk]; unfold revBs; rw [List.flatMap_append, List.flatMap_cons, List.flatMap_nil, List.append_nil]
theorem bodyL_snoc (ws : List Wt) (k : Nat) (x : Wt) (h : ws[k]? = some x) : bodyL (ws.take (k + 1)) = bodyL (ws.take k) ++ bareL x.2 := by
  obtain ⟨hk, rfl⟩ := List.getElem?_eq_some_iff.1 h
  rw [List.take_succ_eq_append_getElem hk]; unfold bodyL; rw [List.flatMap_append, List.flatMap_cons, List.flatMap_nil, List.append_nil]
theorem numBs_len (ws : List Wt) : (numBs ws).length = 4 * ws.length := by
  induction ws with
  | nil => rfl
  | cons x r ih => simp only [numBs, List.flatMap_cons, List.length_append, bytesL_len, List.length_cons] at ih ⊢; omega
theorem revBs_len (rs : List Int) : (revBs rs).length = 4 * rs.length := by
  induction rs with
  | nil => rfl
  | cons x r ih => simp only [revBs, List.flatMap_cons, List.length_append, bytesL_len, List.length_cons] at ih ⊢; omega
theorem slots_len (t : Tx) : t.slots.length = 4 + 4 * t.ws.length + 4 * t.rs.length := by
  unfold Tx.slots
  simp only [List.length_append, bytesL_len, numBs_len, revBs_len]
theorem bodyL_len (ws : List Wt) (h : ∀ x ∈ ws, x.2.length = 256) : (bodyL ws).length = 256 * ws.length := by
  induction ws with
  | nil => rfl
  | cons x r ih =>
    have h1 := ih (fun y hy => h y (by simp [hy]))
    have h2 := h x (by simp)
    simp only [bodyL, List.flatMap_cons, List.length_append, bareL_len, List.length_cons] at h1 ⊢
    omega
theorem head_len (t : Tx) (h : t.May) : t.head.length = 256 * (t.ws.length + 1) := by
  have hs := slots_len t
  have hi := h.hi
  unfold Tx.head
  rw [List.length_append, ownL_len _ _ _ (by omega), bodyL_len _ h.data]; omega
theorem enc_len (t : Tx) (h : t.May) : t.enc.length = 256 * (t.ws.length + 2) := by
  unfold Tx.enc
  rw [List.length_append, head_len t h, ownL_len _ _ _ (by rw [bytesL_len]; omega)]; omega
theorem numb_bits (x : Wt) (h : 0 ≤ x.1 ∧ x.1 < 1048576) : numb x < 4294967296 ∧ (looks x.2 = false → (numb x : Int) = x.1) ∧ (looks x.2 = true → (numb x : Int) = x.1 + 2147483648) := by
  unfold numb
  refine ⟨?_, fun e => ?_, fun e => ?_⟩
  · split <;> omega
  · rw [e]; simp; omega
  · rw [e]; simp; omega
end Go.Proofs.Ytjbelbhcdbbelaa.Rec

namespace Go.Proofs.Ytjbelbhcdbbelaa.Rec
set_option maxRecDepth 20000
open Go.RowKit
open Go.Proofs.Ytjbelbhcdbbelaa.Mem Go.Proofs.Ytjbelbhcdbbelaa.Crc

theorem over_mid (a b c y : List UInt8) (k : Nat) (hk : k = a.length) (h : y.length = b.length) : over (a ++ (b ++ c)) k y = a ++ (y ++ c) := by
  subst hk
  unfold over
  rw [List.take_left, h, ← List.append_assoc a b c, List.drop_left' (by simp)]
def headL (kind : UInt8) (seq : Nat) : List UInt8 := markL ++ [kind, 0, 0, 0] ++ bytesL seq 8
theorem headL_len (kind : UInt8) (seq : Nat) : (headL kind seq).length = 16 := by
  unfold headL
  simp only [List.length_append, bytesL_len]; rfl
theorem zeros_add (a b : Nat) : List.replicate (a + b) (0 : UInt8) = List.replicate a 0 ++ List.replicate b 0 := (List.replicate_append_replicate).symm
theorem own1_eq : over (List.replicate 256 0) 0 markL = markL ++ List.replicate 252 0 := by
  have h := over_mid [] (List.replicate 4 0) (List.replicate 252 0) markL 0 rfl rfl
  rw [← zeros_add] at h
  exact h
theorem own2_eq (kind : UInt8) : (over (List.replicate 256 0) 0 markL).set 4 kind = (markL ++ [kind, 0, 0, 0]) ++ (List.replicate 8 0 ++ List.replicate 240 0) := by
  rw [own1_eq, ← zeros_add, show (252 : Nat) = 4 + 248 from rfl, zeros_add]
  rfl
theorem own3_eq (kind : UInt8) (seq : Nat) : own3 kind seq = headL kind seq ++ List.replicate 240 0 := by
  unfold own3
  rw [own2_eq, over_mid _ _ _ _ 8 rfl (by rw [bytesL_len, List.length_replicate])]
  unfold headL
  rw [List.append_assoc, List.append_assoc, List.append_assoc]
theorem own4_eq (kind : UInt8) (seq : Nat) (rest : List UInt8) (h : rest.length ≤ 236) : own4 kind seq rest = (headL kind seq ++ rest ++ List.replicate (236 - rest.length) 0) ++ (List.replicate 4 0 ++ []) := by
  unfold own4
  rw [own3_eq, show (240 : Nat) = rest.length + (240 - rest.length) by omega, zeros_add, over_mid _ _ _ _ 16 (headL_len _ _).symm (by rw [List.length_replicate])]
  rw [show 240 - rest.length = (236 - rest.length) + 4 by omega, zeros_add]
  simp only [List.append_assoc, List.append_nil]
/-- The first 252 bytes of one of the record's own blocks. -/
def ownP (kind : UInt8) (seq : Nat) (rest : List UInt8) : List UInt8 := headL kind seq ++ rest ++ List.replicate (236 - rest.length) 0
theorem ownP_len (kind : UInt8) (seq : Nat) (rest : List UInt8) (h : rest.length ≤ 236) : (ownP kind seq rest).length = 252 := by
  unfold ownP
  simp only [List.length_append, headL_len, List.length_replicate]; omega
theorem ownL_eq (kind : UInt8) (seq : Nat) (rest : List UInt8) (h : rest.length ≤ 236) : ownL kind seq rest = ownP kind seq rest ++ bytesL (sum (ownP kind seq rest)) 4 := by
  have hl := ownP_len kind seq rest h
  have e : own4 kind seq rest = ownP kind seq rest ++ (List.replicate 4 0 ++ []) := own4_eq kind seq rest h
  unfold ownL
  rw [e, List.take_left' hl, over_mid _ _ _ _ 252 hl.symm (by rw [bytesL_len]; rfl)]
  rw [List.append_nil]
theorem bareL_eq (bs : List UInt8) (h : looks bs = true) : bareL bs = [0, 0, 0, 0] ++ bs.drop 4 := by
  unfold bareL
  rw [h]
  rfl
theorem bareL_not (bs : List UInt8) (h : looks bs = false) : bareL bs = bs := by
  unfold bareL
  rw [h]; rfl
end Go.Proofs.Ytjbelbhcdbbelaa.Rec
