/- A deed: one of Add, Remove and Set. -/
import Derived.Test.YtbagocghlijleaaGreatHtAd
import Derived.Laws.BitsAllLaws
namespace Go.Proofs.YtbagocghlijleaaGreat.Ht
set_option maxRecDepth 20000
open Go.RowKit
open Go.Proofs.YtbagocghlijleaaGreat.Mem Go.Proofs.YtbagocghlijleaaGreat.Crc Go.Proofs.YtbagocghlijleaaGreat.Rec Go.Proofs.YtbagocghlijleaaGreat.Reg Go.Proofs.YtbagocghlijleaaGreat.Lf
attribute [local go_sem ↓] ldE_eq stE_eq ldX_eq stX_eq ldR_eq stR_eq ldQ_eq stQ_eq

def eA : Nm := ⟨[97], 7⟩
theorem okA : okN eA = true := by decide
theorem new_leaf (t : List UInt8) : leafAt [(⟨0, 0⟩, [])] t = (⟨0, 0⟩, []) := List.mem_singleton.1 (((readD_iff _ _).1 readD_new).leaf_mem t)
theorem rightA : right [eA] = true := (right_iff _).2 ⟨fun x hx => by rw [List.mem_singleton.1 hx]; exact okA, List.pairwise_singleton _ _⟩
theorem encA : enc (sortR ordN [eA]) = (blockL [eA], 0) := enc_yes rightA (by decide)
def dA : List (List UInt8) := [blockL [eA]]
theorem addA : addD newD eA = (dA, 0) := by
  unfold addD
  rw [readD_new]
  dsimp only
  rw [if_neg (by rw [okA]; decide), new_leaf, if_neg (by decide)]
  have hw : withL newD ((⟨0, 0⟩, []) : Rw × List Nm).1.b (((⟨0, 0⟩, []) : Rw × List Nm).2 ++ [eA]) = some dA := by
    show withL newD 0 [eA] = some dA
    unfold withL
    rw [encA, if_pos rfl]
    rfl
  rw [hw]
theorem readA : ∃ U, readD dA = some U ∧ ∀ x, has U x ↔ x = eA := by
  obtain ⟨_, _, U, h1, h2⟩ := addD_ok readD_new addA
  exact ⟨U, h1, fun x => by rw [h2]; exact ⟨fun h => h.elim id (fun h => absurd h (has_new x)), fun h => .inl h⟩⟩
theorem findA : findD dA [97] = (7, 0) := by
  obtain ⟨U, hU, hx⟩ := readA
  rcases findD_ok hU [97] with ⟨h, _⟩ | ⟨_, h, _⟩ | ⟨_, x, h1, h2, h3⟩
  · exact absurd h (by decide)
  · exact absurd rfl (h eA ((hx eA).2 rfl))
  · rw [h3, (hx x).1 h1]; rfl
theorem againA : addD dA ⟨[97], 0⟩ = ([], 4) := by
  obtain ⟨U, hU, hx⟩ := readA
  rcases addD_ways hU ⟨[97], 0⟩ with ⟨h, _⟩ | ⟨_, _, h⟩ | ⟨_, h, _⟩
  · exact absurd h (by decide)
  · exact h
  · exact absurd rfl (h eA ((hx eA).2 rfl))
theorem nilA : chkD [] = 13 := by decide

set_option maxRecDepth 100000 in
set_option maxHeartbeats 8000000 in
theorem alive_any (w : World) :
    Calls Tryz.prog 9 #[] w fun e w' => e = .returned (.bool true) ∧ Below w.heap.size w w' := by
  have hnew := New_any w
  have HNEW := Lib.hid hnew; clear hnew
  have hblk : (blockL [eA]).length = 256 := blockL_len (by decide)
  have HBLK := Lib.hid hblk; clear hblk
  obtain ⟨post, hpost⟩ : ∃ post : Ending → World → Prop, post = fun e w' => e = .returned (.bool true) ∧ Below w.heap.size w w' := ⟨_, rfl⟩
  rw [← hpost]
  have HP := Lib.hid hpost; clear hpost
  go_enter Tryz.func9, Tryz.ntmps9
  go_wp2_with fail
  with_reducible refine HNEW.out.mono ?_
  rintro E1 w1 ⟨A1, c1, rfl, ho1, hb1⟩
  clear HNEW
  have hadd := Add_any A1 1 c1 w1.heap.size newD eA ⟨⟨by decide, by decide⟩, by decide⟩ w1 ho1.reads (Nat.le_refl _) (by omega) (fun b hb => by rw [List.mem_singleton.1 hb, blockL_len (by decide)]; omega)
  rw [addA, show eA.c = #[.string ⟨#[97]⟩, .int .i64 7] from rfl] at hadd
  have HADD := Lib.hid hadd
  have HB1 := Lib.hid hb1
  clear hadd ho1 hb1
  go_wp2_with fail
  with_reducible refine HADD.out.mono ?_
  rintro E2 w2 ⟨v2, rfl, ho2, hb2⟩
  clear HADD
  obtain ⟨A2, c2, rfl⟩ := ho2.shape
  have hsz : ∀ b ∈ dA, b.length ≤ 140737488355328 := fun b hb => by rw [List.mem_singleton.1 hb, HBLK.out]; omega
  have hB2 : Below w.heap.size w w2 := HB1.out.trans (hb2.mono HB1.out.size)
  have hfind := Find_any A2 1 c2 w2.heap.size dA [97] (by decide) w2 ho2.reads (Nat.le_refl _) (by omega) hsz
  rw [findA] at hfind
  have HFIND := Lib.hid hfind
  have HB2 := Lib.hid hB2
  have HO2 := Lib.hid ho2
  have HSZ := Lib.hid hsz
  clear hfind hB2 ho2 hb2 hsz
  dsimp only
  rw [show dA.length = 1 from rfl]
  go_wp2_with fail
  with_reducible refine HFIND.out.mono ?_
  rintro E3 w3 ⟨rfl, hb3⟩
  clear HFIND
  have HB3 : Hid (Below w.heap.size w w3) := Lib.hid (HB2.out.trans (hb3.mono HB2.out.size))
  have hagain := Add_any A2 1 c2 w2.heap.size dA ⟨[97], 0⟩ ⟨⟨by decide, by decide⟩, by decide⟩ w3 (HO2.out.reads.below hb3) hb3.size (by omega) HSZ.out
  rw [againA, show (⟨[97], 0⟩ : Nm).c = #[.string ⟨#[97]⟩, .int .i64 0] from rfl] at hagain
  have HAG := Lib.hid hagain
  clear hagain hb3
  go_wp2_with fail
  with_reducible refine HAG.out.mono ?_
  rintro E4 w4 ⟨v4, rfl, ho4, hb4⟩
  clear HAG
  have HB4 : Hid (Below w.heap.size w w4) := Lib.hid (HB3.out.trans (hb4.mono HB3.out.size))
  have hchk := check_any none 0 0 w4.heap.size [] w4 (HoldsN.nil _ _ _) (Nat.le_refl _) (by omega) (fun b hb => by cases hb)
  rw [nilA] at hchk
  have HCHK := Lib.hid hchk
  clear hchk ho4 hb4
  go_wp2_with fail
  with_reducible refine HCHK.out.mono ?_
  rintro E5 w5 ⟨rfl, hb5⟩
  clear HCHK
  have HB5 : Hid (Below w.heap.size w w5) := Lib.hid (HB4.out.trans (hb5.mono HB4.out.size))
  clear hb5
  go_wp2
  rw [HP.out]
  exact ⟨rfl, HB5.out⟩
end Go.Proofs.YtbagocghlijleaaGreat.Ht

namespace Go.Proofs.YtbagocghlijleaaGreat.Ht
set_option maxRecDepth 20000
open Go.RowKit
open Go.Proofs.YtbagocghlijleaaGreat.Mem Go.Proofs.YtbagocghlijleaaGreat.Crc Go.Proofs.YtbagocghlijleaaGreat.Rec Go.Proofs.YtbagocghlijleaaGreat.Reg Go.Proofs.YtbagocghlijleaaGreat.Lf
attribute [local go_sem ↓] ldE_eq stE_eq ldX_eq stX_eq ldR_eq stR_eq ldQ_eq stQ_eq

theorem and_mask (x : Int) (m s : Nat) (hm : m = 2 ^ s - 1) (hs : s ≤ 8) : ∃ k : Nat, k < 2 ^ s ∧ bits .and .i64 x (m : Int) = (k : Int) := by
  have hp : 2 ^ s ≤ 2 ^ 8 := Nat.pow_le_pow_right (by omega) hs
  have h1 : 0 < 2 ^ s := Nat.two_pow_pos s
  have e : (BitVec.ofInt 64 (m : Int)).toNat = m := by
    rw [BitVec.ofInt_natCast, BitVec.toNat_ofNat]; exact Nat.mod_eq_of_lt (by omega)
  have hk : (BitVec.ofInt 64 x &&& BitVec.ofInt 64 (m : Int)).toNat < 2 ^ s := by
    rw [BitVec.toNat_and, e]
    exact Nat.and_lt_two_pow _ (by omega)
  refine ⟨_, hk, ?_⟩
  show IntKind.i64.wrap ((BitVec.ofInt 64 x &&& BitVec.ofInt 64 (m : Int)).toNat : Int) = _
  exact IntWalk.i64_in _ (by omega)
/-- A deed's two last bits. -/
def opK (op : Int) : Int := bits .and .i64 op 3
theorem opK_is (op : Int) : ∃ k : Nat, k < 4 ∧ opK op = (k : Int) := and_mask op 3 2 rfl (by omega)
def doD (d : List (List UInt8)) (op : Int) (e : Nm) : List (List UInt8) × Int :=
  if opK op = 1 then removeD d e.t else if opK op = 2 then setD d e else addD d e

set_option maxRecDepth 100000 in
set_option maxHeartbeats 8000000 in
theorem do_any (A : Option Addr) (n c B : Nat) (d : List (List UInt8)) (op : Int) (e : Nm) (he : e.rep) (w : World) (h : HoldsN w B A n d) (hB : B ≤ w.heap.size) (hn : n ≤ 5864062014634) (hsz : ∀ b ∈ d, b.length ≤ 140737488355328) :
    Calls Tryz.prog 15 #[.slice A n c, .agg #[.int .i64 op, .string ⟨e.t.toArray⟩, .int .i64 e.i]] w (Tree2 w (doD d op e)) := by
  obtain ⟨post, hpost⟩ : ∃ post : Ending → World → Prop, post = Tree2 w (doD d op e) := ⟨_, rfl⟩
  rw [← hpost]
  have HP := Lib.hid hpost; clear hpost
  obtain ⟨W0, hW0⟩ : ∃ W0, W0 = w.alloc (.cells #[.int .i64 op, .string ⟨e.t.toArray⟩, .int .i64 e.i] 33) := ⟨_, rfl⟩
  have hnew : W0.heap[w.heap.size]? = some (.cells #[.int .i64 op, .string ⟨e.t.toArray⟩, .int .i64 e.i] 33 (0, 0)) := by rw [hW0]; exact heap_alloc_new w _
  have hb0 : Below w.heap.size w W0 := by rw [hW0]; exact (Below.refl _ w).alloc (Nat.le_refl _) _
  have q0 := cell_of_row W0 _ 0 _ _ _ hnew
  have q1 := cell_of_row W0 _ 1 _ _ _ hnew
  have q2 := cell_of_row W0 _ 2 _ _ _ hnew
  have h0 := h.below (hb0.mono hB)
  have hB0 : B ≤ W0.heap.size := Nat.le_trans hB hb0.size
  have hadd := Add_any A n c B d e he W0 h0 hB0 hn hsz
  have hset := Set_any A n c B d e he W0 h0 hB0 hn hsz
  have hrem := Remove_any A n c B d e.t he.t W0 h0 hB0 hn hsz
  have hec : e.c = #[.string ⟨e.t.toArray⟩, .int .i64 e.i] := rfl
  rw [hec] at hadd hset
  have HADD := Lib.hid hadd
  have HSET := Lib.hid hset
  have HREM := Lib.hid hrem
  have HB0 := Lib.hid hb0
  have HW0 := Lib.hid hW0
  obtain ⟨k, hk, hop⟩ := opK_is op
  have hbits : bits .and .i64 op 3 = (k : Int) := hop
  have HOP := Lib.hid hop
  have hback : ∀ r E w', Tree2 W0 r E w' → Tree2 w r E w' := fun r E w' ⟨v, h1, h2, h3⟩ => ⟨v, h1, h2.mono HB0.out.size, HB0.out.trans (h3.mono HB0.out.size)⟩
  have HBACK := Lib.hid hback
  rw [hW0] at q0 q1 q2
  clear hadd hset hrem hec hb0 hnew hW0 h0 hB0 h hsz hop hback
  go_enter Tryz.func15, Tryz.ntmps15
  rcases (show k = 1 ∨ k = 2 ∨ k = 0 ∨ k = 3 by omega) with rfl | rfl | rfl | rfl
  · skip
    go_wp2_with fail
    rw [← HW0.out]
    with_reducible refine HREM.out.mono ?_
    rintro E W1 hres
    obtain ⟨v, rfl, ho, hb⟩ := HBACK.out _ E W1 hres
    have HO := Lib.hid ho
    have HB1 := Lib.hid hb
    clear ho hb hres
    go_wp2
    rw [HP.out, show doD d op e = removeD d e.t from by unfold doD; rw [HOP.out]; rfl]
    exact ⟨v, rfl, HO.out, HB1.out⟩
  · skip
    go_wp2_with fail
    rw [← HW0.out]
    with_reducible refine HSET.out.mono ?_
    rintro E W1 hres
    obtain ⟨v, rfl, ho, hb⟩ := HBACK.out _ E W1 hres
    have HO := Lib.hid ho
    have HB1 := Lib.hid hb
    clear ho hb hres
    go_wp2
    rw [HP.out, show doD d op e = setD d e from by unfold doD; rw [HOP.out]; rfl]
    exact ⟨v, rfl, HO.out, HB1.out⟩
  · skip
    go_wp2_with fail
    rw [← HW0.out]
    with_reducible refine HADD.out.mono ?_
    rintro E W1 hres
    obtain ⟨v, rfl, ho, hb⟩ := HBACK.out _ E W1 hres
    have HO := Lib.hid ho
    have HB1 := Lib.hid hb
    clear ho hb hres
    go_wp2
    rw [HP.out, show doD d op e = addD d e from by unfold doD; rw [HOP.out]; rfl]
    exact ⟨v, rfl, HO.out, HB1.out⟩
  · skip
    go_wp2_with fail
    rw [← HW0.out]
    with_reducible refine HADD.out.mono ?_
    rintro E W1 hres
    obtain ⟨v, rfl, ho, hb⟩ := HBACK.out _ E W1 hres
    have HO := Lib.hid ho
    have HB1 := Lib.hid hb
    clear ho hb hres
    go_wp2
    rw [HP.out, show doD d op e = addD d e from by unfold doD; rw [HOP.out]; rfl]
    exact ⟨v, rfl, HO.out, HB1.out⟩
end Go.Proofs.YtbagocghlijleaaGreat.Ht
