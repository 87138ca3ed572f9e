/- Another byte anywhere makes another sum, and the same byte the same one: proved for every list of bytes, every place and every byte, within the form's own reach. -/
import Derived.Test.YtemkdnakkdnbhaaLift
import Derived.Deep.RegionWith
namespace Go.Proofs.Ytemkdnakkdnbhaa.CrcOne
open Go.ChangeShapes Go.WideShapes Go.ChangeAt Go.RowKit
open Go.Proofs.Ytemkdnakkdnbhaa.Crc Go.Proofs.Ytemkdnakkdnbhaa.Lift

theorem place (a : Int) (n : Nat) (h0 : 0 < n) (hn : n ≤ 140737488351232) : ∃ k : Nat, k < n ∧ wrap64 ((IntKind.u64.wrap a).tmod (n : Int)) = (k : Int) := by
  have hx : 0 ≤ IntKind.u64.wrap a := by rw [IntKind.wrap_u64]; omega
  generalize IntKind.u64.wrap a = x at hx
  rw [Int.tmod_eq_emod_of_nonneg hx]
  have h1 := Int.emod_nonneg x (show (n : Int) ≠ 0 by omega)
  have h2 := Int.emod_lt_of_pos x (show (0 : Int) < n by omega)
  refine ⟨(x % (n : Int)).toNat, by omega, ?_⟩
  unfold wrap64
  omega

/-- Another byte, another sum. -/
theorem sum_set (bs : List UInt8) (k : Nat) (hk : k < bs.length) (u : UInt8) (hne : u ≠ bs[k]) : sum (bs.set k u) ≠ sum bs := by
  have hx : bs[k] ^^^ u ≠ 0 := by
    intro e
    apply hne
    have : bs[k] ^^^ (bs[k] ^^^ u) = bs[k] ^^^ 0 := by rw [e]
    rw [← UInt8.xor_assoc] at this
    simpa using this
  have hs := num_set bs k (bs[k] ^^^ u) hk
  rw [← UInt8.xor_assoc, UInt8.xor_self, UInt8.zero_xor] at hs
  refine sum_burst (bs.set k u) bs (8 * k) (bs[k] ^^^ u).toNat (by simp) ?_ (by simp; omega) (by have := (bs[k] ^^^ u).toNat_lt; omega) ?_
  · rw [hs, Nat.xor_comm (num bs), Nat.xor_assoc, Nat.xor_self, Nat.xor_zero]
  · intro e
    exact hx (UInt8.toNat_inj.1 (by simpa using e))

set_option maxRecDepth 100000 in
theorem walk (A : Option Addr) (n c : Nat) (bs : List UInt8) (a : Int) (u : UInt8) (w : World) (h : Holds w w.heap.size A n bs) (hm : n ≤ 140737488351232) (h0 : 0 < n) :
    Calls Try.prog 9 #[.slice A n c, .int .i64 a, .int .u8 (u.toNat : Int)] w fun e w' => e = .returned (.bool true) ∧ Below w.heap.size w w' := by
  obtain rfl : bs.length = n := h.1
  have hn : bs.length ≤ maxLen := by unfold maxLen; omega
  have hne : ((bs.length : Int) == 0) = false := beq_eq_false_iff_ne.2 (by omega)
  obtain ⟨k, hk, hK⟩ := place a bs.length h0 hm
  go_enter Try.func9, Try.ntmps9
  go_wp2_with fail
  refine (alive_any w).mono ?_
  rintro e w1 ⟨rfl, hb1⟩
  have hx1 := h.below hb1
  have ho := owned_made w1 [] w.heap.size hb1.size (by unfold maxLen; simp)
  go_wp2_with (at_builtin; refine wpList_addall rfl _ _ rfl w.heap.size _ [] rfl ho w.heap.size A bs.length c bs rfl ?c1 ?c2 ?c3 ?_)
  case c1 => exact hx1.below ((Below.refl _ _).alloc hb1.size _)
  case c2 => simp; omega
  case c3 => have := hb1.size; simp; omega
  intro g w2 ho2 hb2
  have hb2' : Below w.heap.size w w2 := (hb1.alloc hb1.size _).trans hb2
  obtain ⟨g, cap, rfl, hg1, hg2, hcap, hrow⟩ := Owned.row ho2 h0
  obtain ⟨hc, hf, hst⟩ := hrow k hk
  obtain ⟨ho3, hb3⟩ := hst u
  unfold byteV at ho3 hb3 hc
  clear hst hrow hb2 ho ho2 hb1 hx1
  have HO := Lib.hid ho3
  have HB := Lib.hid hb3
  clear ho3 hb3
  go_wp2_with fail
  have hb3 := hb2'.trans HB.out
  have ho3 : Owned _ _ _ _ := HO.out
  clear HB HO hb2' hc hf
  generalize hW : w2.setCell { block := g, off := k } (Value.int IntKind.u8 ↑u.toNat) = w3 at hb3 ho3 ⊢
  have hg3 : g < w3.heap.size := by rw [← hW]; simpa [World.setCell] using hg2
  clear hW hg2 hg1 hcap
  obtain ⟨A3, c3, e3, hh⟩ := Owned.holds ho3
  rw [List.length_set] at e3 hh
  rw [e3]
  clear e3 ho3 hg3
  have hx3 := (h.below hb3).more hb3.size
  have hT : (((sum (bs.set k u) : Nat) : Int) == ((sum bs : Nat) : Int)) = ((u.toNat : Int) == (bs[k].toNat : Int)) := by
    by_cases e : u = bs[k]
    · rw [e, List.set_getElem_self]; simp
    · have h1 := sum_set bs k hk u e
      have h2 : u.toNat ≠ bs[k].toNat := fun e' => e (UInt8.toNat_inj.1 e')
      rw [beq_eq_false_iff_ne.2 (by omega), beq_eq_false_iff_ne.2 (by omega)]
  have T := Lib.hid hT
  obtain ⟨hl, hcc⟩ := hx3
  obtain ⟨b, off, rfl, hbl, hcell⟩ := hcc h0
  have hx3 : Holds w3 w3.heap.size (some ⟨b, off, none⟩) bs.length bs := ⟨hl, hcc⟩
  have hc0 := hcell k hk
  have hA : ∀ w', Below w3.heap.size w3 w' → _ := fun w' hw => sum_later w3 A3 bs.length c3 (bs.set k u) (by simpa using hh) hn w' hw
  have hB : ∀ w', Below w3.heap.size w3 w' → _ := fun w' hw => sum_later w3 (some ⟨b, off, none⟩) bs.length c bs hx3 hn w' hw
  have HA := Lib.hid hA
  have HB := Lib.hid hB
  generalize (bs[k]).toNat = m at hT T hc0
  generalize sum (bs.set k u) = s1 at hT T hA HA
  generalize sum bs = s2 at hT T hB HB
  clear hT hA hB hcell hcc hx3 hh h hl
  go_region_with (first
    | (go_at_call_of 11 A3; refine (HA.out _ ?_).mono ?_; (repeat (first | assumption | exact Below.refl _ _ | apply Below.drew)); rintro e w' ⟨rfl, hb'⟩; have hc' := (hb'.cell (p := ⟨b, off + k, none⟩) hbl).trans hc0)
    | (go_at_call_of 11 c; refine (HB.out _ ?_).mono ?_; (repeat (first | assumption | exact Below.refl _ _ | apply Below.drew)); rintro e w' ⟨rfl, hb'⟩; have hc' := (hb'.cell (p := ⟨b, off + k, none⟩) hbl).trans hc0))
  all_goals
    go_wp2_with fail
    go_simp
    go_ret
    refine ⟨by
      change Ending.returned (Value.bool (((s1 : Int) == (s2 : Int)) == ((u.toNat : Int) == (m : Int)))) = _
      rw [T.out, beq_self_eq_true], hb3.trans (Below.mono ?_ hb3.size)⟩
    (repeat (first | assumption | apply Below.drew))

theorem sum_nothing : sum [] = 0 := by decide

set_option maxRecDepth 100000 in
theorem walk_none (A : Option Addr) (c : Nat) (a : Int) (u : Int) (w : World) :
    Calls Try.prog 9 #[.slice A 0 c, .int .i64 a, .int .u8 u] w fun e w' => e = .returned (.bool true) ∧ Below w.heap.size w w' := by
  go_enter Try.func9, Try.ntmps9
  go_wp2_with fail
  refine (alive_any w).mono ?_
  rintro e w1 ⟨rfl, hb1⟩
  go_wp2_with fail
  refine (sum_any none 0 0 [] _ ⟨rfl, fun h => absurd h (by omega)⟩ (by omega)).mono ?_
  rintro e w2 ⟨rfl, hb⟩
  rw [sum_nothing]
  have hb2 := hb1.trans (hb.mono hb1.size)
  go_wp2
  go_ret
  exact ⟨rfl, hb2⟩

theorem walks : Walks 9 Try.f9 All := by
  intro H enc W base args ds p hval hA hsz _
  rw [Try.params9] at hA hval hsz
  obtain ⟨v0, vs0, d0, ds0, p0, q0, hargs, rfl, rfl, h0, r0⟩ := trodAll_cons hA
  obtain ⟨v1, vs1, d1, ds1, p1, q1, rfl, rfl, rfl, h1, r1⟩ := trodAll_cons r0
  obtain ⟨v2, vs2, d2, ds2, p2, q2, rfl, rfl, rfl, h2, r2⟩ := trodAll_cons r1
  obtain ⟨rfl, rfl, rfl⟩ := trodAll_nil r2
  obtain rfl : args = #[v0, v1, v2] := by cases args; simp_all
  obtain ⟨A, n, c, bs, rfl, hb, _, hn⟩ := open_bytes (hval 0 _ v0 rfl rfl) h0 _ (reach_bytes hsz (j := 0) rfl rfl)
  obtain ⟨x, rfl, rfl, rfl, hx⟩ := open_int Try.underlying3 (hval 1 _ v1 rfl rfl) h1
  obtain ⟨y, rfl, rfl, rfl, hy⟩ := open_int Try.underlying5 (hval 2 _ v2 rfl rfl) h2
  have bY := bounds_u8 hy
  obtain ⟨u, rfl⟩ : ∃ u : UInt8, y = (u.toNat : Int) := ⟨UInt8.ofNat y.toNat, by simp; omega⟩
  rcases Nat.eq_zero_or_pos n with hz | hz
  · subst hz
    exact walk_none A c x _ W
  · exact walk A n c bs x u W hb hn hz

set_option maxRecDepth 100000 in
theorem proved : Rows.CrcOneSaid :=
  OpenClaim.holds_of_wide 9 Try.f9 rfl rfl rfl rfl rfl rfl rfl ⟨rfl, rfl, rfl, rfl, rfl⟩ rfl rfl rfl rfl rfl (by kernel_rfl) Try.func9 (by kernel_rfl)
    (of_decide_eq_true (by kernel_rfl)) (by unfold Func.isWrapper; first | (rw [if_pos (by decide +kernel)]; kernel_rfl) | (rw [if_neg (by decide +kernel)]; exact ⟨rfl, rfl⟩))
    (fun os started H enc _ => lifted (s := Rows.crcOneSpec) walks (by kernel_rfl) rfl rfl (fun H ds hl => by match ds, hl with | [d1, d2, d3], _ => rfl) (by kernel_rfl) Try.func9 os started H enc
      (ChangeSpec.witness6 (enc := enc) (C := Try.checked) false ⟨#[], #[.slice none 0 0, .int .i64 0, .int .u8 0], []⟩ 8 (by kernel_rfl) (by kernel_rfl) (by kernel_rfl) (by kernel_rfl)))
#print axioms proved
end Go.Proofs.Ytemkdnakkdnbhaa.CrcOne
