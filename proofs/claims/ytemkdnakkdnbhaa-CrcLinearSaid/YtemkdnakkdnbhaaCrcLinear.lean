/- The sum of the exclusive or of three lists of bytes is the exclusive or of their sums, as far as the shortest goes: proved for any three lists, within the form's own reach. -/
import Derived.Test.YtemkdnakkdnbhaaLift
import Derived.Deep.RegionLaw
import Derived.WalkLawsBesides
namespace Go.Proofs.Ytemkdnakkdnbhaa.CrcLinear
open Go.ChangeShapes Go.WideShapes Go.ChangeAt Go.RowKit
open Go.Proofs.Ytemkdnakkdnbhaa.Crc Go.Proofs.Ytemkdnakkdnbhaa.Lift

/-- The first k exclusive ors. -/
def xors (as_ bs cs : List UInt8) (k : Nat) : List UInt8 := List.zipWith (fun x y => x ^^^ y) (List.zipWith (fun x y => x ^^^ y) (as_.take k) (bs.take k)) (cs.take k)
theorem xors_len (xs ys zs : List UInt8) (k : Nat) (h1 : k ≤ xs.length) (h2 : k ≤ ys.length) (h3 : k ≤ zs.length) : (xors xs ys zs k).length = k := by
  simp [xors]; omega
theorem xors_snoc (xs ys zs : List UInt8) (k : Nat) (h1 : k < xs.length) (h2 : k < ys.length) (h3 : k < zs.length) : xors xs ys zs (k + 1) = xors xs ys zs k ++ [xs[k] ^^^ ys[k] ^^^ zs[k]] := by
  have e : ∀ (as_ bs : List UInt8) (a b : UInt8), as_.length = bs.length → List.zipWith (fun x y => x ^^^ y) (as_ ++ [a]) (bs ++ [b]) = List.zipWith (fun x y => x ^^^ y) as_ bs ++ [a ^^^ b] := by
    intro as_ bs a b h
    rw [List.zipWith_append h]
    rfl
  unfold xors
  rw [take_snoc xs k h1, take_snoc ys k h2, take_snoc zs k h3, e _ _ _ _ (by simp; omega), e _ _ _ _ (by simp; omega)]

theorem cell_xor (x y z : UInt8) : Value.int .u8 (bits .xor .u8 (bits .xor .u8 (x.toNat : Int) (y.toNat : Int)) (z.toNat : Int)) = byteV (x ^^^ y ^^^ z) := by
  rw [u8_xor_nat _ _ x.toNat_lt y.toNat_lt, u8_xor_nat _ _ (Nat.xor_lt_two_pow (n := 8) x.toNat_lt y.toNat_lt) z.toNat_lt]
  unfold byteV
  rw [UInt8.toNat_xor, UInt8.toNat_xor]

theorem xors_sum (xs ys zs : List UInt8) (n : Nat) (h1 : n ≤ xs.length) (h2 : n ≤ ys.length) (h3 : n ≤ zs.length) :
    bits .xor .u32 (bits .xor .u32 ((sum (xs.take n) : Nat) : Int) ((sum (ys.take n) : Nat) : Int)) ((sum (zs.take n) : Nat) : Int) = ((sum (xors xs ys zs n) : Nat) : Int) := by
  have e : sum (xors xs ys zs n) = _ := sum_xor3 (xs.take n) (ys.take n) (zs.take n) (by simp; omega) (by simp; omega)
  rw [e, u32_xor_nat _ _ (sum_lt _) (sum_lt _), u32_xor_nat _ _ (Nat.xor_lt_two_pow (n := 32) (sum_lt _) (sum_lt _)) (sum_lt _)]

set_option maxRecDepth 100000 in
set_option maxHeartbeats 1000000 in
theorem walk_a (A B C : Option Addr) (na nb nc ca cb cc : Nat) (xs ys zs : List UInt8) (w : World) (hA : Holds w w.heap.size A na xs) (hB : Holds w w.heap.size B nb ys) (hC : Holds w w.heap.size C nc zs)
    (hna : na ≤ 140737488351232) (hnb : nb ≤ 140737488351232) (hnc : nc ≤ 140737488351232) (hca0 : na ≤ ca) (hcb0 : nb ≤ cb) (hcc0 : nc ≤ cc) (q1 : na ≤ nb) (q2 : na ≤ nc) :
    Calls Try.prog 6 #[.slice A na ca, .slice B nb cb, .slice C nc cc] w fun e w' => e = .returned (.bool true) ∧ Below w.heap.size w w' := by
  go_enter Try.func6, Try.ntmps6
  go_wp2_with fail
  refine (alive_any w).mono ?_
  rintro e w1 ⟨rfl, hb1⟩
  go_wp2_with fail
  all_goals
    go_loopw [8, 9] (fun sv i wr => ∃ k : Nat, k ≤ na ∧ i = .int .i64 k ∧ Owned wr w.heap.size sv (xors xs ys zs k) ∧ Below w.heap.size w wr) (fun _ i _ => na - (intOf i).toNat)
    case atStart => exact ⟨0, by omega, rfl, World.ownsRow_nil w1 _ _ _, hb1⟩
    case round =>
      obtain ⟨k, hk, rfl, hown, hbr⟩ := hrel
      by_cases hlt : k < na
      · have k1 : k < na := by omega
        have k2 : k < nb := by omega
        have k3 : k < nc := by omega
        obtain ⟨hla, hca⟩ := hA.below hbr
        obtain ⟨hlb, hcb⟩ := hB.below hbr
        obtain ⟨hlc, hcc⟩ := hC.below hbr
        obtain ⟨ba, oa, rfl, hba, hcella⟩ := hca (by omega)
        obtain ⟨bb, ob, rfl, hbb, hcellb⟩ := hcb (by omega)
        obtain ⟨bc, oc, rfl, hbc, hcellc⟩ := hcc (by omega)
        have hxa := hcella k (by omega)
        have hxb := hcellb k (by omega)
        have hxc := hcellc k (by omega)
        have E := Lib.hid (xors_snoc xs ys zs k (by omega) (by omega) (by omega))
        have L := xors_len xs ys zs k (by omega) (by omega) (by omega)
        generalize xs[k]'(by omega) = x at hxa E
        generalize ys[k]'(by omega) = y at hxb E
        generalize zs[k]'(by omega) = z at hxc E
        have HO := Lib.hid hown
        have hlen : (xors xs ys zs k).length + 1 ≤ 140737488355328 := by rw [L]; omega
        have HL := Lib.hid hlen
        have hbz := hbr.size
        clear hown L hlen hcella hcellb hcellc hca hcb hcc hla hlb hlc
        go_wp2_with fail
        go_region_law ((refine step_addone rfl _ _ rfl w.heap.size _ (xors xs ys zs k) rfl HO.out (x ^^^ y ^^^ z) _ (cell_xor x y z) rfl HL.out hbz ?_; intro sv w2 ho2 hb2))
        all_goals
          have HO2 := Lib.hid ho2
          clear ho2
          go_simp
          go_wp2
          go_roundw
          case rel => exact ⟨k + 1, by omega, by go_num, by rw [E.out]; exact HO2.out, hbr.trans hb2⟩
          case measure => simp [intOf]; omega
      · obtain rfl : na = k := by omega
        obtain ⟨A4, c4, e4, hh⟩ := Owned.holds hown
        have hla := hA.1
        have hlb := hB.1
        have hlc := hC.1
        have L := xors_len xs ys zs na (by omega) (by omega) (by omega)
        rw [L] at e4 hh
        have hX := xors_sum xs ys zs na (by omega) (by omega) (by omega)
        have h1 := (((hA.below hbr).more hbr.size).take (k := na) (by omega))
        have h2 := (((hB.below hbr).more hbr.size).take (k := na) (by omega))
        have h3 := (((hC.below hbr).more hbr.size).take (k := na) (by omega))
        subst e4
        clear hown L hla hlb hlc
        generalize xors xs ys zs na = ws at hX hh
        generalize xs.take na = as_ at hX h1
        generalize ys.take na = bs at hX h2
        generalize zs.take na = cs at hX h3
        have hmx : na ≤ maxLen := by unfold maxLen; omega
        have T0 := Lib.hid (sum_later wr A4 na c4 ws hh hmx)
        have T1 := Lib.hid (sum_later wr A na ca as_ h1 hmx)
        have T2 := Lib.hid (sum_later wr B na cb bs h2 hmx)
        have T3 := Lib.hid (sum_later wr C na cc cs h3 hmx)
        generalize sum ws = s0 at hX T0
        generalize sum as_ = s1 at hX T1
        generalize sum bs = s2 at hX T2
        generalize sum cs = s3 at hX T3
        clear hh h1 h2 h3 hA hB hC
        have r1 : na ≤ ca := by omega
        have r2 : na ≤ cb := by omega
        have r3 : na ≤ cc := by omega
        clear q1 q2 hca0 hcb0 hcc0
        go_wp2_with fail
        go_region_with (first
          | (go_at_call_of 11 A4; refine (T0.out _ ?_).mono ?_; (repeat (first | assumption | exact Below.refl _ _ | apply Below.drew)); rintro e w' ⟨rfl, hb'⟩)
          | (go_at_call_of 11 A; refine (T1.out _ ?_).mono ?_; (repeat (first | assumption | exact Below.refl _ _ | apply Below.drew)); rintro e w' ⟨rfl, hb'⟩)
          | (go_at_call_of 11 B; refine (T2.out _ ?_).mono ?_; (repeat (first | assumption | exact Below.refl _ _ | apply Below.drew)); rintro e w' ⟨rfl, hb'⟩)
          | (go_at_call_of 11 C; refine (T3.out _ ?_).mono ?_; (repeat (first | assumption | exact Below.refl _ _ | apply Below.drew)); rintro e w' ⟨rfl, hb'⟩))
        all_goals
          go_wp2_with fail
          go_simp
          go_ret
          refine ⟨rfl, hbr.trans (Below.mono ?_ hbr.size)⟩
          (repeat (first | assumption | apply Below.drew))

set_option maxRecDepth 100000 in
set_option maxHeartbeats 1000000 in
theorem walk_b (A B C : Option Addr) (na nb nc ca cb cc : Nat) (xs ys zs : List UInt8) (w : World) (hA : Holds w w.heap.size A na xs) (hB : Holds w w.heap.size B nb ys) (hC : Holds w w.heap.size C nc zs)
    (hna : na ≤ 140737488351232) (hnb : nb ≤ 140737488351232) (hnc : nc ≤ 140737488351232) (hca0 : na ≤ ca) (hcb0 : nb ≤ cb) (hcc0 : nc ≤ cc) (q1 : nb < na) (q2 : nb ≤ nc) :
    Calls Try.prog 6 #[.slice A na ca, .slice B nb cb, .slice C nc cc] w fun e w' => e = .returned (.bool true) ∧ Below w.heap.size w w' := by
  go_enter Try.func6, Try.ntmps6
  go_wp2_with fail
  refine (alive_any w).mono ?_
  rintro e w1 ⟨rfl, hb1⟩
  go_wp2_with fail
  all_goals
    go_loopw [8, 9] (fun sv i wr => ∃ k : Nat, k ≤ nb ∧ i = .int .i64 k ∧ Owned wr w.heap.size sv (xors xs ys zs k) ∧ Below w.heap.size w wr) (fun _ i _ => nb - (intOf i).toNat)
    case atStart => exact ⟨0, by omega, rfl, World.ownsRow_nil w1 _ _ _, hb1⟩
    case round =>
      obtain ⟨k, hk, rfl, hown, hbr⟩ := hrel
      by_cases hlt : k < nb
      · have k1 : k < na := by omega
        have k2 : k < nb := by omega
        have k3 : k < nc := by omega
        obtain ⟨hla, hca⟩ := hA.below hbr
        obtain ⟨hlb, hcb⟩ := hB.below hbr
        obtain ⟨hlc, hcc⟩ := hC.below hbr
        obtain ⟨ba, oa, rfl, hba, hcella⟩ := hca (by omega)
        obtain ⟨bb, ob, rfl, hbb, hcellb⟩ := hcb (by omega)
        obtain ⟨bc, oc, rfl, hbc, hcellc⟩ := hcc (by omega)
        have hxa := hcella k (by omega)
        have hxb := hcellb k (by omega)
        have hxc := hcellc k (by omega)
        have E := Lib.hid (xors_snoc xs ys zs k (by omega) (by omega) (by omega))
        have L := xors_len xs ys zs k (by omega) (by omega) (by omega)
        generalize xs[k]'(by omega) = x at hxa E
        generalize ys[k]'(by omega) = y at hxb E
        generalize zs[k]'(by omega) = z at hxc E
        have HO := Lib.hid hown
        have hlen : (xors xs ys zs k).length + 1 ≤ 140737488355328 := by rw [L]; omega
        have HL := Lib.hid hlen
        have hbz := hbr.size
        clear hown L hlen hcella hcellb hcellc hca hcb hcc hla hlb hlc
        go_wp2_with fail
        go_region_law ((refine step_addone rfl _ _ rfl w.heap.size _ (xors xs ys zs k) rfl HO.out (x ^^^ y ^^^ z) _ (cell_xor x y z) rfl HL.out hbz ?_; intro sv w2 ho2 hb2))
        all_goals
          have HO2 := Lib.hid ho2
          clear ho2
          go_simp
          go_wp2
          go_roundw
          case rel => exact ⟨k + 1, by omega, by go_num, by rw [E.out]; exact HO2.out, hbr.trans hb2⟩
          case measure => simp [intOf]; omega
      · obtain rfl : nb = k := by omega
        obtain ⟨A4, c4, e4, hh⟩ := Owned.holds hown
        have hla := hA.1
        have hlb := hB.1
        have hlc := hC.1
        have L := xors_len xs ys zs nb (by omega) (by omega) (by omega)
        rw [L] at e4 hh
        have hX := xors_sum xs ys zs nb (by omega) (by omega) (by omega)
        have h1 := (((hA.below hbr).more hbr.size).take (k := nb) (by omega))
        have h2 := (((hB.below hbr).more hbr.size).take (k := nb) (by omega))
        have h3 := (((hC.below hbr).more hbr.size).take (k := nb) (by omega))
        subst e4
        clear hown L hla hlb hlc
        generalize xors xs ys zs nb = ws at hX hh
        generalize xs.take nb = as_ at hX h1
        generalize ys.take nb = bs at hX h2
        generalize zs.take nb = cs at hX h3
        have hmx : nb ≤ maxLen := by unfold maxLen; omega
        have T0 := Lib.hid (sum_later wr A4 nb c4 ws hh hmx)
        have T1 := Lib.hid (sum_later wr A nb ca as_ h1 hmx)
        have T2 := Lib.hid (sum_later wr B nb cb bs h2 hmx)
        have T3 := Lib.hid (sum_later wr C nb cc cs h3 hmx)
        generalize sum ws = s0 at hX T0
        generalize sum as_ = s1 at hX T1
        generalize sum bs = s2 at hX T2
        generalize sum cs = s3 at hX T3
        clear hh h1 h2 h3 hA hB hC
        have r1 : nb ≤ ca := by omega
        have r2 : nb ≤ cb := by omega
        have r3 : nb ≤ cc := by omega
        clear q1 q2 hca0 hcb0 hcc0
        go_wp2_with fail
        go_region_with (first
          | (go_at_call_of 11 A4; refine (T0.out _ ?_).mono ?_; (repeat (first | assumption | exact Below.refl _ _ | apply Below.drew)); rintro e w' ⟨rfl, hb'⟩)
          | (go_at_call_of 11 A; refine (T1.out _ ?_).mono ?_; (repeat (first | assumption | exact Below.refl _ _ | apply Below.drew)); rintro e w' ⟨rfl, hb'⟩)
          | (go_at_call_of 11 B; refine (T2.out _ ?_).mono ?_; (repeat (first | assumption | exact Below.refl _ _ | apply Below.drew)); rintro e w' ⟨rfl, hb'⟩)
          | (go_at_call_of 11 C; refine (T3.out _ ?_).mono ?_; (repeat (first | assumption | exact Below.refl _ _ | apply Below.drew)); rintro e w' ⟨rfl, hb'⟩))
        all_goals
          go_wp2_with fail
          go_simp
          go_ret
          refine ⟨rfl, hbr.trans (Below.mono ?_ hbr.size)⟩
          (repeat (first | assumption | apply Below.drew))

set_option maxRecDepth 100000 in
set_option maxHeartbeats 1000000 in
theorem walk_c (A B C : Option Addr) (na nb nc ca cb cc : Nat) (xs ys zs : List UInt8) (w : World) (hA : Holds w w.heap.size A na xs) (hB : Holds w w.heap.size B nb ys) (hC : Holds w w.heap.size C nc zs)
    (hna : na ≤ 140737488351232) (hnb : nb ≤ 140737488351232) (hnc : nc ≤ 140737488351232) (hca0 : na ≤ ca) (hcb0 : nb ≤ cb) (hcc0 : nc ≤ cc) (q1 : nc < na) (q2 : nc < nb) :
    Calls Try.prog 6 #[.slice A na ca, .slice B nb cb, .slice C nc cc] w fun e w' => e = .returned (.bool true) ∧ Below w.heap.size w w' := by
  go_enter Try.func6, Try.ntmps6
  go_wp2_with fail
  refine (alive_any w).mono ?_
  rintro e w1 ⟨rfl, hb1⟩
  go_wp2_with fail
  all_goals
    go_loopw [8, 9] (fun sv i wr => ∃ k : Nat, k ≤ nc ∧ i = .int .i64 k ∧ Owned wr w.heap.size sv (xors xs ys zs k) ∧ Below w.heap.size w wr) (fun _ i _ => nc - (intOf i).toNat)
    case atStart => exact ⟨0, by omega, rfl, World.ownsRow_nil w1 _ _ _, hb1⟩
    case round =>
      obtain ⟨k, hk, rfl, hown, hbr⟩ := hrel
      by_cases hlt : k < nc
      · have k1 : k < na := by omega
        have k2 : k < nb := by omega
        have k3 : k < nc := by omega
        obtain ⟨hla, hca⟩ := hA.below hbr
        obtain ⟨hlb, hcb⟩ := hB.below hbr
        obtain ⟨hlc, hcc⟩ := hC.below hbr
        obtain ⟨ba, oa, rfl, hba, hcella⟩ := hca (by omega)
        obtain ⟨bb, ob, rfl, hbb, hcellb⟩ := hcb (by omega)
        obtain ⟨bc, oc, rfl, hbc, hcellc⟩ := hcc (by omega)
        have hxa := hcella k (by omega)
        have hxb := hcellb k (by omega)
        have hxc := hcellc k (by omega)
        have E := Lib.hid (xors_snoc xs ys zs k (by omega) (by omega) (by omega))
        have L := xors_len xs ys zs k (by omega) (by omega) (by omega)
        generalize xs[k]'(by omega) = x at hxa E
        generalize ys[k]'(by omega) = y at hxb E
        generalize zs[k]'(by omega) = z at hxc E
        have HO := Lib.hid hown
        have hlen : (xors xs ys zs k).length + 1 ≤ 140737488355328 := by rw [L]; omega
        have HL := Lib.hid hlen
        have hbz := hbr.size
        clear hown L hlen hcella hcellb hcellc hca hcb hcc hla hlb hlc
        go_wp2_with fail
        go_region_law ((refine step_addone rfl _ _ rfl w.heap.size _ (xors xs ys zs k) rfl HO.out (x ^^^ y ^^^ z) _ (cell_xor x y z) rfl HL.out hbz ?_; intro sv w2 ho2 hb2))
        all_goals
          have HO2 := Lib.hid ho2
          clear ho2
          go_simp
          go_wp2
          go_roundw
          case rel => exact ⟨k + 1, by omega, by go_num, by rw [E.out]; exact HO2.out, hbr.trans hb2⟩
          case measure => simp [intOf]; omega
      · obtain rfl : nc = k := by omega
        obtain ⟨A4, c4, e4, hh⟩ := Owned.holds hown
        have hla := hA.1
        have hlb := hB.1
        have hlc := hC.1
        have L := xors_len xs ys zs nc (by omega) (by omega) (by omega)
        rw [L] at e4 hh
        have hX := xors_sum xs ys zs nc (by omega) (by omega) (by omega)
        have h1 := (((hA.below hbr).more hbr.size).take (k := nc) (by omega))
        have h2 := (((hB.below hbr).more hbr.size).take (k := nc) (by omega))
        have h3 := (((hC.below hbr).more hbr.size).take (k := nc) (by omega))
        subst e4
        clear hown L hla hlb hlc
        generalize xors xs ys zs nc = ws at hX hh
        generalize xs.take nc = as_ at hX h1
        generalize ys.take nc = bs at hX h2
        generalize zs.take nc = cs at hX h3
        have hmx : nc ≤ maxLen := by unfold maxLen; omega
        have T0 := Lib.hid (sum_later wr A4 nc c4 ws hh hmx)
        have T1 := Lib.hid (sum_later wr A nc ca as_ h1 hmx)
        have T2 := Lib.hid (sum_later wr B nc cb bs h2 hmx)
        have T3 := Lib.hid (sum_later wr C nc cc cs h3 hmx)
        generalize sum ws = s0 at hX T0
        generalize sum as_ = s1 at hX T1
        generalize sum bs = s2 at hX T2
        generalize sum cs = s3 at hX T3
        clear hh h1 h2 h3 hA hB hC
        have r1 : nc ≤ ca := by omega
        have r2 : nc ≤ cb := by omega
        have r3 : nc ≤ cc := by omega
        clear q1 q2 hca0 hcb0 hcc0
        go_wp2_with fail
        go_region_with (first
          | (go_at_call_of 11 A4; refine (T0.out _ ?_).mono ?_; (repeat (first | assumption | exact Below.refl _ _ | apply Below.drew)); rintro e w' ⟨rfl, hb'⟩)
          | (go_at_call_of 11 A; refine (T1.out _ ?_).mono ?_; (repeat (first | assumption | exact Below.refl _ _ | apply Below.drew)); rintro e w' ⟨rfl, hb'⟩)
          | (go_at_call_of 11 B; refine (T2.out _ ?_).mono ?_; (repeat (first | assumption | exact Below.refl _ _ | apply Below.drew)); rintro e w' ⟨rfl, hb'⟩)
          | (go_at_call_of 11 C; refine (T3.out _ ?_).mono ?_; (repeat (first | assumption | exact Below.refl _ _ | apply Below.drew)); rintro e w' ⟨rfl, hb'⟩))
        all_goals
          go_wp2_with fail
          go_simp
          go_ret
          refine ⟨rfl, hbr.trans (Below.mono ?_ hbr.size)⟩
          (repeat (first | assumption | apply Below.drew))

theorem walks : Walks 6 Try.f6 All := by
  intro H enc W base args ds p hval hA hsz _
  rw [Try.params6] at hA hval hsz
  obtain ⟨v0, vs0, d0, ds0, p0, q0, hargs, rfl, rfl, h0, r0⟩ := trodAll_cons hA
  obtain ⟨v1, vs1, d1, ds1, p1, q1, rfl, rfl, rfl, h1, r1⟩ := trodAll_cons r0
  obtain ⟨v2, vs2, d2, ds2, p2, q2, rfl, rfl, rfl, h2, r2⟩ := trodAll_cons r1
  obtain ⟨rfl, rfl, rfl⟩ := trodAll_nil r2
  obtain rfl : args = #[v0, v1, v2] := by cases args; simp_all
  obtain ⟨A, na, ca, xs, rfl, ha, hca, hna⟩ := open_bytes (hval 0 _ v0 rfl rfl) h0 _ (reach_bytes hsz (j := 0) rfl rfl)
  obtain ⟨B, nb, cb, ys, rfl, hb, hcb, hnb⟩ := open_bytes (hval 1 _ v1 rfl rfl) h1 _ (reach_bytes hsz (j := 1) rfl rfl)
  obtain ⟨C, nc, cc, zs, rfl, hc, hcc, hnc⟩ := open_bytes (hval 2 _ v2 rfl rfl) h2 _ (reach_bytes hsz (j := 2) rfl rfl)
  by_cases t1 : na ≤ nb ∧ na ≤ nc
  · exact walk_a A B C na nb nc ca cb cc xs ys zs W ha hb hc hna hnb hnc hca hcb hcc t1.1 t1.2
  · by_cases t2 : nb < na ∧ nb ≤ nc
    · exact walk_b A B C na nb nc ca cb cc xs ys zs W ha hb hc hna hnb hnc hca hcb hcc t2.1 t2.2
    · exact walk_c A B C na nb nc ca cb cc xs ys zs W ha hb hc hna hnb hnc hca hcb hcc (by omega) (by omega)

set_option maxRecDepth 100000 in
theorem proved : Rows.CrcLinearSaid :=
  OpenClaim.holds_of_wide 6 Try.f6 rfl rfl rfl rfl rfl rfl rfl ⟨rfl, rfl, rfl, rfl, rfl⟩ rfl rfl rfl rfl rfl (by kernel_rfl) Try.func6 (by kernel_rfl)
    (of_decide_eq_true (by kernel_rfl)) (by unfold Func.isWrapper; first | (rw [if_pos (by decide +kernel)]; kernel_rfl) | (rw [if_neg (by decide +kernel)]; exact ⟨rfl, rfl⟩))
    (fun os started H enc _ => lifted (s := Rows.crcLinearSpec) walks (by kernel_rfl) rfl rfl (fun H ds hl => by match ds, hl with | [d1, d2, d3], _ => rfl) (by kernel_rfl) Try.func6 os started H enc
      (ChangeSpec.witness6 (enc := enc) (C := Try.checked) false ⟨#[], #[.slice none 0 0, .slice none 0 0, .slice none 0 0], []⟩ 8 (by kernel_rfl) (by kernel_rfl) (by kernel_rfl) (by kernel_rfl)))
#print axioms proved
end Go.Proofs.Ytemkdnakkdnbhaa.CrcLinear
