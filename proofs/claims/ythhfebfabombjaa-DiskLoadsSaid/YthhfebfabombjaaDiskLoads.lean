/- An image is loaded as the document says, and no memory is shared: proved for every list of bytes and every cut, within the form's own reach. -/
import Derived.Test.YthhfebfabombjaaDkLoad
import Derived.Test.YthhfebfabombjaaDeed
import Derived.Deep.RegionHeld
import Derived.Laws.BitsAllLaws
namespace Go.Proofs.Ythhfebfabombjaa.DiskLoads
open Go.ChangeShapes Go.WideShapes Go.ChangeAt Go.RowKit
open Go.Proofs.Ythhfebfabombjaa.Mem Go.Proofs.Ythhfebfabombjaa.Disk Go.Proofs.Ythhfebfabombjaa.Lift
attribute [local go_sem ↓] Go.wp_at_zero Go.wp_at_succ

def xorB (x y : Value) : Sem Value := binOp .xor 5 x y
theorem xorB_eq (x y : Value) : binOp .xor 5 x y = xorB x y := rfl
attribute [local go_sem ↓] xorB_eq
theorem cut_small (cut : Int) (N : Nat) (hN : N ≤ 140737488351232) : ∃ K : Nat, K ≤ N ∧ (IntKind.u64.wrap cut).tmod ((N : Int) + 1) = (K : Int) := by
  have h0 : 0 ≤ IntKind.u64.wrap cut := by
    simp [IntKind.wrap, IntKind.bits, IntKind.signed]
    omega
  obtain ⟨u, hu⟩ := Int.eq_ofNat_of_zero_le h0
  refine ⟨u % (N + 1), by have := Nat.mod_lt u (show 0 < N + 1 by omega); omega, ?_⟩
  rw [hu]
  rfl
theorem head_of (A : Option Addr) (N c K : Nat) (bs : List UInt8) (w : World) (h : Holds w w.heap.size A N bs) (hc : N ≤ c) (hK : K ≤ N) :
    ∃ A', (∀ W, (Instr.slice 33 (.slice A N c) none (some (.int .i64 (K : Int))) none).run Try.prog W = .ok (.slice A' K c) W) ∧ Holds w w.heap.size A' K (bs.take K) := by
  have hs : ∀ W, (sizeOf (Try.prog.elem 33)).run Try.prog W = .ok 1 W := fun W => by rfl
  have hr := fun W => run_slice_h (P := Try.prog) W 33 A N c (by rw [Try.underlying33]; rfl) .i64 (K : Int) (by omega) (by omega)
  by_cases h0 : 0 < N
  · obtain ⟨b, off, rfl, _⟩ := h.2 h0
    refine ⟨_, fun W => ?_, h.take hK⟩
    rw [hr, hs]
    simp [Result.andThen, sliced, Addr.add_mid]
  · have hK0 : K = 0 := by omega
    subst hK0
    refine ⟨if c = 0 then A else A.map (·.add 0), fun W => ?_, ⟨by simp, fun h => absurd h (by omega)⟩⟩
    rw [hr, hs]
    simp [Result.andThen, sliced]
theorem flip_u8 (u : UInt8) : Go.bits .xor .u8 (u.toNat : Int) 255 = ((UInt8.ofNat (u.toNat ^^^ 255)).toNat : Int) := by
  have h := u.toNat_lt
  have e := u8_xor_nat u.toNat 255 (by omega) (by omega)
  have hx : u.toNat ^^^ 255 < 2 ^ 8 := Nat.xor_lt_two_pow (by omega) (by omega)
  rw [show (255 : Int) = ((255 : Nat) : Int) from rfl, e, UInt8.toNat_ofNat']
  congr 1
  omega

theorem run_xorB (u : UInt8) (W : World) : (xorB (.int .u8 (u.toNat : Int)) (.int .u8 255)).run Try.prog W = .ok (.int .u8 ((u ^^^ 255).toNat : Int)) W := by
  have h : (binOp .xor 5 (.int .u8 (u.toNat : Int)) (.int .u8 255)).run Try.prog W = .ok (.int .u8 (Go.bits .xor .u8 (u.toNat : Int) 255)) W := rfl
  rw [flip_u8] at h
  rw [show (u ^^^ 255).toNat = (UInt8.ofNat (u.toNat ^^^ 255)).toNat by
    rw [UInt8.toNat_ofNat', UInt8.toNat_xor]
    have hx : u.toNat ^^^ 255 < 2 ^ 8 := Nat.xor_lt_two_pow u.toNat_lt (by omega)
    rw [Nat.mod_eq_of_lt hx]
    rfl]
  exact h

def Calm (r k cr : Nat) (Ar A6 : Option Addr) (X : List UInt8) (B : Nat) (V : World) : Prop :=
  B ≤ V.heap.size ∧ r < B ∧ V.cell? ⟨r, 0, none⟩ = some (.slice Ar k cr) ∧ Holds V B A6 k X ∧ Holds V B Ar k X
theorem Calm.below {r k cr : Nat} {Ar A6 : Option Addr} {X : List UInt8} {B : Nat} {V V' : World} (h : Calm r k cr Ar A6 X B V) (hb : Below V.heap.size V V') : Calm r k cr Ar A6 X B V' :=
  ⟨Nat.le_trans h.1 hb.size, h.2.1, (hb.cell (p := ⟨r, 0, none⟩) (by have := h.1; have := h.2.1; show r < _; omega)).trans h.2.2.1, h.2.2.2.1.below (hb.mono h.1), h.2.2.2.2.below (hb.mono h.1)⟩
theorem Calm.drew {r k cr : Nat} {Ar A6 : Option Addr} {X : List UInt8} {B : Nat} {V : World} (h : Calm r k cr Ar A6 X B V) : Calm r k cr Ar A6 X B V.drew := h.below (Below.refl _ _).drew
theorem Calm.says {r k cr : Nat} {Ar A6 : Option Addr} {X : List UInt8} {B : Nat} {V : World} (h : Calm r k cr Ar A6 X B V) (c6 : Nat) :
    V.cell? ⟨r, 0, none⟩ = some (.slice Ar k cr) ∧ (convert 33 9 (.slice A6 k c6)).run Try.prog V = .ok (.string ⟨X.toArray⟩) V ∧ (convert 33 9 (.slice Ar k cr)).run Try.prog V = .ok (.string ⟨X.toArray⟩) V :=
  ⟨h.2.2.1, run_text V B _ _ _ _ h.2.2.2.1, run_text V B _ _ _ _ h.2.2.2.2⟩

set_option maxRecDepth 100000 in
set_option maxHeartbeats 4000000 in
theorem walk (A : Option Addr) (N c : Nat) (bs : List UInt8) (cut : Int) (w : World) (h : Holds w w.heap.size A N bs) (hc : N ≤ c) (hN : N ≤ 140737488351232) :
    Calls Try.prog 4 #[.slice A N c, .int .i64 cut] w fun e w' => e = .returned (.bool true) ∧ Below w.heap.size w w' := by
  obtain ⟨K, hK, hcut⟩ := cut_small cut N hN
  obtain ⟨A', hsl, hh⟩ := head_of A N c K bs w h hc hK
  have hsl2 : ∀ W, (Instr.sliceAt 33 (.slice A N c) none (some (.int .i64 (K : Int))) none).run Try.prog W = .ok (.slice A' K c) W := fun W => by
    rw [run_sliceAt_slice (P := Try.prog) W 33 _ _ _ _ (by rw [Try.underlying33]; rfl)]; exact hsl W
  obtain ⟨X, hX⟩ : ∃ X, X = bs.take K := ⟨_, rfl⟩
  rw [← hX] at hh
  have hXl : X.length = K := hh.1
  clear hX h
  have HH := Lib.hid hh; clear hh
  have HXL := Lib.hid hXl; clear hXl
  go_enter Try.func4, Try.ntmps4
  go_wp2_with fail
  refine (alive_any _).mono ?_
  rintro e w1 ⟨rfl, hb1⟩
  have ho := owned_made w1 [] w.heap.size hb1.size (by unfold maxLen; simp)
  go_wp2_with (at_builtin; refine wpList_addall rfl _ _ rfl w.heap.size _ [] rfl ho w.heap.size A' K c X rfl ?c1 ?c2 ?c3 ?_)
  case c1 => exact HH.out.below (hb1.trans ((Below.refl _ _).alloc hb1.size _))
  case c2 => simp; omega
  case c3 => have := hb1.size; simp; omega
  intro v w2 ho2 hb2
  have hB2 : Below w.heap.size w w2 := (hb1.alloc hb1.size _).trans hb2
  obtain ⟨Ag, cg, rfl, hg2⟩ := Owned.holds ho2
  have ho2 : Owned w2 w.heap.size (.slice Ag X.length cg) X := by simpa using ho2
  have hg2 : Holds w2 w2.heap.size Ag X.length X := by simpa using hg2
  rw [HXL.out] at ho2 hg2 ⊢
  have HB2 := Lib.hid hB2; clear hB2 hb2 hb1 ho
  have HO2 := Lib.hid ho2; clear ho2
  have HG2 := Lib.hid hg2; clear hg2
  cases hld : loadable K
  · have HLD := Lib.hid hld; clear hld
    go_wp2_with fail
    refine (load_bad Ag K cg w2 HLD.out (by omega)).mono ?_
    rintro e w' ⟨rfl, rfl⟩
    go_wp2_with fail
    refine (refload_bad A' K c w2 HLD.out (by omega)).mono ?_
    rintro e w' ⟨rfl, rfl⟩
    go_wp2
    go_ret
    exact ⟨rfl, HB2.out⟩
  · obtain ⟨n, hn, hn1, hn2⟩ : ∃ n, K = 256 * n ∧ 1 ≤ n ∧ n ≤ 1024 := by
      simp [loadable] at hld
      exact ⟨K / 256, by omega, hld.2.1, hld.2.2⟩
    clear hld
    have hKp : 0 < K := by omega
    obtain ⟨bg, offg, rfl, hbg, -⟩ := HG2.out.2 hKp
    obtain ⟨ba, offa, rfl, hba, -⟩ := HH.out.2 hKp
    have HN := Lib.hid hn; clear hn
    go_wp2_with fail
    refine (load_ok ⟨bg, offg, none⟩ K n cg w2.heap.size 0 X w2 HN.out hn1 hn2 HG2.out (Nat.le_refl _)).mono ?_
    rintro e w3 ⟨p, F, rfl, hD3, hF3, hb3⟩
    have HD3 := Lib.hid hD3; clear hD3
    have HF3 := Lib.hid hF3; clear hF3
    have HB3 := Lib.hid hb3; clear hb3
    go_wp2_with fail
    have hB3 : Below w.heap.size w w3 := HB2.out.trans (HB3.out.mono HB2.out.size)
    refine (refload_ok ⟨ba, offa, none⟩ K n c w.heap.size X w3 HN.out hn1 hn2 (HH.out.below hB3) hB3.size).mono ?_
    rintro e w4 ⟨r, Ar, cr, rfl, hr4, hor, hrr, hb4⟩
    obtain ⟨g, cap, hv, hg1, hgl, -, -⟩ := Owned.row HO2.out (by have := HXL.out; omega)
    have hoff : bg = g ∧ offg = 0 ∧ cg = cap := by
      injection hv with e1 _ e2
      injection e1 with e1
      injection e1 with e1 e3
      exact ⟨e1, e3, e2⟩
    obtain ⟨rfl, rfl, rfl⟩ := hoff
    clear hv
    rw [HXL.out] at hr4 hor
    have hB4 : Below w.heap.size w w4 := hB3.trans (hb4.mono hB3.size)
    have hT24 : Turns (fun _ => False) w2 w4 := (Turns.of_below (F := fun _ => False) HB3.out).trans (Turns.of_below (F := fun _ => False) hb4) (fun _ _ e => e)
    have hO4 : Owned w4 w.heap.size (.slice (some ⟨bg, 0, none⟩) K cg) X := by
      have h1 := HO2.out.keep (B := w2.heap.size) (HB3.out.trans (hb4.mono HB3.out.size)) (Nat.le_refl _)
      exact h1
    have hD4 : DiskAt w4 p (loaded X n) 0 F := HD3.out.turns (G := fun _ => False) (Turns.of_below hb4) (fun _ _ e => e)
    have hrl : r < w4.heap.size := (Array.getElem?_eq_some_iff.1 hr4).1
    have n23 : w2.heap.size ≤ w3.heap.size := HB3.out.size
    have HOR := Lib.hid hor; clear hor
    have HR4 := Lib.hid hr4; clear hr4
    have HB4 := Lib.hid hB4; clear hB4 hB3 hb4
    have HO4 := Lib.hid hO4; clear hO4
    have HD4 := Lib.hid hD4; clear hD4
    clear hT24
    go_wp2
    go_loopw [11] (fun i wr => ∃ (k : Nat) (Y : List UInt8), k ≤ K ∧ Y.length = K ∧ i = .int .i64 k ∧ Owned wr w.heap.size (.slice (some ⟨bg, 0, none⟩) K cg) Y ∧ Turns (fun q => q = bg) w4 wr) (fun i _ => K - (intOf i).toNat)
    case atStart => exact ⟨0, X, by omega, HXL.out, rfl, HO4.out, Turns.refl _ _⟩
    case round =>
      obtain ⟨k, Y, hk, hYl, rfl, hoY, hTY⟩ := hrel
      have hoY' := hoY
      by_cases hlt : k < K
      · obtain ⟨g', cap', hv', -, hgl', hcp', hrow'⟩ := Owned.row hoY (by omega)
        have hg' : bg = g' := by injection hv' with e1 _ _; injection e1 with e1; injection e1 with e1
        have hrk := hrow' k (by omega)
        rw [← hg'] at hrk
        obtain ⟨r1, r2, r3⟩ := hrk
        have hk1 : (0 : Int) ≤ (k : Int) := by omega
        have hk2 : (k : Int) < (K : Int) := by omega
        obtain ⟨u, hu⟩ : ∃ u, u = Y[k]'(by omega) := ⟨_, rfl⟩
        rw [← hu] at r1
        unfold byteV at r1
        have hfl := run_xorB u
        have hnew := (r3 (u ^^^ 255)).1
        have hTn : Turns (fun q => q = bg) w4 (wr.setCell ⟨bg, k, none⟩ (byteV (u ^^^ 255))) := hTY.setCell (p := ⟨bg, k, none⟩) (fun _ => rfl) _
        have HN1 := Lib.hid hnew; clear hnew
        have HT1 := Lib.hid hTn; clear hTn
        have HY1 := Lib.hid hYl
        clear hrow' r3 hu hv' hcp' hgl' hg' hoY hoY' hTY hYl
        go_wp2
        go_roundw
        case rel => exact ⟨k + 1, _, by omega, by rw [List.length_set]; exact HY1.out, by go_num, HN1.out, HT1.out⟩
        case measure => simp [intOf]; omega
      · obtain rfl : k = K := by omega
        have hD5 : DiskAt wr p (loaded X n) 0 F := HD4.out.turns hTY (fun q hq e => by have := HF3.out q hq; omega)
        have hr5 : wr.heap[r]? = some (.cells #[.slice Ar k cr, .slice none 0 0, .slice none 0 0, .bool false, .int .i64 0] 39 (0, 0)) := (hTY.block r hrl (fun e => by omega)).trans HR4.out
        have hor5 : Owned wr w3.heap.size (.slice Ar k cr) X := by
          have := HOR.out
          refine ⟨this.1, ?_⟩
          rcases this.2 with e | ⟨g2, cap2, cur2, e1, e2, e3, e4⟩
          · exact .inl e
          · exact .inr ⟨g2, cap2, cur2, e1, e2, (hTY.block g2 (Array.getElem?_eq_some_iff.1 e3).1 (fun e => by omega)).trans e3, e4⟩
        have hB5 : Below w.heap.size w wr := HB4.out.trans (hTY.below (B := w.heap.size) (fun q e => by omega) HB4.out.size)
        have HD5 := Lib.hid hD5; clear hD5
        have HR5 := Lib.hid hr5; clear hr5
        have HOR5 := Lib.hid hor5; clear hor5
        have HB5 := Lib.hid hB5; clear hB5
        clear hoY hoY' hTY
        have hst : (loaded X n).stable.flatten = X := chunks_flat X n (by rw [HXL.out]; exact HN.out)
        have him : (loaded X n).image.flatten = X := by rw [Dk.image_calm _ rfl rfl, hst]
        have HST := Lib.hid hst; clear hst
        have HIM := Lib.hid him; clear him
        obtain ⟨V5, hV5⟩ : ∃ V, V = wr := ⟨_, rfl⟩
        subst hV5
        go_wp2_with fail
        have hi6 := image_d (loaded X n) p 0 F V5 HD5.out (by omega)
        rw [HIM.out] at hi6
        refine hi6.mono ?_
        rintro e W6 ⟨A6, c6, rfl, ho6, hb6⟩
        rw [HXL.out] at ho6 ⊢
        have HD6 := Lib.hid (HD5.out.turns (G := fun _ => False) (Turns.of_below hb6) (fun _ _ e => e))
        have HO6 := Lib.hid ho6; clear ho6
        have HB6 := Lib.hid hb6; clear hb6 hi6
        go_wp2_with fail
        have hi7 := stable_d (loaded X n) p 0 F W6 HD6.out
        rw [HST.out] at hi7
        refine hi7.mono ?_
        rintro e W7 ⟨A7, c7, rfl, ho7, hb7⟩
        rw [HXL.out] at ho7 ⊢
        obtain ⟨g7, cap7, hv7, hg71, hg7l, -, -⟩ := Owned.row ho7 (by have := HXL.out; omega)
        have hv7e : A7 = some ⟨g7, 0, none⟩ := by injection hv7
        subst hv7e
        clear hv7
        have HD7 := Lib.hid (HD6.out.turns (G := fun _ => False) (Turns.of_below hb7) (fun _ _ e => e))
        have HO7 := Lib.hid ho7; clear ho7
        have HB7 := Lib.hid hb7; clear hb7 hi7
        have n67 : V5.heap.size ≤ W6.heap.size := HB6.out.size
        have n78 : W6.heap.size ≤ W7.heap.size := HB7.out.size
        go_wp2
        go_loopw [14] (fun i wr => ∃ (k1 : Nat) (Y : List UInt8), k1 ≤ k ∧ Y.length = k ∧ i = .int .i64 k1 ∧ Owned wr W6.heap.size (.slice (some ⟨g7, 0, none⟩) k c7) Y ∧ Turns (fun q => q = g7) W7 wr) (fun i _ => k - (intOf i).toNat)
        case atStart => exact ⟨0, X, by omega, HXL.out, rfl, HO7.out, Turns.refl _ _⟩
        case round =>
          obtain ⟨k1, Y, hk1, hYl, rfl, hoY, hTY⟩ := hrel
          have hoY' := hoY
          by_cases hlt : k1 < k
          · obtain ⟨g', cap', hv', -, hgl', hcp', hrow'⟩ := Owned.row hoY (by omega)
            have hg' : g7 = g' := by injection hv' with e1 _ _; injection e1 with e1; injection e1 with e1
            have hrk := hrow' k1 (by omega)
            rw [← hg'] at hrk
            obtain ⟨r1, r2, r3⟩ := hrk
            have hk3 : (0 : Int) ≤ (k1 : Int) := by omega
            have hk2 : (k1 : Int) < (k : Int) := by omega
            obtain ⟨u, hu⟩ : ∃ u, u = Y[k1]'(by omega) := ⟨_, rfl⟩
            rw [← hu] at r1
            unfold byteV at r1
            have hfl := run_xorB u
            have hnew := (r3 (u ^^^ 255)).1
            have hTn : Turns (fun q => q = g7) W7 (wr.setCell ⟨g7, k1, none⟩ (byteV (u ^^^ 255))) := hTY.setCell (p := ⟨g7, k1, none⟩) (fun _ => rfl) _
            have HN1 := Lib.hid hnew; clear hnew
            have HT1 := Lib.hid hTn; clear hTn
            have HY1 := Lib.hid hYl
            clear hrow' r3 hu hv' hcp' hgl' hg' hoY hoY' hTY hYl
            go_wp2
            go_roundw
            case rel => exact ⟨k1 + 1, _, by omega, by rw [List.length_set]; exact HY1.out, by go_num, HN1.out, HT1.out⟩
            case measure => simp [intOf]; omega
          · obtain rfl : k1 = k := by omega
            have hT6 : Below W6.heap.size W6 wr := HB7.out.trans (hTY.below (B := W6.heap.size) (fun q e => by omega) n78)
            have hT5 : Below V5.heap.size V5 wr := HB6.out.trans (hT6.mono n67)
            have hr5 : r < V5.heap.size := (Array.getElem?_eq_some_iff.1 HR5.out).1
            have hH6 := owned_holds (c := c6) (A := A6) (bs := X) (base := V5.heap.size) (w := W6) (by rw [HXL.out]; exact HO6.out)
            have hHr := owned_holds (c := cr) (A := Ar) (bs := X) (base := w3.heap.size) (w := V5) (by rw [HXL.out]; exact HOR5.out)
            rw [HXL.out] at hH6 hHr
            have hcr : wr.cell? ⟨r, 0, none⟩ = some (.slice Ar k1 cr) := cell_of_row _ _ _ _ _ _ ((hT5.block r hr5).trans HR5.out)
            have hC : Calm r k1 cr Ar A6 X W6.heap.size wr.drew := Calm.drew ⟨hT6.size, by omega, hcr, hH6.below hT6, (hHr.below hT5).more n67⟩
            have HDV := Lib.hid ((HD7.out.turns hTY (fun q hq e => by have := (HD6.out).lt q hq; omega)).turns (G := fun _ => False) (Turns.refl _ wr).drew (fun _ _ e => e))
            have hS := hC.says c6
            have HC := Lib.hid hC; clear hC
            have HBV : Hid (Below w.heap.size w wr.drew) := Lib.hid (HB5.out.trans (hT5.drew.mono HB5.out.size))
            clear hoY hoY' hTY hT6 hT5 hH6 hHr hcr
            go_wp2_with fail
            unfold Disk.ptr
            go_region_held (fun V => V.cell? ⟨r, 0, none⟩ = some (.slice Ar k1 cr) ∧ (convert 33 9 (.slice A6 k1 c6)).run Try.prog V = .ok (.string ⟨X.toArray⟩) V ∧ (convert 33 9 (.slice Ar k1 cr)).run Try.prog V = .ok (.string ⟨X.toArray⟩) V) (assumption)
              (first
                | (go_at_call 20
                   have hiA := image_d (loaded X n) p 0 F wr.drew HDV.out (by omega)
                   rw [HIM.out] at hiA
                   refine hiA.mono ?_
                   rintro e wA ⟨AA, cA, rfl, hoA, hwA⟩
                   clear hiA hS
                   have HCA := Lib.hid (HC.out.below hwA)
                   have hSA := HCA.out.says c6
                   have tA := run_text wA _ _ _ cA _ (owned_holds hoA)
                   rw [HXL.out] at tA ⊢
                   have HDA := Lib.hid (HDV.out.turns (G := fun _ => False) (Turns.of_below hwA) (fun _ _ e => e))
                   have HBA : Hid (Below w.heap.size w wA) := Lib.hid (HBV.out.trans (hwA.mono HBV.out.size))
                   clear hwA hoA)
                | (go_at_call 22
                   have hiB := stable_d (loaded X n) p 0 F wA HDA.out
                   rw [HST.out] at hiB
                   refine hiB.mono ?_
                   rintro e wB ⟨AB, cB, rfl, hoB, hwB⟩
                   clear hiB hSA
                   have HCB := Lib.hid (HCA.out.below hwB)
                   have hSB := HCB.out.says c6
                   have tB := run_text wB _ _ _ cB _ (owned_holds hoB)
                   rw [HXL.out] at tB ⊢
                   have HDB := Lib.hid (HDA.out.turns (G := fun _ => False) (Turns.of_below hwB) (fun _ _ e => e))
                   have HBB : Hid (Below w.heap.size w wB) := Lib.hid (HBA.out.trans (hwB.mono HBA.out.size))
                   clear hwB hoB)
                | (go_at_call 16
                   have hiD := pending_d (loaded X n) p 0 F wB HDB.out
                   refine hiD.mono ?_
                   rintro e wD ⟨rfl, rfl⟩
                   clear hiD))
            all_goals
              go_wp2
              go_ret
              exact ⟨rfl, HBB.out⟩

theorem walks : Walks 4 Try.f4 All := by
  intro H enc W base args ds p hval hA hsz _
  rw [Try.params4] at hA hval hsz
  obtain ⟨v0, vs0, d0, ds0, p0, q0, hargs, rfl, rfl, h0, r0⟩ := trodAll_cons hA
  obtain ⟨v1, vs1, d1, ds1, p1, q1, rfl, rfl, rfl, h1, r1⟩ := trodAll_cons r0
  obtain ⟨rfl, rfl, rfl⟩ := trodAll_nil r1
  obtain rfl : args = #[v0, v1] := by cases args; simp_all
  obtain ⟨A, n, c, bs, rfl, hb, hc, hn⟩ := open_bytes (hval 0 _ v0 rfl rfl) h0 _ (reach_bytes hsz (j := 0) rfl rfl)
  obtain ⟨x, rfl, rfl, rfl, hx⟩ := open_int Try.underlying3 (hval 1 _ v1 rfl rfl) h1
  exact walk A n c bs x W hb (by omega) (by omega)

set_option maxRecDepth 100000 in
theorem proved : Rows.DiskLoadsSaid :=
  OpenClaim.holds_of_wide 4 Try.f4 rfl rfl rfl rfl rfl rfl rfl ⟨rfl, rfl, rfl, rfl, rfl⟩ rfl rfl rfl rfl rfl (by kernel_rfl) Try.func4 (by kernel_rfl)
    (of_decide_eq_true (by kernel_rfl)) (by unfold Func.isWrapper; first | (rw [if_pos (by decide +kernel)]; kernel_rfl) | (rw [if_neg (by decide +kernel)]; exact ⟨rfl, rfl⟩))
    (fun os started H enc _ => lifted (s := Rows.diskLoadsSpec) walks (by kernel_rfl) rfl rfl (fun H ds hl => by match ds, hl with | [d1, d2], _ => rfl) (by kernel_rfl) Try.func4 os started H enc
      (ChangeSpec.witness6 (enc := enc) (C := Try.checked) false ⟨#[], #[.slice none 0 0, .int .i64 0], []⟩ 8 (by kernel_rfl) (by kernel_rfl) (by kernel_rfl) (by kernel_rfl)))
#print axioms proved
end Go.Proofs.Ythhfebfabombjaa.DiskLoads
