/- HtreeAfter: for every list of blocks and every step: blocks that are no directory are refused; of a directory, entries told a few at a time come each once, in order, and are all. For all blocks within the reach of memory. -/
import Derived.Test.YtbagocghlijleaaGreatHtDv
import Derived.Test.YtbagocghlijleaaGreatHtAf
namespace Go.Proofs.YtbagocghlijleaaGreat.HtreeAfter
set_option maxRecDepth 20000
open Go.ChangeShapes Go.WideShapes Go.ChangeAt Go.RowKit
open Go.Proofs.YtbagocghlijleaaGreat.Mem Go.Proofs.YtbagocghlijleaaGreat.Crc Go.Proofs.YtbagocghlijleaaGreat.Rec Go.Proofs.YtbagocghlijleaaGreat.Lift Go.Proofs.YtbagocghlijleaaGreat.Reg Go.Proofs.YtbagocghlijleaaGreat.Lf Go.Proofs.YtbagocghlijleaaGreat.Ht
attribute [local go_sem ↓] ldX_eq stX_eq eqX_eq neqX_eq

def lenV : Value → Nat
  | .slice _ n _ => n
  | _ => 0
theorem onL_len (L : List Nm) (q : Nat) (hq : q ≤ L.length) (hL : ∀ x ∈ L, okN x = true) : (onL L q).length ≤ 32 := by
  unfold onL
  split
  · simp
  · have hl : q - 1 < L.length := by omega
    rw [List.getD_eq_getElem?_getD, List.getElem?_eq_getElem hl, Option.getD_some]
    exact (may_len (okN_may (hL _ (List.getElem_mem hl))).1).2
theorem onL_last (L : List Nm) (q r : Nat) (h1 : 1 ≤ r) (h2 : q + r ≤ L.length) : onL L (q + r) = (((L.drop q).take r)[r - 1]'(by rw [List.length_take, List.length_drop]; omega)).t := by
  unfold onL
  rw [if_neg (by omega), List.getD_eq_getElem?_getD, List.getElem?_eq_getElem (show q + r - 1 < L.length by omega), Option.getD_some, List.getElem_take, List.getElem_drop]
  congr 2
  omega

set_option maxRecDepth 100000 in
set_option maxHeartbeats 8000000 in
theorem walk (A : Option Addr) (n c : Nat) (d : List (List UInt8)) (st : Int) (w : World) (h : HoldsN w w.heap.size A n d) (hn : n ≤ 5864062014634) (hsz : ∀ b ∈ d, b.length ≤ 140737488355328) :
    Calls Tryz.prog 6 #[.slice A n c, .int .i64 st] w fun E w' => E = .returned (.bool true) ∧ Below w.heap.size w w' := by
  have haft := fun (t : List UInt8) (ht : t.length ≤ maxLen) (num : Int) V (hV : Below w.heap.size w V) => After_any A n c w.heap.size d t ht num V (h.below hV) hV.size hn hsz
  have hchk := fun V (hV : Below w.heap.size w V) => check_any A n c w.heap.size d V (h.below hV) hV.size hn hsz
  obtain ⟨post, hpost⟩ : ∃ post : Ending → World → Prop, post = fun E w' => E = .returned (.bool true) ∧ Below w.heap.size w w' := ⟨_, rfl⟩
  rw [← hpost]
  have HP := Lib.hid hpost; clear hpost
  have HAFT := Lib.hid haft; clear haft
  have HCHK := Lib.hid hchk; clear hchk h hsz
  obtain ⟨sk, hsk, hbit⟩ := and_mask st 7 3 rfl (by omega)
  have hbits : bits .and .i64 st 7 = (sk : Int) := hbit
  have hw1 : IntKind.i64.wrap (1 + (sk : Int)) = 1 + (sk : Int) := by rw [IntKind.wrap_i64]; omega
  clear hbit
  go_enter Tryz.func6, Tryz.ntmps6
  go_wp2_with fail
  with_reducible refine (alive_any w).mono ?_
  rintro E1 w1 ⟨rfl, hb1⟩
  have HB1 := Lib.hid hb1; clear hb1
  go_wp2_with fail
  with_reducible refine (HCHK.out w1 HB1.out).mono ?_
  rintro E2 w2 ⟨rfl, hb2⟩
  have HB2 : Hid (Below w.heap.size w w2) := Lib.hid (HB1.out.trans (hb2.mono HB1.out.size))
  clear hb2 HCHK
  cases hrd : readD d with
  | none =>
    have hc : chkD d = 13 := by unfold chkD; rw [hrd]
    have ha : afterD d [] 5 = ([], 13) := by unfold afterD; rw [hrd]
    rw [hc]
    have haft := HAFT.out [] (by decide) 5 w2 HB2.out
    rw [ha] at haft
    have HA := Lib.hid haft; clear haft HAFT hc ha hrd
    go_wp2_with fail
    with_reducible refine HA.out.mono ?_
    rintro E3 w3 ⟨A3, c3, rfl, ho3, hb3⟩
    have HB3 : Hid (Below w.heap.size w w3) := Lib.hid (HB2.out.trans (hb3.mono HB2.out.size))
    clear hb3 ho3
    dsimp only [List.length_nil]
    go_wp2
    rw [HP.out]
    exact ⟨rfl, HB3.out⟩
  | some T =>
    have hto := (readD_iff d T).1 hrd
    have hc : chkD d = 0 := by unfold chkD; rw [hrd]
    have had : ∀ t num, afterD d t num = (afterT T t num, 0) := fun t num => by unfold afterD; rw [hrd]
    simp only [had] at HAFT
    rw [hc]
    have hall := HAFT.out [] (by decide) 5000 w2 HB2.out
    rw [afterT_all hto 5000 (by omega)] at hall
    have hmost := hto.most
    have hok : ∀ x ∈ inOrder T, okN x = true := fun x hx => hto.ok ((has_mem T x).2 hx)
    have hon := fun k hk num => afterT_on hto k hk num
    have hnil := afterT_none T [] 0 (Int.le_refl _)
    have hord := hto.order
    obtain ⟨L, hL⟩ : ∃ L, L = inOrder T := ⟨_, rfl⟩
    simp only [← hL] at hall hmost hok hon hord
    obtain ⟨N, hN⟩ : ∃ N, N = L.length := ⟨_, rfl⟩
    have hstep : ∀ q, q ≤ N → ∀ V, Below w.heap.size w V → Calls Tryz.prog 19 #[.slice A n c, .string ⟨(onL L q).toArray⟩, .int .i64 (1 + (sk : Int))] V (Names2 V ((L.drop q).take (1 + sk), 0)) := fun q hq V hV => by
      have := HAFT.out (onL L q) (by have := onL_len L q (by omega) hok; unfold maxLen; omega) (1 + (sk : Int)) V hV
      rwa [hon q (by omega), show (1 + (sk : Int)).toNat = 1 + sk by omega] at this
    have hnone : ∀ V, Below w.heap.size w V → Calls Tryz.prog 19 #[.slice A n c, .string ⟨#[]⟩, .int .i64 0] V (Names2 V ([], 0)) := fun V hV => by
      have := HAFT.out [] (by decide) 0 V hV
      rwa [hnil] at this
    unfold Names2 at hall
    dsimp only at hall
    rw [← hN] at hall hmost
    have HALL := Lib.hid hall; clear hall
    have HSTEP := Lib.hid hstep; clear hstep
    have HNONE := Lib.hid hnone; clear hnone
    have HOK := Lib.hid hok; clear hok
    have HORD := Lib.hid hord; clear hord
    have HN := Lib.hid hN; clear hN
    clear HAFT hc had hrd hon hnil hL hto
    go_wp2_with fail
    with_reducible refine HALL.out.mono ?_
    rintro E3 w3 ⟨A3, c3, rfl, ho3, hb3⟩
    have HB3 : Hid (Below w.heap.size w w3) := Lib.hid (HB2.out.trans (hb3.mono HB2.out.size))
    have hr3 : ∀ V, Below w3.heap.size w3 V → HoldsX V w3.heap.size A3 N L ∧ w3.heap.size ≤ V.heap.size := fun V hV => ⟨ho3.reads.below hV, hV.size⟩
    have HR3 := Lib.hid hr3; clear hr3 ho3 hb3 HALL
    go_wp2
    go_loopw [9, 10] (fun lv nv wr => ∃ (q : Nat) (Aq : Option Addr) (cq : Nat), q ≤ N ∧ lv = .slice Aq q cq ∧ nv = .string ⟨(onL L q).toArray⟩ ∧ OwnX wr w3.heap.size (.slice Aq q cq) (L.take q) ∧ Below w3.heap.size w3 wr) (fun lv _ _ => N - lenV lv)
    case atStart => exact ⟨0, none, 0, Nat.zero_le _, rfl, by rfl, OwnX.nil _ _, Below.refl _ _⟩
    case round =>
      obtain ⟨V0, hV0⟩ : ∃ V0, V0 = wr := ⟨_, rfl⟩
      subst hV0
      obtain ⟨q, Aq, cq, hq, rfl, rfl, hown, hbr⟩ := hrel
      have HOW := Lib.hid hown; clear hown
      have HBR := Lib.hid hbr; clear hbr
      have HBW : Hid (Below w.heap.size w V0) := Lib.hid (HB3.out.trans (HBR.out.mono HB3.out.size))
      have hcall := HSTEP.out q hq V0 HBW.out
      unfold Names2 at hcall
      dsimp only at hcall
      obtain ⟨r, hr⟩ : ∃ r, r = ((L.drop q).take (1 + sk)).length := ⟨_, rfl⟩
      have hr2 : r = min (1 + sk) (N - q) := by rw [hr, List.length_take, List.length_drop, HN.out]
      rw [← hr] at hcall
      have HCALL := Lib.hid hcall; clear hcall
      obtain ⟨SN, hSN⟩ : ∃ SN : ByteArray, SN = ⟨(onL L q).toArray⟩ := ⟨_, rfl⟩
      rw [← hSN] at HCALL ⊢
      clear hSN
      have hrs : r ≤ 1 + sk := by omega
      have hrsI : (r : Int) ≤ ((1 + sk : Nat) : Int) := by omega
      have hrn : ¬ ((1 + sk : Nat) : Int) < (r : Int) := by omega
      have hrn2 : ¬ (1 + sk) < r := by omega
      have hrn3 : decide (1 + sk < r) = false := decide_eq_false (by omega)
      have hrn4 : decide (((1 + sk : Nat) : Int) < (r : Int)) = false := decide_eq_false (by omega)
      have hrn5 : decide ((r : Int) > ((1 + sk : Nat) : Int)) = false := decide_eq_false (by omega)
      have hrn6 : decide (1 + (sk : Int) < (r : Int)) = false := decide_eq_false (by omega)
      have hrn7 : ¬ (1 + (sk : Int) < (r : Int)) := by omega
      go_wp2_with fail
      with_reducible refine HCALL.out.mono ?_
      rintro E4 w4 ⟨A4, c4, rfl, ho4, hb4⟩
      have HB4 : Hid (Below w3.heap.size w3 w4) := Lib.hid (HBR.out.trans (hb4.mono HBR.out.size))
      have HOW4 := Lib.hid (HOW.out.below hb4)
      have HO4 := Lib.hid ho4
      have HS4 := Lib.hid hb4.size
      clear hb4 ho4 HCALL
      rcases Nat.eq_zero_or_pos r with h0 | h0
      · obtain rfl : q = N := by omega
        clear HO4 hr hr2 hrs hrsI hrn hrn2 hrn3 hrn4 hrn5 hrn6 hrn7
        subst h0
        have HOWL : Hid (OwnX w4 w3.heap.size (.slice Aq q cq) L) := Lib.hid (by have := HOW4.out; rwa [List.take_of_length_le (by rw [← HN.out]; omega)] at this)
        clear HOW4 HOW
        have hlall : ∀ V, Below w4.heap.size w4 V → HoldsX V w4.heap.size Aq q L ∧ w4.heap.size ≤ V.heap.size := fun V hV => ⟨HOWL.out.reads.below hV, hV.size⟩
        have HLL := Lib.hid hlall; clear hlall
        have HBW4 : Hid (Below w.heap.size w w4) := Lib.hid (HB3.out.trans (HB4.out.mono HB3.out.size))
        go_wp2
        go_loopw [13] (fun iv wr => ∃ i : Nat, 1 ≤ i ∧ (i ≤ q ∨ i = 1) ∧ iv = .int .i64 (i : Int) ∧ Below w4.heap.size w4 wr) (fun iv _ => q - (intOf iv).toNat)
        case atStart => exact ⟨1, by omega, by omega, rfl, Below.refl _ _⟩
        case round =>
          obtain ⟨V1, hV1⟩ : ∃ V1, V1 = wr := ⟨_, rfl⟩
          subst hV1
          obtain ⟨i, hi1, hi2, rfl, hbi⟩ := hrel
          have HBI := Lib.hid hbi; clear hbi
          rcases Nat.lt_or_ge i q with hiq | hiq
          · obtain ⟨j, rfl⟩ : ∃ j, i = j + 1 := ⟨i - 1, by omega⟩
            have hjl : j < L.length := by have := HN.out; omega
            have hil : j + 1 < L.length := by have := HN.out; omega
            obtain ⟨b, off, rfl, hbB⟩ := (HLL.out V1 HBI.out).1.addr (by omega)
            obtain ⟨S0, hS0⟩ : ∃ S0 : ByteArray, S0 = ⟨(L[j]).t.toArray⟩ := ⟨_, rfl⟩
            obtain ⟨S1, hS1⟩ : ∃ S1 : ByteArray, S1 = ⟨(L[j + 1]).t.toArray⟩ := ⟨_, rfl⟩
            have hld : ∀ V, Below V1.heap.size V1 V → V.cell? ⟨b, off + j * 2, none⟩ = some (.string S0) ∧ V.cell? ⟨b, off + (j + 1) * 2, none⟩ = some (.string S1) := fun V hV => by
              have hV4 : Below w4.heap.size w4 V := HBI.out.trans (hV.mono HBI.out.size)
              exact ⟨by rw [hS0]; exact ((HLL.out V hV4).1.cell j hjl).1, by rw [hS1]; exact ((HLL.out V hV4).1.cell (j + 1) hil).1⟩
            have hbelow : ∀ V, Calls Tryz.prog 25 #[.string S0, .string S1] V fun e w' => e = .returned (.bool true) ∧ Below V.heap.size V w' := fun V => by
              have hb := List.pairwise_iff_getElem.1 HORD.out j (j + 1) hjl hil (by omega)
              have hm := fun k (hk : k < L.length) => (may_len (okN_may (HOK.out _ (List.getElem_mem hk))).1).2
              have h1 := below_any S0 S1 (by rw [hS0, text_size]; have := hm j hjl; unfold maxLen; omega) (by rw [hS1, text_size]; have := hm (j + 1) hil; unfold maxLen; omega) V
              rw [show bel S0.data.toList S1.data.toList = true by rw [hS0, hS1]; exact hb] at h1
              exact h1
            have HLD := Lib.hid hld; clear hld hS0 hS1
            have HBEL := Lib.hid hbelow; clear hbelow
            have hji : (0 : Int) ≤ (j : Int) := by omega
            have hjq : (j : Int) < (q : Int) := by omega
            have hjq1 : (j : Int) + 1 < (q : Int) := by omega
            have hj1 : (0 : Int) ≤ (j : Int) + 1 := by omega
            have hwj2 : IntKind.i64.wrap (j : Int) = (j : Int) := by rw [IntKind.wrap_i64]; omega
            have hwj : IntKind.i64.wrap ((j : Int) + 1 - 1) = (j : Int) := by rw [IntKind.wrap_i64]; omega
            go_wp2
            refine wp_region_E (fun V => Below V1.heap.size V1 V) 99 rfl ?_
            have hS := (show Below V1.heap.size V1 V1.drew from (Below.refl _ V1).drew)
            refine wpE_takeF 0 ⟨some 83, _, _, _, _, _⟩ (v := ?_) (by decide) rfl (by kernel_rfl) (by kernel_rfl) (by kernel_rfl) (fun _ _ _ h => h) hS (Or.inl ⟨by kernel_rfl, ?_⟩) ?_
            rotate_left
            · (intro V hSw; obtain ⟨q0, q1⟩ := HLD.out V hSw; go_simp; try with_reducible rfl)
            try simp only [Act.put]
            refine wpE_takeF 1 ⟨some 84, _, _, _, _, _⟩ (v := ?_) (by decide) rfl (by kernel_rfl) (by kernel_rfl) (by kernel_rfl) (fun _ _ _ h => h) hS (Or.inl ⟨by kernel_rfl, ?_⟩) ?_
            rotate_left
            · (intro V hSw; obtain ⟨q0, q1⟩ := HLD.out V hSw; go_simp; try with_reducible rfl)
            try simp only [Act.put]
            refine wpE_takeF 2 ⟨some 85, _, _, _, _, _⟩ (v := ?_) (by decide) rfl (by kernel_rfl) (by kernel_rfl) (by kernel_rfl) (fun _ _ _ h => h) hS (Or.inl ⟨by kernel_rfl, ?_⟩) ?_
            rotate_left
            · (intro V hSw; obtain ⟨q0, q1⟩ := HLD.out V hSw; go_simp; try with_reducible rfl)
            try simp only [Act.put]
            refine wpE_takeF 3 ⟨some 86, _, _, _, _, _⟩ (v := ?_) (by decide) rfl (by kernel_rfl) (by kernel_rfl) (by kernel_rfl) (fun _ _ _ h => h) hS (Or.inl ⟨by kernel_rfl, ?_⟩) ?_
            rotate_left
            · (intro V hSw; obtain ⟨q0, q1⟩ := HLD.out V hSw; go_simp; try with_reducible rfl)
            try simp only [Act.put]
            refine wpE_takeF 4 ⟨some 87, _, _, _, _, _⟩ (v := ?_) (by decide) rfl (by kernel_rfl) (by kernel_rfl) (by kernel_rfl) (fun _ _ _ h => h) hS (Or.inl ⟨by kernel_rfl, ?_⟩) ?_
            rotate_left
            · (intro V hSw; obtain ⟨q0, q1⟩ := HLD.out V hSw; go_simp; try with_reducible rfl)
            try simp only [Act.put]
            refine wpE_takeF 5 ⟨some 88, _, _, _, _, _⟩ (v := ?_) (by decide) rfl (by kernel_rfl) (by kernel_rfl) (by kernel_rfl) (fun _ _ _ h => h) hS (Or.inl ⟨by kernel_rfl, ?_⟩) ?_
            rotate_left
            · (intro V hSw; obtain ⟨q0, q1⟩ := HLD.out V hSw; go_simp; try with_reducible rfl)
            try simp only [Act.put]
            refine wpE_takeF 6 ⟨some 89, _, _, _, _, _⟩ (v := ?_) (by decide) rfl (by kernel_rfl) (by kernel_rfl) (by kernel_rfl) (fun _ _ _ h => h) hS (Or.inl ⟨by kernel_rfl, ?_⟩) ?_
            rotate_left
            · (intro V hSw; obtain ⟨q0, q1⟩ := HLD.out V hSw; go_simp; try with_reducible rfl)
            try simp only [Act.put]
            refine wpE_takeF 7 ⟨some 90, _, _, _, _, _⟩ (v := ?_) (by decide) rfl (by kernel_rfl) (by kernel_rfl) (by kernel_rfl) (fun _ _ _ h => h) hS (Or.inl ⟨by kernel_rfl, ?_⟩) ?_
            rotate_left
            · (intro V hSw; obtain ⟨q0, q1⟩ := HLD.out V hSw; go_simp; try with_reducible rfl)
            try simp only [Act.put]
            refine wpE_takeF 8 ⟨some 91, _, _, _, _, _⟩ (v := ?_) (by decide) rfl (by kernel_rfl) (by kernel_rfl) (by kernel_rfl) (fun _ _ _ h => h) hS (Or.inl ⟨by kernel_rfl, ?_⟩) ?_
            rotate_left
            · (intro V hSw; obtain ⟨q0, q1⟩ := HLD.out V hSw; go_simp; try with_reducible rfl)
            try simp only [Act.put]
            refine wpE_takeF 9 ⟨some 92, _, _, _, _, _⟩ (v := ?_) (by decide) rfl (by kernel_rfl) (by kernel_rfl) (by kernel_rfl) (fun _ _ _ h => h) hS (Or.inl ⟨by kernel_rfl, ?_⟩) ?_
            rotate_left
            · (intro V hSw; obtain ⟨q0, q1⟩ := HLD.out V hSw; go_simp; try with_reducible rfl)
            try simp only [Act.put]
            refine wpE_takeF 10 ⟨some 93, _, _, _, _, _⟩ (v := ?_) (by decide) rfl (by kernel_rfl) (by kernel_rfl) (by kernel_rfl) (fun _ _ _ h => h) hS (Or.inl ⟨by kernel_rfl, ?_⟩) ?_
            rotate_left
            · (intro V hSw; obtain ⟨q0, q1⟩ := HLD.out V hSw; go_simp; try with_reducible rfl)
            try simp only [Act.put]
            refine wpE_one 11 (o := ⟨some 94, _, _, _, _, _⟩) (by kernel_rfl) rfl (fun K' hK' => ?_)
            rw [if_pos (by kernel_rfl)]
            refine call_wp 25 _ _ _ _ rfl Tryz.func25 (by kernel_rfl) rfl _ ?hv _ (HBEL.out _) ?_
            case hv => simp only [List.map_toArray, List.map_cons, List.map_nil]; go_simp
            rintro E V2 ⟨rfl, hb2⟩
            have hb2' : Below V1.heap.size V1 V2 := hS.trans (hb2.mono hS.size)
            refine ⟨_, rfl, hK'.out _ _ hb2' (fun hS => ?_)⟩
            clear hK' K'
            try simp only [Act.put]
            refine wpE_takeF 12 ⟨some 95, _, _, _, _, _⟩ (v := ?_) (by decide) rfl (by kernel_rfl) (by kernel_rfl) (by kernel_rfl) (fun _ _ _ h => h) hS (Or.inl ⟨by kernel_rfl, ?_⟩) ?_
            rotate_left
            · (intro V hSw; go_simp; try with_reducible rfl)
            try simp only [Act.put]
            refine wpE_done (by kernel_rfl) ?_ _
            try simp only [List.setIfInBounds_toArray, List.set_cons_succ, List.set_cons_zero]
            have HBI2 : Hid (Below w4.heap.size w4 V2) := Lib.hid (HBI.out.trans (hS.mono HBI.out.size))
            clear hS hb2 hb2'
            go_wp2
            go_roundw
            case rel => exact ⟨j + 2, by omega, by omega, by go_num, HBI2.out⟩
            case measure => simp [intOf]; omega
          · have hiq2 : ¬ (i : Int) < (q : Int) := by omega
            have HBWI : Hid (Below w.heap.size w V1) := Lib.hid (HBW4.out.trans (HBI.out.mono HBW4.out.size))
            have hnone := HNONE.out V1 HBWI.out
            unfold Names2 at hnone
            dsimp only [List.length_nil] at hnone
            have HNC := Lib.hid hnone; clear hnone
            go_wp2_with fail
            with_reducible refine HNC.out.mono ?_
            rintro E5 w5 ⟨A5, c5, rfl, ho5, hb5⟩
            have HB5 : Hid (Below w4.heap.size w4 w5) := Lib.hid (HBI.out.trans (hb5.mono HBI.out.size))
            have HBW5 : Hid (Below w.heap.size w w5) := Lib.hid (HBW4.out.trans (HB5.out.mono HBW4.out.size))
            have h35 : Below w3.heap.size w3 w5 := HB4.out.trans (HB5.out.mono HB4.out.size)
            have hsame := same_any Aq A3 q q cq c3 w4.heap.size w3.heap.size L L w5 (HLL.out w5 HB5.out).1 (HR3.out w5 h35).1 (HLL.out w5 HB5.out).2 (HR3.out w5 h35).2 (by omega)
            rw [decide_eq_true rfl] at hsame
            have HSAME := Lib.hid hsame
            clear hsame h35 ho5 hb5 HNC
            go_wp2_with fail
            with_reducible refine HSAME.out.mono ?_
            rintro E6 w6 ⟨rfl, hb6⟩
            go_wp2
            rw [HP.out]
            exact ⟨rfl, HBW5.out.trans (hb6.mono HBW5.out.size)⟩
      · obtain ⟨r1, rfl⟩ : ∃ r1, r = r1 + 1 := ⟨r - 1, by omega⟩
        have hqr : q + (r1 + 1) ≤ N := by omega
        obtain ⟨v5, w5, hrun, ho5, hg5⟩ := run_addX w4 38 w3.heap.size (.slice Aq q cq) (L.take q) HOW4.out w4.heap.size A4 (r1 + 1) c4 ((L.drop q).take (1 + sk)) HO4.out.reads (by rw [List.length_take]; omega) (by have := HBR.out.size; have := HS4.out; omega)
        have hte : (L.drop q).take (1 + sk) = (L.drop q).take (r1 + 1) := by
          rcases Nat.lt_or_ge (1 + sk) (N - q) with c1 | c1
          · rw [show r1 + 1 = 1 + sk by omega]
          · rw [List.take_of_length_le (show (L.drop q).length ≤ 1 + sk by rw [List.length_drop, ← HN.out]; omega), List.take_of_length_le (show (L.drop q).length ≤ r1 + 1 by rw [List.length_drop, ← HN.out]; omega)]
        have htk : L.take q ++ (L.drop q).take (1 + sk) = L.take (q + (r1 + 1)) := by rw [hte, ← List.take_add]
        rw [htk] at ho5
        obtain ⟨A5, c5, rfl⟩ := ho5.shape
        have hl5 : (L.take (q + (r1 + 1))).length = q + (r1 + 1) := by rw [List.length_take, ← HN.out]; omega
        rw [hl5] at ho5 hrun
        have HB5 : Hid (Below w3.heap.size w3 w5) := Lib.hid (HB4.out.trans (hg5.below (by have := HB4.out.size; omega) (fun i hi => (HOW4.out.lt i hi).1)))
        obtain ⟨g4, rfl, hg41, hg42, -⟩ := HO4.out.form h0
        have hr4 := (HO4.out.kept (w' := w5) (fun g hg => by
          have e : g4 = g := Option.some.inj hg
          subst e
          exact hg5.1.block g4 hg42 (fun e => by have := (HOW.out.lt g4 e.symm).2; omega))).reads
        have q5 := (hr4.cell r1 (by omega)).1
        have hlast : onL L (q + (r1 + 1)) = (((L.drop q).take (1 + sk))[r1]'(by omega)).t := by
          rw [onL_last L q (r1 + 1) (by omega) (by rw [← HN.out]; exact hqr)]
          simp only [Nat.add_sub_cancel, hte]
        rw [← hlast] at q5
        rw [Nat.zero_add] at q5
        have HO5 := Lib.hid ho5
        have hwr : IntKind.i64.wrap (((r1 + 1 : Nat) : Int) - 1) = (r1 : Int) := by rw [IntKind.wrap_i64]; omega
        have hwr2 : IntKind.i64.wrap ((r1 : Int) + 1 - 1) = (r1 : Int) := by rw [IntKind.wrap_i64]; omega
        have hr10 : (0 : Int) ≤ (r1 : Int) := by omega
        have hr11 : (r1 : Int) < ((r1 + 1 : Nat) : Int) := by omega
        have hr12 : (r1 : Int) < (r1 : Int) + 1 := by omega
        have hne0 : ¬ ((r1 : Int) + 1 = 0) := by omega
        have hfar1 : ¬ (N : Int) < ((q + (r1 + 1) : Nat) : Int) := by omega
        have hfar2 : ¬ N < q + (r1 + 1) := by omega
        have hfar3 : decide (N < q + (r1 + 1)) = false := decide_eq_false (by omega)
        have hfar4 : ¬ (N : Int) < (q : Int) + ((r1 : Int) + 1) := by omega
        obtain ⟨SM, hSM⟩ : ∃ SM : ByteArray, SM = ⟨(onL L (q + (r1 + 1))).toArray⟩ := ⟨_, rfl⟩
        rw [← hSM] at q5
        have HSM := Lib.hid hSM
        clear ho5 hg5 htk hte hl5 hr4 hlast HO4 HOW4 HOW hg41 hg42 hr hr2 hSM
        go_wp2_with (at_builtin; refine wpList_apprun rfl _ _ _ _ (by rfl) _ _ (by rfl) (by rfl) _ _ hrun ?_)
        clear hrun
        go_wp2
        go_roundw
        case rel => exact ⟨q + (r1 + 1), A5, c5, hqr, rfl, by rw [HSM.out], HO5.out, HB5.out⟩
        case measure => simp [lenV]; omega

theorem walks : Walks 6 Tryz.f6 All := by
  intro H enc W base args ds p hval hA hsz _
  rw [Tryz.params6] at hA hval hsz
  obtain ⟨v0, vs0, d0, ds0, p0, q0, hargs, rfl, rfl, h0, r0⟩ := trodAll_cons hA
  obtain ⟨v1, vs1, d1, ds1, p1, q1, rfl, rfl, rfl, h1, r1⟩ := trodAll_cons r0
  obtain ⟨rfl, rfl, rfl⟩ := trodAll_nil r1
  obtain rfl : args = #[v0, v1] := by cases args; simp_all
  obtain ⟨A0, n0, c0, N0, rfl, hN0, hn0, hc0, hz0⟩ := nodes_openS (hval 0 _ v0 rfl rfl) h0 _ (reach_nodes hsz (j := 0) rfl rfl) (weights_nodes hsz (j := 0) rfl rfl)
  obtain ⟨x1, rfl, rfl, rfl, hx1⟩ := open_int Tryz.underlying3 (hval 1 _ v1 rfl rfl) h1
  have bx1 := bounds_i64 hx1
  exact walk A0 n0 c0 N0 x1 W hN0 (by omega) (fun b hb => by have := hz0 b hb; omega)

set_option maxRecDepth 100000 in
theorem proved : Rows.HtreeAfterSaid :=
  OpenClaim.holds_of_wide 6 Tryz.f6 rfl rfl rfl rfl rfl rfl rfl ⟨rfl, rfl, rfl, rfl, rfl⟩ rfl rfl rfl rfl rfl (by kernel_rfl) Tryz.func6 (by kernel_rfl)
    (of_decide_eq_true (by kernel_rfl)) (by unfold Func.isWrapper; first | (rw [if_pos (by decide +kernel)]; kernel_rfl) | (rw [if_neg (by decide +kernel)]; exact ⟨rfl, rfl⟩))
    (fun os started H enc _ => lifted (s := Rows.htreeAfterSpec) walks (by kernel_rfl) rfl rfl (fun H ds hl => by match ds, hl with | [d1, d2], _ => rfl) (by kernel_rfl) Tryz.func6 os started H enc
      (ChangeSpec.witness6 (enc := enc) (C := Tryz.checked) false ⟨#[], #[.slice none 0 0, .int .i64 0], []⟩ 8 (by kernel_rfl) (by kernel_rfl) (by kernel_rfl) (by kernel_rfl)))
#print axioms proved
end Go.Proofs.YtbagocghlijleaaGreat.HtreeAfter
