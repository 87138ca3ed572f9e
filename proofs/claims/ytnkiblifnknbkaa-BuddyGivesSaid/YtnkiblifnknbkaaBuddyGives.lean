/- BuddyGives: for every list of bytes, every number and every span, what the program takes back, the chunks that are free and the number of free blocks are what the document says, and the bytes that are handed in are unchanged. -/
import Derived.Test.YtnkiblifnknbkaaBdArg
namespace Go.Proofs.Ytnkiblifnknbkaa.BuddyGives
set_option maxRecDepth 20000
open Go Go.ChangeShapes Go.WideShapes Go.ChangeAt Go.RowKit
open Go.Proofs.Ytnkiblifnknbkaa.Mem Go.Proofs.Ytnkiblifnknbkaa.Bt Go.Proofs.Ytnkiblifnknbkaa.Rec Go.Proofs.Ytnkiblifnknbkaa.Bits Go.Proofs.Ytnkiblifnknbkaa.Bd Go.Proofs.Ytnkiblifnknbkaa.Buddy Go.Proofs.Ytnkiblifnknbkaa.Lift
attribute [local go_sem ↓] ldS_eq stS_eq eqS_eq

set_option maxRecDepth 100000 in
set_option maxHeartbeats 4000000 in
theorem walk (A : Option Addr) (n c : Nat) (bs : List UInt8) (x s l : Int) (w : World) (h : Holds w w.heap.size A n bs) (hc : n ≤ c) (hm : c ≤ 140737488351232) (f2 : x ≤ 9223372036854775807) (f3 : s ≤ 9223372036854775807) :
    Calls Try.prog 4 #[.slice A n c, .int .i64 x, .agg (spanV s l)] w fun e w' => e = .returned (.bool true) ∧ Below w.heap.size w w' := by
  obtain rfl : bs.length = n := h.1
  have HM := fun (V : World) (hb : Below w.heap.size w V) => h.below hb
  have H := Lib.hid HM; clear HM h
  obtain ⟨k, hk⟩ : ∃ k : Nat, (k = 0 ∧ poolB bs.length x = false) ∨ (k = 1 ∧ poolB bs.length x = true ∧ withinB s l x = false) ∨ (k = 2 ∧ poolB bs.length x = true ∧ withinB s l x = true) := by
    cases h1 : poolB bs.length x
    · exact ⟨0, .inl ⟨rfl, rfl⟩⟩
    · cases h2 : withinB s l x
      · exact ⟨1, .inr (.inl ⟨rfl, rfl, rfl⟩)⟩
      · exact ⟨2, .inr (.inr ⟨rfl, rfl, rfl⟩)⟩
  rcases hk with ⟨-, hp⟩ | ⟨-, hp, hw⟩ | ⟨-, hp, hw⟩
  · skip
    have hpw : (poolB bs.length x && withinB s l x) = false := by rw [hp]; rfl
    have hgi := fun (A' : Option Addr) (c' : Nat) (V : World) => give_bad A' bs.length c' V x s l (by omega) f3 f2 hpw
    have hrgi := fun (V : World) => rgive_bad A bs.length c V x s l (by omega) f2 hpw
    have hor := fun (A' : Option Addr) (c' : Nat) (V : World) => orders_bad A' bs.length c' V x (by omega) hp
    have hror := fun (V : World) => rorders_bad A bs.length c V x (by omega) hp
    have hfr := fun (A' : Option Addr) (c' : Nat) (V : World) => free_bad A' bs.length c' V x (by omega) hp
    have hrfr := fun (V : World) => rfreeN_bad A bs.length c V x (by omega) hp
    have HGI := Lib.hid hgi; clear hgi
    have HRGI := Lib.hid hrgi; clear hrgi
    have HOR := Lib.hid hor; clear hor
    have HROR := Lib.hid hror; clear hror
    have HFR := Lib.hid hfr; clear hfr
    have HRFR := Lib.hid hrfr; clear hrfr
    clear hp hpw
    obtain ⟨W0, hW0⟩ : ∃ W0, W0 = w.alloc (.cells (spanV s l) 27) := ⟨_, rfl⟩
    have hb0 : Below w.heap.size w W0 := by rw [hW0]; exact (Below.refl _ w).alloc (Nat.le_refl _) _
    have hx0 : W0.heap[w.heap.size]? = some (.cells (spanV s l) 27 (0, 0)) := by rw [hW0]; exact heap_alloc_new w _
    have hz0 : W0.heap.size = w.heap.size + 1 := by rw [hW0]; simp
    have HLD := Lib.hid (fun (V : World) (hV : Below W0.heap.size W0 V) => run_ldS V w.heap.size s l ((hV.block w.heap.size (by omega)).trans hx0))
    have HM := Lib.hid (fun (V : World) (hV : Below W0.heap.size W0 V) => hb0.trans (hV.mono hb0.size)); clear hb0 hx0
    have HW := Lib.hid hW0; clear hW0
    go_enter Try.func4, Try.ntmps4
    go_wp2_with fail
    rw [← HW.out]
    with_reducible refine (alive_any W0).mono ?_
    rintro e w1 ⟨rfl, hb1⟩
    have ho := owned_made w1 [] w1.heap.size (Nat.le_refl _) (by unfold maxLen; simp)
    have HC1 := Lib.hid hb1; clear hb1
    have HO1 := Lib.hid ho; clear ho
    go_wp2_with (at_builtin; refine wpList_addall rfl (.tmp 22) (.tmp 23) rfl w1.heap.size _ [] rfl HO1.out w.heap.size A bs.length c bs rfl ?c1 ?c2 ?c3 ?_)
    case c1 => exact H.out _ (HM.out _ (HC1.out.alloc HC1.out.size _))
    case c2 => simp; omega
    case c3 => simp
    intro v w2 ho2 hb2
    have hcb2 : Below w1.heap.size w1 w2 := ((Below.refl _ w1).alloc (Nat.le_refl _) _).trans hb2
    have hC2 := thenB HC1.out hcb2
    obtain ⟨A2, c2, rfl, -⟩ := Owned.holds ho2
    have hG := fun (V : World) (hV : Below w2.heap.size w2 V) => (Owned.reads ho2).below hV
    have HG := Lib.hid hG; clear hG ho2 hb2 hcb2 HO1 HC1
    have hG2 : Below w2.heap.size w2 w2 := Below.refl _ _
    have l2 := HLD.out w2 hC2
    have HC2 := Lib.hid hC2; clear hC2
    have HG2 := Lib.hid hG2; clear hG2
    go_wp2_with fail
    with_reducible refine (HGI.out A2 c2 w2).mono ?_
    rintro e w3 ⟨rfl, hb3⟩
    have HC3 := Lib.hid (thenB HC2.out hb3)
    have HG3 := Lib.hid (thenB HG2.out hb3)
    have HK3 := Lib.hid hb3; clear hb3 l2
    have l3 := HLD.out w3 HC3.out
    go_wp2_with fail
    with_reducible refine (HRGI.out w3).mono ?_
    rintro e w4 ⟨rfl, hb4⟩
    have HC4 := Lib.hid (thenB HC3.out hb4)
    have HG4 := Lib.hid (thenB HG3.out hb4)
    clear hb4 l3
    have htx := fun (V : World) => text_of (c := 0) (holds_nil V 0) (Nat.zero_le _) V (Below.refl _ _)
    go_wp2_with fail
    with_reducible refine (HOR.out A2 c2 w4).mono ?_
    rintro e w5 ⟨rfl, hb5⟩
    have HC5 := Lib.hid (thenB HC4.out hb5)
    have HG5 := Lib.hid (thenB HG4.out hb5)
    clear hb5
    go_wp2_with fail
    with_reducible refine (HROR.out w5).mono ?_
    rintro e w6 ⟨rfl, rfl⟩
    go_wp2_with fail
    with_reducible refine (HFR.out A2 c2 w5).mono ?_
    rintro e w7 ⟨rfl, rfl⟩
    go_wp2_with fail
    with_reducible refine (HRFR.out w5).mono ?_
    rintro e w8 ⟨rfl, rfl⟩
    have u1 := htx w5
    clear htx
    go_wp2_with fail
    with_reducible refine (same0_any w5).mono ?_
    rintro e w9 ⟨rfl, hb9⟩
    have hC9 := thenB HC5.out hb9
    have hG9 := thenB HG5.out hb9
    have u8 := run_text w9 w2.heap.size A2 bs.length c2 bs (HG.out w9 hG9)
    have u9 := run_text w9 w.heap.size A bs.length c bs (H.out w9 (HM.out _ hC9))
    have HF := Lib.hid (HM.out _ hC9); clear hC9 hG9 hb9 u1
    go_wp2
    go_ret
    exact ⟨rfl, HF.out⟩
  · skip
    have hpw : (poolB bs.length x && withinB s l x) = false := by rw [hp, hw]; rfl
    have hgi := fun (A' : Option Addr) (c' : Nat) (V : World) => give_bad A' bs.length c' V x s l (by omega) f3 f2 hpw
    have hrgi := fun (V : World) => rgive_bad A bs.length c V x s l (by omega) f2 hpw
    obtain ⟨h0, h1⟩ := of_decide_eq_true hp
    obtain ⟨nn, rfl⟩ : ∃ nn : Nat, x = (nn : Int) := ⟨x.toNat, by omega⟩
    have hor := fun (A' : Option Addr) (c' : Nat) (B : Nat) (V : World) (hh : Holds V B A' bs.length bs) (hB : B ≤ V.heap.size) => orders_ok A' bs.length c' B bs nn V hh hB (by omega) (by omega)
    have hror := fun (V : World) (hV : Below w.heap.size w V) => rorders_ok A bs.length c w.heap.size bs V nn (H.out V hV) hV.size (by omega) (by omega)
    have hfr := fun (A' : Option Addr) (c' : Nat) (B : Nat) (V : World) (hh : Holds V B A' bs.length bs) (hB : B ≤ V.heap.size) => free_ok A' bs.length c' B bs V nn hh hB (by omega) (by omega)
    have hrfr := fun (V : World) (hV : Below w.heap.size w V) => rfreeN_ok A bs.length c w.heap.size bs V nn (H.out V hV) hV.size (by omega) (by omega)
    obtain ⟨L, hL⟩ : ∃ L, L = chunksL (bt bs) nn := ⟨_, rfl⟩
    rw [← hL] at hor hror
    obtain ⟨F, hF⟩ : ∃ F, F = freeN bs nn := ⟨_, rfl⟩
    rw [← hF] at hfr hrfr
    clear hL hF
    have HGI := Lib.hid hgi; clear hgi
    have HRGI := Lib.hid hrgi; clear hrgi
    have HOR := Lib.hid hor; clear hor
    have HROR := Lib.hid hror; clear hror
    have HFR := Lib.hid hfr; clear hfr
    have HRFR := Lib.hid hrfr; clear hrfr
    clear hp hpw hw
    obtain ⟨W0, hW0⟩ : ∃ W0, W0 = w.alloc (.cells (spanV s l) 27) := ⟨_, rfl⟩
    have hb0 : Below w.heap.size w W0 := by rw [hW0]; exact (Below.refl _ w).alloc (Nat.le_refl _) _
    have hx0 : W0.heap[w.heap.size]? = some (.cells (spanV s l) 27 (0, 0)) := by rw [hW0]; exact heap_alloc_new w _
    have hz0 : W0.heap.size = w.heap.size + 1 := by rw [hW0]; simp
    have HLD := Lib.hid (fun (V : World) (hV : Below W0.heap.size W0 V) => run_ldS V w.heap.size s l ((hV.block w.heap.size (by omega)).trans hx0))
    have HM := Lib.hid (fun (V : World) (hV : Below W0.heap.size W0 V) => hb0.trans (hV.mono hb0.size)); clear hb0 hx0
    have HW := Lib.hid hW0; clear hW0
    go_enter Try.func4, Try.ntmps4
    go_wp2_with fail
    rw [← HW.out]
    with_reducible refine (alive_any W0).mono ?_
    rintro e w1 ⟨rfl, hb1⟩
    have ho := owned_made w1 [] w1.heap.size (Nat.le_refl _) (by unfold maxLen; simp)
    have HC1 := Lib.hid hb1; clear hb1
    have HO1 := Lib.hid ho; clear ho
    go_wp2_with (at_builtin; refine wpList_addall rfl (.tmp 22) (.tmp 23) rfl w1.heap.size _ [] rfl HO1.out w.heap.size A bs.length c bs rfl ?c1 ?c2 ?c3 ?_)
    case c1 => exact H.out _ (HM.out _ (HC1.out.alloc HC1.out.size _))
    case c2 => simp; omega
    case c3 => simp
    intro v w2 ho2 hb2
    have hcb2 : Below w1.heap.size w1 w2 := ((Below.refl _ w1).alloc (Nat.le_refl _) _).trans hb2
    have hC2 := thenB HC1.out hcb2
    obtain ⟨A2, c2, rfl, -⟩ := Owned.holds ho2
    have hG := fun (V : World) (hV : Below w2.heap.size w2 V) => (Owned.reads ho2).below hV
    have HG := Lib.hid hG; clear hG ho2 hb2 hcb2 HO1 HC1
    have hG2 : Below w2.heap.size w2 w2 := Below.refl _ _
    have l2 := HLD.out w2 hC2
    have HC2 := Lib.hid hC2; clear hC2
    have HG2 := Lib.hid hG2; clear hG2
    go_wp2_with fail
    with_reducible refine (HGI.out A2 c2 w2).mono ?_
    rintro e w3 ⟨rfl, hb3⟩
    have HC3 := Lib.hid (thenB HC2.out hb3)
    have HG3 := Lib.hid (thenB HG2.out hb3)
    have HK3 := Lib.hid hb3; clear hb3 l2
    have l3 := HLD.out w3 HC3.out
    go_wp2_with fail
    with_reducible refine (HRGI.out w3).mono ?_
    rintro e w4 ⟨rfl, hb4⟩
    have HC4 := Lib.hid (thenB HC3.out hb4)
    have HG4 := Lib.hid (thenB HG3.out hb4)
    clear hb4 l3
    have htx := fun (V : World) => text_of (c := 0) (holds_nil V 0) (Nat.zero_le _) V (Below.refl _ _)
    go_wp2_with fail
    with_reducible refine (HOR.out A2 c2 w2.heap.size w4 (HG.out w4 HG4.out) HG4.out.size).mono ?_
    rintro e w5 ⟨M, hM, rfl, hrow, hb5⟩
    have HC5 := Lib.hid (thenB HC4.out hb5)
    have HG5 := Lib.hid (thenB HG4.out hb5)
    clear hb5 hM
    have HR5 := Lib.hid hrow; clear hrow
    have hMs := (Array.getElem?_eq_some_iff.1 HR5.out).1
    go_wp2_with fail
    with_reducible refine (HROR.out w5 (HM.out _ HC5.out)).mono ?_
    rintro e w6 ⟨M', hM', rfl, hrow', hb6⟩
    have HC6 := Lib.hid (thenB HC5.out hb6)
    have HG6 := Lib.hid (thenB HG5.out hb6)
    have HR6 := Lib.hid ((hb6.block M hMs).trans HR5.out)
    have hMs6 : M < w6.heap.size := Nat.lt_of_lt_of_le hMs hb6.size
    clear hb6 hM'
    have HQ6 := Lib.hid hrow'; clear hrow'
    have hQs := (Array.getElem?_eq_some_iff.1 HQ6.out).1
    go_wp2_with fail
    with_reducible refine (HFR.out A2 c2 w2.heap.size w6 (HG.out w6 HG6.out) HG6.out.size).mono ?_
    rintro e w7 ⟨rfl, hb7⟩
    have HC7 := Lib.hid (thenB HC6.out hb7)
    have HG7 := Lib.hid (thenB HG6.out hb7)
    have HR7 := Lib.hid ((hb7.block M hMs6).trans HR6.out)
    have HQ7 := Lib.hid ((hb7.block M' hQs).trans HQ6.out)
    have hMs7 : M < w7.heap.size := Nat.lt_of_lt_of_le hMs6 hb7.size
    have hQs7 : M' < w7.heap.size := Nat.lt_of_lt_of_le hQs hb7.size
    clear hb7
    go_wp2_with fail
    with_reducible refine (HRFR.out w7 (HM.out _ HC7.out)).mono ?_
    rintro e w8 ⟨rfl, hb8⟩
    have HC8 := Lib.hid (thenB HC7.out hb8)
    have HG8 := Lib.hid (thenB HG7.out hb8)
    have HR8 := Lib.hid ((hb8.block M hMs7).trans HR7.out)
    have HQ8 := Lib.hid ((hb8.block M' hQs7).trans HQ7.out)
    clear hb8 hMs hMs6 hMs7 hQs hQs7
    have u1 := htx w8
    clear htx
    go_wp2_with fail
    with_reducible refine (same7_any M M' L w8 HR8.out HQ8.out).mono ?_
    rintro e w9 ⟨rfl, hb9⟩
    have hC9 := thenB HC8.out hb9
    have hG9 := thenB HG8.out hb9
    have u8 := run_text w9 w2.heap.size A2 bs.length c2 bs (HG.out w9 hG9)
    have u9 := run_text w9 w.heap.size A bs.length c bs (H.out w9 (HM.out _ hC9))
    have HF := Lib.hid (HM.out _ hC9); clear hC9 hG9 hb9 u1
    go_wp2
    go_ret
    exact ⟨rfl, HF.out⟩
  · skip
    obtain ⟨w0, w1, w2⟩ := of_decide_eq_true hw
    have hx0 := (of_decide_eq_true hp).1
    obtain ⟨nn, rfl⟩ : ∃ nn : Nat, x = (nn : Int) := ⟨x.toNat, by omega⟩
    obtain ⟨s, rfl⟩ : ∃ s' : Nat, s = (s' : Int) := ⟨s.toNat, by omega⟩
    obtain ⟨l, rfl⟩ : ∃ l' : Nat, l = (l' : Int) := ⟨l.toNat, by omega⟩
    by_cases hall : cnt (bt bs) s l = l
    · obtain ⟨h0, h1⟩ := of_decide_eq_true hp
      have hgi := fun (A' : Option Addr) (c' : Nat) (B : Nat) (V : World) (hh : Holds V B A' bs.length bs) (hB : B ≤ V.heap.size) => give_run A' bs.length c' B bs V nn s l hh hB (by omega) (by omega) (by omega) (by omega)
      have hrgi := fun (V : World) (hV : Below w.heap.size w V) => rgive_run A bs.length c w.heap.size bs V nn s l (H.out V hV) hV.size (by omega) (by omega) (by omega) (by omega)
      have hor := fun (A' : Option Addr) (c' : Nat) (B : Nat) (V : World) (hh : Holds V B A' bs.length bs) (hB : B ≤ V.heap.size) => orders_ok A' bs.length c' B bs nn V hh hB (by omega) (by omega)
      have hror := fun (V : World) (hV : Below w.heap.size w V) => rorders_ok A bs.length c w.heap.size bs V nn (H.out V hV) hV.size (by omega) (by omega)
      have hfr := fun (A' : Option Addr) (c' : Nat) (B : Nat) (V : World) (hh : Holds V B A' bs.length bs) (hB : B ≤ V.heap.size) => free_ok A' bs.length c' B bs V nn hh hB (by omega) (by omega)
      have hrfr := fun (V : World) (hV : Below w.heap.size w V) => rfreeN_ok A bs.length c w.heap.size bs V nn (H.out V hV) hV.size (by omega) (by omega)
      obtain ⟨L, hL⟩ : ∃ L, L = chunksL (bt bs) nn := ⟨_, rfl⟩
      rw [← hL] at hor hror
      obtain ⟨F, hF⟩ : ∃ F, F = freeN bs nn := ⟨_, rfl⟩
      rw [← hF] at hfr hrfr
      clear hL hF
      have HGI := Lib.hid hgi; clear hgi
      have HRGI := Lib.hid hrgi; clear hrgi
      have HOR := Lib.hid hor; clear hor
      have HROR := Lib.hid hror; clear hror
      have HFR := Lib.hid hfr; clear hfr
      have HRFR := Lib.hid hrfr; clear hrfr
      have HALL := Lib.hid hall; clear hall
      clear hp hw
      obtain ⟨W0, hW0⟩ : ∃ W0, W0 = w.alloc (.cells (spanV (s : Int) (l : Int)) 27) := ⟨_, rfl⟩
      have hb0 : Below w.heap.size w W0 := by rw [hW0]; exact (Below.refl _ w).alloc (Nat.le_refl _) _
      have hx0 : W0.heap[w.heap.size]? = some (.cells (spanV (s : Int) (l : Int)) 27 (0, 0)) := by rw [hW0]; exact heap_alloc_new w _
      have hz0 : W0.heap.size = w.heap.size + 1 := by rw [hW0]; simp
      have HLD := Lib.hid (fun (V : World) (hV : Below W0.heap.size W0 V) => run_ldS V w.heap.size (s : Int) (l : Int) ((hV.block w.heap.size (by omega)).trans hx0))
      have HM := Lib.hid (fun (V : World) (hV : Below W0.heap.size W0 V) => hb0.trans (hV.mono hb0.size)); clear hb0 hx0
      have HW := Lib.hid hW0; clear hW0
      go_enter Try.func4, Try.ntmps4
      go_wp2_with fail
      rw [← HW.out]
      with_reducible refine (alive_any W0).mono ?_
      rintro e w1 ⟨rfl, hb1⟩
      have ho := owned_made w1 [] w1.heap.size (Nat.le_refl _) (by unfold maxLen; simp)
      have HC1 := Lib.hid hb1; clear hb1
      have HO1 := Lib.hid ho; clear ho
      go_wp2_with (at_builtin; refine wpList_addall rfl (.tmp 22) (.tmp 23) rfl w1.heap.size _ [] rfl HO1.out w.heap.size A bs.length c bs rfl ?c1 ?c2 ?c3 ?_)
      case c1 => exact H.out _ (HM.out _ (HC1.out.alloc HC1.out.size _))
      case c2 => simp; omega
      case c3 => simp
      intro v w2 ho2 hb2
      have hcb2 : Below w1.heap.size w1 w2 := ((Below.refl _ w1).alloc (Nat.le_refl _) _).trans hb2
      have hC2 := thenB HC1.out hcb2
      obtain ⟨A2, c2, rfl, -⟩ := Owned.holds ho2
      have hG := fun (V : World) (hV : Below w2.heap.size w2 V) => (Owned.reads ho2).below hV
      have HG := Lib.hid hG; clear hG ho2 hb2 hcb2 HO1 HC1
      have hG2 : Below w2.heap.size w2 w2 := Below.refl _ _
      have l2 := HLD.out w2 hC2
      have HC2 := Lib.hid hC2; clear hC2
      have HG2 := Lib.hid hG2; clear hG2
      go_wp2_with fail
      with_reducible refine (HGI.out A2 c2 w2.heap.size w2 (HG.out w2 HG2.out) (Nat.le_refl _)).mono ?_
      rintro e w3 ⟨-, hg3⟩
      obtain ⟨Aa, ca, rfl, hb3, -, ta⟩ := hg3 HALL.out
      clear hg3
      have HC3 := Lib.hid (thenB HC2.out hb3)
      have HG3 := Lib.hid (thenB HG2.out hb3)
      clear hb3 l2
      have l3 := HLD.out w3 HC3.out
      have TA := Lib.hid ta; clear ta
      go_wp2_with fail
      with_reducible refine (HRGI.out w3 (HM.out _ HC3.out)).mono ?_
      rintro e w4 ⟨-, hg4⟩
      obtain ⟨Ab, cb, rfl, hb4, -, tb⟩ := hg4 HALL.out
      clear hg4
      have HC4 := Lib.hid (thenB HC3.out hb4)
      have HG4 := Lib.hid (thenB HG3.out hb4)
      have HA4 := Lib.hid hb4; clear hb4 l3
      have TB := Lib.hid tb; clear tb
      have HB4 := Lib.hid (Below.refl w4.heap.size w4)
      go_wp2_with fail
      with_reducible refine (HOR.out A2 c2 w2.heap.size w4 (HG.out w4 HG4.out) HG4.out.size).mono ?_
      rintro e w5 ⟨M, hM, rfl, hrow, hb5⟩
      have HC5 := Lib.hid (thenB HC4.out hb5)
      have HG5 := Lib.hid (thenB HG4.out hb5)
      have HA5 := Lib.hid (thenB HA4.out hb5)
      have HB5 := Lib.hid (thenB HB4.out hb5)
      clear hb5 hM
      have HR5 := Lib.hid hrow; clear hrow
      have hMs := (Array.getElem?_eq_some_iff.1 HR5.out).1
      go_wp2_with fail
      with_reducible refine (HROR.out w5 (HM.out _ HC5.out)).mono ?_
      rintro e w6 ⟨M', hM', rfl, hrow', hb6⟩
      have HC6 := Lib.hid (thenB HC5.out hb6)
      have HG6 := Lib.hid (thenB HG5.out hb6)
      have HA6 := Lib.hid (thenB HA5.out hb6)
      have HB6 := Lib.hid (thenB HB5.out hb6)
      have HR6 := Lib.hid ((hb6.block M hMs).trans HR5.out)
      have hMs6 : M < w6.heap.size := Nat.lt_of_lt_of_le hMs hb6.size
      clear hb6 hM'
      have HQ6 := Lib.hid hrow'; clear hrow'
      have hQs := (Array.getElem?_eq_some_iff.1 HQ6.out).1
      go_wp2_with fail
      with_reducible refine (HFR.out A2 c2 w2.heap.size w6 (HG.out w6 HG6.out) HG6.out.size).mono ?_
      rintro e w7 ⟨rfl, hb7⟩
      have HC7 := Lib.hid (thenB HC6.out hb7)
      have HG7 := Lib.hid (thenB HG6.out hb7)
      have HA7 := Lib.hid (thenB HA6.out hb7)
      have HB7 := Lib.hid (thenB HB6.out hb7)
      have HR7 := Lib.hid ((hb7.block M hMs6).trans HR6.out)
      have HQ7 := Lib.hid ((hb7.block M' hQs).trans HQ6.out)
      have hMs7 : M < w7.heap.size := Nat.lt_of_lt_of_le hMs6 hb7.size
      have hQs7 : M' < w7.heap.size := Nat.lt_of_lt_of_le hQs hb7.size
      clear hb7
      go_wp2_with fail
      with_reducible refine (HRFR.out w7 (HM.out _ HC7.out)).mono ?_
      rintro e w8 ⟨rfl, hb8⟩
      have HC8 := Lib.hid (thenB HC7.out hb8)
      have HG8 := Lib.hid (thenB HG7.out hb8)
      have HA8 := Lib.hid (thenB HA7.out hb8)
      have HB8 := Lib.hid (thenB HB7.out hb8)
      have HR8 := Lib.hid ((hb8.block M hMs7).trans HR7.out)
      have HQ8 := Lib.hid ((hb8.block M' hQs7).trans HQ7.out)
      clear hb8 hMs hMs6 hMs7 hQs hQs7
      have u1 := TA.out w8 HA8.out
      have u2 := TB.out w8 HB8.out
      obtain ⟨ys, hys⟩ : ∃ ys, ys = fillL bs (s : Int) ((s + l : Nat) : Int) false := ⟨_, rfl⟩
      rw [← hys] at u1 u2
      clear hys
      go_wp2_with fail
      with_reducible refine (same7_any M M' L w8 HR8.out HQ8.out).mono ?_
      rintro e w9 ⟨rfl, hb9⟩
      have hC9 := thenB HC8.out hb9
      have hG9 := thenB HG8.out hb9
      have u8 := run_text w9 w2.heap.size A2 bs.length c2 bs (HG.out w9 hG9)
      have u9 := run_text w9 w.heap.size A bs.length c bs (H.out w9 (HM.out _ hC9))
      have HF := Lib.hid (HM.out _ hC9); clear hC9 hG9 hb9 u1 u2
      go_wp2
      go_ret
      exact ⟨rfl, HF.out⟩
    · obtain ⟨h0, h1⟩ := of_decide_eq_true hp
      have hgi := fun (A' : Option Addr) (c' : Nat) (B : Nat) (V : World) (hh : Holds V B A' bs.length bs) (hB : B ≤ V.heap.size) => give_run A' bs.length c' B bs V nn s l hh hB (by omega) (by omega) (by omega) (by omega)
      have hrgi := fun (V : World) (hV : Below w.heap.size w V) => rgive_run A bs.length c w.heap.size bs V nn s l (H.out V hV) hV.size (by omega) (by omega) (by omega) (by omega)
      have hor := fun (A' : Option Addr) (c' : Nat) (B : Nat) (V : World) (hh : Holds V B A' bs.length bs) (hB : B ≤ V.heap.size) => orders_ok A' bs.length c' B bs nn V hh hB (by omega) (by omega)
      have hror := fun (V : World) (hV : Below w.heap.size w V) => rorders_ok A bs.length c w.heap.size bs V nn (H.out V hV) hV.size (by omega) (by omega)
      have hfr := fun (A' : Option Addr) (c' : Nat) (B : Nat) (V : World) (hh : Holds V B A' bs.length bs) (hB : B ≤ V.heap.size) => free_ok A' bs.length c' B bs V nn hh hB (by omega) (by omega)
      have hrfr := fun (V : World) (hV : Below w.heap.size w V) => rfreeN_ok A bs.length c w.heap.size bs V nn (H.out V hV) hV.size (by omega) (by omega)
      obtain ⟨L, hL⟩ : ∃ L, L = chunksL (bt bs) nn := ⟨_, rfl⟩
      rw [← hL] at hor hror
      obtain ⟨F, hF⟩ : ∃ F, F = freeN bs nn := ⟨_, rfl⟩
      rw [← hF] at hfr hrfr
      clear hL hF
      have HGI := Lib.hid hgi; clear hgi
      have HRGI := Lib.hid hrgi; clear hrgi
      have HOR := Lib.hid hor; clear hor
      have HROR := Lib.hid hror; clear hror
      have HFR := Lib.hid hfr; clear hfr
      have HRFR := Lib.hid hrfr; clear hrfr
      have HALL := Lib.hid hall; clear hall
      clear hp hw
      obtain ⟨W0, hW0⟩ : ∃ W0, W0 = w.alloc (.cells (spanV (s : Int) (l : Int)) 27) := ⟨_, rfl⟩
      have hb0 : Below w.heap.size w W0 := by rw [hW0]; exact (Below.refl _ w).alloc (Nat.le_refl _) _
      have hx0 : W0.heap[w.heap.size]? = some (.cells (spanV (s : Int) (l : Int)) 27 (0, 0)) := by rw [hW0]; exact heap_alloc_new w _
      have hz0 : W0.heap.size = w.heap.size + 1 := by rw [hW0]; simp
      have HLD := Lib.hid (fun (V : World) (hV : Below W0.heap.size W0 V) => run_ldS V w.heap.size (s : Int) (l : Int) ((hV.block w.heap.size (by omega)).trans hx0))
      have HM := Lib.hid (fun (V : World) (hV : Below W0.heap.size W0 V) => hb0.trans (hV.mono hb0.size)); clear hb0 hx0
      have HW := Lib.hid hW0; clear hW0
      go_enter Try.func4, Try.ntmps4
      go_wp2_with fail
      rw [← HW.out]
      with_reducible refine (alive_any W0).mono ?_
      rintro e w1 ⟨rfl, hb1⟩
      have ho := owned_made w1 [] w1.heap.size (Nat.le_refl _) (by unfold maxLen; simp)
      have HC1 := Lib.hid hb1; clear hb1
      have HO1 := Lib.hid ho; clear ho
      go_wp2_with (at_builtin; refine wpList_addall rfl (.tmp 22) (.tmp 23) rfl w1.heap.size _ [] rfl HO1.out w.heap.size A bs.length c bs rfl ?c1 ?c2 ?c3 ?_)
      case c1 => exact H.out _ (HM.out _ (HC1.out.alloc HC1.out.size _))
      case c2 => simp; omega
      case c3 => simp
      intro v w2 ho2 hb2
      have hcb2 : Below w1.heap.size w1 w2 := ((Below.refl _ w1).alloc (Nat.le_refl _) _).trans hb2
      have hC2 := thenB HC1.out hcb2
      obtain ⟨A2, c2, rfl, -⟩ := Owned.holds ho2
      have hG := fun (V : World) (hV : Below w2.heap.size w2 V) => (Owned.reads ho2).below hV
      have HG := Lib.hid hG; clear hG ho2 hb2 hcb2 HO1 HC1
      have hG2 : Below w2.heap.size w2 w2 := Below.refl _ _
      have l2 := HLD.out w2 hC2
      have HC2 := Lib.hid hC2; clear hC2
      have HG2 := Lib.hid hG2; clear hG2
      go_wp2_with fail
      with_reducible refine (HGI.out A2 c2 w2.heap.size w2 (HG.out w2 HG2.out) (Nat.le_refl _)).mono ?_
      rintro e w3 ⟨hg3, -⟩
      obtain ⟨rfl, hb3⟩ := hg3 HALL.out
      clear hg3
      have HC3 := Lib.hid (thenB HC2.out hb3)
      have HG3 := Lib.hid (thenB HG2.out hb3)
      clear hb3 l2
      have l3 := HLD.out w3 HC3.out
      go_wp2_with fail
      with_reducible refine (HRGI.out w3 (HM.out _ HC3.out)).mono ?_
      rintro e w4 ⟨hg4, -⟩
      obtain ⟨rfl, hb4⟩ := hg4 HALL.out
      clear hg4
      have HC4 := Lib.hid (thenB HC3.out hb4)
      have HG4 := Lib.hid (thenB HG3.out hb4)
      clear hb4 l3
      have htx := fun (V : World) => text_of (c := 0) (holds_nil V 0) (Nat.zero_le _) V (Below.refl _ _)
      go_wp2_with fail
      with_reducible refine (HOR.out A2 c2 w2.heap.size w4 (HG.out w4 HG4.out) HG4.out.size).mono ?_
      rintro e w5 ⟨M, hM, rfl, hrow, hb5⟩
      have HC5 := Lib.hid (thenB HC4.out hb5)
      have HG5 := Lib.hid (thenB HG4.out hb5)
      clear hb5 hM
      have HR5 := Lib.hid hrow; clear hrow
      have hMs := (Array.getElem?_eq_some_iff.1 HR5.out).1
      go_wp2_with fail
      with_reducible refine (HROR.out w5 (HM.out _ HC5.out)).mono ?_
      rintro e w6 ⟨M', hM', rfl, hrow', hb6⟩
      have HC6 := Lib.hid (thenB HC5.out hb6)
      have HG6 := Lib.hid (thenB HG5.out hb6)
      have HR6 := Lib.hid ((hb6.block M hMs).trans HR5.out)
      have hMs6 : M < w6.heap.size := Nat.lt_of_lt_of_le hMs hb6.size
      clear hb6 hM'
      have HQ6 := Lib.hid hrow'; clear hrow'
      have hQs := (Array.getElem?_eq_some_iff.1 HQ6.out).1
      go_wp2_with fail
      with_reducible refine (HFR.out A2 c2 w2.heap.size w6 (HG.out w6 HG6.out) HG6.out.size).mono ?_
      rintro e w7 ⟨rfl, hb7⟩
      have HC7 := Lib.hid (thenB HC6.out hb7)
      have HG7 := Lib.hid (thenB HG6.out hb7)
      have HR7 := Lib.hid ((hb7.block M hMs6).trans HR6.out)
      have HQ7 := Lib.hid ((hb7.block M' hQs).trans HQ6.out)
      have hMs7 : M < w7.heap.size := Nat.lt_of_lt_of_le hMs6 hb7.size
      have hQs7 : M' < w7.heap.size := Nat.lt_of_lt_of_le hQs hb7.size
      clear hb7
      go_wp2_with fail
      with_reducible refine (HRFR.out w7 (HM.out _ HC7.out)).mono ?_
      rintro e w8 ⟨rfl, hb8⟩
      have HC8 := Lib.hid (thenB HC7.out hb8)
      have HG8 := Lib.hid (thenB HG7.out hb8)
      have HR8 := Lib.hid ((hb8.block M hMs7).trans HR7.out)
      have HQ8 := Lib.hid ((hb8.block M' hQs7).trans HQ7.out)
      clear hb8 hMs hMs6 hMs7 hQs hQs7
      have u1 := htx w8
      clear htx
      go_wp2_with fail
      with_reducible refine (same7_any M M' L w8 HR8.out HQ8.out).mono ?_
      rintro e w9 ⟨rfl, hb9⟩
      have hC9 := thenB HC8.out hb9
      have hG9 := thenB HG8.out hb9
      have u8 := run_text w9 w2.heap.size A2 bs.length c2 bs (HG.out w9 hG9)
      have u9 := run_text w9 w.heap.size A bs.length c bs (H.out w9 (HM.out _ hC9))
      have HF := Lib.hid (HM.out _ hC9); clear hC9 hG9 hb9 u1
      go_wp2
      go_ret
      exact ⟨rfl, HF.out⟩

theorem walks : Walks 4 Try.f4 All := by
  intro H enc W base args ds p hval hA hsz _
  rw [Try.params4] at hA hval hsz
  obtain ⟨v0, vs0, d0, ds0, p0, q0, hargs, rfl, rfl, h0, r0⟩ := trodAll_cons hA
  obtain ⟨v1, vs1, d1, ds1, p1, q1, rfl, rfl, rfl, h1, r1⟩ := trodAll_cons r0
  obtain ⟨v2, vs2, d2, ds2, p2, q2, rfl, rfl, rfl, h2, r2⟩ := trodAll_cons r1
  obtain ⟨rfl, rfl, rfl⟩ := trodAll_nil r2
  obtain rfl : args = #[v0, v1, v2] := by cases args; simp_all
  obtain ⟨A, n, c, bs, rfl, hb, hn, hc⟩ := open_bytesC (hval 0 _ v0 rfl rfl) h0 _ (reach_bytes hsz (j := 0) rfl rfl)
  obtain ⟨x1, rfl, rfl, rfl, hx1⟩ := open_int Try.underlying3 (hval 1 _ v1 rfl rfl) h1
  have bx1 := bounds_i64 hx1
  obtain ⟨s, l, rfl, hs, hl⟩ := open_span (hval 2 _ v2 rfl rfl) h2
  exact walk A n c bs x1 s l W hb hn hc (by omega) hs.2

set_option maxRecDepth 100000 in
theorem proved : Rows.BuddyGivesSaid :=
  OpenClaim.holds_of_wide 4 Try.f4 rfl rfl rfl rfl rfl rfl rfl ⟨rfl, rfl, rfl, rfl, rfl⟩ rfl rfl rfl rfl rfl (by kernel_rfl) Try.func4 (by kernel_rfl)
    (of_decide_eq_true (by kernel_rfl)) (by unfold Func.isWrapper; first | (rw [if_pos (by decide +kernel)]; kernel_rfl) | (rw [if_neg (by decide +kernel)]; exact ⟨rfl, rfl⟩))
    (fun os started H enc _ => lifted (s := Rows.buddyGivesSpec) walks (by kernel_rfl) rfl rfl (fun H ds hl => by match ds, hl with | [d1, d2, d3], _ => rfl) (by kernel_rfl) Try.func4 os started H enc
      (ChangeSpec.witness6 (enc := enc) (C := Try.checked) false ⟨#[], #[.slice none 0 0, .int .i64 0, .agg #[.int .i64 0, .int .i64 0]], []⟩ 8 (by kernel_rfl) (by kernel_rfl) (by kernel_rfl) (by kernel_rfl)))
#print axioms proved
end Go.Proofs.Ytnkiblifnknbkaa.BuddyGives
