/- AttrTurns: for every list of attributes and every attribute: the list with it set, the list with its name dropped and the value told of its name are as the document says, and what was given stays, whatever becomes of the answers. For every list within the reach of memory. -/
import Derived.Test.YtbagocghlijleaaAtAlive
import Derived.Test.YtbagocghlijleaaAtArg
import Derived.Test.YtbagocghlijleaaAtRSet
import Derived.ChangeMaps5
namespace Go.Proofs.Ytbagocghlijleaa.AttrTurns
set_option maxRecDepth 20000
open Go.ChangeShapes Go.WideShapes Go.ChangeAt Go.RowKit
open Go.Proofs.Ytbagocghlijleaa.Mem Go.Proofs.Ytbagocghlijleaa.Crc Go.Proofs.Ytbagocghlijleaa.Rec Go.Proofs.Ytbagocghlijleaa.At Go.Proofs.Ytbagocghlijleaa.Lift Go.Proofs.Ytbagocghlijleaa.Reg
attribute [local go_sem ↓] ldX_eq stX_eq eqX_eq neqX_eq

theorem set_few (l : List Pr) (p : Pr) : (setL l p).1.length ≤ 83 := by
  rcases set_ways l p with h | h | ⟨a, h⟩
  · rw [h]; simp
  · rw [h]; simp
  · obtain ⟨hra, hea, -⟩ := set_gets h
    have h1 := sizeL_ge a ((right_iff a).1 hra).1
    obtain ⟨_, h2, _⟩ := enc_zero (l := a) (by rw [hea])
    rw [h]
    dsimp only
    omega
theorem drop_few (l : List Pr) (t : List UInt8) : (dropL l t).1.length ≤ l.length := by
  unfold dropL delA
  split
  · split
    · simp only [List.length_append, List.length_take, List.length_drop]; omega
    · simp
  · simp
/-- An attribute of an own list made empty. -/
theorem zero_step {w : World} {base m c : Nat} {A : Option Addr} {M : List Pr} (ho : OwnX w base (.slice A m c) M) (k : Nat) (hk : k < m) :
    ∃ g w', A = some ⟨g, 0, none⟩ ∧ (stX (.pointer (some ⟨g, k * 2, none⟩)) (.agg #[.string ⟨#[]⟩, .string ⟨#[]⟩])).run Try.prog w = .ok () w' ∧ OwnX w' base (.slice A m c) (M.set k p0) ∧ w.grownBy w' (some g) ∧ base ≤ g ∧ g < w.heap.size := by
  obtain ⟨g, rfl, hg1, hg2, _⟩ := OwnC.form (ownPK.2 ho) (by omega)
  obtain ⟨w', s, o, gr, z⟩ := put_own PK_ok (ownPK.2 ho) k (by have := ho.fits.1; omega) p0 p0.c rfl (k * 2) rfl
  exact ⟨g, w', rfl, s, o, gr, hg1, hg2⟩

set_option maxRecDepth 100000 in
set_option maxHeartbeats 16000000 in
theorem walk (A : Option Addr) (n c : Nat) (l : List Pr) (p : Pr) (w : World) (h : HoldsX w w.heap.size A n l) (hn : n ≤ 4398046510976) :
    Calls Try.prog 3 #[.slice A n c, .agg p.c] w fun E w' => E = .returned (.bool true) ∧ Below w.heap.size w w' := by
  have hln := h.1
  obtain ⟨post, hpost⟩ : ∃ post : Ending → World → Prop, post = fun E w' => E = .returned (.bool true) ∧ Below w.heap.size w w' := ⟨_, rfl⟩
  rw [← hpost]
  have HP := Lib.hid hpost; clear hpost
  obtain ⟨W0, hW0⟩ : ∃ W0, W0 = w.alloc (.cells p.c 24) := ⟨_, rfl⟩
  have hv0 : VarX W0 w.heap.size p := by rw [hW0]; exact VarX.new w p
  have hb0 : Below w.heap.size w W0 := by rw [hW0]; exact (Below.refl _ w).alloc (Nat.le_refl _) _
  have hh : ∀ V, Below w.heap.size w V → HoldsX V w.heap.size A n l ∧ w.heap.size ≤ V.heap.size := fun V hV => ⟨h.below hV, hV.size⟩
  have HH := Lib.hid hh; clear hh h
  have HLN := Lib.hid hln; clear hln
  obtain ⟨S, hS⟩ : ∃ S : ByteArray, S = ⟨p.t.toArray⟩ := ⟨_, rfl⟩
  have hSd : S.data.toList = p.t := by rw [hS]
  have hvar : ∀ V, VarX V w.heap.size p → (ldX (.pointer (some ⟨w.heap.size, 0, none⟩))).run Try.prog V = .ok (.agg p.c) V ∧ V.cell? ⟨w.heap.size, 0, none⟩ = some (.string S) := fun V hV => ⟨hV.load, by rw [hS]; exact hV.cells.1⟩
  -- what each call answers, and that it is the document's answer
  obtain ⟨y, hy⟩ : ∃ y, y = setL l p := ⟨_, rfl⟩
  have hyl := set_few l p
  rw [← hy] at hyl
  have hset := fun (A : Option Addr) (c B : Nat) (V : World) (hV : HoldsX V B A n l) (hB : B ≤ V.heap.size) => Set_any A n c B l p V hV hB hn
  have hrset := fun (V : World) (hV : Below w.heap.size w V) => rSet_any A n c w.heap.size l p V (HH.out V hV).1 (HH.out V hV).2 hn
  rw [← hy] at hset hrset
  clear hy
  obtain ⟨M1, e1⟩ := y
  obtain ⟨z, hz⟩ : ∃ z, z = dropL l p.t := ⟨_, rfl⟩
  have hzl := drop_few l p.t
  rw [← hz, HLN.out] at hzl
  have hdrop := fun (A : Option Addr) (c B : Nat) (V : World) (hV : HoldsX V B A n l) (hB : B ≤ V.heap.size) => Drop_any A n c B l S V hV hB (by omega)
  have hrdrop := fun (V : World) (hV : Below w.heap.size w V) => rDrop_any A n c w.heap.size l S V (HH.out V hV).1 (HH.out V hV).2 hn
  simp only [hSd, ← hz] at hdrop hrdrop
  clear hz
  obtain ⟨M2, e2⟩ := z
  have hget := fun (A : Option Addr) (c B : Nat) (V : World) (hV : HoldsX V B A n l) (hB : B ≤ V.heap.size) => Get_any A n c B l S V hV hB (by omega)
  have hrget := fun (V : World) (hV : Below w.heap.size w V) => rGet_any A n c w.heap.size l S V (HH.out V hV).1 (HH.out V hV).2 (by omega)
  obtain ⟨G, hG⟩ : ∃ G : ByteArray, G = ⟨(getL l S.data.toList).1.toArray⟩ := ⟨_, rfl⟩
  obtain ⟨e3, he3⟩ : ∃ e3, e3 = (getL l S.data.toList).2 := ⟨_, rfl⟩
  rw [← hG, ← he3] at hget hrget
  clear hG he3 hSd hS
  dsimp only at hyl hzl
  obtain ⟨X, hX⟩ : ∃ X, X = p.c := ⟨_, rfl⟩
  rw [← hX] at hW0 ⊢
  simp only [← hX] at hvar hset hrset
  clear hX
  obtain ⟨m1, hm1⟩ : ∃ m1, m1 = M1.length := ⟨_, rfl⟩
  obtain ⟨m2, hm2⟩ : ∃ m2, m2 = M2.length := ⟨_, rfl⟩
  unfold Pairs2 at hset hrset hdrop hrdrop
  dsimp only at hset hrset hdrop hrdrop
  rw [← hm1] at hset hrset
  rw [← hm2] at hdrop hrdrop
  rw [← hm1] at hyl
  rw [← hm2] at hzl
  clear hm1 hm2
  have HVAR := Lib.hid hvar; clear hvar
  have HSET := Lib.hid hset; clear hset
  have HRSET := Lib.hid hrset; clear hrset
  have HDROP := Lib.hid hdrop; clear hdrop
  have HRDROP := Lib.hid hrdrop; clear hrdrop
  have HGET := Lib.hid hget; clear hget
  have HRGET := Lib.hid hrget; clear hrget
  have HV0 := Lib.hid hv0; clear hv0
  have HB0 := Lib.hid hb0; clear hb0
  have HW0 := Lib.hid hW0; clear hW0
  obtain ⟨gx, hgx⟩ : ∃ gx, gx = w.heap.size := ⟨_, rfl⟩
  have HGX := Lib.hid hgx; clear hgx
  rw [← HGX.out] at HVAR HV0
  go_enter Try.func3, Try.ntmps3
  go_wp2_with fail
  rw [← HW0.out, ← HGX.out]
  with_reducible refine (alive_any W0).mono ?_
  rintro E1 w1 ⟨rfl, hb1⟩
  have HB1 : Hid (Below w.heap.size w w1) := Lib.hid (HB0.out.trans (hb1.mono HB0.out.size))
  have HV1 : Hid (VarX w1 gx p) := Lib.hid (HV0.out.keep hb1 HV0.out.lt)
  clear hb1 HV0 HW0
  obtain ⟨v2, w2, hrun, ho2, hg2⟩ := run_addX (w1.alloc (.cells #[] 24)) 22 w1.heap.size _ [] (ownX_empty w1) w.heap.size A n c l (HH.out _ (HB1.out.alloc HB1.out.size _)).1 (by simp; omega) (by simp)
  rw [List.nil_append] at ho2
  obtain ⟨A2, c2, rfl⟩ := ho2.shape
  rw [HLN.out] at ho2 hrun hg2
  have hb2 : Below w1.heap.size w1 w2 := ((Below.refl w1.heap.size w1).alloc (Nat.le_refl _) _).trans (hg2.below (by simp) (fun k hk => by injection hk with hk; simp at hk; omega))
  have HB2 : Hid (Below w.heap.size w w2) := Lib.hid (HB1.out.trans (hb2.mono HB1.out.size))
  have HV2 : Hid (VarX w2 gx p) := Lib.hid (HV1.out.keep hb2 HV1.out.lt)
  have HGB : Hid (∀ q, (Value.slice A2 n c2).ownBlock = some q → q < w2.heap.size) := Lib.hid (fun q hq => (ho2.lt q hq).2)
  have HG2 := Lib.hid ho2
  clear ho2 hg2 hb2 HV1
  obtain ⟨q0, -⟩ := HVAR.out w2 HV2.out
  go_wp2_with (at_builtin; refine wpList_apprun rfl _ _ _ _ (by rfl) _ _ (by rfl) (by rfl) _ _ hrun ?_)
  clear hrun
  go_wp2_with fail
  with_reducible refine (HSET.out A2 c2 w2.heap.size w2 HG2.out.reads (Nat.le_refl _)).mono ?_
  rintro E3 w3 ⟨A3, c3, rfl, ho3, hb3⟩
  have HB3 : Hid (Below w.heap.size w w3) := Lib.hid (HB2.out.trans (hb3.mono HB2.out.size))
  have HV3 : Hid (VarX w3 gx p) := Lib.hid (HV2.out.keep hb3 HV2.out.lt)
  have HG3 := Lib.hid (HG2.out.below hb3)
  have HZ3 := Lib.hid hb3.size
  clear hb3 HV2 q0 HG2
  have HOa3 := Lib.hid ho3; clear ho3
  dsimp only
  have HAB0 : Hid (∀ q, (Value.slice A3 m1 c3).ownBlock = some q → q < w3.heap.size) := Lib.hid (fun q hq => (HOa3.out.lt q hq).2)
  obtain ⟨q0, -⟩ := HVAR.out w3 HV3.out
  go_wp2_with fail
  with_reducible refine (HRSET.out w3 HB3.out).mono ?_
  rintro E4 w4 ⟨A4, c4, rfl, ho4, hb4⟩
  have HB4 : Hid (Below w.heap.size w w4) := Lib.hid (HB3.out.trans (hb4.mono HB3.out.size))
  have HV4 : Hid (VarX w4 gx p) := Lib.hid (HV3.out.keep hb4 HV3.out.lt)
  have HG4 := Lib.hid (HG3.out.below hb4)
  have HOa4 := Lib.hid (HOa3.out.below hb4)
  have HZ4 := Lib.hid hb4.size
  clear hb4 HV3 q0 HG3 HOa3
  have HOb4 := Lib.hid ho4; clear ho4
  dsimp only
  have HAB : Hid (∀ q, (Value.slice A3 m1 c3).ownBlock = some q → q < w4.heap.size) := Lib.hid (fun q hq => Nat.lt_of_lt_of_le (HAB0.out q hq) HZ4.out)
  clear HAB0
  obtain ⟨-, q0⟩ := HVAR.out w4 HV4.out
  go_wp2_with fail
  with_reducible refine (HDROP.out A2 c2 w4.heap.size w4 HG4.out.reads (Nat.le_refl _)).mono ?_
  rintro E5 w5 ⟨A5, c5, rfl, ho5, hb5⟩
  have HB5 : Hid (Below w.heap.size w w5) := Lib.hid (HB4.out.trans (hb5.mono HB4.out.size))
  have HV5 : Hid (VarX w5 gx p) := Lib.hid (HV4.out.keep hb5 HV4.out.lt)
  have HG5 := Lib.hid (HG4.out.below hb5)
  have HOa5 := Lib.hid (HOa4.out.below hb5)
  have HOb5 := Lib.hid (HOb4.out.below hb5)
  have HZ5 := Lib.hid hb5.size
  clear hb5 HV4 q0 HG4 HOa4 HOb4
  have HOc5 := Lib.hid ho5; clear ho5
  dsimp only
  obtain ⟨-, q0⟩ := HVAR.out w5 HV5.out
  go_wp2_with fail
  with_reducible refine (HRDROP.out w5 HB5.out).mono ?_
  rintro E6 w6 ⟨A6, c6, rfl, ho6, hb6⟩
  have HB6 : Hid (Below w.heap.size w w6) := Lib.hid (HB5.out.trans (hb6.mono HB5.out.size))
  have HV6 : Hid (VarX w6 gx p) := Lib.hid (HV5.out.keep hb6 HV5.out.lt)
  have HG6 := Lib.hid (HG5.out.below hb6)
  have HOa6 := Lib.hid (HOa5.out.below hb6)
  have HOb6 := Lib.hid (HOb5.out.below hb6)
  have HOc6 := Lib.hid (HOc5.out.below hb6)
  have HZ6 := Lib.hid hb6.size
  clear hb6 HV5 q0 HG5 HOa5 HOb5 HOc5
  have HOd6 := Lib.hid ho6; clear ho6
  dsimp only
  obtain ⟨-, q0⟩ := HVAR.out w6 HV6.out
  go_wp2_with fail
  with_reducible refine (HGET.out A2 c2 w6.heap.size w6 HG6.out.reads (Nat.le_refl _)).mono ?_
  rintro E7 w7 ⟨rfl, hb7⟩
  have HB7 : Hid (Below w.heap.size w w7) := Lib.hid (HB6.out.trans (hb7.mono HB6.out.size))
  have HV7 : Hid (VarX w7 gx p) := Lib.hid (HV6.out.keep hb7 HV6.out.lt)
  have HG7 := Lib.hid (HG6.out.below hb7)
  have HOa7 := Lib.hid (HOa6.out.below hb7)
  have HOb7 := Lib.hid (HOb6.out.below hb7)
  have HOc7 := Lib.hid (HOc6.out.below hb7)
  have HOd7 := Lib.hid (HOd6.out.below hb7)
  have HZ7 := Lib.hid hb7.size
  clear hb7 HV6 q0 HG6 HOa6 HOb6 HOc6 HOd6
  dsimp only
  obtain ⟨-, q0⟩ := HVAR.out w7 HV7.out
  go_wp2_with fail
  with_reducible refine (HRGET.out w7 HB7.out).mono ?_
  rintro E8 w8 ⟨rfl, hb8⟩
  have HB8 : Hid (Below w.heap.size w w8) := Lib.hid (HB7.out.trans (hb8.mono HB7.out.size))
  have HV8 : Hid (VarX w8 gx p) := Lib.hid (HV7.out.keep hb8 HV7.out.lt)
  have HG8 := Lib.hid (HG7.out.below hb8)
  have HOa8 := Lib.hid (HOa7.out.below hb8)
  have HOb8 := Lib.hid (HOb7.out.below hb8)
  have HOc8 := Lib.hid (HOc7.out.below hb8)
  have HOd8 := Lib.hid (HOd7.out.below hb8)
  have HZ8 := Lib.hid hb8.size
  clear hb8 HV7 q0 HG7 HOa7 HOb7 HOc7 HOd7
  dsimp only
  have hs9 := same_any A3 A4 m1 m1 c3 c4 w8.heap.size w8.heap.size M1 M1 w8 HOa8.out.reads HOb8.out.reads (Nat.le_refl _) (Nat.le_refl _) (by omega)
  rw [decide_eq_true rfl] at hs9
  have HS9 := Lib.hid hs9; clear hs9
  go_wp2_with fail
  with_reducible refine (HS9.out).mono ?_
  rintro E9 w9 ⟨rfl, hb9⟩
  have HB9 : Hid (Below w.heap.size w w9) := Lib.hid (HB8.out.trans (hb9.mono HB8.out.size))
  have HV9 : Hid (VarX w9 gx p) := Lib.hid (HV8.out.keep hb9 HV8.out.lt)
  have HG9 := Lib.hid (HG8.out.below hb9)
  have HOa9 := Lib.hid (HOa8.out.below hb9)
  have HOb9 := Lib.hid (HOb8.out.below hb9)
  have HOc9 := Lib.hid (HOc8.out.below hb9)
  have HOd9 := Lib.hid (HOd8.out.below hb9)
  have HZ9 := Lib.hid hb9.size
  clear hb9 HV8  HG8 HOa8 HOb8 HOc8 HOd8
  dsimp only
  have hs10 := same_any A5 A6 m2 m2 c5 c6 w9.heap.size w9.heap.size M2 M2 w9 HOc9.out.reads HOd9.out.reads (Nat.le_refl _) (Nat.le_refl _) (by omega)
  rw [decide_eq_true rfl] at hs10
  have HS10 := Lib.hid hs10; clear hs10
  go_wp2_with fail
  with_reducible refine (HS10.out).mono ?_
  rintro E10 w10 ⟨rfl, hb10⟩
  have HB10 : Hid (Below w.heap.size w w10) := Lib.hid (HB9.out.trans (hb10.mono HB9.out.size))
  have HV10 : Hid (VarX w10 gx p) := Lib.hid (HV9.out.keep hb10 HV9.out.lt)
  have HG10 := Lib.hid (HG9.out.below hb10)
  have HOa10 := Lib.hid (HOa9.out.below hb10)
  have HOb10 := Lib.hid (HOb9.out.below hb10)
  have HOc10 := Lib.hid (HOc9.out.below hb10)
  have HOd10 := Lib.hid (HOd9.out.below hb10)
  have HZ10 := Lib.hid hb10.size
  clear hb10 HV9  HG9 HOa9 HOb9 HOc9 HOd9
  dsimp only
  have HW24 : Hid (w2.heap.size ≤ w4.heap.size) := Lib.hid (Nat.le_trans HZ3.out HZ4.out)
  clear HOb10 HOd10 HV10
  go_wp2
  go_loopw [19] (fun i wr => ∃ (k : Nat) (M : List Pr), k ≤ m1 ∧ i = .int .i64 (k : Int) ∧ OwnX wr w2.heap.size (.slice A3 m1 c3) M ∧ OwnX wr w1.heap.size (.slice A2 n c2) l ∧ OwnX wr w4.heap.size (.slice A5 m2 c5) M2 ∧ Below w.heap.size w wr) (fun i _ => m1 - (intOf i).toNat)
  case atStart => exact ⟨0, M1, Nat.zero_le _, rfl, HOa10.out, HG10.out, HOc10.out, HB10.out⟩
  case round =>
    obtain ⟨U0, hU0⟩ : ∃ U0, U0 = wr := ⟨_, rfl⟩
    subst hU0
    obtain ⟨k, M, hk, rfl, hoa, hog, hoc, hbr⟩ := hrel
    have HOA := Lib.hid hoa; clear hoa
    have HOG := Lib.hid hog; clear hog
    have HOC := Lib.hid hoc; clear hoc
    have HBR := Lib.hid hbr; clear hbr
    rcases Nat.lt_or_ge k m1 with hlt | hge
    · obtain ⟨g, w11, rfl, hst, ho, hgr, hg1, hg2⟩ := zero_step HOA.out k hlt
      have HO11 := Lib.hid ho
      have HG11 : Hid (OwnX w11 w1.heap.size (.slice A2 n c2) l) := Lib.hid (HOG.out.kept (fun q hq => hgr.block q (HOG.out.lt q hq).2 (fun e => by injection e with e; have := HGB.out q hq; omega)))
      have HC11 : Hid (OwnX w11 w4.heap.size (.slice A5 m2 c5) M2) := Lib.hid (HOC.out.kept (fun q hq => hgr.block q (HOC.out.lt q hq).2 (fun e => by injection e with e; have := (HOC.out.lt q hq).1; have := HAB.out g rfl; omega)))
      have HB11 : Hid (Below w.heap.size w w11) := Lib.hid (HBR.out.grown hgr HBR.out.size (fun q hq => by injection hq with hq; have := HB2.out.size; omega))
      have hk0 : (0 : Int) ≤ (k : Int) := by omega
      have hkn : (k : Int) < (m1 : Int) := by omega
      clear ho hgr hg1 hg2
      go_wp2
      go_roundw
      case rel => exact ⟨k + 1, _, by omega, by go_num, HO11.out, HG11.out, HC11.out, HB11.out⟩
      case measure => simp [intOf]; omega
    · have hkn : ¬ (k : Int) < (m1 : Int) := by omega
      go_wp2
      go_loopw [20] (fun i wr => ∃ (k : Nat) (M : List Pr), k ≤ m2 ∧ i = .int .i64 (k : Int) ∧ OwnX wr w1.heap.size (.slice A2 n c2) l ∧ OwnX wr w4.heap.size (.slice A5 m2 c5) M ∧ Below w.heap.size w wr) (fun i _ => m2 - (intOf i).toNat)
      case atStart => exact ⟨0, M2, Nat.zero_le _, rfl, HOG.out, HOC.out, HBR.out⟩
      case round =>
        clear HOA HOG HOC HBR hkn hge hk
        obtain ⟨U1, hU1⟩ : ∃ U1, U1 = wr := ⟨_, rfl⟩
        subst hU1
        obtain ⟨k', M', hk, rfl, hog, hoc, hbr⟩ := hrel
        have HOG := Lib.hid hog; clear hog
        have HOC := Lib.hid hoc; clear hoc
        have HBR := Lib.hid hbr; clear hbr
        rcases Nat.lt_or_ge k' m2 with hlt | hge
        · obtain ⟨g, w11, rfl, hst, ho, hgr, hg1, hg2⟩ := zero_step HOC.out k' hlt
          have HO11 := Lib.hid ho
          have HG11 : Hid (OwnX w11 w1.heap.size (.slice A2 n c2) l) := Lib.hid (HOG.out.kept (fun q hq => hgr.block q (HOG.out.lt q hq).2 (fun e => by injection e with e; have := HGB.out q hq; have := HW24.out; omega)))
          have HB11 : Hid (Below w.heap.size w w11) := Lib.hid (HBR.out.grown hgr HBR.out.size (fun q hq => by injection hq with hq; have := HB2.out.size; have := HW24.out; omega))
          have hk0 : (0 : Int) ≤ (k' : Int) := by omega
          have hkn : (k' : Int) < (m2 : Int) := by omega
          clear ho hgr hg1 hg2
          go_wp2
          go_roundw
          case rel => exact ⟨k' + 1, _, by omega, by go_num, HG11.out, HO11.out, HB11.out⟩
          case measure => simp [intOf]; omega
        · have hkn : ¬ (k' : Int) < (m2 : Int) := by omega
          have hs := same_any A2 A n n c2 c U1.heap.size w.heap.size l l U1 HOG.out.reads (HH.out U1 HBR.out).1 (Nat.le_refl _) HBR.out.size (by omega)
          rw [decide_eq_true rfl] at hs
          have HSL := Lib.hid hs; clear hs
          go_wp2_with fail
          with_reducible refine HSL.out.mono ?_
          rintro E12 w12 ⟨rfl, hb12⟩
          have HB12 : Hid (Below w.heap.size w w12) := Lib.hid (HBR.out.trans (hb12.mono HBR.out.size))
          clear hb12 HSL
          go_wp2
          rw [HP.out]
          exact ⟨rfl, HB12.out⟩

theorem walks : Walks 3 Try.f3 All := by
  intro H enc W base args ds p hval hA hsz _
  rw [Try.params3] at hA hval hsz
  obtain ⟨v0, vs0, d0, ds0, p0, q0, hargs, rfl, rfl, h0, r0⟩ := trodAll_cons hA
  obtain ⟨v1, vs1, d1, ds1, p1, q1, rfl, rfl, rfl, h1, r1⟩ := trodAll_cons r0
  obtain ⟨rfl, rfl, rfl⟩ := trodAll_nil r1
  obtain rfl : args = #[v0, v1] := by cases args; simp_all
  obtain ⟨A0, n0, c0, l0, rfl, hl0, hr0, hn0, hc0⟩ := exts_open (hval 0 _ v0 rfl rfl) h0 _ (reach_exts hsz (j := 0) rfl rfl)
  obtain ⟨e1, rfl, he1⟩ := ext_by_value (hval 1 _ v1 rfl rfl) h1
  exact walk A0 n0 c0 l0 e1 W hl0 (by omega)

set_option maxRecDepth 100000 in
theorem proved : Rows.AttrTurnsSaid :=
  OpenClaim.holds_of_wide 3 Try.f3 rfl rfl rfl rfl rfl rfl rfl ⟨rfl, rfl, rfl, rfl, rfl⟩ rfl rfl rfl rfl rfl (by kernel_rfl) Try.func3 (by kernel_rfl)
    (of_decide_eq_true (by kernel_rfl)) (by unfold Func.isWrapper; first | (rw [if_pos (by decide +kernel)]; kernel_rfl) | (rw [if_neg (by decide +kernel)]; exact ⟨rfl, rfl⟩))
    (fun os started H enc _ => lifted (s := Rows.attrTurnsSpec) walks (by kernel_rfl) rfl rfl (fun H ds hl => by match ds, hl with | [d1, d2], _ => rfl) (by kernel_rfl) Try.func3 os started H enc
      (ChangeSpec.witness6 (enc := enc) (C := Try.checked) false ⟨#[], #[.slice none 0 0, .agg #[.string ⟨#[]⟩, .string ⟨#[]⟩]], []⟩ 8 (by kernel_rfl) (by kernel_rfl) (by kernel_rfl) (by kernel_rfl)))
#print axioms proved
end Go.Proofs.Ytbagocghlijleaa.AttrTurns
