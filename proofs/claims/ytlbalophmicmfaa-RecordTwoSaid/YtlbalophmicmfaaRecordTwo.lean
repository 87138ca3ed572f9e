/- Two records one behind the other are read one by one, and unlike records have unlike blocks: proved for every two records. -/
import Derived.Test.YtlbalophmicmfaaRcLaws
import Derived.Deep.RegionWith
import Derived.Deep.RegionHeld
namespace Go.Proofs.Ytlbalophmicmfaa.RecordTwo
open Go.ChangeShapes Go.WideShapes Go.ChangeAt Go.RowKit
open Go.Proofs.Ytlbalophmicmfaa.Mem Go.Proofs.Ytlbalophmicmfaa.Rec Go.Proofs.Ytlbalophmicmfaa.Lift

set_option maxRecDepth 100000 in
set_option maxHeartbeats 4000000 in
theorem walk (t u : Tx) (Aw Ar : Option Addr) (nw cw nr cr : Nat) (Bw Br : Option Addr) (mw dw mr dr : Nat) (w : World) (ht : TxAt w w.heap.size t Aw nw cw Ar nr cr) (hu : TxAt w w.heap.size u Bw mw dw Br mr dr) :
    Calls Try.prog 9 #[.agg #[.int .u64 (t.seq : Int), .slice Aw nw cw, .slice Ar nr cr], .agg #[.int .u64 (u.seq : Int), .slice Bw mw dw, .slice Br mr dr]] w fun e w' => e = .returned (.bool true) ∧ Below w.heap.size w w' := by
  have HSQ := Lib.hid ht.seq
  have HSU := Lib.hid hu.seq
  have HNW : Hid (t.ws.length = nw) := Lib.hid ht.ws.1
  have HMW : Hid (u.ws.length = mw) := Lib.hid hu.ws.1
  have HT := Lib.hid ht; clear ht
  have HU := Lib.hid hu; clear hu
  obtain ⟨cur, hcur⟩ : ∃ c, c = #[Value.int .u64 (t.seq : Int), .slice Aw nw cw, .slice Ar nr cr] := ⟨_, rfl⟩
  obtain ⟨cur', hcur'⟩ : ∃ c, c = #[Value.int .u64 (u.seq : Int), .slice Bw mw dw, .slice Br mr dr] := ⟨_, rfl⟩
  have hba := (Below.refl w.heap.size w).alloc (Nat.le_refl _) (.cells cur 26)
  have hb0 := hba.alloc hba.size (.cells cur' 26)
  have hbk' := heap_alloc_new (w.alloc (.cells cur 26)) (.cells cur' 26)
  have hbk : ((w.alloc (.cells cur 26)).alloc (.cells cur' 26)).heap[w.heap.size]? = some (.cells cur 26 (0, 0)) :=
    (((Below.refl _ (w.alloc (.cells cur 26))).alloc (Nat.le_refl _) (.cells cur' 26)).block _ (by simp)).trans (heap_alloc_new w _)
  have hs0 : w.heap.size + 1 < ((w.alloc (.cells cur 26)).alloc (.cells cur' 26)).heap.size := by simp
  rw [show (w.alloc (.cells cur 26)).heap.size = w.heap.size + 1 by simp] at hbk'
  have HB0 := Lib.hid hb0; clear hb0 hba
  have HBK := Lib.hid hbk; clear hbk
  have HBK' := Lib.hid hbk'; clear hbk'
  have HS0 := Lib.hid hs0; clear hs0
  obtain ⟨W, hW⟩ : ∃ W, W = (w.alloc (.cells cur 26)).alloc (.cells cur' 26) := ⟨_, rfl⟩
  rw [← hW] at HB0 HBK HBK' HS0
  go_enter Try.func9, Try.ntmps9
  go_wp2_with fail
  rw [← hcur, ← hcur', ← hW]
  have HCUR := Lib.hid hcur; clear hcur
  have HCUR' := Lib.hid hcur'; clear hcur'
  clear hW
  refine (alive_any W).mono ?_
  rintro e w1 ⟨rfl, hb1⟩
  have P0 : Hid (∀ v, Below W.heap.size W v → (v.cell? ⟨w.heap.size, 0, none⟩ = some (.int .u64 (t.seq : Int)) ∧ v.cell? ⟨w.heap.size, 1, none⟩ = some (.slice Aw nw cw) ∧ v.cell? ⟨w.heap.size, 2, none⟩ = some (.slice Ar nr cr)) ∧
      v.cell? ⟨w.heap.size + 1, 0, none⟩ = some (.int .u64 (u.seq : Int)) ∧ v.cell? ⟨w.heap.size + 1, 1, none⟩ = some (.slice Bw mw dw) ∧ v.cell? ⟨w.heap.size + 1, 2, none⟩ = some (.slice Br mr dr)) := Lib.hid (fun v hv => by
    have hh : v.heap[w.heap.size]? = some (.cells cur 26) := (hv.block _ (by have := HS0.out; omega)).trans HBK.out
    have hh' : v.heap[w.heap.size + 1]? = some (.cells cur' 26) := (hv.block _ HS0.out).trans HBK'.out
    rw [HCUR.out] at hh
    rw [HCUR'.out] at hh'
    exact ⟨⟨cell_of_row _ _ _ _ _ _ hh, cell_of_row _ _ _ _ _ _ hh, cell_of_row _ _ _ _ _ _ hh⟩, cell_of_row _ _ _ _ _ _ hh', cell_of_row _ _ _ _ _ _ hh', cell_of_row _ _ _ _ _ _ hh'⟩)
  have hb1' := HB0.out.trans (hb1.mono HB0.out.size)
  cases hm : t.mayB
  · have hC := enc_unfit t Aw Ar nw cw nr cr w.heap.size w1 (HT.out.below hb1') hb1'.size hm
    obtain ⟨⟨p0, p1, p2⟩, _⟩ := P0.out w1 hb1
    have HC := Lib.hid hC; clear hC
    have HB1 := Lib.hid hb1; clear hb1 hb1'
    go_wp2_with fail
    refine HC.out.mono ?_
    rintro e w2 ⟨rfl, hb2⟩
    clear p0 p1 p2
    have hb2' := HB1.out.trans (hb2.mono HB1.out.size)
    obtain ⟨_, p0, p1, p2⟩ := P0.out w2 hb2'
    have hb2w := HB0.out.trans (hb2'.mono HB0.out.size)
    have HC2 := Lib.hid (enc_some u Bw Br mw dw mr dr w.heap.size w2 (HU.out.below hb2w) hb2w.size)
    have HB2 := Lib.hid hb2w; clear hb2 hb2' hb2w
    go_wp2_with fail
    refine HC2.out.mono ?_
    rintro e w3 ⟨A, n, c, k, rfl, hb3⟩
    have HB3 := Lib.hid (HB2.out.trans (hb3.mono HB2.out.size)); clear hb3
    go_wp2
    go_ret
    exact ⟨rfl, HB3.out⟩
  · have hC := enc_fits t Aw Ar nw cw nr cr w.heap.size w1 (HT.out.below hb1') hb1'.size hm
    obtain ⟨⟨p0, p1, p2⟩, _⟩ := P0.out w1 hb1
    have HC := Lib.hid hC; clear hC
    have HB1 := Lib.hid hb1; clear hb1 hb1'
    go_wp2_with fail
    refine HC.out.mono ?_
    rintro e w2 ⟨b, off, cb, rfl, ho, hcb, hcm, hb2⟩
    clear p0 p1 p2 HC
    have hlen : t.enc.length ≤ 15360 := by
      have := enc_len t ((mayB_iff t).1 hm)
      have := ((mayB_iff t).1 hm).hi
      omega
    have HX2 := Lib.hid (Owned.reads ho); clear ho
    have HW2 : Hid (Below W.heap.size W w2) := Lib.hid (HB1.out.trans (hb2.mono HB1.out.size))
    clear hb2 hcb hcm
    obtain ⟨E, hE⟩ : ∃ E, E = t.enc.length := ⟨_, rfl⟩
    rw [← hE] at hlen ⊢
    have HE := Lib.hid hE; clear hE
    obtain ⟨_, p0, p1, p2⟩ := P0.out w2 HW2.out
    have hb2w := HB0.out.trans (HW2.out.mono HB0.out.size)
    cases hn : u.mayB
    · have HC2 := Lib.hid (enc_unfit u Bw Br mw dw mr dr w.heap.size w2 (HU.out.below hb2w) hb2w.size hn)
      have HB2 := Lib.hid hb2w; clear hb2w
      go_wp2_with fail
      refine HC2.out.mono ?_
      rintro e w3 ⟨rfl, hb3⟩
      have HB3 := Lib.hid (HB2.out.trans (hb3.mono HB2.out.size)); clear hb3
      go_wp2
      go_ret
      exact ⟨rfl, HB3.out⟩
    · have HC2 := Lib.hid (enc_fits u Bw Br mw dw mr dr w.heap.size w2 (HU.out.below hb2w) hb2w.size hn)
      clear hb2w
      go_wp2_with fail
      refine HC2.out.mono ?_
      rintro e w3 ⟨b3, off3, cb3, rfl, ho3, hcb3, hcm3, hb3⟩
      clear p0 p1 p2 HC2 hcb3 hcm3
      have hlen3 : u.enc.length ≤ 15360 := by
        have := enc_len u ((mayB_iff u).1 hn)
        have := ((mayB_iff u).1 hn).hi
        omega
      have HY3 := Lib.hid (Owned.reads ho3); clear ho3
      have HX3 : Hid (Holds w3 w2.heap.size (some ⟨b, off, none⟩) t.enc.length t.enc) := Lib.hid (HX2.out.below hb3)
      have HW3 : Hid (Below W.heap.size W w3) := Lib.hid (HW2.out.trans (hb3.mono HW2.out.size))
      have hz3 : w2.heap.size ≤ w3.heap.size := hb3.size
      clear hb3
      obtain ⟨F, hF⟩ : ∃ F, F = u.enc.length := ⟨_, rfl⟩
      rw [← hF] at hlen3 ⊢
      have HF := Lib.hid hF; clear hF
      have hoe := owned_made w3 [] w3.heap.size (Nat.le_refl _) (by unfold maxLen; simp)
      go_wp2_with (at_builtin; refine wpList_addall (o := ⟨some 36, _, _, _, _, _⟩) rfl _ _ rfl w3.heap.size _ [] rfl hoe w2.heap.size (some ⟨b, off, none⟩) E cb t.enc rfl ?c1 ?c2 ?c3 ?_)
      case c1 => rw [HE.out]; exact HX3.out.below ((Below.refl _ _).alloc hz3 _)
      case c2 => simp; omega
      case c3 => simp
      intro g w4 ho4 hb4
      have HZ4 : Hid (Below w3.heap.size w3 w4) := Lib.hid (((Below.refl _ _).alloc (Nat.le_refl _) _).trans hb4)
      clear hb4 hoe
      have HO4 := Lib.hid ho4; clear ho4
      have hy4 := HY3.out.below HZ4.out
      rw [← HF.out] at hy4
      go_wp2_with (at_builtin; refine wpList_addall (o := ⟨some 38, _, _, _, _, _⟩) rfl _ _ rfl w3.heap.size g t.enc rfl HO4.out w3.heap.size (some ⟨b3, off3, none⟩) F cb3 u.enc rfl hy4 ?d2 ?d3 ?_)
      case d2 => rw [← HE.out]; omega
      case d3 => exact HZ4.out.size
      intro g5 w5 ho5 hb5
      have HZ5 := Lib.hid (HZ4.out.trans hb5); clear hb5
      obtain ⟨A5, c5, rfl, hg5⟩ := Owned.holds ho5
      obtain ⟨b5, off5, rfl⟩ := Go.Proofs.Ytlbalophmicmfaa.Rec.Holds.addr hg5 (by rw [List.length_append, enc_len t ((mayB_iff t).1 hm)]; omega)
      have HF5 := Lib.hid (Owned.fits ho5)
      obtain ⟨N, hN⟩ : ∃ N, N = E + F := ⟨_, rfl⟩
      have HN := Lib.hid hN; clear hN
      have hl5 : (t.enc ++ u.enc).length = N := by rw [List.length_append, ← HE.out, ← HF.out, HN.out]
      rw [hl5] at hg5 HF5 ⊢
      have HG5 := Lib.hid hg5; clear hg5
      clear ho5 hy4 HZ4 HO4 hl5
      have HD := Lib.hid (dec_fits t u.enc (some ⟨b5, off5, none⟩) N c5 w5.heap.size w5 HG5.out (Nat.le_refl _) HF5.out.1 HF5.out.2 HSQ.out hm)
      have HW5 : Hid (Below W.heap.size W w5) := Lib.hid (HW3.out.trans (HZ5.out.mono HW3.out.size))
      obtain ⟨⟨p0, p1, p2⟩, _⟩ := P0.out w5 HW5.out
      go_wp2_with fail
      refine HD.out.mono ?_
      clear HD p0 p1 p2
      rintro e w6 ⟨Ax, cx, Ay, cy, rfl, ht6, hb6⟩
      rw [HNW.out] at ht6 ⊢
      have HT6 := Lib.hid ht6; clear ht6
      have HB6 := Lib.hid hb6; clear hb6
      obtain ⟨cur2, hcur2⟩ : ∃ c, c = #[Value.int .u64 (t.seq : Int), .slice Ax nw cx, .slice Ay t.rs.length cy] := ⟨_, rfl⟩
      have HB7 := Lib.hid ((Below.refl w6.heap.size w6).alloc (Nat.le_refl _) (.cells cur2 26))
      have HBK7 := Lib.hid (heap_alloc_new w6 (.cells cur2 26))
      have HS7 : Hid (w6.heap.size < (w6.alloc (.cells cur2 26)).heap.size) := Lib.hid (by simp)
      obtain ⟨W7, hW7⟩ : ∃ W, W = w6.alloc (.cells cur2 26) := ⟨_, rfl⟩
      rw [← hW7] at HB7 HBK7 HS7
      have HWW := Lib.hid hW7; clear hW7
      have HC2 := Lib.hid hcur2; clear hcur2
      have hnw : nw ≤ 58 := by have := ((mayB_iff t).1 hm).hi; have := HNW.out; omega
      have hE2 : 256 * ((nw : Int) + 2) = (E : Int) := by have := enc_len t ((mayB_iff t).1 hm); rw [HNW.out, ← HE.out] at this; omega
      go_wp2_with fail
      rw [← HC2.out, ← HWW.out]
      have hEw : IntKind.i64.wrap (E : Int) = (E : Int) := IntWalk.i64_in _ (by omega)
      have hEw2 : IntKind.i64.wrap (256 * ((nw : Int) + 2)) = (E : Int) := by rw [hE2, hEw]
      have HU8 : Hid (∀ v, Below W7.heap.size W7 v → Calls Try.prog 16 #[.slice (some ⟨b5, off5 + E, none⟩) F (c5 - E), .int .u64 (u.seq : Int)] v fun e w' =>
          ∃ Bx cz By cv, e = .returned (.tuple #[.agg #[.int .u64 (u.seq : Int), .slice Bx mw cz, .slice By u.rs.length cv], .int .i64 ((mw : Int) + 2), .bool true]) ∧
            (∀ v', Kept v.heap.size w' v' → w'.heap.size = v'.heap.size → TxAt v' v'.heap.size u Bx mw cz By u.rs.length cv) ∧ Below W7.heap.size W7 w' ∧ Below v.heap.size v w') := Lib.hid (by
        intro v hv
        have hb57 : Below w5.heap.size w5 v := HB6.out.trans ((HB7.out.trans (hv.mono HB7.out.size)).mono HB6.out.size)
        have hh := Go.Proofs.Ytlbalophmicmfaa.Rec.Holds.drop (k := E) (m := F) (HG5.out.below hb57) (by have := HN.out; omega)
        rw [HE.out, List.drop_left, HF.out, List.take_length, ← HE.out, ← HF.out] at hh
        have hc5 := HF5.out
        have hd := dec_owns u [] (some ⟨b5, off5 + E, none⟩) F (c5 - E) w5.heap.size v (by rw [List.append_nil]; exact hh) hb57.size (by have := hc5.1; have := HN.out; omega) (by have : c5 ≤ 9223372036854775807 := hc5.2; omega) HSU.out hn
        rw [HMW.out] at hd
        refine hd.mono ?_
        rintro e w' ⟨Bx, cz, By, cv, rfl, hk, hb⟩
        exact ⟨Bx, cz, By, cv, rfl, hk, hv.trans (hb.mono hv.size), hb⟩)
      have HW7 : Hid (Below W.heap.size W W7) := Lib.hid (HW5.out.trans ((HB6.out.trans (HB7.out.mono HB6.out.size)).mono HW5.out.size))
      obtain ⟨_, q0, _, _⟩ := P0.out W7 HW7.out
      have hlt7 : w.heap.size + 1 < W7.heap.size := by have := HS0.out; have := HW7.out.size; omega
      have hEc : E ≤ c5 := by have := HF5.out; have := HN.out; omega
      have hNc : N ≤ c5 := HF5.out.1
      have hcE : ¬ (c5 = E) := by have := HN.out; have := HF.out; have := enc_len u ((mayB_iff u).1 hn); omega
      have hEF : E ≤ N := by have := HN.out; omega
      have hEF2 : N - E = F := by have := HN.out; omega
      obtain ⟨Sa, hSa⟩ : ∃ s : ByteArray, s = ⟨t.enc.toArray⟩ := ⟨_, rfl⟩
      obtain ⟨Sb, hSb⟩ : ∃ s : ByteArray, s = ⟨u.enc.toArray⟩ := ⟨_, rfl⟩
      obtain ⟨q, hq⟩ : ∃ q, sameB t u = q := ⟨_, rfl⟩
      have hab : (Sa.toList == Sb.toList) = q := by
        rw [hSa, hSb, ByteArray.toList_eq, ByteArray.toList_eq, ← hq, ← enc_inj t u ((mayB_iff t).1 hm) ((mayB_iff u).1 hn) HSQ.out HSU.out]
        by_cases he : t.enc = u.enc
        · rw [he]; simp
        · have hf : (t.enc == u.enc) = false := beq_eq_false_iff_ne.2 he
          simp [he, hf]
      have HAB := Lib.hid hab; clear hab
      have HSa := Lib.hid hSa; clear hSa
      have HSb := Lib.hid hSb; clear hSb
      have HQ := Lib.hid hq; clear hq
      have hmw : mw ≤ 58 := by have := ((mayB_iff u).1 hn).hi; have := HMW.out; omega
      have hF2 : 256 * ((mw : Int) + 2) = (F : Int) := by have := enc_len u ((mayB_iff u).1 hn); rw [HMW.out, ← HF.out] at this; omega
      have hFw : IntKind.i64.wrap (F : Int) = (F : Int) := IntWalk.i64_in _ (by omega)
      go_region_with (first
        | (go_at_call 16
           have hcall := HU8.out ((W7.alloc (.cells #[.int .u64 0, .slice none 0 0, .slice none 0 0] 26)).drew) (((Below.refl W7.heap.size W7).alloc (Nat.le_refl _) _).drew)
           with_reducible refine hcall.mono ?_
           clear hcall
           rintro e w8 ⟨Bx, cz, By, cv, rfl, hk8, hb8, hv8⟩
           have hr8 : w8.heap[W7.heap.size]? = some (.cells #[.int .u64 0, .slice none 0 0, .slice none 0 0] 26 (0, 0)) := (hv8.block _ (by show W7.heap.size < (W7.alloc _).heap.size; simp)).trans (heap_alloc_new W7 _)
           have a0 := cell_of_row _ _ 0 _ _ _ hr8
           have a1 := cell_of_row _ _ 1 _ _ _ hr8
           have a2 := cell_of_row _ _ 2 _ _ _ hr8
           have f0 := frozen_of_row _ _ 0 _ _ hr8
           have f1 := frozen_of_row _ _ 1 _ _ hr8
           have f2 := frozen_of_row _ _ 2 _ _ hr8
           simp at a0 a1 a2
           have HR8 := Lib.hid hr8
           have HK8 : Hid (∀ v', Kept (W7.heap.size + 1) w8 v' → w8.heap.size = v'.heap.size → TxAt v' v'.heap.size u Bx mw cz By u.rs.length cv) := Lib.hid (fun v' h1 h2 => hk8 v' (by rw [show ((W7.alloc (.cells #[.int .u64 0, .slice none 0 0, .slice none 0 0] 26)).drew).heap.size = W7.heap.size + 1 by show (W7.alloc _).heap.size = _; simp]; exact h1) h2)
           clear hr8 hv8 hk8
           have HB8 := Lib.hid hb8; clear hb8)
        | (go_at_call 16
           have hcall := HU8.out W7.drew (Below.refl W7.heap.size W7).drew
           with_reducible refine hcall.mono ?_
           clear hcall
           rintro e w8 ⟨Bx, cz, By, cv, rfl, hk8, hb8, hv8⟩
           have HT8 : Hid (TxAt w8 w8.heap.size u Bx mw cz By u.rs.length cv) := Lib.hid (hk8 w8 (fun _ _ _ => rfl) rfl)
           clear hv8 hk8
           have HB8 := Lib.hid hb8; clear hb8))
      all_goals
        first
          | (have _ := a0
             have hX : Below W7.heap.size W7 (((w8.setCell ⟨W7.heap.size, 0, none⟩ (.int .u64 (u.seq : Int))).setCell ⟨W7.heap.size, 1, none⟩ (.slice Bx mw cz)).setCell ⟨W7.heap.size, 2, none⟩ (.slice By u.rs.length cv)) := ((HB8.out.setCell (Nat.le_refl _) _).setCell (Nat.le_refl _) _).setCell (Nat.le_refl _) _
             have hXr : (((w8.setCell ⟨W7.heap.size, 0, none⟩ (.int .u64 (u.seq : Int))).setCell ⟨W7.heap.size, 1, none⟩ (.slice Bx mw cz)).setCell ⟨W7.heap.size, 2, none⟩ (.slice By u.rs.length cv)).heap[W7.heap.size]? = some (.cells #[.int .u64 (u.seq : Int), .slice Bx mw cz, .slice By u.rs.length cv] 26) :=
               heap_setCell_same _ _ 2 _ _ _ (heap_setCell_same _ _ 1 _ _ _ (heap_setCell_same _ _ 0 _ _ _ HR8.out))
             have hXT : TxAt (((w8.setCell ⟨W7.heap.size, 0, none⟩ (.int .u64 (u.seq : Int))).setCell ⟨W7.heap.size, 1, none⟩ (.slice Bx mw cz)).setCell ⟨W7.heap.size, 2, none⟩ (.slice By u.rs.length cv)) (((w8.setCell ⟨W7.heap.size, 0, none⟩ (.int .u64 (u.seq : Int))).setCell ⟨W7.heap.size, 1, none⟩ (.slice Bx mw cz)).setCell ⟨W7.heap.size, 2, none⟩ (.slice By u.rs.length cv)).heap.size u Bx mw cz By u.rs.length cv :=
               HK8.out _ ((Kept.cell (by omega)).trans ((Kept.cell (by omega)).trans (Kept.cell (by omega)) (by simp [World.setCell])) (by simp [World.setCell])) (by simp [World.setCell])
             generalize (((w8.setCell ⟨W7.heap.size, 0, none⟩ (.int .u64 (u.seq : Int))).setCell ⟨W7.heap.size, 1, none⟩ (.slice Bx mw cz)).setCell ⟨W7.heap.size, 2, none⟩ (.slice By u.rs.length cv)) = X at hX hXr hXT ⊢
             clear a0 a1 a2 f0 f1 f2 HR8 HK8 HB8
             generalize hY : W7.heap.size = Y at hXr ⊢
             clear hY)
          | (have hX : Below W7.heap.size W7 (w8.alloc (.cells #[.int .u64 (u.seq : Int), .slice Bx mw cz, .slice By u.rs.length cv] 26)) := HB8.out.alloc HB8.out.size _
             have hXr : (w8.alloc (.cells #[.int .u64 (u.seq : Int), .slice Bx mw cz, .slice By u.rs.length cv] 26)).heap[w8.heap.size]? = some (.cells #[.int .u64 (u.seq : Int), .slice Bx mw cz, .slice By u.rs.length cv] 26) := heap_alloc_new w8 _
             have hXT : TxAt (w8.alloc (.cells #[.int .u64 (u.seq : Int), .slice Bx mw cz, .slice By u.rs.length cv] 26)) (w8.alloc (.cells #[.int .u64 (u.seq : Int), .slice Bx mw cz, .slice By u.rs.length cv] 26)).heap.size u Bx mw cz By u.rs.length cv := (HT8.out.below ((Below.refl _ w8).alloc (Nat.le_refl _) _)).more (by simp)
             generalize w8.alloc (.cells #[.int .u64 (u.seq : Int), .slice Bx mw cz, .slice By u.rs.length cv] 26) = X at hX hXr hXT ⊢
             clear HB8 HT8
             generalize hY : w8.heap.size = Y at hXr ⊢
             clear hY)
        have hX1 : Below W.heap.size W X := HW7.out.trans (hX.mono HW7.out.size)
        have hXw : Below w.heap.size w X := HB0.out.trans (hX1.mono HB0.out.size)
        have hX6 : Below w6.heap.size w6 X := HB7.out.trans (hX.mono HB7.out.size)
        have hX3 : Below w3.heap.size w3 X := HZ5.out.trans ((HB6.out.trans (hX6.mono HB6.out.size)).mono HZ5.out.size)
        have hxr : X.heap[w6.heap.size]? = some (.cells #[.int .u64 (t.seq : Int), .slice Ax nw cx, .slice Ay t.rs.length cy] 26) := by
          rw [← HC2.out]; exact (hX.block _ HS7.out).trans HBK7.out
        have hxT : TxAt X w6.heap.size t Ax nw cx Ay t.rs.length cy := HT6.out.below hX6
        have hYlt : Y < X.heap.size := by
          rcases Nat.lt_or_ge Y X.heap.size with h | h
          · exact h
          · rw [Array.getElem?_eq_none h] at hXr; cases hXr
        have HP : Hid (∀ V, Below X.heap.size X V → (V.cell? ⟨w.heap.size, 0, none⟩ = some (.int .u64 (t.seq : Int)) ∧ V.cell? ⟨w.heap.size, 1, none⟩ = some (.slice Aw nw cw) ∧ V.cell? ⟨w.heap.size, 2, none⟩ = some (.slice Ar nr cr) ∧ V.cell? ⟨w.heap.size + 1, 0, none⟩ = some (.int .u64 (u.seq : Int)) ∧ V.cell? ⟨w.heap.size + 1, 1, none⟩ = some (.slice Bw mw dw) ∧ V.cell? ⟨w.heap.size + 1, 2, none⟩ = some (.slice Br mr dr) ∧ V.cell? ⟨w6.heap.size, 0, none⟩ = some (.int .u64 (t.seq : Int)) ∧ V.cell? ⟨w6.heap.size, 1, none⟩ = some (.slice Ax nw cx) ∧ V.cell? ⟨w6.heap.size, 2, none⟩ = some (.slice Ay t.rs.length cy) ∧ V.cell? ⟨Y, 0, none⟩ = some (.int .u64 (u.seq : Int)) ∧ V.cell? ⟨Y, 1, none⟩ = some (.slice Bx mw cz) ∧ V.cell? ⟨Y, 2, none⟩ = some (.slice By u.rs.length cv) ∧ (convert 29 9 (.slice (some ⟨b, off, none⟩) E cb)).run Try.prog V = .ok (.string Sa) V ∧ (convert 29 9 (.slice (some ⟨b3, off3, none⟩) F cb3)).run Try.prog V = .ok (.string Sb) V)) := Lib.hid (fun V hV => by
          obtain ⟨⟨p0, p1, p2⟩, r0, r1, r2⟩ := P0.out V (hX1.trans (hV.mono hX1.size))
          have hx := (hV.block _ (Nat.lt_of_lt_of_le HS7.out hX.size)).trans hxr
          have hy := (hV.block _ hYlt).trans hXr
          have ta := run_text V w2.heap.size (some ⟨b, off, none⟩) E cb t.enc (by rw [HE.out]; exact HX3.out.below ((hX3.trans (hV.mono hX3.size)).mono hz3))
          have tb := run_text V w3.heap.size (some ⟨b3, off3, none⟩) F cb3 u.enc (by rw [HF.out]; exact HY3.out.below (hX3.trans (hV.mono hX3.size)))
          rw [← HSa.out] at ta
          rw [← HSb.out] at tb
          exact ⟨p0, p1, p2, r0, r1, r2, cell_of_row _ _ _ _ _ _ hx, cell_of_row _ _ _ _ _ _ hx, cell_of_row _ _ _ _ _ _ hx, cell_of_row _ _ _ _ _ _ hy, cell_of_row _ _ _ _ _ _ hy, cell_of_row _ _ _ _ _ _ hy, ta, tb⟩)
        have H1 : Hid (∀ V, Below X.heap.size X V → Calls Try.prog 15 #[.agg #[.int .u64 (t.seq : Int), .slice Ax nw cx, .slice Ay t.rs.length cy], .agg #[.int .u64 (t.seq : Int), .slice Aw nw cw, .slice Ar nr cr]] V fun e w' => e = .returned (.bool true) ∧ Below X.heap.size X w') := Lib.hid (fun V hV => by
          refine (same_any t t Ax Ay nw cx t.rs.length cy w6.heap.size Aw Ar nw cw nr cr w.heap.size V (hxT.below (hV.mono hX6.size)) (Nat.le_trans hX6.size hV.size) (HT.out.below (hXw.trans (hV.mono hXw.size))) (Nat.le_trans hXw.size hV.size) (by have := hxT.fits; omega) (by have := hxT.fits; omega)).mono ?_
          rintro e w' ⟨rfl, hb⟩
          rw [(sameB_iff t t).2 rfl]
          exact ⟨rfl, hV.trans (hb.mono hV.size)⟩)
        have H2 : Hid (∀ V, Below X.heap.size X V → Calls Try.prog 15 #[.agg #[.int .u64 (u.seq : Int), .slice Bx mw cz, .slice By u.rs.length cv], .agg #[.int .u64 (u.seq : Int), .slice Bw mw dw, .slice Br mr dr]] V fun e w' => e = .returned (.bool true) ∧ Below X.heap.size X w') := Lib.hid (fun V hV => by
          refine (same_any u u Bx By mw cz u.rs.length cv X.heap.size Bw Br mw dw mr dr w.heap.size V (hXT.below hV) hV.size (HU.out.below (hXw.trans (hV.mono hXw.size))) (Nat.le_trans hXw.size hV.size) (by have := hXT.fits; omega) (by have := hXT.fits; omega)).mono ?_
          rintro e w' ⟨rfl, hb⟩
          rw [(sameB_iff u u).2 rfl]
          exact ⟨rfl, hV.trans (hb.mono hV.size)⟩)
        have H3 : Hid (∀ V, Below X.heap.size X V → Calls Try.prog 15 #[.agg #[.int .u64 (t.seq : Int), .slice Aw nw cw, .slice Ar nr cr], .agg #[.int .u64 (u.seq : Int), .slice Bw mw dw, .slice Br mr dr]] V fun e w' => e = .returned (.bool q) ∧ Below X.heap.size X w') := Lib.hid (fun V hV => by
          refine (same_any t u Aw Ar nw cw nr cr w.heap.size Bw Br mw dw mr dr w.heap.size V (HT.out.below (hXw.trans (hV.mono hXw.size))) (Nat.le_trans hXw.size hV.size) (HU.out.below (hXw.trans (hV.mono hXw.size))) (Nat.le_trans hXw.size hV.size) (by have := HT.out.fits; omega) (by have := HT.out.fits; omega)).mono ?_
          rintro e w' ⟨rfl, hb⟩
          rw [HQ.out]
          exact ⟨rfl, hV.trans (hb.mono hV.size)⟩)
        have HXw := Lib.hid hXw
        have hS0 := HP.out X.drew (Below.refl X.heap.size X).drew
        clear hX hX1 hXw hX6 hX3 hxr hxT hXr hXT hYlt q0 hlt7
        go_wp2_with fail
        go_region_held (fun (V : World) => V.cell? ⟨w.heap.size, 0, none⟩ = some (.int .u64 (t.seq : Int)) ∧ V.cell? ⟨w.heap.size, 1, none⟩ = some (.slice Aw nw cw) ∧ V.cell? ⟨w.heap.size, 2, none⟩ = some (.slice Ar nr cr) ∧ V.cell? ⟨w.heap.size + 1, 0, none⟩ = some (.int .u64 (u.seq : Int)) ∧ V.cell? ⟨w.heap.size + 1, 1, none⟩ = some (.slice Bw mw dw) ∧ V.cell? ⟨w.heap.size + 1, 2, none⟩ = some (.slice Br mr dr) ∧ V.cell? ⟨w6.heap.size, 0, none⟩ = some (.int .u64 (t.seq : Int)) ∧ V.cell? ⟨w6.heap.size, 1, none⟩ = some (.slice Ax nw cx) ∧ V.cell? ⟨w6.heap.size, 2, none⟩ = some (.slice Ay t.rs.length cy) ∧ V.cell? ⟨Y, 0, none⟩ = some (.int .u64 (u.seq : Int)) ∧ V.cell? ⟨Y, 1, none⟩ = some (.slice Bx mw cz) ∧ V.cell? ⟨Y, 2, none⟩ = some (.slice By u.rs.length cv) ∧ (convert 29 9 (.slice (some ⟨b, off, none⟩) E cb)).run Try.prog V = .ok (.string Sa) V ∧ (convert 29 9 (.slice (some ⟨b3, off3, none⟩) F cb3)).run Try.prog V = .ok (.string Sb) V) (assumption)
          (first
          | (go_at_call 15
             have hcall := H1.out X.drew (Below.refl X.heap.size X).drew
             with_reducible refine hcall.mono ?_
             clear hcall
             rintro e V1 ⟨rfl, hv⟩
             have HV1 : Hid (Below X.heap.size X V1) := Lib.hid hv
             have hS1 := HP.out V1 hv
             clear hv)
          | (go_at_call 15
             have hcall := H2.out V1 HV1.out
             with_reducible refine hcall.mono ?_
             clear hcall
             rintro e V2 ⟨rfl, hv⟩
             have HV2 : Hid (Below X.heap.size X V2) := Lib.hid hv
             have hS2 := HP.out V2 hv
             clear hv)
          | (go_at_call 15
             have hcall := H3.out V2 HV2.out
             with_reducible refine hcall.mono ?_
             clear hcall
             rintro e V3 ⟨rfl, hv⟩
             have HV3 : Hid (Below X.heap.size X V3) := Lib.hid hv
             have hS3 := HP.out V3 hv
             clear hv))
        all_goals
          go_wp2
          go_ret
          exact ⟨Eq.trans (b := Ending.returned (.bool ((Sa.toList == Sb.toList) == q))) rfl (by rw [HAB.out]; simp), HXw.out.trans (HV3.out.mono HXw.out.size)⟩

theorem walks : Walks 9 Try.f9 All := by
  intro H enc W base args ds p hval hA hsz _
  rw [Try.params9] at hA hval hsz
  obtain ⟨v0, vs0, d0, ds0, p0, q0, hargs, rfl, rfl, h0, r0⟩ := trodAll_cons hA
  obtain ⟨v1, vs1, d1, ds1, p1, q1, rfl, rfl, rfl, h1, r1⟩ := trodAll_cons r0
  obtain ⟨rfl, rfl, rfl⟩ := trodAll_nil r1
  obtain rfl : args = #[v0, v1] := by cases args; simp_all
  obtain ⟨t, Aw, nw, cw, Ar, nr, cr, rfl, ht⟩ := txn_open (hval 0 _ v0 rfl rfl) h0 (txn_weights hsz (j := 0) rfl rfl)
  obtain ⟨u, Bw, mw, dw, Br, mr, dr, rfl, hu⟩ := txn_open (hval 1 _ v1 rfl rfl) h1 (txn_weights hsz (j := 1) rfl rfl)
  exact walk t u Aw Ar nw cw nr cr Bw Br mw dw mr dr W ht hu

set_option maxRecDepth 100000 in
theorem proved : Rows.RecordTwoSaid :=
  OpenClaim.holds_of_wide 9 Try.f9 rfl rfl rfl rfl rfl rfl rfl ⟨rfl, rfl, rfl, rfl, rfl⟩ rfl rfl rfl rfl rfl (by kernel_rfl) Try.func9 (by kernel_rfl)
    (of_decide_eq_true (by kernel_rfl)) (by unfold Func.isWrapper; first | (rw [if_pos (by decide +kernel)]; kernel_rfl) | (rw [if_neg (by decide +kernel)]; exact ⟨rfl, rfl⟩))
    (fun os started H enc _ => lifted (s := Rows.recordTwoSpec) walks (by kernel_rfl) rfl rfl (fun H ds hl => by match ds, hl with | [d1, d2], _ => rfl) (by kernel_rfl) Try.func9 os started H enc
      (ChangeSpec.witness6 (enc := enc) (C := Try.checked) false ⟨#[], #[.agg #[.int .u64 0, .slice none 0 0, .slice none 0 0], .agg #[.int .u64 0, .slice none 0 0, .slice none 0 0]], []⟩ 8 (by kernel_rfl) (by kernel_rfl) (by kernel_rfl) (by kernel_rfl)))
#print axioms proved
end Go.Proofs.Ytlbalophmicmfaa.RecordTwo
