/- GeomParts: for every number of blocks, the parts of a device follow one another without a gap and have all its blocks, the log at least 36 and the data at least one; and no two inodes share a place, all of them in the table. -/
import Derived.Test.YtmlkhnglmjlfbaaGmSeen
namespace Go.Proofs.Ytmlkhnglmjlfbaa.GeomParts
set_option maxRecDepth 20000
open Go.ChangeShapes Go.WideShapes Go.ChangeAt Go.RowKit
open Go.Proofs.Ytmlkhnglmjlfbaa.Mem Go.Proofs.Ytmlkhnglmjlfbaa.Gm Go.Proofs.Ytmlkhnglmjlfbaa.Lift
attribute [local go_sem ↓] ldG_eq stG_eq eqG_eq neqG_eq

set_option maxRecDepth 100000 in
theorem walk_no (b : Int) (w : World) (h : ¬ (128 ≤ b ∧ b ≤ 1024)) :
    Calls Try.prog 5 #[.int .i64 b] w fun e w' => e = .returned (.bool true) ∧ Below w.heap.size w w' := by
  have h' : b < 128 ∨ 1024 < b := by omega
  have HH := Lib.hid h'
  go_enter Try.func5, Try.ntmps5
  go_wp2_with fail
  with_reducible refine (alive_any w).mono ?_
  rintro e w1 ⟨rfl, hb1⟩
  have HB1 := Lib.hid hb1; clear hb1
  clear h h'
  go_wp2_with fail
  with_reducible refine (layout_no b w1 HH.out).mono ?_
  rintro e w2 ⟨rfl, hb2⟩
  obtain ⟨w3, hw3⟩ : ∃ y, y = w2.alloc (.cells gm0.c 23) := ⟨_, rfl⟩
  have l3 := run_stG_new w2 gm0
  rw [← hw3] at l3
  have HV3 : Hid (VarG w3 w2.heap.size gm0) := Lib.hid (hw3 ▸ VarG.new w2 _)
  have HB3 : Hid (Below w.heap.size w w3) := Lib.hid (hw3 ▸ (HB1.out.trans (hb2.mono HB1.out.size)).alloc (Nat.le_trans HB1.out.size hb2.size) _)
  have l4 := HV3.out.load
  have q3 : (eqG (.agg gm0.c) (.agg #[.int .i64 0, .int .i64 0, .int .i64 0, .int .i64 0, .int .i64 0, .int .i64 0, .int .i64 0, .int .i64 0])).run Try.prog w3 = .ok (.bool true) w3 := by
    have := run_eqG w3 gm0 gm0
    rw [decide_eq_true rfl] at this
    exact this
  clear hw3 hb2 HB1 HV3
  rcases HH.out with h | h
  · go_wp2
    go_ret
    exact ⟨rfl, HB3.out⟩
  · have h0 : ¬ b < 128 := by omega
    go_wp2
    go_ret
    exact ⟨rfl, HB3.out⟩

/-- What holds at the head of the first loop. -/
structure Half (w wr : World) (b gv gc i : Nat) : Prop where
  box : VarG wr gv (lay (b : Int))
  row : wr.heap[gc]? = some (.cells (cntV b i) 37 (0, 0))
  below : Below w.heap.size w wr
/-- What holds at the head of the second. -/
structure Rest (w wr : World) (b gv gm i : Nat) : Prop where
  box : VarG wr gv (lay (b : Int))
  table : ∃ n, n ≤ i ∧ Seen wr gm n i
  below : Below w.heap.size w wr

theorem inode_in (b i : Nat) (h1 : 128 ≤ b) (h2 : b ≤ 1024) (hi : i < b / 4) : inodeE (lay (b : Int)) (i : Int) = .tuple #[.int .i64 (3 + (i : Int) / 2), .int .i64 ((i : Int) % 2 * 128), .int .i64 0] := by
  unfold inodeE
  rw [if_pos ⟨is_lay b h1 h2, by omega, by show (i : Int) < (b : Int) / 4; omega⟩]
  rfl
theorem inode_out (b : Nat) : inodeE (lay (b : Int)) ((b : Int) / 4) = .tuple #[.int .i64 0, .int .i64 0, .int .i64 1] := by
  unfold inodeE
  rw [if_neg]
  rintro ⟨_, _, h⟩
  exact absurd h (by show ¬ (b : Int) / 4 < (b : Int) / 4; omega)
theorem where_inode (b i : Nat) (h1 : 128 ≤ b) (h2 : b ≤ 1024) (hi : i < b / 4) : whereE (lay (b : Int)) (3 + (i : Int) / 2) = 4 := by
  have h := whN_is b (3 + i / 2) h1 h2 (by omega)
  rw [show ((3 + i / 2 : Nat) : Int) = 3 + (i : Int) / 2 by omega] at h
  rw [h]
  unfold whN
  repeat' split
  all_goals omega

set_option maxRecDepth 100000 in
set_option maxHeartbeats 4000000 in
theorem walk_ok (b : Nat) (w : World) (h1 : 128 ≤ b) (h2 : b ≤ 1024) :
    Calls Try.prog 5 #[.int .i64 (b : Int)] w fun e w' => e = .returned (.bool true) ∧ Below w.heap.size w w' := by
  obtain ⟨G, hG⟩ : ∃ G, G = lay (b : Int) := ⟨_, rfl⟩
  have h1' : (128 : Int) ≤ (b : Int) := by omega
  have h2' : (b : Int) ≤ 1024 := by omega
  have H1 := Lib.hid h1; clear h1
  have H2 := Lib.hid h2; clear h2
  have HG := Lib.hid hG; clear hG
  have H1' := Lib.hid h1'; clear h1'
  have hmm := @run_makeMap Try.prog
  go_enter Try.func5, Try.ntmps5
  go_wp2_with fail
  with_reducible refine (alive_any w).mono ?_
  rintro e w1 ⟨rfl, hb1⟩
  have HB1 := Lib.hid hb1; clear hb1
  go_wp2_with fail
  with_reducible refine (layout_ok (b : Int) w1 H1'.out h2').mono ?_
  rintro e w2 ⟨rfl, hb2⟩
  rw [← HG.out]
  obtain ⟨w3, hw3⟩ : ∃ y, y = w2.alloc (.cells G.c 23) := ⟨_, rfl⟩
  have l3 := run_stG_new w2 G
  rw [← hw3] at l3
  have HV3 : Hid (VarG w3 w2.heap.size G) := Lib.hid (hw3 ▸ VarG.new w2 _)
  have HB3 : Hid (Below w.heap.size w w3) := Lib.hid (hw3 ▸ (HB1.out.trans (hb2.mono HB1.out.size)).alloc (Nat.le_trans HB1.out.size hb2.size) _)
  have hH4 : Half w (w3.alloc (.cells #[.int .i64 0, .int .i64 0, .int .i64 0, .int .i64 0, .int .i64 0, .int .i64 0, .int .i64 0] 37)) b w2.heap.size w3.heap.size 0 :=
    ⟨by rw [← HG.out]; exact HV3.out.alloc _, by rw [cntV_zero]; exact heap_alloc_new w3 _, HB3.out.alloc HB3.out.size _⟩
  have HH4 := Lib.hid hH4; clear hH4
  have hne : w2.heap.size ≠ w3.heap.size := by have := HV3.out.lt; omega
  have HNE := Lib.hid hne; clear hne
  have HGE : Hid (w.heap.size ≤ w3.heap.size) := Lib.hid HB3.out.size
  clear hw3 hb2 HB1 HV3 HB3
  go_wp2_with fail
  generalize w3.alloc (.cells #[.int .i64 0, .int .i64 0, .int .i64 0, .int .i64 0, .int .i64 0, .int .i64 0, .int .i64 0] 37) = w4 at HH4 ⊢
  clear l3
  go_loopw [5, 7, 8] (fun l i _ wr => ∃ k : Nat, k ≤ b ∧ i = .int .i64 (k : Int) ∧ l = .int .i64 (lastN b k : Nat) ∧ Half w wr b w2.heap.size w3.heap.size k) (fun _ i _ _ => b - (intOf i).toNat)
  case atStart => exact ⟨0, by omega, rfl, rfl, HH4.out⟩
  case round =>
    clear HH4
    obtain ⟨k, hk, rfl, rfl, hH⟩ := hrel
    rcases Nat.lt_or_ge k b with hlt | hge
    · obtain ⟨a1, a2, a3, a4⟩ := last_step b k H1.out H2.out hlt
      have hwh := whN_is b k H1.out H2.out hlt
      have hst := cntV_step b k H1.out H2.out hlt
      have hgt := cntV_get b k (whN b k) a3 a4
      have hls : lastN b (k + 1) = whN b k := rfl
      have hcl : cntN b k (whN b k) ≤ 1024 := by unfold cntN; omega
      have l1 := (show VarG wr w2.heap.size G by rw [HG.out]; exact hH.box).load
      have HLS := Lib.hid hls; clear hls
      have HST := Lib.hid hst; clear hst
      have HGT := Lib.hid hgt; clear hgt
      have HH := Lib.hid hH; clear hH
      rw [← HG.out] at hwh
      have HWH := Lib.hid hwh; clear hwh
      generalize whN b k = q at HWH HST HGT HLS a1 a2 a3 a4 hcl
      generalize lastN b k = l at a1 a2 ⊢
      generalize cntN b k q = c at HST HGT hcl
      go_wp2_with fail
      with_reducible refine (where_any G (k : Int) wr).mono ?_
      rintro e w5 ⟨rfl, hb5⟩
      rw [HWH.out]
      have hx5 := (hb5.block _ (Array.getElem?_eq_some_iff.1 HH.out.row).1).trans HH.out.row
      have f1 : w5.cell? ⟨w3.heap.size, q, none⟩ = some (.int .i64 (c : Int)) := by rw [cell_of_row w5 w3.heap.size q _ _ _ hx5]; exact HGT.out
      have f2 : w5.frozen? ⟨w3.heap.size, q, none⟩ = false := frozen_of_row w5 w3.heap.size q _ _ hx5
      have hn6 := (Go.heap_setCell_same w5 w3.heap.size q _ _ (.int .i64 ((c : Int) + 1)) hx5)
      rw [HST.out] at hn6
      have hH6 : Half w (w5.setCell ⟨w3.heap.size, q, none⟩ (.int .i64 ((c : Int) + 1))) b w2.heap.size w3.heap.size (k + 1) :=
        ⟨(Below.heap_setCell w5 ⟨w3.heap.size, q, none⟩ _ w2.heap.size HNE.out).trans (HH.out.box.keep hb5), hn6, ((HH.out.below.trans (hb5.mono HH.out.below.size))).setCell HGE.out _⟩
      have HH6 := Lib.hid hH6; clear hH6
      clear hb5 hx5 hn6 HST HGT HWH l1
      go_wp2
      go_roundw
      case rel => exact ⟨k + 1, by omega, by go_num, by rw [HLS.out], HH6.out⟩
      case measure => simp [intOf]; omega
    · obtain rfl : k = b := by omega
      rw [last_end k H1.out H2.out]
      obtain ⟨e1, e2, e3, e5, e6, e7⟩ := cnt_ends k H1.out H2.out
      have f1 : wr.cell? ⟨w3.heap.size, 1, none⟩ = some (.int .i64 1) := by rw [cell_of_row wr w3.heap.size 1 _ _ _ hH.row, cntV_get k k 1 (by omega) (by omega), e1]; rfl
      have f2 : wr.cell? ⟨w3.heap.size, 2, none⟩ = some (.int .i64 1) := by rw [cell_of_row wr w3.heap.size 2 _ _ _ hH.row, cntV_get k k 2 (by omega) (by omega), e2]; rfl
      have f3 : wr.cell? ⟨w3.heap.size, 3, none⟩ = some (.int .i64 1) := by rw [cell_of_row wr w3.heap.size 3 _ _ _ hH.row, cntV_get k k 3 (by omega) (by omega), e3]; rfl
      obtain ⟨n5, hn5⟩ : ∃ n : Nat, n = 32 + k / 32 := ⟨_, rfl⟩
      have f5 : wr.cell? ⟨w3.heap.size, 5, none⟩ = some (.int .i64 (n5 : Int)) := by rw [cell_of_row wr w3.heap.size 5 _ _ _ hH.row, cntV_get k k 5 (by omega) (by omega), e5, hn5]
      obtain ⟨n6, hn6⟩ : ∃ n : Nat, n = cntN k k 6 := ⟨_, rfl⟩
      have f6 : wr.cell? ⟨w3.heap.size, 6, none⟩ = some (.int .i64 (n6 : Int)) := by rw [cell_of_row wr w3.heap.size 6 _ _ _ hH.row, cntV_get k k 6 (by omega) (by omega), hn6]
      have hbx : VarG wr w2.heap.size G := by rw [HG.out]; exact hH.box
      have f7 : wr.cell? ⟨w2.heap.size, 6, none⟩ = some (.int .i64 (n5 : Int)) := by
        rw [hbx.cell 6, HG.out, hn5]
        show some (Value.int .i64 (32 + (k : Int) / 32)) = some (Value.int .i64 ((32 + k / 32 : Nat) : Int))
        congr 2
      have g5 : 36 ≤ n5 ∧ n5 ≤ 100 := by have := H1.out; have := H2.out; omega
      have g6 : 1 ≤ n6 ∧ n6 ≤ 1024 := by omega
      have l1 := hbx.load
      have hwe := where_end k
      have hwn := where_neg k
      rw [← HG.out] at hwe hwn
      have HWE := Lib.hid hwe; clear hwe
      have HWN := Lib.hid hwn; clear hwn
      have HBX := Lib.hid hbx; clear hbx
      have HBR := Lib.hid hH.below
      clear hn5 hn6 e1 e2 e3 e5 e6 e7 hH hge hk HNE HGE
      go_wp2_with fail
      with_reducible refine (where_any G (k : Int) wr).mono ?_
      rintro e w5 ⟨rfl, hb5⟩
      rw [HWE.out]
      have HV5 := Lib.hid (HBX.out.keep hb5)
      have HB5 : Hid (Below w.heap.size w w5) := Lib.hid (HBR.out.trans (hb5.mono HBR.out.size))
      have l5 := HV5.out.load
      clear hb5 l1 HBX HBR f1 f2 f3 f5 f6 f7
      go_wp2_with fail
      with_reducible refine (where_any G (-1) w5).mono ?_
      rintro e w6 ⟨rfl, hb6⟩
      rw [HWN.out]
      have HV6 := Lib.hid (HV5.out.keep hb6)
      have HB6 : Hid (Below w.heap.size w w6) := Lib.hid (HB5.out.trans (hb6.mono HB5.out.size))
      have hR : Rest w (w6.alloc (.map #[] 0)) k w2.heap.size w6.heap.size 0 :=
        ⟨by rw [← HG.out]; exact HV6.out.alloc _, ⟨0, Nat.le_refl _, World.ownsMap_made w6 Try.prog 39 (plainElem (H := Unit) Try.prog 3)⟩, HB6.out.alloc HB6.out.size _⟩
      have HR := Lib.hid hR; clear hR
      have hmne : w2.heap.size ≠ w6.heap.size := by have := HV6.out.lt; omega
      have HMN := Lib.hid hmne; clear hmne
      have HGE : Hid (w.heap.size ≤ w6.heap.size) := Lib.hid HB6.out.size
      clear hb6 l5 HV5 HB5 HV6 HB6
      go_wp2_with fail
      generalize w6.alloc (.map #[] 0) = w7 at HR ⊢
      clear hmm
      go_loopw [10, 11, 12, 13] (fun i _ _ _ wr => ∃ j : Nat, j ≤ k / 4 ∧ i = .int .i64 (j : Int) ∧ Rest w wr k w2.heap.size w6.heap.size j) (fun i _ _ _ _ => k - (intOf i).toNat)
      case atStart => exact ⟨0, by omega, rfl, HR.out⟩
      case round =>
        clear HR
        obtain ⟨j, hj, rfl, hR⟩ := hrel
        have hbx : VarG wr w2.heap.size G := by rw [HG.out]; exact hR.box
        obtain ⟨n, hn, hsn⟩ := hR.table
        have c1 : wr.cell? ⟨w2.heap.size, 1, none⟩ = some (.int .i64 ((k / 4 : Nat) : Int)) := by
          rw [hbx.cell 1, HG.out]
          show some (Value.int .i64 ((k : Int) / 4)) = some (Value.int .i64 ((k / 4 : Nat) : Int))
          congr 2
        have l1 := hbx.load
        have HBX := Lib.hid hbx; clear hbx
        have HBR := Lib.hid hR.below
        have HSN := Lib.hid hsn; clear hsn
        have HN := Lib.hid hn; clear hn
        clear hR
        rcases Nat.lt_or_ge j (k / 4) with hlt | hge
        · have hie := inode_in k j H1.out H2.out hlt
          have hwi := where_inode k j H1.out H2.out hlt
          rw [← HG.out] at hie hwi
          have hj4 : j ≤ 256 := by have := H2.out; omega
          have HJ4 := Lib.hid hj4
          have HIE := Lib.hid hie; clear hie
          have HWI := Lib.hid hwi; clear hwi
          obtain ⟨M, hM⟩ : ∃ M : Nat, M = k / 4 := ⟨_, rfl⟩
          rw [← hM] at c1 hlt hj
          have HM := Lib.hid hM; clear hM
          go_wp2_with fail
          with_reducible refine (inode_any G (j : Int) wr (by omega) (by omega)).mono ?_
          rintro e w8 ⟨rfl, hb8⟩
          rw [HIE.out]
          have HV8 := Lib.hid (HBX.out.keep hb8)
          have HB8 : Hid (Below w.heap.size w w8) := Lib.hid (HBR.out.trans (hb8.mono HBR.out.size))
          have HS8 : Hid (Seen w8 w6.heap.size n j) := Lib.hid (HSN.out.kept (row := none) ⟨hb8.os, hb8.tape, hb8.output, hb8.size, fun q hq _ => hb8.block q hq⟩ (by simp))
          have l8 := HV8.out.load
          obtain ⟨pb, hpb⟩ : ∃ x, x = 3 + (j : Int) / 2 := ⟨_, rfl⟩
          obtain ⟨pa, hpa⟩ : ∃ x, x = (j : Int) % 2 * 128 := ⟨_, rfl⟩
          rw [← hpb, ← hpa]
          rw [← hpb] at HWI
          have hpa2 : pa = 0 ∨ pa = 128 := by omega
          have HPB := Lib.hid hpb; clear hpb
          have HPA := Lib.hid hpa; clear hpa
          clear hb8 l1 HBX HBR HSN c1
          go_wp2_with fail
          with_reducible refine (where_any G pb w8).mono ?_
          rintro e w9 ⟨rfl, hb9⟩
          rw [HWI.out]
          have HV9 := Lib.hid (HV8.out.keep hb9)
          have HB9 : Hid (Below w.heap.size w w9) := Lib.hid (HB8.out.trans (hb9.mono HB8.out.size))
          have HS9 : Hid (Seen w9 w6.heap.size n j) := Lib.hid (HS8.out.kept (row := none) ⟨hb9.os, hb9.tape, hb9.output, hb9.size, fun q hq _ => hb9.block q hq⟩ (by simp))
          have hpv : placeV j = .agg #[.int .i64 pb, .int .i64 pa] := by rw [HPB.out, HPA.out]; rfl
          have hlk := run_seen w9 w6.heap.size n j (by have := HJ4.out; omega) HS9.out
          obtain ⟨w10, hup, hs10, hg10⟩ := run_see w9 w6.heap.size n j (by have := HJ4.out; omega) (by have := HJ4.out; have := HN.out; unfold maxLen; omega) HS9.out
          rw [hpv] at hlk hup
          have hR10 : Rest w w10 k w2.heap.size w6.heap.size (j + 1) :=
            ⟨by rw [← HG.out]; exact (hg10.block w2.heap.size HV9.out.lt (by intro e; injection e with e; exact HMN.out e)).trans HV9.out, ⟨n + 1, by have := HN.out; omega, hs10⟩, HB9.out.grown hg10 HB9.out.size (by intro q hq; injection hq with hq; subst hq; exact HGE.out)⟩
          have HR10 := Lib.hid hR10; clear hR10
          clear hb9 l8 HV8 HB8 HS8 hs10 hg10 hpv HV9 HB9 HS9 HPB HPA
          rcases hpa2 with rfl | rfl
          · go_wp2
            go_roundw
            case rel => exact ⟨j + 1, by have := HM.out; omega, by go_num, HR10.out⟩
            case measure => simp [intOf]; have := HM.out; omega
          · go_wp2
            go_roundw
            case rel => exact ⟨j + 1, by have := HM.out; omega, by go_num, HR10.out⟩
            case measure => simp [intOf]; have := HM.out; omega
        · obtain rfl : j = k / 4 := by omega
          have hio := inode_out k
          rw [← HG.out] at hio
          have hkc : ((k : Int) / 4) = ((k / 4 : Nat) : Int) := by omega
          rw [hkc] at hio
          have HIO := Lib.hid hio; clear hio hkc
          obtain ⟨M, hM⟩ : ∃ M : Nat, M = k / 4 := ⟨_, rfl⟩
          rw [← hM] at c1 HIO ⊢
          have hM4 : M ≤ 256 := by have := H2.out; omega
          have HM := Lib.hid hM; clear hM
          clear hge hj HSN HN
          go_wp2_with fail
          with_reducible refine (inode_any G (M : Int) wr (by omega) (by omega)).mono ?_
          rintro e w8 ⟨rfl, hb8⟩
          rw [HIO.out]
          have HB8 : Hid (Below w.heap.size w w8) := Lib.hid (HBR.out.trans (hb8.mono HBR.out.size))
          clear hb8 l1 HBX HBR c1
          go_wp2
          go_ret
          exact ⟨rfl, HB8.out⟩

theorem walks : Walks 5 Try.f5 All := by
  intro H enc W base args ds p hval hA hsz _
  rw [Try.params5] at hA hval hsz
  obtain ⟨v0, vs0, d0, ds0, p0, q0, hargs, rfl, rfl, h0, r0⟩ := trodAll_cons hA
  obtain ⟨rfl, rfl, rfl⟩ := trodAll_nil r0
  obtain rfl : args = #[v0] := by cases args; simp_all
  obtain ⟨b, rfl, rfl, rfl, hb⟩ := open_int Try.underlying3 (hval 0 _ v0 rfl rfl) h0
  by_cases ok : 128 ≤ b ∧ b ≤ 1024
  · obtain ⟨n, rfl⟩ := Int.eq_ofNat_of_zero_le (show 0 ≤ b by omega)
    exact walk_ok n W (by omega) (by omega)
  · exact walk_no b W ok

set_option maxRecDepth 100000 in
theorem proved : Rows.GeomPartsSaid :=
  OpenClaim.holds_of_wide 5 Try.f5 rfl rfl rfl rfl rfl rfl rfl ⟨rfl, rfl, rfl, rfl, rfl⟩ rfl rfl rfl rfl rfl (by kernel_rfl) Try.func5 (by kernel_rfl)
    (of_decide_eq_true (by kernel_rfl)) (by unfold Func.isWrapper; first | (rw [if_pos (by decide +kernel)]; kernel_rfl) | (rw [if_neg (by decide +kernel)]; exact ⟨rfl, rfl⟩))
    (fun os started H enc _ => lifted (s := Rows.geomPartsSpec) walks (by kernel_rfl) rfl rfl (fun H ds hl => by match ds, hl with | [d1], _ => rfl) (by kernel_rfl) Try.func5 os started H enc
      (ChangeSpec.witness6 (enc := enc) (C := Try.checked) false ⟨#[], #[.int .i64 0], []⟩ 8 (by kernel_rfl) (by kernel_rfl) (by kernel_rfl) (by kernel_rfl)))
#print axioms proved
end Go.Proofs.Ytmlkhnglmjlfbaa.GeomParts
