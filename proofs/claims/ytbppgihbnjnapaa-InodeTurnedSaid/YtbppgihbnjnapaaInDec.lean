/- Contract of the program's Decode. -/
import Derived.Test.YtbppgihbnjnapaaInCode
import Derived.Deep.RegionHeld
namespace Go.Proofs.Ytbppgihbnjnapaa.Ino
set_option maxRecDepth 20000
open Go.RowKit
open Go.Proofs.Ytbppgihbnjnapaa.Mem Go.Proofs.Ytbppgihbnjnapaa.Crc Go.Proofs.Ytbppgihbnjnapaa.Rec
attribute [local go_sem ↓] Go.wp_at_zero Go.wp_at_succ ldI_eq stI_eq

def eqB (a b : List UInt8) : Bool := decide (a = b)
theorem equal_any (A A' : Option Addr) (n n' c c' B B' : Nat) (bs bs' : List UInt8) (w : World) (h : Holds w B A n bs) (h' : Holds w B' A' n' bs') :
    Calls Try.prog 25 #[.slice A n c, .slice A' n' c'] w fun e w' => e = .returned (.bool (eqB bs bs')) ∧ w = w' := by
  have t1 := run_text w B A n c bs h
  have t2 := run_text w B' A' n' c' bs' h'
  clear h h'
  unfold eqB
  by_cases heq : bs = bs'
  · subst heq
    go_enter Try.func25, Try.ntmps25
    go_wp2
    go_ret
    exact ⟨by simp, rfl⟩
  · have hne : (⟨bs.toArray⟩ : ByteArray) ≠ ⟨bs'.toArray⟩ := by
      intro e
      injection e with e
      exact heq (by simpa using congrArg Array.toList e)
    have hd : decide (bs = bs') = false := by simpa using heq
    go_enter Try.func25, Try.ntmps25
    go_wp2
    go_ret
    exact ⟨by simp [heq], rfl⟩

theorem bclone_any (A : Option Addr) (n c B : Nat) (bs : List UInt8) (w : World) (h : Holds w B A n bs) (hn : n ≤ 140737488355328) (hB : B ≤ w.heap.size) :
    Calls Try.prog 32 #[.slice A n c] w (Made w bs) := by
  obtain rfl : bs.length = n := h.1
  rcases A with _ | a
  · have h0 : bs.length = 0 := by
      rcases Nat.eq_zero_or_pos bs.length with e | e
      · exact e
      · obtain ⟨b, off, e, _⟩ := h.2 e; cases e
    obtain rfl : bs = [] := List.eq_nil_of_length_eq_zero h0
    have hq : ∀ W, (binOp .eql 22 (.slice none 0 c) (.slice none 0 0)).run Try.prog W = .ok (.bool true) W := fun W => Lib.run_eql_slice_nil W _ _ none 0 c 0 0 Try.underlying22
    clear h h0
    go_enter Try.func32, Try.ntmps32
    go_wp2
    go_ret
    exact ⟨none, 0, rfl, World.ownsRow_nil _ _ _ _, Below.refl _ _⟩
  · have hq : ∀ W, (binOp .eql 22 (.slice (some a) bs.length c) (.slice none 0 0)).run Try.prog W = .ok (.bool false) W := fun W => Lib.run_eql_slice_nil W _ _ (some a) bs.length c 0 0 Try.underlying22
    have ho := owned_made w [] w.heap.size (Nat.le_refl _) (by unfold maxLen; simp)
    go_enter Try.func32, Try.ntmps32
    go_wp2_with (at_builtin; refine wpList_addall rfl _ _ rfl w.heap.size _ [] rfl ho B (some a) bs.length c bs rfl ?c1 ?c2 ?c3 ?_)
    case c1 => exact h.below (((Below.refl w.heap.size w).alloc (Nat.le_refl _) _).mono hB)
    case c2 => simp; omega
    case c3 => simp
    intro g w2 ho2 hb2
    obtain ⟨A2, c2, rfl, -⟩ := Owned.holds ho2
    have HO := Lib.hid ho2; clear ho2
    have HB := Lib.hid hb2; clear hb2
    clear ho
    go_wp2
    go_ret
    exact ⟨A2, c2, rfl, HO.out, ((Below.refl w.heap.size w).alloc (Nat.le_refl _) _).trans HB.out⟩

theorem numberAt_any (A : Option Addr) (n c B : Nat) (bs : List UInt8) (w : World) (h : Holds w B A n bs) (hn : n ≤ 4) :
    Calls Try.prog 31 #[.slice A n c] w fun e w' => e = .returned (.int .i64 (numAt bs n : Int)) ∧ w = w' := by
  have hlt := numAt_lt bs n
  have hp : 2 ^ (8 * n) ≤ 2 ^ 32 := Nat.pow_le_pow_right (by omega) (by omega)
  obtain ⟨N, hN⟩ : ∃ N, numAt bs n = N := ⟨_, rfl⟩
  rw [hN] at hlt ⊢
  have hw : IntKind.i64.wrap (N : Int) = (N : Int) := by rw [IntKind.wrap_i64]; omega
  have HN := Lib.hid hN; clear hN hlt hp
  have H := Lib.hid h; clear h
  go_enter Try.func31, Try.ntmps31
  go_wp2_with fail
  with_reducible refine (number_any A n c B bs w H.out (by omega)).mono ?_
  rintro e w1 ⟨rfl, rfl⟩
  rw [HN.out]
  go_wp2
  go_ret
  exact ⟨rfl, rfl⟩

/-- An inode whose Body is new memory. -/
def Toldd (x : In) (w : World) (e : Ending) (w' : World) : Prop := ∃ A c, e = .returned (.agg (x.c A c)) ∧ Owned w' w.heap.size (.slice A x.body.length c) x.body ∧ Below w.heap.size w w'
theorem owned_nil (w : World) (base : Nat) : Owned w base (.slice none in0.body.length 0) in0.body := World.ownsRow_nil _ _ _ _

/-- Bytes of one's own behind a store into another block. -/
theorem Owned.away {w w' : World} {base g : Nat} {v : Value} {bs : List UInt8} (h : Owned w base v bs) (hk : ∀ k, k ≠ g → w'.heap[k]? = w.heap[k]?) (hne : ∀ k, v.ownBlock = some k → k ≠ g) : Owned w' base v bs := by
  obtain ⟨h1, h2⟩ := h
  refine ⟨h1, ?_⟩
  rcases h2 with h2 | ⟨b, cap, cur, e, hg, hh, r⟩
  · exact .inl h2
  · refine .inr ⟨b, cap, cur, e, hg, (hk b ?_).trans hh, r⟩
    exact hne b (by rw [e]; rfl)

set_option maxRecDepth 100000 in
theorem told_zero (A : Option Addr) (c B : Nat) (w : World) (h : Holds w B A 128 zer) (hB : B ≤ w.heap.size) :
    Calls Try.prog 24 #[.slice A 128 c] w (Toldd in0 w) := by
  unfold Toldd
  have hb0 : Below w.heap.size w (w.alloc (.cells (in0.c none 0) 24)) := (Below.refl _ _).alloc (Nat.le_refl _) _
  obtain ⟨w1, hw1⟩ : ∃ y, y = w.alloc (.cells (in0.c none 0) 24) := ⟨_, rfl⟩
  have hv1 : VarI w1 w.heap.size in0 none 0 := hw1 ▸ VarI.new w in0 none 0
  rw [← hw1] at hb0
  have l1 := make128 w1
  have hlt1 := hv1.lt
  obtain ⟨w2, hw2⟩ : ∃ y, y = w1.alloc (.cells (zer.map byteV).toArray 5) := ⟨_, rfl⟩
  have hz : Holds w2 w2.heap.size (some ⟨w1.heap.size, 0, none⟩) 128 zer := hw2 ▸ Owned.reads (zer_made w1)
  have hb2 : Below w.heap.size w w2 := hw2 ▸ hb0.alloc hb0.size _
  have hv2 : VarI w2 w.heap.size in0 none 0 := hw2 ▸ hv1.alloc _
  rw [← hw2] at l1
  have HZ := Lib.hid hz; clear hz
  have HB2 := Lib.hid hb2; clear hb2 hb0
  have HV2 := Lib.hid hv2; clear hv2 hv1
  have H := Lib.hid h; clear h
  obtain ⟨w3, hst, hv3, hb3, -⟩ := run_stI_at w2 w.heap.size in0 in0 none none 0 0 HV2.out
  have hst' : (stI (.pointer (some ⟨w.heap.size, 0, none⟩)) (.agg #[.int .i64 0, .int .i64 0, .int .i64 0, .bool false, .int .i64 0, .slice none 0 0])).run Try.prog w2 = .ok () w3 := hst
  have HB3 : Hid (Below w.heap.size w w3) := Lib.hid (HB2.out.trans (hb3 _ (Nat.le_refl _)))
  have HV3 := Lib.hid hv3; clear hv3 hb3 hst
  rw [in0_c] at hw1
  clear hw2
  have HW1 := Lib.hid hw1; clear hw1
  go_enter Try.func24, Try.ntmps24
  go_wp2_with fail
  rw [← HW1.out, l1]
  simp only [Result.andThen]
  rw [Oper.upon_value]
  go_wp2_with fail
  with_reducible refine (equal_any A (some ⟨w1.heap.size, 0, none⟩) 128 128 c 128 B w2.heap.size zer zer w2 (H.out.below (HB2.out.mono hB)) HZ.out).mono ?_
  rintro e w4 ⟨rfl, rfl⟩
  rw [show eqB zer zer = true from decide_eq_true rfl]
  go_wp2
  exact bodyPost_ret (results_cell_row rfl _ _ w.heap.size _ (in0.c none 0) (0, 0) _ rfl HV3.out Try.underlying24 rfl (by kernel_rfl)) rfl ⟨none, 0, rfl, owned_nil _ _, HB3.out⟩

theorem run_slice_part (W : World) (a off N c l m : Nat) (i j : Int) (hi : i = (l : Int)) (hj : j = ((l + m : Nat) : Int)) (hl : l + m ≤ N) (h0 : 0 < m) (hc : N ≤ c) :
    (Instr.slice 22 (.slice (some ⟨a, off, none⟩) N c) (some (.int .i64 i)) (some (.int .i64 j)) none).run Try.prog W = .ok (.slice (some ⟨a, off + l, none⟩) m (c - l)) W := by
  subst hi hj
  have h := run_slice_lh (P := Try.prog) W 22 (some ⟨a, off, none⟩) N c (by rw [Try.underlying22]; rfl) .i64 .i64 (l : Int) ((l + m : Nat) : Int) (by omega) (by omega) (by omega)
  rw [h]
  have hs : (sizeOf (Try.prog.elem 22)).run Try.prog W = .ok 1 W := by rfl
  rw [hs]
  simp only [Result.andThen, sliced, Int.toNat_natCast]
  rw [if_neg (by omega)]
  simp [Addr.add_mid]
theorem run_sliceAt_part (W : World) (a off N c l m : Nat) (i j : Int) (hi : i = (l : Int)) (hj : j = ((l + m : Nat) : Int)) (hl : l + m ≤ N) (h0 : 0 < m) (hc : N ≤ c) :
    (Instr.sliceAt 22 (.slice (some ⟨a, off, none⟩) N c) (some (.int .i64 i)) (some (.int .i64 j)) none).run Try.prog W = .ok (.slice (some ⟨a, off + l, none⟩) m (c - l)) W := by
  rw [run_sliceAt_slice (P := Try.prog) W 22 _ _ _ _ (by rw [Try.underlying22]; rfl)]
  exact run_slice_part W a off N c l m i j hi hj hl h0 hc

theorem toldZ_not {bs : List UInt8} (h : bs ≠ zer) : toldZ bs = told bs := by unfold toldZ; rw [if_neg h]

set_option maxRecDepth 100000 in
set_option maxHeartbeats 2000000 in
theorem told_some (b0 off c B : Nat) (bs : List UInt8) (w : World) (h : Holds w B (some ⟨b0, off, none⟩) 128 bs) (hc : 128 ≤ c) (hB : B ≤ w.heap.size) (hne : bs ≠ zer) :
    Calls Try.prog 24 #[.slice (some ⟨b0, off, none⟩) 128 c] w (Toldd (told bs) w) := by
  unfold Toldd
  obtain ⟨T, hT⟩ : ∃ T, T = told bs := ⟨_, rfl⟩
  have hTb : T.body.length = 60 := by rw [hT]; simp [told, h.1]
  rw [← hT, hTb]
  have hb0 : Below w.heap.size w (w.alloc (.cells (in0.c none 0) 24)) := (Below.refl _ _).alloc (Nat.le_refl _) _
  obtain ⟨w1, hw1⟩ : ∃ y, y = w.alloc (.cells (in0.c none 0) 24) := ⟨_, rfl⟩
  have hv1 : VarI w1 w.heap.size in0 none 0 := hw1 ▸ VarI.new w in0 none 0
  rw [← hw1] at hb0
  have l1 := make128 w1
  obtain ⟨w2, hw2⟩ : ∃ y, y = w1.alloc (.cells (zer.map byteV).toArray 5) := ⟨_, rfl⟩
  have hz : Holds w2 w2.heap.size (some ⟨w1.heap.size, 0, none⟩) 128 zer := hw2 ▸ Owned.reads (zer_made w1)
  have hb2 : Below w.heap.size w w2 := hw2 ▸ hb0.alloc hb0.size _
  have hv2 : VarI w2 w.heap.size in0 none 0 := hw2 ▸ hv1.alloc _
  rw [← hw2] at l1
  have HZ := Lib.hid hz; clear hz
  have HB2 := Lib.hid hb2; clear hb2 hb0
  have HV2 := Lib.hid hv2; clear hv2 hv1
  have hl := h.1
  obtain ⟨b0', off', e', hlt, hcell⟩ := h.2 (by omega)
  injection e' with e'
  injection e' with e1 e2
  subst e1 e2
  -- the two first bytes
  obtain ⟨K, hK⟩ : ∃ K : Nat, K = (bs.getD 0 0).toNat := ⟨_, rfl⟩
  obtain ⟨J, hJ⟩ : ∃ J : Nat, J = (bs.getD 1 0).toNat := ⟨_, rfl⟩
  have hcK : w.cell? ⟨b0, off, none⟩ = some (.int .u8 (K : Int)) := by
    have := hcell 0 (by omega)
    rw [hK]
    simpa [List.getD, show 0 < bs.length by omega] using this
  have hcJ : w.cell? ⟨b0, off + 1, none⟩ = some (.int .u8 (J : Int)) := by
    have := hcell 1 (by omega)
    rw [hJ]
    simpa [List.getD, show 1 < bs.length by omega] using this
  have hK8 : K < 256 := by rw [hK]; exact (bs.getD 0 0).toNat_lt
  have hinl : ((J : Int) != 0) = T.inl := by
    rw [hT, hJ]
    show _ = decide (bs.getD 1 0 ≠ 0)
    generalize bs.getD 1 0 = u
    by_cases hu : u = 0
    · subst hu; rfl
    · have : u.toNat ≠ 0 := fun e => hu (UInt8.toNat_inj.1 (by simpa using e))
      rw [decide_eq_true hu]
      exact bne_iff_ne.2 (by omega)
  have hlatK : ∀ V, Below B w V → V.cell? ⟨b0, off, none⟩ = some (.int .u8 (K : Int)) ∧ V.cell? ⟨b0, off + 1, none⟩ = some (.int .u8 (J : Int)) := fun V hV => ⟨(hV.cell (p := ⟨b0, off, none⟩) hlt).trans hcK, (hV.cell (p := ⟨b0, off + 1, none⟩) hlt).trans hcJ⟩
  have hd1 := Holds.drop (k := 2) (m := 2) h (by omega)
  have hd2 := Holds.drop (k := 4) (m := 4) h (by omega)
  have hd3 := Holds.drop (k := 8) (m := 4) h (by omega)
  have hd4 := Holds.drop (k := 12) (m := 60) h (by omega)
  have hwK : IntKind.i64.wrap (K : Int) = (K : Int) := by rw [IntKind.wrap_i64]; omega
  have eK : (K : Int) = T.kind := by rw [hT, hK]; rfl
  have eL : (numAt ((bs.drop 2).take 2) 2 : Int) = T.links := by rw [hT]; rfl
  have eS : (numAt ((bs.drop 4).take 4) 4 : Int) = T.size := by rw [hT]; rfl
  have eA : (numAt ((bs.drop 8).take 4) 4 : Int) = T.attrs := by rw [hT]; rfl
  have eB : (bs.drop 12).take 60 = T.body := by rw [hT]; rfl
  have HLATK := Lib.hid hlatK; clear hlatK hcK hcJ hcell hlt
  have HD1 := Lib.hid hd1; clear hd1
  have HD2 := Lib.hid hd2; clear hd2
  have HD3 := Lib.hid hd3; clear hd3
  have HD4 := Lib.hid hd4; clear hd4
  have H := Lib.hid h; clear h
  have EL := Lib.hid eL; clear eL
  have ES := Lib.hid eS; clear eS
  have EA := Lib.hid eA; clear eA
  have EB := Lib.hid eB; clear eB
  have HT := Lib.hid hT; clear hT
  have HNE := Lib.hid hne; clear hne
  have HTB := Lib.hid hTb; clear hTb
  have HL := Lib.hid hl; clear hl hK hJ
  have EK := Lib.hid eK; clear eK
  have HINL := Lib.hid hinl; clear hinl
  rw [in0_c] at hw1
  clear hw2
  have HW1 := Lib.hid hw1; clear hw1
  have sa2 := fun W => run_slice_part W b0 off 128 c 2 2 2 4 (by omega) (by omega) (by omega) (by omega) hc
  have sb2 := fun W => run_sliceAt_part W b0 off 128 c 2 2 2 4 (by omega) (by omega) (by omega) (by omega) hc
  have sa4 := fun W => run_slice_part W b0 off 128 c 4 4 4 8 (by omega) (by omega) (by omega) (by omega) hc
  have sb4 := fun W => run_sliceAt_part W b0 off 128 c 4 4 4 8 (by omega) (by omega) (by omega) (by omega) hc
  have sa8 := fun W => run_slice_part W b0 off 128 c 8 4 8 12 (by omega) (by omega) (by omega) (by omega) hc
  have sb8 := fun W => run_sliceAt_part W b0 off 128 c 8 4 8 12 (by omega) (by omega) (by omega) (by omega) hc
  have sa12 := fun W => run_slice_part W b0 off 128 c 12 60 12 72 (by omega) (by omega) (by omega) (by omega) hc
  have sb12 := fun W => run_sliceAt_part W b0 off 128 c 12 60 12 72 (by omega) (by omega) (by omega) (by omega) hc
  go_enter Try.func24, Try.ntmps24
  go_wp2_with fail
  rw [← HW1.out, l1]
  simp only [Result.andThen]
  rw [Oper.upon_value]
  go_wp2_with fail
  with_reducible refine (equal_any (some ⟨b0, off, none⟩) (some ⟨w1.heap.size, 0, none⟩) 128 128 c 128 B w2.heap.size bs zer w2 (H.out.below (HB2.out.mono hB)) HZ.out).mono ?_
  rintro e w4 ⟨rfl, rfl⟩
  rw [show eqB bs zer = false from decide_eq_false HNE.out]
  clear l1 HZ
  have HVd : Hid (VarI w2.drew w.heap.size in0 none 0) := HV2
  have HBd : Hid (Below w.heap.size w w2.drew) := Lib.hid HB2.out.drew
  have hS0 := HLATK.out w2.drew (HBd.out.mono hB)
  have g1 := HINL.out
  go_wp2_with fail
  go_region_held (fun V => V.cell? ⟨b0, off, none⟩ = some (.int .u8 (K : Int)) ∧ V.cell? ⟨b0, off + 1, none⟩ = some (.int .u8 (J : Int))) (first | assumption | exact hS0)
    (first
      | (go_at_call 31
         first
         | with_reducible refine (numberAt_any (some ⟨b0, off + 2, none⟩) 2 (c - 2) B _ _ (HD1.out.below (HBd.out.mono hB)) (by omega)).mono ?_
           rintro e w5 ⟨rfl, rfl⟩
           rw [EL.out]
         | with_reducible refine (numberAt_any (some ⟨b0, off + 4, none⟩) 4 (c - 4) B _ _ (HD2.out.below (HBd.out.mono hB)) (by omega)).mono ?_
           rintro e w5 ⟨rfl, rfl⟩
           rw [ES.out]
         | with_reducible refine (numberAt_any (some ⟨b0, off + 8, none⟩) 4 (c - 8) B _ _ (HD3.out.below (HBd.out.mono hB)) (by omega)).mono ?_
           rintro e w5 ⟨rfl, rfl⟩
           rw [EA.out])
      | (go_at_call 32
         with_reducible refine (bclone_any (some ⟨b0, off + 12, none⟩) 60 (c - 12) B _ _ (HD4.out.below (HBd.out.mono hB)) (by omega) (Nat.le_trans hB HBd.out.size)).mono ?_
         rintro e w6 ⟨A6, c6, rfl, ho6, hb6⟩
         have hln : ((bs.drop 12).take 60).length = 60 := by rw [EB.out]; exact HTB.out
         rw [hln] at ho6 ⊢
         rw [EB.out] at ho6
         have HV6 := Lib.hid (HVd.out.keep hb6 HVd.out.lt)
         obtain ⟨w7, hst, hv7, hb7, hk7⟩ := run_stI_at w6 w.heap.size T in0 A6 none c6 0 HV6.out
         have hS6 := HLATK.out w6 ((HBd.out.trans (hb6.mono HBd.out.size)).mono hB)
         have hst' : (stI (.pointer (some ⟨w.heap.size, 0, none⟩)) (.agg #[.int .i64 (K : Int), .int .i64 T.links, .int .i64 T.size, .bool T.inl, .int .i64 T.attrs, .slice A6 60 c6])).run Try.prog w6 = .ok () w7 := by rw [EK.out, ← HTB.out]; exact hst
         have HO7 : Hid (Owned w7 w.heap.size (.slice A6 60 c6) T.body) := Lib.hid (Owned.mono (Owned.away ho6 hk7 (fun k hk => by have := Owned.base_le ho6 k hk; have := HVd.out.lt; omega)) HBd.out.size)
         have HV7 := Lib.hid hv7
         have HB7 : Hid (Below w.heap.size w w7) := Lib.hid ((HBd.out.trans (hb6.mono HBd.out.size)).trans (hb7 _ (Nat.le_refl _)))
         have hS7 := HLATK.out w7 (HB7.out.mono hB)
         clear hb6 ho6 hln hst hv7 hb7 hk7))
  all_goals
    go_wp2
    exact bodyPost_ret (results_cell_row rfl _ _ w.heap.size _ (T.c A6 c6) (0, 0) _ rfl HV7.out Try.underlying24 rfl (by kernel_rfl)) rfl ⟨A6, c6, rfl, HO7.out, HB7.out⟩

/-- What told answers of 128 bytes. -/
theorem told_any (A : Option Addr) (c B : Nat) (bs : List UInt8) (w : World) (h : Holds w B A 128 bs) (hc : 128 ≤ c) (hB : B ≤ w.heap.size) :
    Calls Try.prog 24 #[.slice A 128 c] w (Toldd (toldZ bs) w) := by
  by_cases hz : bs = zer
  · subst hz
    rw [toldZ_zer]
    exact told_zero A c B w h hB
  · rw [toldZ_not hz]
    obtain ⟨b, off, rfl⟩ := Holds.addr h (by omega)
    exact told_some b off c B bs w h hc hB hz

/-- An inode in new memory, and an error. -/
def Decd (x : In) (n : Int) (w : World) (e : Ending) (w' : World) : Prop :=
  ∃ A c, e = .returned (.tuple #[.agg (x.c A c), .int .i64 n]) ∧ Owned w' w.heap.size (.slice A x.body.length c) x.body ∧ Below w.heap.size w w'

set_option maxRecDepth 100000 in
theorem decode_far (A : Option Addr) (m c : Nat) (n : Int) (w : World) (hn : ¬ (0 ≤ n ∧ n ≤ 1048576)) :
    Calls Try.prog 15 #[.slice A m c, .int .i64 n] w (Decd in0 1 w) := by
  unfold Decd
  have HN := Lib.hid hn; clear hn
  have l0 := run_stI_new w in0 none 0
  rw [in0_c] at l0
  go_enter Try.func15, Try.ntmps15
  go_wp2_with fail
  with_reducible refine (numbered_any n _).mono ?_
  rintro e w1 ⟨rfl, rfl⟩
  rw [decide_eq_false HN.out]
  go_wp2
  exact bodyPost_ret (results_inode rfl _ _ w.heap.size in0 none 0 (.int .i64 1) rfl rfl (VarI.new w in0 none 0)) rfl ⟨none, 0, rfl, owned_nil _ _, (Below.refl _ _).alloc (Nat.le_refl _) _⟩

set_option maxRecDepth 100000 in
theorem decode_short (A : Option Addr) (m c : Nat) (n : Int) (w : World) (hn : 0 ≤ n ∧ n ≤ 1048576) (hm : m ≠ 128) :
    Calls Try.prog 15 #[.slice A m c, .int .i64 n] w (Decd in0 13 w) := by
  unfold Decd
  have HN := Lib.hid hn; clear hn
  have hI : ¬ (m : Int) = 128 := by omega
  have l0 := run_stI_new w in0 none 0
  rw [in0_c] at l0
  go_enter Try.func15, Try.ntmps15
  go_wp2_with fail
  with_reducible refine (numbered_any n _).mono ?_
  rintro e w1 ⟨rfl, rfl⟩
  rw [decide_eq_true HN.out]
  go_wp2
  exact bodyPost_ret (results_inode rfl _ _ w.heap.size in0 none 0 (.int .i64 13) rfl rfl (VarI.new w in0 none 0)) rfl ⟨none, 0, rfl, owned_nil _ _, (Below.refl _ _).alloc (Nat.le_refl _) _⟩

set_option maxRecDepth 100000 in
set_option maxHeartbeats 2000000 in
theorem decode_full (A : Option Addr) (c B : Nat) (bs : List UInt8) (n : Int) (w : World) (h : Holds w B A 128 bs) (hc : 128 ≤ c) (hB : B ≤ w.heap.size) (hn : 0 ≤ n ∧ n ≤ 1048576) :
    Calls Try.prog 15 #[.slice A 128 c, .int .i64 n] w (Decd (dec bs n).1 (dec bs n).2 w) := by
  unfold Decd
  have hbl : bs.length = 128 := h.1
  obtain ⟨T, hT⟩ : ∃ T, T = toldZ bs := ⟨_, rfl⟩
  obtain ⟨L, hL⟩ : ∃ L, L = (enc T n).1 := ⟨_, rfl⟩
  obtain ⟨X, hX⟩ : ∃ X, X = (enc T n).2 := ⟨_, rfl⟩
  have hdec : dec bs n = if X = 0 ∧ bs = L then (T, 0) else (in0, 13) := by
    unfold dec
    rw [if_pos hn, if_pos hbl, hX, hL, hT]
  obtain ⟨R, hR⟩ : ∃ R, R = dec bs n := ⟨_, rfl⟩
  rw [← hR]
  rw [← hR] at hdec
  have HDEC := Lib.hid hdec; clear hdec hR
  have hE : (enc T n) = (L, X) := by rw [hL, hX]
  have HE := Lib.hid hE; clear hE hL hX
  have HT := Lib.hid hT; clear hT
  have H := Lib.hid h; clear h
  have HN := Lib.hid hn; clear hn
  obtain ⟨w1, hw1⟩ : ∃ y, y = w.alloc (.cells (in0.c none 0) 24) := ⟨_, rfl⟩
  have hv1 : VarI w1 w.heap.size in0 none 0 := hw1 ▸ VarI.new w in0 none 0
  have hb1 : Below w.heap.size w w1 := hw1 ▸ (Below.refl _ _).alloc (Nat.le_refl _) _
  have HV1 := Lib.hid hv1; clear hv1
  have HB1 := Lib.hid hb1; clear hb1
  rw [in0_c] at hw1
  have HW1 := Lib.hid hw1; clear hw1
  go_enter Try.func15, Try.ntmps15
  go_wp2_with fail
  rw [← HW1.out]
  with_reducible refine (numbered_any n _).mono ?_
  rintro e w1' ⟨rfl, rfl⟩
  rw [decide_eq_true HN.out]
  go_wp2_with fail
  with_reducible refine (told_any A c B bs w1 (H.out.below (HB1.out.mono hB)) hc (Nat.le_trans hB HB1.out.size)).mono ?_
  rintro e w2 ⟨A2, c2, rfl, ho2, hb2⟩
  rw [← HT.out] at ho2 ⊢
  have l2 := run_stI_new w2 T A2 c2
  obtain ⟨w3, hw3⟩ : ∃ y, y = w2.alloc (.cells (T.c A2 c2) 24) := ⟨_, rfl⟩
  have hv3 : VarI w3 w2.heap.size T A2 c2 := hw3 ▸ VarI.new w2 T A2 c2
  have hv3' : VarI w3 w.heap.size in0 none 0 := hw3 ▸ (HV1.out.keep hb2 HV1.out.lt).alloc _
  have ho3 : Owned w3 w1.heap.size (.slice A2 T.body.length c2) T.body := hw3 ▸ Owned.keep ho2 ((Below.refl w2.heap.size w2).alloc (Nat.le_refl _) _) (Nat.le_refl _)
  have hb3 : Below w.heap.size w w3 := hw3 ▸ (HB1.out.trans (hb2.mono HB1.out.size)).alloc (Nat.le_trans HB1.out.size hb2.size) _
  rw [← hw3] at l2
  have hne2 : w2.heap.size ≠ w.heap.size := by have := HV1.out.lt; have := hb2.size; omega
  have l3 := hv3.load
  have HV3 := Lib.hid hv3; clear hv3
  have HV3' := Lib.hid hv3'; clear hv3'
  have HO3 := Lib.hid ho3; clear ho3
  have HB3 := Lib.hid hb3; clear hb3
  have HNE2 := Lib.hid hne2; clear hne2
  have HLT : Hid (w.heap.size < w1.heap.size) := Lib.hid HV1.out.lt
  clear hw3 ho2 hb2
  have henc := encode_any T A2 c2 w3.heap.size n w3 (Owned.reads HO3.out) (Nat.le_refl _)
  rw [HE.out] at henc
  have HENC := Lib.hid henc; clear henc
  go_wp2_with fail
  with_reducible refine HENC.out.mono ?_
  rintro e w4 ⟨A4, c4, rfl, ho4, hb4⟩
  have HV4 := Lib.hid (HV3.out.keep hb4 HV3.out.lt)
  have HV4' := Lib.hid (HV3'.out.keep hb4 HV3'.out.lt)
  have HO4 := Lib.hid (Owned.keep HO3.out hb4 (Nat.le_refl _))
  have HB4 : Hid (Below w.heap.size w w4) := Lib.hid (HB3.out.trans (hb4.mono HB3.out.size))
  have HR4 := Lib.hid (Owned.reads ho4)
  have l4 := HV4.out.load
  have hfin : ∀ (r : In × Int) (B' : Option Addr) (d : Nat), R = r → (∀ W, Owned w4 w1.heap.size (.slice B' r.1.body.length d) r.1.body → VarI W w.heap.size r.1 B' d → (∀ k, k ≠ w.heap.size → W.heap[k]? = w4.heap[k]?) → Owned W w.heap.size (.slice B' R.1.body.length d) R.1.body) := by
    rintro r B' d rfl W h1 h2 h3
    exact Owned.mono (Owned.away h1 h3 (fun k hk => by have := Owned.base_le h1 k hk; have := HLT.out; omega)) (Nat.le_of_lt HLT.out)
  have HFIN := Lib.hid hfin; clear hfin
  clear ho4 hb4 HENC HV3 HV3' HO3 HB3 HV1 HB1 l2 l3
  have hcase : R = (in0, 13) ∧ ¬ (X = 0 ∧ bs = L) ∨ R = (T, 0) ∧ X = 0 ∧ bs = L := by
    rw [HDEC.out]
    by_cases hq : X = 0 ∧ bs = L
    · rw [if_pos hq]; exact .inr ⟨rfl, hq⟩
    · rw [if_neg hq]; exact .inl ⟨rfl, hq⟩
  rcases hcase with ⟨hR, hq⟩ | ⟨hR, hX0, hq⟩
  · obtain ⟨w5, hst, hv5, hb5, hk5⟩ := run_stI_at w4 w.heap.size in0 in0 none none 0 0 HV4'.out
    have hst' : (stI (.pointer (some ⟨w.heap.size, 0, none⟩)) (.agg #[.int .i64 0, .int .i64 0, .int .i64 0, .bool false, .int .i64 0, .slice none 0 0])).run Try.prog w4 = .ok () w5 := hst
    have HV5 := Lib.hid hv5
    have HB5 : Hid (Below w.heap.size w w5) := Lib.hid (HB4.out.trans (hb5 _ (Nat.le_refl _)))
    have HF : Hid (∃ A c, Ending.returned (.tuple #[.agg (in0.c none 0), .int .i64 13]) = .returned (.tuple #[.agg (R.1.c A c), .int .i64 R.2]) ∧ Owned w5 w.heap.size (.slice A R.1.body.length c) R.1.body ∧ Below w.heap.size w w5) := by
      refine Lib.hid ⟨none, 0, by rw [hR], ?_, HB5.out⟩
      rw [hR]; exact owned_nil _ _
    clear hst hv5 hb5 hk5
    by_cases hX0 : X = 0
    · subst hX0
      have hne : ¬ bs = L := fun e => hq ⟨rfl, e⟩
      have HNE := Lib.hid hne; clear hne hq hR
      go_wp2_with fail
      with_reducible refine (equal_any A A4 128 L.length c c4 B w4.heap.size bs L w4 (H.out.below (HB4.out.mono hB)) HR4.out).mono ?_
      rintro e w4' ⟨rfl, rfl⟩
      rw [show eqB bs L = false from decide_eq_false HNE.out]
      go_wp2
      exact bodyPost_ret (results_inode rfl _ _ w.heap.size in0 none 0 (.int .i64 13) rfl rfl HV5.out) rfl HF.out
    · have hXb : (X != 0) = true := bne_iff_ne.2 hX0
      clear hq hR
      go_wp2
      exact bodyPost_ret (results_inode rfl _ _ w.heap.size in0 none 0 (.int .i64 13) rfl rfl HV5.out) rfl HF.out
  · subst hX0
    have HQ := Lib.hid hq; clear hq
    obtain ⟨w5, hst, hv5, hb5, hk5⟩ := run_stI_at w4 w.heap.size T in0 A2 none c2 0 HV4'.out
    have HV5 := Lib.hid hv5
    have HB5 : Hid (Below w.heap.size w w5) := Lib.hid (HB4.out.trans (hb5 _ (Nat.le_refl _)))
    have HF : Hid (∃ A c, Ending.returned (.tuple #[.agg (T.c A2 c2), .int .i64 0]) = .returned (.tuple #[.agg (R.1.c A c), .int .i64 R.2]) ∧ Owned w5 w.heap.size (.slice A R.1.body.length c) R.1.body ∧ Below w.heap.size w w5) :=
      Lib.hid ⟨A2, c2, by rw [hR], HFIN.out (T, 0) A2 c2 hR w5 HO4.out hv5 hk5, HB5.out⟩
    clear hv5 hb5 hk5 hR
    go_wp2_with fail
    with_reducible refine (equal_any A A4 128 L.length c c4 B w4.heap.size bs L w4 (H.out.below (HB4.out.mono hB)) HR4.out).mono ?_
    rintro e w4' ⟨rfl, rfl⟩
    rw [show eqB bs L = true from decide_eq_true HQ.out]
    go_wp2
    exact bodyPost_ret (results_inode rfl _ _ w.heap.size T A2 c2 (.int .i64 0) rfl rfl HV5.out) rfl HF.out

/-- What Decode answers of whatever it is given. -/
theorem decode_any (A : Option Addr) (m c B : Nat) (bs : List UInt8) (n : Int) (w : World) (h : Holds w B A m bs) (hc : m ≤ c) (hB : B ≤ w.heap.size) :
    Calls Try.prog 15 #[.slice A m c, .int .i64 n] w (Decd (dec bs n).1 (dec bs n).2 w) := by
  by_cases hn : 0 ≤ n ∧ n ≤ 1048576
  · by_cases hm : m = 128
    · subst hm
      exact decode_full A c B bs n w h hc hB hn
    · have e : dec bs n = (in0, 13) := by unfold dec; rw [if_pos hn, if_neg (by rw [h.1]; exact hm)]
      rw [e]
      exact decode_short A m c n w hn hm
  · have e : dec bs n = (in0, 1) := by unfold dec; rw [if_neg hn]
    rw [e]
    exact decode_far A m c n w hn
end Go.Proofs.Ytbppgihbnjnapaa.Ino
