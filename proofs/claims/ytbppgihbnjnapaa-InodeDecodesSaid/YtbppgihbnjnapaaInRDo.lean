/- Contract of the document's Decode where the bytes are not all nought. -/
import Derived.Test.YtbppgihbnjnapaaInRDec
import Derived.Test.YtbppgihbnjnapaaRegC
namespace Go.Proofs.Ytbppgihbnjnapaa.Ino
set_option maxRecDepth 20000
open Go.RowKit
open Go.Proofs.Ytbppgihbnjnapaa.Mem Go.Proofs.Ytbppgihbnjnapaa.Crc Go.Proofs.Ytbppgihbnjnapaa.Rec Go.Proofs.Ytbppgihbnjnapaa.Reg
attribute [local go_sem ↓] Go.wp_at_zero Go.wp_at_succ ldI_eq stI_eq

set_option maxRecDepth 100000 in
set_option maxHeartbeats 2000000 in
theorem rdecode_some (b0 off c B : Nat) (bs : List UInt8) (n : Int) (w : World) (h : Holds w B (some ⟨b0, off, none⟩) 128 bs) (hc : 128 ≤ c) (hB : B ≤ w.heap.size) (hn : 0 ≤ n ∧ n ≤ 1048576) (hne : bs ≠ zer) :
    Calls Try.prog 16 #[.slice (some ⟨b0, off, none⟩) 128 c, .int .i64 n] w (Decd (rdec bs n).1 (rdec bs n).2 w) := by
  unfold Decd
  have hl := h.1
  obtain ⟨T, hT⟩ : ∃ T, T = toldR bs := ⟨_, rfl⟩
  have hTb : T.body.length = 60 := by rw [hT]; simp [toldR, hl]
  obtain ⟨L, hL⟩ : ∃ L, L = (enc T n).1 := ⟨_, rfl⟩
  obtain ⟨X, hX⟩ : ∃ X, X = (enc T n).2 := ⟨_, rfl⟩
  have hdec : rdec bs n = if X = 0 ∧ bs = L then (T, 0) else (in0, 13) := by
    unfold rdec
    rw [if_pos hn, if_pos hl, if_neg hne, hX, hL, hT]
  obtain ⟨R, hR⟩ : ∃ R, R = rdec bs n := ⟨_, rfl⟩
  rw [← hR]
  rw [← hR] at hdec
  have HDEC := Lib.hid hdec; clear hdec hR
  have hE : (enc T n) = (L, X) := by rw [hL, hX]
  have HE := Lib.hid hE; clear hE hL hX
  obtain ⟨h0, h1⟩ := hn
  have h0' : ¬ n < 0 := by omega
  have h1' : ¬ 1048576 < n := by omega
  obtain ⟨w1, hw1⟩ : ∃ y, y = w.alloc (.cells (in0.c none 0) 24) := ⟨_, rfl⟩
  have hv1 : VarI w1 w.heap.size in0 none 0 := hw1 ▸ VarI.new w in0 none 0
  have hb1 : Below w.heap.size w w1 := hw1 ▸ (Below.refl _ _).alloc (Nat.le_refl _) _
  have hd1 : Below w.heap.size w w1.drew := hb1.drew
  have hvd : VarI w1.drew w.heap.size in0 none 0 := hv1
  obtain ⟨w2, hw2⟩ : ∃ y, y = w1.drew.alloc (.cells (zer.map byteV).toArray 5) := ⟨_, rfl⟩
  have l1 := make128 w1.drew
  have hz : Holds w2 w2.heap.size (some ⟨w1.heap.size, 0, none⟩) 128 zer := hw2 ▸ Owned.reads (zer_made w1.drew)
  have hb2 : Below w.heap.size w w2 := hw2 ▸ hd1.alloc hd1.size _
  have hv2 : VarI w2 w.heap.size in0 none 0 := hw2 ▸ hvd.alloc _
  rw [← hw2] at l1
  have t0 := run_text w1.drew B (some ⟨b0, off, none⟩) 128 c bs (h.below (hd1.mono hB))
  have t1 := run_text w2 B (some ⟨b0, off, none⟩) 128 c bs (h.below (hb2.mono hB))
  have t2 := run_text w2 _ _ 128 128 zer hz
  have hnz : (⟨bs.toArray⟩ : ByteArray) ≠ ⟨zer.toArray⟩ := by
    intro e
    injection e with e
    exact hne (by simpa using congrArg Array.toList e)
  have HT := Lib.hid hT; clear hT
  have HTB := Lib.hid hTb; clear hTb
  have H := Lib.hid h
  have HNE := Lib.hid hne; clear hne
  have HL := Lib.hid hl; clear hl
  have HV2 := Lib.hid hv2
  have HB2 := Lib.hid hb2
  rw [in0_c] at hw1
  have HW1 := Lib.hid hw1
  obtain ⟨ZZ, hZZ⟩ : ∃ ZZ : ByteArray, ZZ = ⟨zer.toArray⟩ := ⟨_, rfl⟩
  obtain ⟨BB, hBB⟩ : ∃ BB : ByteArray, BB = ⟨bs.toArray⟩ := ⟨_, rfl⟩
  rw [← hZZ] at t2 hnz
  rw [← hBB] at t0 t1 hnz
  have hnl : (BB.toList == ZZ.toList) = false := by
    refine beq_false_of_ne (fun e => ?_)
    rw [hBB, hZZ, ByteArray.toList_eq, ByteArray.toList_eq] at e
    exact HNE.out e
  clear hw1 hb1 hd1 hvd hw2 hz hb2 hv2 hZZ hBB hv1 h hnz
  go_enter Try.func16, Try.ntmps16
  go_wp2_with fail
  rw [← HW1.out]
  go_region_held (fun V => (convert 22 9 (.slice (some ⟨b0, off, none⟩) 128 c)).run Try.prog V = .ok (.string BB) V) (first | assumption) (fail)
  go_wp2_with fail
  clear t0 t1 t2 hnl l1
  obtain ⟨u, hu⟩ : ∃ u, u = w2.drew := ⟨_, rfl⟩
  have hlt := H.out.2 (by omega)
  obtain ⟨b0', off', e', hlt, hcell⟩ := hlt
  injection e' with e'
  injection e' with e1 e2
  subst e1 e2
  obtain ⟨K, hK⟩ : ∃ K : Nat, K = (bs.getD 0 0).toNat := ⟨_, rfl⟩
  obtain ⟨J, hJ⟩ : ∃ J : Nat, J = (bs.getD 1 0).toNat := ⟨_, rfl⟩
  have hl := HL.out
  have hcK : w.cell? ⟨b0, off, none⟩ = some (.int .u8 (K : Int)) := by
    have := hcell 0 (by omega)
    rw [hK]
    simpa [List.getD, show 0 < bs.length by omega] using this
  have hcJ : w.cell? ⟨b0, off + 1, none⟩ = some (.int .u8 (J : Int)) := by
    have := hcell 1 (by omega)
    rw [hJ]
    simpa [List.getD, show 1 < bs.length by omega] using this
  have hK8 : K < 256 := by rw [hK]; exact (bs.getD 0 0).toNat_lt
  have hinl : ((J : Int) == 1) = T.inl := by
    rw [HT.out, hJ]
    show _ = decide (bs.getD 1 0 = 1)
    generalize bs.getD 1 0 = u
    by_cases hu : u = 1
    · subst hu; rfl
    · have : u.toNat ≠ 1 := fun e => hu (UInt8.toNat_inj.1 (by simpa using e))
      rw [decide_eq_false hu]
      exact beq_false_of_ne (by omega)
  have hwK : IntKind.i64.wrap (K : Int) = (K : Int) := by rw [IntKind.wrap_i64]; omega
  have EK : Hid ((K : Int) = T.kind) := Lib.hid (by rw [HT.out, hK]; rfl)
  have EL : Hid ((numAt ((bs.drop 2).take 2) 2 : Int) = T.links) := Lib.hid (by rw [HT.out]; rfl)
  have ES : Hid ((numAt ((bs.drop 4).take 4) 4 : Int) = T.size) := Lib.hid (by rw [HT.out]; rfl)
  have EA : Hid ((numAt ((bs.drop 8).take 4) 4 : Int) = T.attrs) := Lib.hid (by rw [HT.out]; rfl)
  have EB : Hid ((bs.drop 12).take 60 = T.body) := Lib.hid (by rw [HT.out]; rfl)
  have hS : ∀ V, Below B w V → V.cell? ⟨b0, off, none⟩ = some (.int .u8 (K : Int)) ∧ V.cell? ⟨b0, off + 1, none⟩ = some (.int .u8 (J : Int)) := fun V hV => ⟨(hV.cell (p := ⟨b0, off, none⟩) hlt).trans hcK, (hV.cell (p := ⟨b0, off + 1, none⟩) hlt).trans hcJ⟩
  have HS := Lib.hid hS; clear hS hcK hcJ hcell hlt hl hK hJ
  have hbu : Below w.heap.size w u := hu ▸ HB2.out.drew
  have hvu : VarI u w.heap.size in0 none 0 := hu ▸ HV2.out
  have sa := fun W => run_slice_part W b0 off 128 c 12 60 12 72 (by omega) (by omega) (by omega) (by omega) hc
  have sb := fun W => run_sliceAt_part W b0 off 128 c 12 60 12 72 (by omega) (by omega) (by omega) (by omega) hc
  have hat : ∀ l m : Nat, 0 < m → m ≤ 4 → l + m ≤ 128 → ∀ V, Below w.heap.size w V → Calls Try.prog 26 #[.slice (some ⟨b0, off, none⟩) 128 c, .int .i64 (l : Int), .int .i64 (m : Int)] V fun e w' => e = .returned (.int .i64 (numAt ((bs.drop l).take m) m : Int)) ∧ V = w' :=
    fun l m h1 h2 h3 V hV => rat_any b0 off c B l m _ _ bs V (H.out.below (hV.mono hB)) hc rfl rfl h1 h2 h3
  have HAT1 : Hid (∀ V, Below w.heap.size w V → Calls Try.prog 26 #[.slice (some ⟨b0, off, none⟩) 128 c, .int .i64 2, .int .i64 2] V fun e w' => e = .returned (.int .i64 T.links) ∧ V = w') := Lib.hid (EL.out ▸ hat 2 2 (by omega) (by omega) (by omega))
  have HAT2 : Hid (∀ V, Below w.heap.size w V → Calls Try.prog 26 #[.slice (some ⟨b0, off, none⟩) 128 c, .int .i64 4, .int .i64 4] V fun e w' => e = .returned (.int .i64 T.size) ∧ V = w') := Lib.hid (ES.out ▸ hat 4 4 (by omega) (by omega) (by omega))
  have HAT3 : Hid (∀ V, Below w.heap.size w V → Calls Try.prog 26 #[.slice (some ⟨b0, off, none⟩) 128 c, .int .i64 8, .int .i64 4] V fun e w' => e = .returned (.int .i64 T.attrs) ∧ V = w') := Lib.hid (EA.out ▸ hat 8 4 (by omega) (by omega) (by omega))
  clear hat
  -- the worlds in which the bytes are appended, and what is left behind
  have happ : ∀ V : World, Below w.heap.size w V → ∃ A1 c1 V', (Builtin.append_ #[22, 22] 22 #[.slice (some ⟨V.heap.size, 0, none⟩) 0 0, .slice (some ⟨b0, off + 12, none⟩) 60 (c - 12)]).run Try.prog (V.alloc (.cells #[] 5)) = .ok (.slice A1 60 c1) V' ∧ Owned V' V.heap.size (.slice A1 60 c1) T.body ∧ Below V.heap.size (V.alloc (.cells #[] 5)) V' ∧ (∀ k, k < V.heap.size → (Value.slice A1 60 c1).ownBlock ≠ some k) := by
    intro V hV
    have ho : Owned (V.alloc (.cells #[] 5)) V.heap.size (.slice (some ⟨V.heap.size, 0, none⟩) 0 0) [] := owned_made V [] V.heap.size (Nat.le_refl _) (by unfold maxLen; simp)
    have hr : Holds (V.alloc (.cells #[] 5)) B (some ⟨b0, off + 12, none⟩) 60 ((bs.drop 12).take 60) := Holds.drop (k := 12) (m := 60) (H.out.below ((hV.alloc hV.size _).mono hB)) (by omega)
    obtain ⟨v', w', hrun, h2, h3⟩ := run_addall (V.alloc (.cells #[] 5)) 22 V.heap.size _ [] ho B _ 60 (c - 12) _ hr (by simp) (by simp)
    rw [List.nil_append, EB.out] at h2
    obtain ⟨A1, c1, rfl, -⟩ := Owned.holds h2
    rw [HTB.out] at h2 hrun
    exact ⟨A1, c1, w', hrun, h2, h3, fun k hk e => by have := Owned.base_le h2 k e; omega⟩
  have happ2 : ∀ V : World, Below w.heap.size w V → ∃ A1 c1 V', (Builtin.append_ #[22, 22] 22 #[.slice (some ⟨V.heap.size, 0, none⟩) 0 0, .slice (some ⟨b0, off + 12, none⟩) 60 (c - 12)]).run Try.prog ((V.alloc (.cells #[] 5)).alloc (.cells #[.int .i64 0, .int .i64 0, .int .i64 0, .bool false, .int .i64 0, .slice none 0 0] 24)) = .ok (.slice A1 60 c1) V' ∧ Owned V' V.heap.size (.slice A1 60 c1) T.body ∧ Below V.heap.size ((V.alloc (.cells #[] 5)).alloc (.cells #[.int .i64 0, .int .i64 0, .int .i64 0, .bool false, .int .i64 0, .slice none 0 0] 24)) V' ∧ VarI V' (V.heap.size + 1) in0 none 0 ∧ (Value.slice A1 60 c1).ownBlock ≠ some (V.heap.size + 1) := by
    intro V hV
    have ho0 : Owned (V.alloc (.cells #[] 5)) V.heap.size (.slice (some ⟨V.heap.size, 0, none⟩) 0 0) [] := owned_made V [] V.heap.size (Nat.le_refl _) (by unfold maxLen; simp)
    have ho : Owned ((V.alloc (.cells #[] 5)).alloc (.cells #[.int .i64 0, .int .i64 0, .int .i64 0, .bool false, .int .i64 0, .slice none 0 0] 24)) V.heap.size (.slice (some ⟨V.heap.size, 0, none⟩) 0 0) [] := Owned.keep ho0 ((Below.refl _ _).alloc (Nat.le_refl _) _) (Nat.le_refl _)
    have hz : (V.alloc (.cells #[] 5)).heap.size = V.heap.size + 1 := by simp
    have hvz : VarI ((V.alloc (.cells #[] 5)).alloc (.cells #[.int .i64 0, .int .i64 0, .int .i64 0, .bool false, .int .i64 0, .slice none 0 0] 24)) (V.heap.size + 1) in0 none 0 := by rw [← hz]; exact VarI.new _ in0 none 0
    have hbz : Below w.heap.size w ((V.alloc (.cells #[] 5)).alloc (.cells #[.int .i64 0, .int .i64 0, .int .i64 0, .bool false, .int .i64 0, .slice none 0 0] 24)) := (hV.alloc hV.size _).alloc (hV.alloc hV.size _).size _
    have hr : Holds ((V.alloc (.cells #[] 5)).alloc (.cells #[.int .i64 0, .int .i64 0, .int .i64 0, .bool false, .int .i64 0, .slice none 0 0] 24)) B (some ⟨b0, off + 12, none⟩) 60 ((bs.drop 12).take 60) := Holds.drop (k := 12) (m := 60) (H.out.below (hbz.mono hB)) (by omega)
    obtain ⟨v', w', hrun, h2, h3, h4⟩ := run_addallG ((V.alloc (.cells #[] 5)).alloc (.cells #[.int .i64 0, .int .i64 0, .int .i64 0, .bool false, .int .i64 0, .slice none 0 0] 24)) 22 V.heap.size _ [] ho B _ 60 (c - 12) _ hr (by omega) (by simp) (by simp; omega)
    rw [List.nil_append, EB.out] at h2
    obtain ⟨A1, c1, rfl, -⟩ := Owned.holds h2
    rw [HTB.out] at h2 hrun h4
    obtain ⟨h5, h6⟩ := h4 (V.heap.size + 1) hvz.lt (by simp [Value.ownBlock])
    exact ⟨A1, c1, w', hrun, h2, h3, h5.trans hvz, h6⟩
  have HAPP := Lib.hid happ; clear happ
  have HAPP2 := Lib.hid happ2; clear happ2
  have HBU := Lib.hid hbu; clear hbu
  have HVU := Lib.hid hvu; clear hvu
  have HSB : Hid (∀ V, Below w.heap.size w V → V.cell? ⟨b0, off, none⟩ = some (.int .u8 (K : Int)) ∧ V.cell? ⟨b0, off + 1, none⟩ = some (.int .u8 (J : Int))) := Lib.hid fun V hV => HS.out V (hV.mono hB)
  have HHB := Lib.hid hB
  clear hK8 hB hc
  refine wp_region_E (fun V => Below w.heap.size w V) 20 rfl ?_
  rw [← hu]
  clear hu
  have hS := HBU.out
  refine wpE_take 0 ⟨some 26, _, _, _, _, _⟩ (v := ?_) [1, 2, 3, 18, 20] rfl (by kernel_rfl) (by kernel_rfl) (by kernel_rfl) (by kernel_rfl) (fun _ _ _ h => h) hS (Or.inl ⟨by rfl, ?_⟩) ?_
  rotate_left
  · (intro V hSw; obtain ⟨r0, r1⟩ := HSB.out V hSw; go_simp; try with_reducible rfl)
  try simp only [Act.put]
  refine wpE_take 1 ⟨some 27, _, _, _, _, _⟩ (v := ?_) [2, 3, 18, 20] rfl (by kernel_rfl) (by kernel_rfl) (by kernel_rfl) (by kernel_rfl) (fun _ _ _ h => h) hS (Or.inl ⟨by rfl, ?_⟩) ?_
  rotate_left
  · (intro V hSw; obtain ⟨r0, r1⟩ := HSB.out V hSw; go_simp; try with_reducible rfl)
  try simp only [Act.put]
  refine wpE_take 2 ⟨some 28, _, _, _, _, _⟩ (v := ?_) [3, 18, 20] rfl (by kernel_rfl) (by kernel_rfl) (by kernel_rfl) (by kernel_rfl) (fun _ _ _ h => h) hS (Or.inl ⟨by rfl, ?_⟩) ?_
  rotate_left
  · (intro V hSw; obtain ⟨r0, r1⟩ := HSB.out V hSw; go_simp; try with_reducible rfl)
  try simp only [Act.put]
  refine wpE_take 3 ⟨some 29, _, _, _, _, _⟩ (v := ?_) [18, 20] rfl (by kernel_rfl) (by kernel_rfl) (by kernel_rfl) (by kernel_rfl) (fun _ _ _ h => h) hS (Or.inl ⟨by rfl, ?_⟩) ?_
  rotate_left
  · (intro V hSw; obtain ⟨r0, r1⟩ := HSB.out V hSw; go_simp; try with_reducible rfl)
  try simp only [Act.put]
  refine wpE_take 4 ⟨some 30, _, _, _, _, _⟩ (v := ?_) [5, 6, 7, 18, 20] rfl (by kernel_rfl) (by kernel_rfl) (by kernel_rfl) (by kernel_rfl) (fun _ _ _ h => h) hS (Or.inl ⟨by rfl, ?_⟩) ?_
  rotate_left
  · (intro V hSw; obtain ⟨r0, r1⟩ := HSB.out V hSw; go_simp; try with_reducible rfl)
  try simp only [Act.put]
  refine wpE_take 5 ⟨some 31, _, _, _, _, _⟩ (v := ?_) [6, 7, 18, 20] rfl (by kernel_rfl) (by kernel_rfl) (by kernel_rfl) (by kernel_rfl) (fun _ _ _ h => h) hS (Or.inl ⟨by rfl, ?_⟩) ?_
  rotate_left
  · (intro V hSw; obtain ⟨r0, r1⟩ := HSB.out V hSw; go_simp; try with_reducible rfl)
  try simp only [Act.put]
  refine wpE_take 6 ⟨some 32, _, _, _, _, _⟩ (v := ?_) [7, 18, 20] rfl (by kernel_rfl) (by kernel_rfl) (by kernel_rfl) (by kernel_rfl) (fun _ _ _ h => h) hS (Or.inl ⟨by rfl, ?_⟩) ?_
  rotate_left
  · (intro V hSw; obtain ⟨r0, r1⟩ := HSB.out V hSw; go_simp; try with_reducible rfl)
  try simp only [Act.put]
  refine wpE_take 7 ⟨some 33, _, _, _, _, _⟩ (v := ?_) [18, 20] rfl (by kernel_rfl) (by kernel_rfl) (by kernel_rfl) (by kernel_rfl) (fun _ _ _ h => h) hS (Or.inl ⟨by rfl, ?_⟩) ?_
  rotate_left
  · (intro V hSw; obtain ⟨r0, r1⟩ := HSB.out V hSw; go_simp; try with_reducible rfl)
  try simp only [Act.put]
  refine wpE_take 8 ⟨some 34, _, _, _, _, _⟩ (v := ?_) [9, 11, 13, 17, 18, 20] rfl (by kernel_rfl) (by kernel_rfl) (by kernel_rfl) (by kernel_rfl) (fun _ _ _ h => h) hS (Or.inl ⟨by rfl, ?_⟩) ?_
  rotate_left
  · (intro V hSw; obtain ⟨r0, r1⟩ := HSB.out V hSw; go_simp; try with_reducible rfl)
  try simp only [Act.put]
  refine wpE_takeC 9 ⟨some 35, _, _, _, _, _⟩ (v := .int .i64 T.links) [11, 13, 17, 18, 20] rfl (by kernel_rfl) (by kernel_rfl) (by kernel_rfl) (by kernel_rfl) (fun _ _ _ h => h) hS (yieldsC_of (by kernel_rfl) 26 _ _ _ _ rfl Try.func26 (by kernel_rfl) rfl #[.slice (some ⟨b0, off, none⟩) 128 c, .int .i64 2, .int .i64 2] ?hv HAT1.out) ?_
  case hv => simp only [List.map_toArray, List.map_cons, List.map_nil]; go_simp
  try simp only [Act.put]
  refine wpE_take 10 ⟨some 36, _, _, _, _, _⟩ (v := ?_) [11, 13, 17, 18, 20] rfl (by kernel_rfl) (by kernel_rfl) (by kernel_rfl) (by kernel_rfl) (fun _ _ _ h => h) hS (Or.inl ⟨by rfl, ?_⟩) ?_
  rotate_left
  · (intro V hSw; obtain ⟨r0, r1⟩ := HSB.out V hSw; go_simp; try with_reducible rfl)
  try simp only [Act.put]
  refine wpE_takeC 11 ⟨some 37, _, _, _, _, _⟩ (v := .int .i64 T.size) [13, 17, 18, 20] rfl (by kernel_rfl) (by kernel_rfl) (by kernel_rfl) (by kernel_rfl) (fun _ _ _ h => h) hS (yieldsC_of (by kernel_rfl) 26 _ _ _ _ rfl Try.func26 (by kernel_rfl) rfl #[.slice (some ⟨b0, off, none⟩) 128 c, .int .i64 4, .int .i64 4] ?hv HAT2.out) ?_
  case hv => simp only [List.map_toArray, List.map_cons, List.map_nil]; go_simp
  try simp only [Act.put]
  refine wpE_take 12 ⟨some 38, _, _, _, _, _⟩ (v := ?_) [13, 17, 18, 20] rfl (by kernel_rfl) (by kernel_rfl) (by kernel_rfl) (by kernel_rfl) (fun _ _ _ h => h) hS (Or.inl ⟨by rfl, ?_⟩) ?_
  rotate_left
  · (intro V hSw; obtain ⟨r0, r1⟩ := HSB.out V hSw; go_simp; try with_reducible rfl)
  try simp only [Act.put]
  refine wpE_takeC 13 ⟨some 39, _, _, _, _, _⟩ (v := .int .i64 T.attrs) [17, 18, 20] rfl (by kernel_rfl) (by kernel_rfl) (by kernel_rfl) (by kernel_rfl) (fun _ _ _ h => h) hS (yieldsC_of (by kernel_rfl) 26 _ _ _ _ rfl Try.func26 (by kernel_rfl) rfl #[.slice (some ⟨b0, off, none⟩) 128 c, .int .i64 8, .int .i64 4] ?hv HAT3.out) ?_
  case hv => simp only [List.map_toArray, List.map_cons, List.map_nil]; go_simp
  try simp only [Act.put]
  refine wpE_take 15 ⟨some 41, _, _, _, _, _⟩ (v := ?_) [16, 17, 18, 20] rfl (by kernel_rfl) (by kernel_rfl) (by kernel_rfl) (by kernel_rfl) (fun _ _ _ h => h) hS (Or.inl ⟨by rfl, ?_⟩) ?_
  rotate_left
  · (intro V hSw; obtain ⟨r0, r1⟩ := HSB.out V hSw; go_simp; try with_reducible rfl)
  try simp only [Act.put]
  refine wpE_take 16 ⟨some 42, _, _, _, _, _⟩ (v := ?_) [17, 18, 20] rfl (by kernel_rfl) (by kernel_rfl) (by kernel_rfl) (by kernel_rfl) (fun _ _ _ h => h) hS (Or.inl ⟨by rfl, ?_⟩) ?_
  rotate_left
  · (intro V hSw; obtain ⟨r0, r1⟩ := HSB.out V hSw; go_simp; try with_reducible rfl)
  try simp only [Act.put]
  refine wpE_pair 14 19 (by kernel_rfl) rfl rfl (fun K' hK' => ?_) (fun K' hK' => ?_)
  · go_simp
    refine hK'.out _ _ (hS.alloc hS.size _) (fun hS1 => ?_)
    clear hK' K'
    try simp only [Act.put]
    refine wpE_pair 17 19 (by kernel_rfl) rfl rfl (fun K' hK' => ?_) (fun K' hK' => ?_)
    · obtain ⟨A1, c1, V1, hrun, ho1, hb1, hn1⟩ := HAPP.out u HBU.out
      refine step_builtin (by kernel_rfl) _ _ _ rfl _ _ _ _ rfl rfl hrun ?_
      have hS2 : Below w.heap.size w V1 := hS1.trans (hb1.mono hS.size)
      refine hK'.out _ _ hS2 (fun _ => ?_)
      clear hK' K'
      try simp only [Act.put]
      refine wpE_take 18 ⟨some 44, _, _, _, _, _⟩ (v := ?_) [20] rfl (by kernel_rfl) (by kernel_rfl) (by kernel_rfl) (by kernel_rfl) (fun _ _ _ h => h) hS2 (Or.inl ⟨by rfl, ?_⟩) ?_
      rotate_left
      · (intro V hSw; obtain ⟨r0, r1⟩ := HSB.out V hSw; go_simp; try with_reducible rfl)
      try simp only [Act.put]
      refine wpE_one 19 (by kernel_rfl) rfl (fun K' hK' => ?_)
      go_simp
      refine hK'.out _ _ (hS2.alloc hS2.size _) (fun _ => ?_)
      clear hK' K'
      try simp only [Act.put]
      obtain ⟨W3, hW3⟩ : ∃ W3, W3 = V1.alloc (.cells (T.c A1 c1) 24) := ⟨_, rfl⟩
      have hst : (stI (.pointer (some ⟨V1.heap.size, 0, none⟩)) (.agg #[.int .i64 (K : Int), .int .i64 T.links, .int .i64 T.size, .bool T.inl, .int .i64 T.attrs, .slice A1 60 c1])).run Try.prog (V1.alloc (.cells #[.int .i64 0, .int .i64 0, .int .i64 0, .bool false, .int .i64 0, .slice none 0 0] 24)) = .ok () W3 := by rw [EK.out, ← HTB.out, hW3]; exact run_stI_new V1 T A1 c1
      have HVT : Hid (VarI W3 V1.heap.size T A1 c1) := Lib.hid (hW3 ▸ VarI.new V1 T A1 c1)
      have HVR : Hid (VarI W3 w.heap.size in0 none 0) := Lib.hid (hW3 ▸ ((HVU.out.alloc _).keep hb1 HVU.out.lt).alloc _)
      have HOT : Hid (Owned W3 (w.heap.size + 1) (.slice A1 60 c1) T.body) := Lib.hid (hW3 ▸ Owned.mono (Owned.keep ho1 ((Below.refl _ _).alloc (Nat.le_refl _) _) (Nat.le_refl _)) HVU.out.lt)
      have HBT : Hid (Below w.heap.size w W3) := Lib.hid (hW3 ▸ hS2.alloc hS2.size _)
      have HGV : Hid (w.heap.size < V1.heap.size) := Lib.hid (by have := HVU.out.lt; have := hb1.size; simp at this; omega)
      clear hW3 hrun ho1 hb1 hn1 hS1
      refine wpE_last (by kernel_rfl) rfl (fun K' hK' => ?_)
      go_simp
      refine hK'.out _ _ ?_
      clear hK' K'
      refine wpE_done (by kernel_rfl) ?_ _
      clear hst hS2
      generalize V1.heap.size = gv at HVT HGV ⊢
      clear HAPP HAPP2 HSB HS HAT1 HAT2 HAT3 hS sa sb hinl hwK
      have l3 := HVT.out.load
      have henc := rencode_any T A1 c1 W3.heap.size n W3 (by rw [HTB.out]; exact Owned.reads HOT.out) (Nat.le_refl _)
      rw [HE.out] at henc
      have HENC := Lib.hid henc; clear henc
      go_wp2_with fail
      with_reducible refine HENC.out.mono ?_
      rintro e w4 ⟨A4, c4, rfl, ho4, hb4⟩
      have HVT4 := Lib.hid (HVT.out.keep hb4 HVT.out.lt)
      have HVR4 := Lib.hid (HVR.out.keep hb4 HVR.out.lt)
      have HO4 := Lib.hid (Owned.keep HOT.out hb4 (Nat.le_refl _))
      have HB4 : Hid (Below w.heap.size w w4) := Lib.hid (HBT.out.trans (hb4.mono HBT.out.size))
      have l4 := HVT4.out.load
      have t1 := run_text w4 _ A4 L.length c4 L (Owned.reads ho4)
      have t2 := run_text w4 B (some ⟨b0, off, none⟩) 128 c bs (H.out.below (HB4.out.mono HHB.out))
      clear ho4 hb4 HENC HVT HVR HOT HBT l3
      have hcase : R = (in0, 13) ∧ ¬ (X = 0 ∧ bs = L) ∨ R = (T, 0) ∧ X = 0 ∧ bs = L := by
        rw [HDEC.out]
        by_cases hq : X = 0 ∧ bs = L
        · rw [if_pos hq]; exact .inr ⟨rfl, hq⟩
        · rw [if_neg hq]; exact .inl ⟨rfl, hq⟩
      rcases hcase with ⟨hR, hq⟩ | ⟨hR, hX0, hq⟩
      · obtain ⟨w5, hst, hv5, hb5, -⟩ := run_stI_at w4 w.heap.size in0 in0 none none 0 0 HVR4.out
        have hst' : (stI (.pointer (some ⟨w.heap.size, 0, none⟩)) (.agg #[.int .i64 0, .int .i64 0, .int .i64 0, .bool false, .int .i64 0, .slice none 0 0])).run Try.prog w4 = .ok () w5 := hst
        have HV5 := Lib.hid hv5
        have HB5 : Hid (Below w.heap.size w w5) := Lib.hid (HB4.out.trans (hb5 _ (Nat.le_refl _)))
        have HF : Hid (∃ A c, Ending.returned (.tuple #[.agg (in0.c none 0), .int .i64 13]) = .returned (.tuple #[.agg (R.1.c A c), .int .i64 R.2]) ∧ Owned w5 w.heap.size (.slice A R.1.body.length c) R.1.body ∧ Below w.heap.size w w5) := by
          refine Lib.hid ⟨none, 0, by rw [hR], ?_, HB5.out⟩
          rw [hR]; exact owned_nil _ _
        clear hst hv5 hb5
        by_cases hX0 : X = 0
        · subst hX0
          have hne : ¬ bs = L := fun e => hq ⟨rfl, e⟩
          obtain ⟨LL, hLL⟩ : ∃ LL : ByteArray, LL = ⟨L.toArray⟩ := ⟨_, rfl⟩
          obtain ⟨B2, hB2⟩ : ∃ B2 : ByteArray, B2 = ⟨bs.toArray⟩ := ⟨_, rfl⟩
          have hnl : (LL.toList == B2.toList) = false := by
            refine beq_false_of_ne (fun e => ?_)
            rw [hLL, hB2, ByteArray.toList_eq, ByteArray.toList_eq] at e
            exact hne e.symm
          rw [← hLL] at t1
          rw [← hB2] at t2
          clear hLL hB2 hne hq hR
          go_wp2
          exact bodyPost_ret (results_inode rfl _ _ w.heap.size in0 none 0 (.int .i64 13) rfl rfl HV5.out) rfl HF.out
        · have hXb : (X != 0) = true := bne_iff_ne.2 hX0
          clear hq hR
          go_wp2
          exact bodyPost_ret (results_inode rfl _ _ w.heap.size in0 none 0 (.int .i64 13) rfl rfl HV5.out) rfl HF.out
      · subst hX0
        obtain ⟨w5, hst, hv5, hb5, hk5⟩ := run_stI_at w4 w.heap.size T in0 A1 none c1 0 HVR4.out
        have HV5 := Lib.hid hv5
        have HB5 : Hid (Below w.heap.size w w5) := Lib.hid (HB4.out.trans (hb5 _ (Nat.le_refl _)))
        have HF : Hid (∃ A c, Ending.returned (.tuple #[.agg (T.c A1 c1), .int .i64 0]) = .returned (.tuple #[.agg (R.1.c A c), .int .i64 R.2]) ∧ Owned w5 w.heap.size (.slice A R.1.body.length c) R.1.body ∧ Below w.heap.size w w5) := by
          refine Lib.hid ⟨A1, c1, by rw [hR], ?_, HB5.out⟩
          rw [hR]
          show Owned w5 w.heap.size (.slice A1 T.body.length c1) T.body
          rw [HTB.out]
          exact Owned.mono (Owned.away HO4.out hk5 (fun k hk => by have := Owned.base_le HO4.out k hk; omega)) (by omega)
        obtain ⟨B2, hB2⟩ : ∃ B2 : ByteArray, B2 = ⟨bs.toArray⟩ := ⟨_, rfl⟩
        have hL2 : (⟨L.toArray⟩ : ByteArray) = B2 := by rw [hB2, hq]
        rw [hL2] at t1
        rw [← hB2] at t2
        clear hv5 hb5 hk5 hR hL2 hB2 hq
        go_wp2
        exact bodyPost_ret (results_inode rfl _ _ w.heap.size T A1 c1 (.int .i64 0) rfl rfl HV5.out) rfl HF.out
    · go_simp
      refine hK'.out _ _ (hS1.alloc hS1.size _) (fun hS2 => ?_)
      clear hK' K'
      try simp only [Act.put]
      refine wpE_one 17 (by kernel_rfl) rfl (fun K' hK' => ?_)
      obtain ⟨A1, c1, V1, hrun, ho1, hb1, hv1, hn1⟩ := HAPP2.out u HBU.out
      refine step_builtin (by kernel_rfl) _ _ _ rfl _ _ _ _ rfl rfl hrun ?_
      have hS3 : Below w.heap.size w V1 := hS2.trans (hb1.mono hS.size)
      refine hK'.out _ _ hS3 (fun _ => ?_)
      clear hK' K'
      try simp only [Act.put]
      refine wpE_take 18 ⟨some 44, _, _, _, _, _⟩ (v := ?_) [20] rfl (by kernel_rfl) (by kernel_rfl) (by kernel_rfl) (by kernel_rfl) (fun _ _ _ h => h) hS3 (Or.inl ⟨by rfl, ?_⟩) ?_
      rotate_left
      · (intro V hSw; obtain ⟨r0, r1⟩ := HSB.out V hSw; go_simp; try with_reducible rfl)
      try simp only [Act.put]
      obtain ⟨W3, hst0, hv3, hb3, hk3⟩ := run_stI_at V1 (u.heap.size + 1) T in0 A1 none c1 0 hv1
      have hst : (stI (.pointer (some ⟨u.heap.size + 1, 0, none⟩)) (.agg #[.int .i64 (K : Int), .int .i64 T.links, .int .i64 T.size, .bool T.inl, .int .i64 T.attrs, .slice A1 60 c1])).run Try.prog V1 = .ok () W3 := by rw [EK.out, ← HTB.out]; exact hst0
      have HVT : Hid (VarI W3 (u.heap.size + 1) T A1 c1) := Lib.hid hv3
      have HVR : Hid (VarI W3 w.heap.size in0 none 0) := Lib.hid ((hk3 _ (by have := HVU.out.lt; omega)).trans (((HVU.out.alloc _).alloc _).keep hb1 HVU.out.lt))
      have HOT : Hid (Owned W3 (w.heap.size + 1) (.slice A1 60 c1) T.body) := Lib.hid (Owned.mono (Owned.away ho1 hk3 (fun k hk e => hn1 (e ▸ hk))) HVU.out.lt)
      have HBT : Hid (Below w.heap.size w W3) := Lib.hid (hS3.trans (hb3 _ (by have := HVU.out.lt; omega)))
      have HGV : Hid (w.heap.size < u.heap.size + 1) := Lib.hid (by have := HVU.out.lt; omega)
      clear hrun ho1 hb1 hv1 hn1 hS1 hS2 hst0 hv3 hb3 hk3
      refine wpE_last (by kernel_rfl) rfl (fun K' hK' => ?_)
      go_simp
      refine hK'.out _ _ ?_
      clear hK' K'
      refine wpE_done (by kernel_rfl) ?_ _
      clear hst hS3
      generalize u.heap.size + 1 = gv at HVT HGV ⊢
      clear HAPP HAPP2 HSB HS HAT1 HAT2 HAT3 hS sa sb hinl hwK
      have l3 := HVT.out.load
      have henc := rencode_any T A1 c1 W3.heap.size n W3 (by rw [HTB.out]; exact Owned.reads HOT.out) (Nat.le_refl _)
      rw [HE.out] at henc
      have HENC := Lib.hid henc; clear henc
      go_wp2_with fail
      with_reducible refine HENC.out.mono ?_
      rintro e w4 ⟨A4, c4, rfl, ho4, hb4⟩
      have HVT4 := Lib.hid (HVT.out.keep hb4 HVT.out.lt)
      have HVR4 := Lib.hid (HVR.out.keep hb4 HVR.out.lt)
      have HO4 := Lib.hid (Owned.keep HOT.out hb4 (Nat.le_refl _))
      have HB4 : Hid (Below w.heap.size w w4) := Lib.hid (HBT.out.trans (hb4.mono HBT.out.size))
      have l4 := HVT4.out.load
      have t1 := run_text w4 _ A4 L.length c4 L (Owned.reads ho4)
      have t2 := run_text w4 B (some ⟨b0, off, none⟩) 128 c bs (H.out.below (HB4.out.mono HHB.out))
      clear ho4 hb4 HENC HVT HVR HOT HBT l3
      have hcase : R = (in0, 13) ∧ ¬ (X = 0 ∧ bs = L) ∨ R = (T, 0) ∧ X = 0 ∧ bs = L := by
        rw [HDEC.out]
        by_cases hq : X = 0 ∧ bs = L
        · rw [if_pos hq]; exact .inr ⟨rfl, hq⟩
        · rw [if_neg hq]; exact .inl ⟨rfl, hq⟩
      rcases hcase with ⟨hR, hq⟩ | ⟨hR, hX0, hq⟩
      · obtain ⟨w5, hst, hv5, hb5, -⟩ := run_stI_at w4 w.heap.size in0 in0 none none 0 0 HVR4.out
        have hst' : (stI (.pointer (some ⟨w.heap.size, 0, none⟩)) (.agg #[.int .i64 0, .int .i64 0, .int .i64 0, .bool false, .int .i64 0, .slice none 0 0])).run Try.prog w4 = .ok () w5 := hst
        have HV5 := Lib.hid hv5
        have HB5 : Hid (Below w.heap.size w w5) := Lib.hid (HB4.out.trans (hb5 _ (Nat.le_refl _)))
        have HF : Hid (∃ A c, Ending.returned (.tuple #[.agg (in0.c none 0), .int .i64 13]) = .returned (.tuple #[.agg (R.1.c A c), .int .i64 R.2]) ∧ Owned w5 w.heap.size (.slice A R.1.body.length c) R.1.body ∧ Below w.heap.size w w5) := by
          refine Lib.hid ⟨none, 0, by rw [hR], ?_, HB5.out⟩
          rw [hR]; exact owned_nil _ _
        clear hst hv5 hb5
        by_cases hX0 : X = 0
        · subst hX0
          have hne : ¬ bs = L := fun e => hq ⟨rfl, e⟩
          obtain ⟨LL, hLL⟩ : ∃ LL : ByteArray, LL = ⟨L.toArray⟩ := ⟨_, rfl⟩
          obtain ⟨B2, hB2⟩ : ∃ B2 : ByteArray, B2 = ⟨bs.toArray⟩ := ⟨_, rfl⟩
          have hnl : (LL.toList == B2.toList) = false := by
            refine beq_false_of_ne (fun e => ?_)
            rw [hLL, hB2, ByteArray.toList_eq, ByteArray.toList_eq] at e
            exact hne e.symm
          rw [← hLL] at t1
          rw [← hB2] at t2
          clear hLL hB2 hne hq hR
          go_wp2
          exact bodyPost_ret (results_inode rfl _ _ w.heap.size in0 none 0 (.int .i64 13) rfl rfl HV5.out) rfl HF.out
        · have hXb : (X != 0) = true := bne_iff_ne.2 hX0
          clear hq hR
          go_wp2
          exact bodyPost_ret (results_inode rfl _ _ w.heap.size in0 none 0 (.int .i64 13) rfl rfl HV5.out) rfl HF.out
      · subst hX0
        obtain ⟨w5, hst, hv5, hb5, hk5⟩ := run_stI_at w4 w.heap.size T in0 A1 none c1 0 HVR4.out
        have HV5 := Lib.hid hv5
        have HB5 : Hid (Below w.heap.size w w5) := Lib.hid (HB4.out.trans (hb5 _ (Nat.le_refl _)))
        have HF : Hid (∃ A c, Ending.returned (.tuple #[.agg (T.c A1 c1), .int .i64 0]) = .returned (.tuple #[.agg (R.1.c A c), .int .i64 R.2]) ∧ Owned w5 w.heap.size (.slice A R.1.body.length c) R.1.body ∧ Below w.heap.size w w5) := by
          refine Lib.hid ⟨A1, c1, by rw [hR], ?_, HB5.out⟩
          rw [hR]
          show Owned w5 w.heap.size (.slice A1 T.body.length c1) T.body
          rw [HTB.out]
          exact Owned.mono (Owned.away HO4.out hk5 (fun k hk => by have := Owned.base_le HO4.out k hk; omega)) (by omega)
        obtain ⟨B2, hB2⟩ : ∃ B2 : ByteArray, B2 = ⟨bs.toArray⟩ := ⟨_, rfl⟩
        have hL2 : (⟨L.toArray⟩ : ByteArray) = B2 := by rw [hB2, hq]
        rw [hL2] at t1
        rw [← hB2] at t2
        clear hv5 hb5 hk5 hR hL2 hB2 hq
        go_wp2
        exact bodyPost_ret (results_inode rfl _ _ w.heap.size T A1 c1 (.int .i64 0) rfl rfl HV5.out) rfl HF.out
  · go_simp
    refine hK'.out _ _ (hS.alloc hS.size _) (fun hS1 => ?_)
    clear hK' K'
    try simp only [Act.put]
    refine wpE_one 14 (by kernel_rfl) rfl (fun K' hK' => ?_)
    go_simp
    refine hK'.out _ _ (hS1.alloc hS1.size _) (fun hS2 => ?_)
    clear hK' K'
    try simp only [Act.put]
    refine wpE_one 17 (by kernel_rfl) rfl (fun K' hK' => ?_)
    obtain ⟨UZ, hUZ⟩ : ∃ UZ, UZ = u.alloc (.cells #[.int .i64 0, .int .i64 0, .int .i64 0, .bool false, .int .i64 0, .slice none 0 0] 24) := ⟨_, rfl⟩
    have hzu : UZ.heap.size = u.heap.size + 1 := by rw [hUZ]; simp
    have hvz : VarI UZ u.heap.size in0 none 0 := by rw [hUZ]; exact VarI.new u in0 none 0
    have hvr : VarI UZ w.heap.size in0 none 0 := by rw [hUZ]; exact HVU.out.alloc _
    rw [← hUZ] at hS1 hS2 ⊢
    obtain ⟨A1, c1, V1, hrun, ho1, hb1, hn1⟩ := HAPP.out UZ hS1
    rw [hzu] at hrun
    refine step_builtin (by kernel_rfl) _ _ _ rfl _ _ _ _ rfl rfl hrun ?_
    have hS3 : Below w.heap.size w V1 := hS2.trans (hb1.mono hS1.size)
    refine hK'.out _ _ hS3 (fun _ => ?_)
    clear hK' K'
    try simp only [Act.put]
    refine wpE_take 18 ⟨some 44, _, _, _, _, _⟩ (v := ?_) [20] rfl (by kernel_rfl) (by kernel_rfl) (by kernel_rfl) (by kernel_rfl) (fun _ _ _ h => h) hS3 (Or.inl ⟨by rfl, ?_⟩) ?_
    rotate_left
    · (intro V hSw; obtain ⟨r0, r1⟩ := HSB.out V hSw; go_simp; try with_reducible rfl)
    try simp only [Act.put]
    have hv1 : VarI V1 u.heap.size in0 none 0 := (hvz.alloc _).keep hb1 hvz.lt
    obtain ⟨W3, hst0, hv3, hb3, hk3⟩ := run_stI_at V1 u.heap.size T in0 A1 none c1 0 hv1
    have hst : (stI (.pointer (some ⟨u.heap.size, 0, none⟩)) (.agg #[.int .i64 (K : Int), .int .i64 T.links, .int .i64 T.size, .bool T.inl, .int .i64 T.attrs, .slice A1 60 c1])).run Try.prog V1 = .ok () W3 := by rw [EK.out, ← HTB.out]; exact hst0
    have HVT : Hid (VarI W3 u.heap.size T A1 c1) := Lib.hid hv3
    have HVR : Hid (VarI W3 w.heap.size in0 none 0) := Lib.hid ((hk3 _ (by have := HVU.out.lt; omega)).trans ((hvr.alloc _).keep hb1 hvr.lt))
    have HOT : Hid (Owned W3 (w.heap.size + 1) (.slice A1 60 c1) T.body) := Lib.hid (Owned.mono (Owned.away ho1 hk3 (fun k hk e => hn1 k (by rw [e, hzu]; omega) hk)) (by rw [hzu]; have := HVU.out.lt; omega))
    have HBT : Hid (Below w.heap.size w W3) := Lib.hid (hS3.trans (hb3 _ (by have := HVU.out.lt; omega)))
    have HGV : Hid (w.heap.size < u.heap.size) := Lib.hid HVU.out.lt
    clear hrun ho1 hb1 hv1 hn1 hS1 hS2 hst0 hv3 hb3 hk3 hUZ hvz hvr
    refine wpE_last (by kernel_rfl) rfl (fun K' hK' => ?_)
    go_simp
    refine hK'.out _ _ ?_
    clear hK' K'
    refine wpE_done (by kernel_rfl) ?_ _
    clear hst hS3 hzu
    generalize u.heap.size = gv at HVT HGV ⊢
    clear HAPP HAPP2 HSB HS HAT1 HAT2 HAT3 hS sa sb hinl hwK
    have l3 := HVT.out.load
    have henc := rencode_any T A1 c1 W3.heap.size n W3 (by rw [HTB.out]; exact Owned.reads HOT.out) (Nat.le_refl _)
    rw [HE.out] at henc
    have HENC := Lib.hid henc; clear henc
    go_wp2_with fail
    with_reducible refine HENC.out.mono ?_
    rintro e w4 ⟨A4, c4, rfl, ho4, hb4⟩
    have HVT4 := Lib.hid (HVT.out.keep hb4 HVT.out.lt)
    have HVR4 := Lib.hid (HVR.out.keep hb4 HVR.out.lt)
    have HO4 := Lib.hid (Owned.keep HOT.out hb4 (Nat.le_refl _))
    have HB4 : Hid (Below w.heap.size w w4) := Lib.hid (HBT.out.trans (hb4.mono HBT.out.size))
    have l4 := HVT4.out.load
    have t1 := run_text w4 _ A4 L.length c4 L (Owned.reads ho4)
    have t2 := run_text w4 B (some ⟨b0, off, none⟩) 128 c bs (H.out.below (HB4.out.mono HHB.out))
    clear ho4 hb4 HENC HVT HVR HOT HBT l3
    have hcase : R = (in0, 13) ∧ ¬ (X = 0 ∧ bs = L) ∨ R = (T, 0) ∧ X = 0 ∧ bs = L := by
      rw [HDEC.out]
      by_cases hq : X = 0 ∧ bs = L
      · rw [if_pos hq]; exact .inr ⟨rfl, hq⟩
      · rw [if_neg hq]; exact .inl ⟨rfl, hq⟩
    rcases hcase with ⟨hR, hq⟩ | ⟨hR, hX0, hq⟩
    · obtain ⟨w5, hst, hv5, hb5, -⟩ := run_stI_at w4 w.heap.size in0 in0 none none 0 0 HVR4.out
      have hst' : (stI (.pointer (some ⟨w.heap.size, 0, none⟩)) (.agg #[.int .i64 0, .int .i64 0, .int .i64 0, .bool false, .int .i64 0, .slice none 0 0])).run Try.prog w4 = .ok () w5 := hst
      have HV5 := Lib.hid hv5
      have HB5 : Hid (Below w.heap.size w w5) := Lib.hid (HB4.out.trans (hb5 _ (Nat.le_refl _)))
      have HF : Hid (∃ A c, Ending.returned (.tuple #[.agg (in0.c none 0), .int .i64 13]) = .returned (.tuple #[.agg (R.1.c A c), .int .i64 R.2]) ∧ Owned w5 w.heap.size (.slice A R.1.body.length c) R.1.body ∧ Below w.heap.size w w5) := by
        refine Lib.hid ⟨none, 0, by rw [hR], ?_, HB5.out⟩
        rw [hR]; exact owned_nil _ _
      clear hst hv5 hb5
      by_cases hX0 : X = 0
      · subst hX0
        have hne : ¬ bs = L := fun e => hq ⟨rfl, e⟩
        obtain ⟨LL, hLL⟩ : ∃ LL : ByteArray, LL = ⟨L.toArray⟩ := ⟨_, rfl⟩
        obtain ⟨B2, hB2⟩ : ∃ B2 : ByteArray, B2 = ⟨bs.toArray⟩ := ⟨_, rfl⟩
        have hnl : (LL.toList == B2.toList) = false := by
          refine beq_false_of_ne (fun e => ?_)
          rw [hLL, hB2, ByteArray.toList_eq, ByteArray.toList_eq] at e
          exact hne e.symm
        rw [← hLL] at t1
        rw [← hB2] at t2
        clear hLL hB2 hne hq hR
        go_wp2
        exact bodyPost_ret (results_inode rfl _ _ w.heap.size in0 none 0 (.int .i64 13) rfl rfl HV5.out) rfl HF.out
      · have hXb : (X != 0) = true := bne_iff_ne.2 hX0
        clear hq hR
        go_wp2
        exact bodyPost_ret (results_inode rfl _ _ w.heap.size in0 none 0 (.int .i64 13) rfl rfl HV5.out) rfl HF.out
    · subst hX0
      obtain ⟨w5, hst, hv5, hb5, hk5⟩ := run_stI_at w4 w.heap.size T in0 A1 none c1 0 HVR4.out
      have HV5 := Lib.hid hv5
      have HB5 : Hid (Below w.heap.size w w5) := Lib.hid (HB4.out.trans (hb5 _ (Nat.le_refl _)))
      have HF : Hid (∃ A c, Ending.returned (.tuple #[.agg (T.c A1 c1), .int .i64 0]) = .returned (.tuple #[.agg (R.1.c A c), .int .i64 R.2]) ∧ Owned w5 w.heap.size (.slice A R.1.body.length c) R.1.body ∧ Below w.heap.size w w5) := by
        refine Lib.hid ⟨A1, c1, by rw [hR], ?_, HB5.out⟩
        rw [hR]
        show Owned w5 w.heap.size (.slice A1 T.body.length c1) T.body
        rw [HTB.out]
        exact Owned.mono (Owned.away HO4.out hk5 (fun k hk => by have := Owned.base_le HO4.out k hk; omega)) (by omega)
      obtain ⟨B2, hB2⟩ : ∃ B2 : ByteArray, B2 = ⟨bs.toArray⟩ := ⟨_, rfl⟩
      have hL2 : (⟨L.toArray⟩ : ByteArray) = B2 := by rw [hB2, hq]
      rw [hL2] at t1
      rw [← hB2] at t2
      clear hv5 hb5 hk5 hR hL2 hB2 hq
      go_wp2
      exact bodyPost_ret (results_inode rfl _ _ w.heap.size T A1 c1 (.int .i64 0) rfl rfl HV5.out) rfl HF.out

/-- What the document's Decode answers of whatever it is given: the same. -/
theorem rdecode_any (A : Option Addr) (m c B : Nat) (bs : List UInt8) (n : Int) (w : World) (h : Holds w B A m bs) (hc : m ≤ c) (hB : B ≤ w.heap.size) :
    Calls Try.prog 16 #[.slice A m c, .int .i64 n] w (Decd (dec bs n).1 (dec bs n).2 w) := by
  rw [← rdec_eq]
  by_cases hn : 0 ≤ n ∧ n ≤ 1048576
  · by_cases hm : m = 128
    · subst hm
      by_cases hz : bs = zer
      · subst hz
        have e : rdec zer n = (in0, 0) := by unfold rdec; rw [if_pos hn, if_pos zer_len, if_pos rfl]
        rw [e]
        exact rdecode_zero A c B n w h hB hn
      · obtain ⟨b, off, rfl⟩ := Holds.addr h (by omega)
        exact rdecode_some b off c B bs n w h hc hB hn hz
    · have e : rdec bs n = (in0, 13) := by unfold rdec; rw [if_pos hn, if_neg (by rw [h.1]; exact hm)]
      rw [e]
      exact rdecode_short A m c n w hn hm
  · have e : rdec bs n = (in0, 1) := by unfold rdec; rw [if_neg hn]
    rw [e]
    exact rdecode_far A m c n w hn
end Go.Proofs.Ytbppgihbnjnapaa.Ino
