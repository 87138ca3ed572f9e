/- Contract of the document's Decode. -/
import Derived.Test.YtbppgihbnjnapaaInDec
import Derived.Test.YtbppgihbnjnapaaInRCode
namespace Go.Proofs.Ytbppgihbnjnapaa.Ino
set_option maxRecDepth 20000
open Go.RowKit
open Go.Proofs.Ytbppgihbnjnapaa.Mem Go.Proofs.Ytbppgihbnjnapaa.Crc Go.Proofs.Ytbppgihbnjnapaa.Rec
attribute [local go_sem ↓] Go.wp_at_zero Go.wp_at_succ ldI_eq stI_eq

set_option maxRecDepth 100000 in
theorem rat_any (b0 off c B l m : Nat) (i j : Int) (bs : List UInt8) (w : World) (h : Holds w B (some ⟨b0, off, none⟩) 128 bs) (hc : 128 ≤ c) (hi : i = (l : Int)) (hj : j = (m : Int)) (h0 : 0 < m) (hm : m ≤ 4) (hl : l + m ≤ 128) :
    Calls Try.prog 26 #[.slice (some ⟨b0, off, none⟩) 128 c, .int .i64 i, .int .i64 j] w fun e w' => e = .returned (.int .i64 (numAt ((bs.drop l).take m) m : Int)) ∧ w = w' := by
  subst hi hj
  have hd := Holds.drop (k := l) (m := m) h hl
  have hlt := numAt_lt ((bs.drop l).take m) m
  have hp : 2 ^ (8 * m) ≤ 2 ^ 32 := Nat.pow_le_pow_right (by omega) (by omega)
  obtain ⟨N, hN⟩ : ∃ N, numAt ((bs.drop l).take m) m = N := ⟨_, rfl⟩
  rw [hN] at hlt ⊢
  have hw : IntKind.i64.wrap (N : Int) = (N : Int) := by rw [IntKind.wrap_i64]; omega
  have hs : IntKind.i64.wrap ((l : Int) + (m : Int)) = ((l + m : Nat) : Int) := by rw [IntKind.wrap_i64]; omega
  have q1 := fun W => run_slice_part W b0 off 128 c l m (l : Int) ((l + m : Nat) : Int) rfl rfl hl h0 hc
  have q2 := fun W => run_sliceAt_part W b0 off 128 c l m (l : Int) ((l + m : Nat) : Int) rfl rfl hl h0 hc
  obtain ⟨E, hE⟩ : ∃ E : Int, E = ((l + m : Nat) : Int) := ⟨_, rfl⟩
  rw [← hE] at hs
  simp only [← hE] at q1 q2
  have HN := Lib.hid hN; clear hN hlt hp
  have HD := Lib.hid hd; clear hd
  clear h hE hl h0 hc
  go_enter Try.func26, Try.ntmps26
  go_wp2_with fail
  with_reducible refine (refnumber_any _ m (c - l) B _ w HD.out (by omega)).mono ?_
  rintro e w1 ⟨rfl, rfl⟩
  rw [HN.out]
  go_wp2
  go_ret
  exact ⟨rfl, rfl⟩

set_option maxRecDepth 100000 in
theorem rdecode_far (A : Option Addr) (m c : Nat) (n : Int) (w : World) (hn : ¬ (0 ≤ n ∧ n ≤ 1048576)) :
    Calls Try.prog 16 #[.slice A m c, .int .i64 n] w (Decd in0 1 w) := by
  unfold Decd
  have l0 := run_stI_new w in0 none 0
  rw [in0_c] at l0
  rcases Int.lt_or_le n 0 with h0 | h0
  · clear hn
    go_enter Try.func16, Try.ntmps16
    go_wp2
    exact bodyPost_ret (results_inode rfl _ _ w.heap.size in0 none 0 (.int .i64 1) rfl rfl (VarI.new w in0 none 0)) rfl ⟨none, 0, rfl, owned_nil _ _, (Below.refl _ _).alloc (Nat.le_refl _) _⟩
  · have h1 : 1048576 < n := by omega
    clear hn
    go_enter Try.func16, Try.ntmps16
    go_wp2
    exact bodyPost_ret (results_inode rfl _ _ w.heap.size in0 none 0 (.int .i64 1) rfl rfl (VarI.new w in0 none 0)) rfl ⟨none, 0, rfl, owned_nil _ _, (Below.refl _ _).alloc (Nat.le_refl _) _⟩

set_option maxRecDepth 100000 in
theorem rdecode_short (A : Option Addr) (m c : Nat) (n : Int) (w : World) (hn : 0 ≤ n ∧ n ≤ 1048576) (hm : m ≠ 128) :
    Calls Try.prog 16 #[.slice A m c, .int .i64 n] w (Decd in0 13 w) := by
  unfold Decd
  obtain ⟨h0, h1⟩ := hn
  have h0' : ¬ n < 0 := by omega
  have h1' : ¬ 1048576 < n := by omega
  have hI : ¬ (m : Int) = 128 := by omega
  have l0 := run_stI_new w in0 none 0
  rw [in0_c] at l0
  go_enter Try.func16, Try.ntmps16
  go_wp2
  exact bodyPost_ret (results_inode rfl _ _ w.heap.size in0 none 0 (.int .i64 13) rfl rfl (VarI.new w in0 none 0)) rfl ⟨none, 0, rfl, owned_nil _ _, (Below.refl _ _).alloc (Nat.le_refl _) _⟩

set_option maxRecDepth 100000 in
set_option maxHeartbeats 2000000 in
theorem rdecode_zero (A : Option Addr) (c B : Nat) (n : Int) (w : World) (h : Holds w B A 128 zer) (hB : B ≤ w.heap.size) (hn : 0 ≤ n ∧ n ≤ 1048576) :
    Calls Try.prog 16 #[.slice A 128 c, .int .i64 n] w (Decd in0 0 w) := by
  unfold Decd
  obtain ⟨h0, h1⟩ := hn
  have h0' : ¬ n < 0 := by omega
  have h1' : ¬ 1048576 < n := by omega
  obtain ⟨w1, hw1⟩ : ∃ y, y = w.alloc (.cells (in0.c none 0) 24) := ⟨_, rfl⟩
  have hv1 : VarI w1 w.heap.size in0 none 0 := hw1 ▸ VarI.new w in0 none 0
  have hb1 : Below w.heap.size w w1 := hw1 ▸ (Below.refl _ _).alloc (Nat.le_refl _) _
  have hd1 : Below w.heap.size w w1.drew := hb1.drew
  have hvd : VarI w1.drew w.heap.size in0 none 0 := hv1
  obtain ⟨w2, hw2⟩ : ∃ y, y = w1.drew.alloc (.cells (zer.map byteV).toArray 5) := ⟨_, rfl⟩
  have l1 := make128 w1.drew
  have hz : Holds w2 w2.heap.size (some ⟨w1.heap.size, 0, none⟩) 128 zer := hw2 ▸ Owned.reads (zer_made w1.drew)
  have hb2 : Below w.heap.size w w2 := hw2 ▸ hd1.alloc hd1.size _
  have hv2 : VarI w2 w.heap.size in0 none 0 := hw2 ▸ hvd.alloc _
  rw [← hw2] at l1
  have t0 := run_text w1.drew B A 128 c zer (h.below (hd1.mono hB))
  have t1 := run_text w2 B A 128 c zer (h.below (hb2.mono hB))
  have t2 := run_text w2 _ _ 128 128 zer hz
  obtain ⟨w3, hst, hv3, hb3, -⟩ := run_stI_at w2 w.heap.size in0 in0 none none 0 0 hv2
  have hst' : (stI (.pointer (some ⟨w.heap.size, 0, none⟩)) (.agg #[.int .i64 0, .int .i64 0, .int .i64 0, .bool false, .int .i64 0, .slice none 0 0])).run Try.prog w2 = .ok () w3 := hst
  have HB3 : Hid (Below w.heap.size w w3) := Lib.hid (hb2.trans (hb3 _ (Nat.le_refl _)))
  have HV3 := Lib.hid hv3
  obtain ⟨ZZ, hZZ⟩ : ∃ ZZ : ByteArray, ZZ = ⟨zer.toArray⟩ := ⟨_, rfl⟩
  rw [← hZZ] at t0 t1 t2
  rw [in0_c] at hw1
  have HW1 := Lib.hid hw1
  clear hw1 hb1 hd1 hvd hw2 hz hb2 hv2 hst hv3 hb3 hZZ hv1 h
  go_enter Try.func16, Try.ntmps16
  go_wp2_with fail
  rw [← HW1.out]
  go_region_held (fun V => (convert 22 9 (.slice A 128 c)).run Try.prog V = .ok (.string ZZ) V) (first | assumption) (fail)
  all_goals
    go_wp2
    exact bodyPost_ret (results_inode rfl _ _ w.heap.size in0 none 0 (.int .i64 0) rfl rfl HV3.out) rfl ⟨none, 0, rfl, owned_nil _ _, HB3.out⟩

/-- 'append(s, x...)' onto bytes of one's own leaves every other block alone. -/
theorem run_addallG (w : World) (ty : TypeId) (base : Nat) (v : Value) (bs : List UInt8) (hown : Owned w base v bs) (B : Nat) (A : Option Addr) (m c : Nat) (ys : List UInt8) (hr : Holds w B A m ys)
    (h0 : 0 < m) (hlen : bs.length + m ≤ 140737488355328) (hbase : base ≤ w.heap.size) :
    ∃ v' w', (Builtin.append_ #[22, 22] ty #[v, .slice A m c]).run Try.prog w = .ok v' w' ∧ Owned w' base v' (bs ++ ys) ∧ Below base w w' ∧ (∀ k, k < w.heap.size → v.ownBlock ≠ some k → w'.heap[k]? = w.heap[k]? ∧ v'.ownBlock ≠ some k) := by
  obtain ⟨i0, hi, hz0, hz1, hz2⟩ := info_parts info_u8
  obtain ⟨hl, hc⟩ := hr
  have hlt := Owned.base_le hown
  obtain ⟨b, off, rfl, hbl, hcell⟩ := hc h0
  have hcells : ∀ j u, (ys.map byteV)[j]? = some u → w.cell? ((⟨b, off, none⟩ : Addr).add j) = some u := by
    intro j u hu
    have hj : j < ys.length := by
      rcases Nat.lt_or_ge j ys.length with h | h
      · exact h
      · rw [List.getElem?_eq_none (by simpa using h)] at hu; cases hu
    have hadd : (⟨b, off, none⟩ : Addr).add j = ⟨b, off + j, none⟩ := by unfold Addr.add; split <;> simp_all
    rw [hadd, hcell j hj]
    simpa [byteV, hj] using hu
  obtain ⟨v', w', hrun, h2, h3, _, h5⟩ := run_append_own_at (P := Try.prog) w base 22 ty 5 i0 (.int .u8 0) 1 1 Try.underlying22 hi hz0 hz1 hz2 rfl (by decide) v bs.length (bs.map byteV) hown ⟨b, off, none⟩ m c (ys.map byteV) (by simp; omega) hcells
    (by intro u hu; obtain ⟨c, _, rfl⟩ := List.mem_map.1 hu; rfl) (by unfold maxLen; omega) (by omega) hbase
  refine ⟨v', w', hrun, ?_, (Below.refl base w).grown h3 hbase hlt, ?_⟩
  · unfold Owned
    rw [List.length_append, List.map_append, hl]
    exact h2
  · intro k hk hne
    refine ⟨h3.block k hk (fun e => hne e.symm), ?_⟩
    rcases h5 with h5 | h5
    · rw [h5]; exact hne
    · rw [h5]; intro e; injection e with e; omega
end Go.Proofs.Ytbppgihbnjnapaa.Ino
