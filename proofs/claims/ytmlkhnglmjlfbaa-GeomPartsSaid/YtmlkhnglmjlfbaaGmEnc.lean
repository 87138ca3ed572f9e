/- Contracts of making a geometry's superblock: the program's Encode and the document's. -/
import Derived.Test.YtmlkhnglmjlfbaaGmSup
namespace Go.Proofs.Ytmlkhnglmjlfbaa.Gm
set_option maxRecDepth 20000
open Go.RowKit
open Go.Proofs.Ytmlkhnglmjlfbaa.Mem Go.Proofs.Ytmlkhnglmjlfbaa.Crc Go.Proofs.Ytmlkhnglmjlfbaa.Rec
attribute [local go_sem ↓] ldG_eq stG_eq eqG_eq

theorem is_lay (b : Nat) (h1 : 128 ≤ b) (h2 : b ≤ 1024) : (lay (b : Int)).is = true := by
  unfold Gm.is
  rw [decide_eq_true]
  exact ⟨by show (128 : Int) ≤ (b : Int); omega, by show (b : Int) ≤ 1024; omega, rfl⟩
theorem is_cases {g : Gm} (h : g.is = true) : ∃ b : Nat, 128 ≤ b ∧ b ≤ 1024 ∧ g = lay (b : Int) := by
  unfold Gm.is at h
  have := of_decide_eq_true h
  obtain ⟨h1, h2, h3⟩ := this
  refine ⟨g.blocks.toNat, by omega, by omega, ?_⟩
  rw [show ((g.blocks.toNat : Nat) : Int) = g.blocks by omega]
  exact h3

set_option maxRecDepth 100000 in
theorem encode_no (g : Gm) (w : World) (h : g.is = false) :
    Calls Try.prog 11 #[.agg g.c] w fun e w' => e = .returned (.tuple #[.slice none 0 0, .int .i64 1]) ∧ Below w.heap.size w w' := by
  have hb0 : Hid (Below w.heap.size w (w.alloc (.cells g.c 23))) := Lib.hid ((Below.refl _ _).alloc (Nat.le_refl _) _)
  have l1 := run_ldG (w.alloc (.cells g.c 23)) w.heap.size g (heap_alloc_new w _)
  go_enter Try.func11, Try.ntmps11
  go_wp2_with fail
  with_reducible refine (maybe_any g _).mono ?_
  rintro e w1 ⟨rfl, hb⟩
  rw [h]
  have HB : Hid (Below w.heap.size w w1) := Lib.hid (hb0.out.trans (hb.mono hb0.out.size))
  clear hb l1
  go_wp2
  go_ret2
  exact ⟨rfl, HB.out⟩

/-- What a superblock's making answers. -/
def Sup (b : Nat) (w : World) (e : Ending) (w' : World) : Prop :=
  ∃ A c, e = .returned (.tuple #[.slice A 256 c, .int .i64 0]) ∧ Owned w' w.heap.size (.slice A 256 c) (sup b) ∧ Below w.heap.size w w'

set_option maxRecDepth 100000 in
theorem encode_ok (b : Nat) (w : World) (h1 : 128 ≤ b) (h2 : b ≤ 1024) :
    Calls Try.prog 11 #[.agg (lay (b : Int)).c] w (Sup b w) := by
  unfold Sup
  have h := is_lay b h1 h2
  obtain ⟨g, hg⟩ : ∃ g, g = lay (b : Int) := ⟨_, rfl⟩
  rw [← hg] at h ⊢
  have HG := Lib.hid hg; clear hg
  have hb0 : Hid (Below w.heap.size w (w.alloc (.cells g.c 23))) := Lib.hid ((Below.refl _ _).alloc (Nat.le_refl _) _)
  have hx0 : Hid ((w.alloc (.cells g.c 23)).heap[w.heap.size]? = some (.cells g.c 23 (0, 0))) := Lib.hid (heap_alloc_new w _)
  have hz0 : Hid ((w.alloc (.cells g.c 23)).heap.size = w.heap.size + 1) := Lib.hid (by simp)
  have l1 := run_ldG (w.alloc (.cells g.c 23)) w.heap.size g hx0.out
  go_enter Try.func11, Try.ntmps11
  go_wp2_with fail
  with_reducible refine (maybe_any g _).mono ?_
  rintro e w1 ⟨rfl, hb⟩
  rw [h]
  have HB : Hid (Below w.heap.size w w1) := Lib.hid (hb0.out.trans (hb.mono hb0.out.size))
  have HZ : Hid (w.heap.size + 1 ≤ w1.heap.size) := Lib.hid (by have := hz0.out; have := hb.size; omega)
  have l2 := run_ldG w1 w.heap.size g ((hb.block _ (by have := hz0.out; omega)).trans hx0.out)
  clear hb l1
  go_wp2_with fail
  rw [HG.out]
  with_reducible refine (superblock_any b w1 h2).mono ?_
  rintro e w2 ⟨A, c, rfl, ho, hb2⟩
  rw [sup_len] at ho ⊢
  rw [← HG.out]
  have HB2 : Hid (Below w.heap.size w w2) := Lib.hid (HB.out.trans (hb2.mono HB.out.size))
  have HO : Hid (Owned w2 w.heap.size (.slice A 256 c) (sup b)) := Lib.hid (Owned.mono ho HB.out.size)
  clear hb2 ho l2
  go_wp2
  go_ret2
  exact ⟨A, c, rfl, HO.out, HB2.out⟩

/-- An append onto bytes of one's own leaves every other block alone. -/
theorem wpList_addallG {w : World} {ops : Array Oper} {rest : List Oper} {o : Oper} {a : Act} {Q : Exit → Act → World → Prop} (hgd : o.guard = none) (s x : Operand)
    (ho : o.op = .call { callee := .builtin .append, args := #[s, x], argTypes := #[28, 28] })
    (base : Nat) (v : Value) (bs : List UInt8) (hs : a.eval s = v) (hown : Owned w base v bs) (B : Nat) (A : Option Addr) (m c : Nat) (ys : List UInt8) (hx : a.eval x = .slice A m c) (hr : Holds w B A m ys)
    (h0 : 0 < m) (hlen : bs.length + m ≤ 140737488355328) (hbase : base ≤ w.heap.size)
    (h : ∀ v' w', Owned w' base v' (bs ++ ys) → Below base w w' → (∀ k, k < w.heap.size → v.ownBlock ≠ some k → w'.heap[k]? = w.heap[k]? ∧ v'.ownBlock ≠ some k) → wpList Try.prog ops Q rest (a.put o.dst v') w') : wpList Try.prog ops Q (o :: rest) a w := by
  refine wpList_plain hgd fun K hK => ?_
  have hrun : ∃ v' w', (Builtin.append_ #[28, 28] o.type #[v, .slice A m c]).run Try.prog w = .ok v' w' ∧ Owned w' base v' (bs ++ ys) ∧ Below base w w' ∧ (∀ k, k < w.heap.size → v.ownBlock ≠ some k → w'.heap[k]? = w.heap[k]? ∧ v'.ownBlock ≠ some k) := by
    obtain ⟨i0, hi, hz0, hz1, hz2⟩ := info_parts info_u8
    obtain ⟨hl, hc⟩ := hr
    have hlt := Owned.base_le hown
    obtain ⟨b, off, rfl, hbl, hcell⟩ := hc h0
    have hcells : ∀ j u, (ys.map byteV)[j]? = some u → w.cell? ((⟨b, off, none⟩ : Addr).add j) = some u := by
      intro j u hu
      have hj : j < ys.length := by
        rcases Nat.lt_or_ge j ys.length with h | h
        · exact h
        · rw [List.getElem?_eq_none (by simpa using h)] at hu; cases hu
      have hadd : (⟨b, off, none⟩ : Addr).add j = ⟨b, off + j, none⟩ := by unfold Addr.add; split <;> simp_all
      rw [hadd, hcell j hj]
      simpa [byteV, hj] using hu
    obtain ⟨v', w', hrun, h2, h3, _, h5⟩ := run_append_own_at (P := Try.prog) w base 28 o.type 5 i0 (.int .u8 0) 1 1 Try.underlying28 hi hz0 hz1 hz2 rfl (by decide) v bs.length (bs.map byteV) hown ⟨b, off, none⟩ m c (ys.map byteV) (by simp; omega) hcells
      (by intro u hu; obtain ⟨c, _, rfl⟩ := List.mem_map.1 hu; rfl) (by unfold maxLen; omega) (by omega) hbase
    refine ⟨v', w', hrun, ?_, (Below.refl base w).grown h3 hbase hlt, ?_⟩
    · unfold Owned
      rw [List.length_append, List.map_append, hl]
      exact h2
    · intro k hk hne
      refine ⟨h3.block k hk (fun e => hne e.symm), ?_⟩
      rcases h5 with h5 | h5
      · rw [h5]; exact hne
      · rw [h5]; intro e; injection e with e; omega
  obtain ⟨v', w', hrun, h2, h3, h4⟩ := hrun
  unfold Oper.wp execOp
  simp only [ho, resolve, invoke, builtin, Sem.run_bind, Sem.run_pure, Result.andThen_ok, List.map_toArray, List.map_cons, List.map_nil, hs, hx, hrun]
  exact hK _ _ (h v' w' h2 h3 h4)
end Go.Proofs.Ytmlkhnglmjlfbaa.Gm
