/- The document's disk as a plain one: each call. -/
import Derived.Test.YtelnoibfamcnmaaDkRefS
import Derived.Test.YtelnoibfamcnmaaDkApi
namespace Go.Proofs.Ytelnoibfamcnmaa.Disk
set_option maxRecDepth 20000
open Go.Proofs.Ytelnoibfamcnmaa.Mem

theorem goneF_iff (bits : List UInt8) (bl : Nat → Nat) (i : Nat) : ∀ k, goneF bits bl k i = true ↔ ∃ a, i ≤ a ∧ a < k ∧ Dk.bit bits a = true ∧ bl i = bl a
  | 0 => by
    constructor
    · intro h; cases h
    · rintro ⟨a, _, h, _⟩; omega
  | k + 1 => by
    show (goneF bits bl k i || (Dk.bit bits k && (decide (i ≤ k) && bl i == bl k))) = true ↔ _
    rw [Bool.or_eq_true, goneF_iff bits bl i k]
    simp only [Bool.and_eq_true, decide_eq_true_eq, beq_iff_eq]
    constructor
    · rintro (⟨a, h1, h2, h3⟩ | ⟨h1, h2, h3⟩)
      · exact ⟨a, h1, by omega, h3⟩
      · exact ⟨k, h2, by omega, h1, h3⟩
    · rintro ⟨a, h1, h2, h3, h4⟩
      by_cases e : a = k
      · subst e; exact .inr ⟨h3, h1, h4⟩
      · exact .inl ⟨a, h1, by omega, h3, h4⟩
theorem gone_stays (bits : List UInt8) (R : RefLow) (j : Nat) (hj : j < R.ws.length) : goneF bits (blkOf R) R.ws.length j = !stays bits (R.ws.map WrAt.plain) j := by
  have h1 := goneF_iff bits (blkOf R) j R.ws.length
  have h2 := stays_iff bits (R.ws.map WrAt.plain) j (by rw [List.length_map]; exact hj)
  rw [List.length_map] at h2
  rw [Bool.eq_iff_iff, h1]
  cases hs : stays bits (R.ws.map WrAt.plain) j
  · rw [hs] at h2
    simp only [Bool.not_false, iff_true]
    have h3 : ¬ ∀ a, j ≤ a → a < R.ws.length → ¬ (Dk.bit bits a = true ∧ ((R.ws.map WrAt.plain).getD a (0, [])).1 = ((R.ws.map WrAt.plain).getD j (0, [])).1) := fun h => by
      have := h2.2 h; cases this
    by_cases hc : ∃ a, j ≤ a ∧ a < R.ws.length ∧ Dk.bit bits a = true ∧ blkOf R j = blkOf R a
    · exact hc
    · exact absurd (fun a ha hl hb => hc ⟨a, ha, hl, hb.1, hb.2.symm⟩) h3
  · rw [hs] at h2
    simp only [Bool.not_true, Bool.false_eq_true, iff_false]
    rintro ⟨a, ha, hl, hb, he⟩
    exact h2.1 rfl a ha hl ⟨hb, he.symm⟩
theorem keptR_plain (bits : List UInt8) (R : RefLow) : ∀ k, k ≤ R.ws.length → (keptR (goneF bits (blkOf R) R.ws.length) R.ws k).map WrAt.plain = keptL bits (R.ws.map WrAt.plain) k
  | 0, _ => rfl
  | k + 1, hk => by
    have ih := keptR_plain bits R k (by omega)
    have hg := gone_stays bits R k (by omega)
    obtain ⟨x, hx⟩ : ∃ x, R.ws[k]? = some x := ⟨_, List.getElem?_eq_getElem (by omega)⟩
    unfold keptL
    cases hs : stays bits (R.ws.map WrAt.plain) k
    · rw [hs] at hg
      rw [keptR_gone hg, ih]; rfl
    · rw [hs] at hg
      rw [keptR_stays hg hx, List.map_append, ih, if_pos rfl]
      have : (R.ws.map WrAt.plain).getD k (0, []) = x.plain := by rw [List.getD_eq_getElem?_getD, List.getElem?_map, hx]; rfl
      rw [this]; rfl
theorem keptR_flat (bits : List UInt8) (R : RefLow) : (keptR (goneF bits (blkOf R) R.ws.length) R.ws R.ws.length).map WrAt.plain = Dk.keepFrom bits 0 (R.ws.map WrAt.plain) := by
  rw [keptR_plain bits R _ (Nat.le_refl _)]
  have := kept_flat bits (R.ws.map WrAt.plain)
  rwa [List.length_map] at this

/-- The document's disk is this plain one. -/
structure RefRep (R : RefLow) (d : Dk.Dk) (c : Nat) : Prop where
  st : R.st = d.stable.flatten
  ws : R.ws.map WrAt.plain = d.pend
  gs : R.gs.map WrAt.plain = d.ghosts
  set : R.set = d.fuse.isSome
  left : R.left = d.fuse.getD 0
  ok : d.Ok
  big : 1 ≤ d.stable.length ∧ d.stable.length ≤ 1024
  few : R.ws.length + R.gs.length ≤ c
  fits : R.left ≤ 9223372036854775807
theorem RefRep.size {R : RefLow} {d : Dk.Dk} {c : Nat} (h : RefRep R d c) : R.st.length = 256 * d.stable.length := by rw [h.st]; exact flat_size _ h.ok.len
theorem RefRep.blown {R : RefLow} {d : Dk.Dk} {c : Nat} (h : RefRep R d c) : R.blown = d.blown := by
  unfold RefLow.blown Dk.Dk.blown
  rw [h.set, h.left]
  cases d.fuse with
  | none => rfl
  | some k =>
    simp
    rw [Bool.eq_iff_iff]; simp
theorem RefRep.blk {R : RefLow} {d : Dk.Dk} {c : Nat} (h : RefRep R d c) : ∀ x ∈ R.ws, x.blk < d.stable.length := fun x hx => by
  have := (h.ok.pend x.plain (by rw [← h.ws]; exact List.mem_map_of_mem hx)).1
  exact this
theorem RefRep.each {R : RefLow} {d : Dk.Dk} {c : Nat} (h : RefRep R d c) : ∀ x ∈ R.ws.map WrAt.plain, x.1 < d.stable.length ∧ x.2.length = 256 := fun x hx => by
  rw [h.ws] at hx; exact h.ok.pend x hx
theorem RefRep.read {R : RefLow} {d : Dk.Dk} {c : Nat} (h : RefRep R d c) (i : Nat) (hi : i < d.stable.length) : readR R i = d.read i := by
  unfold readR Dk.Dk.read
  rw [h.ws, h.gs, h.st, flat_block _ h.ok.len i hi]
theorem RefRep.image {R : RefLow} {d : Dk.Dk} {c : Nat} (h : RefRep R d c) : imageR R d.stable.length = d.image.flatten := by
  unfold imageR Dk.Dk.image
  rw [List.flatMap_def]
  congr 1
  apply List.map_congr_left
  intro i hi
  exact h.read i (List.mem_range.1 hi)
theorem RefRep.tick {R : RefLow} {d : Dk.Dk} {c : Nat} (h : RefRep R d c) : R.tick.set = (d.fuse.map (· - 1)).isSome ∧ R.tick.left = (d.fuse.map (· - 1)).getD 0 ∧ R.tick.left ≤ 9223372036854775807 := by
  have h1 := h.set
  have h2 := h.left
  have h3 := h.fits
  unfold RefLow.tick
  cases hf : d.fuse with
  | none => rw [hf] at h1 h2; simp at h1 h2; simp [h1, h2]
  | some k =>
    rw [hf] at h1 h2
    simp at h1 h2
    simp [h1, h2]
    omega
theorem RefRep.flush {R : RefLow} {d : Dk.Dk} {c : Nat} (h : RefRep R d c) (hb : d.blown = false) : RefRep { (R.flushed R.ws.length).tick with ws := [] } d.flush c := by
  have e : d.flush = { d with stable := Dk.applyAll d.stable d.pend, pend := [], fuse := d.fuse.map (· - 1) } := by unfold Dk.Dk.flush; rw [if_neg (by simp [hb])]
  have hok := Dk.flush_ok d h.ok
  have ht := h.tick
  have hl : d.flush.stable.length = d.stable.length := Dk.size_flush d
  rw [e] at hok hl ⊢
  refine ⟨?_, rfl, h.gs, ht.1, ht.2.1, hok, by rw [hl]; exact h.big, by have := h.few; show 0 + R.gs.length ≤ c; omega, ht.2.2⟩
  show flushL (R.ws.map WrAt.plain) R.st R.ws.length = _
  have := flushL_flat (R.ws.map WrAt.plain) d.stable h.ok.len h.each R.ws.length (by simp)
  rw [h.st, this, List.take_of_length_le (by simp), h.ws]
theorem RefRep.settle {R : RefLow} {d : Dk.Dk} {c : Nat} (h : RefRep R d c) (bits : List UInt8) (hb : d.blown = false) :
    RefRep { R with st := (R.settled bits R.ws.length).st, ws := keptR (goneF bits (blkOf R) R.ws.length) R.ws R.ws.length } (d.settle bits) c := by
  have e : d.settle bits = { d with stable := Dk.settleFrom bits 0 d.stable d.pend, pend := Dk.keepFrom bits 0 d.pend } := by unfold Dk.Dk.settle; rw [if_neg (by simp [hb])]
  have hok := Dk.settle_ok d h.ok bits
  have hl : (d.settle bits).stable.length = d.stable.length := Dk.size_settle d bits
  rw [e] at hok hl ⊢
  refine ⟨?_, ?_, h.gs, h.set, h.left, hok, by rw [hl]; exact h.big, ?_, h.fits⟩
  · show settleL bits (R.ws.map WrAt.plain) R.st R.ws.length = _
    have := settleL_flat bits (R.ws.map WrAt.plain) d.stable h.ok.len h.each R.ws.length (by simp)
    rw [h.st, this, List.take_of_length_le (by simp), h.ws]
  · show (keptR _ _ _).map WrAt.plain = _
    rw [keptR_flat, h.ws]
  · have h1 := keptR_len (goneF bits (blkOf R) R.ws.length) R.ws R.ws.length
    have h2 := h.few
    show (keptR _ _ _).length + R.gs.length ≤ c
    omega
theorem RefRep.crash {R : RefLow} {d : Dk.Dk} {c : Nat} (h : RefRep R d c) (bits : List UInt8) :
    RefRep { st := (R.crashed bits R.ws.length).st, ws := [], gs := [], set := false, left := 0 } (d.crash bits) c := by
  have hok := Dk.crash_ok d h.ok bits
  have hl : (d.crash bits).stable.length = d.stable.length := Dk.size_crash d bits
  refine ⟨?_, rfl, rfl, rfl, rfl, hok, by rw [hl]; exact h.big, Nat.zero_le _, by show (0 : Nat) ≤ _; omega⟩
  show crashL bits (R.ws.map WrAt.plain) R.st R.ws.length = _
  have := crashL_flat bits (R.ws.map WrAt.plain) d.stable h.ok.len h.each R.ws.length (by simp)
  rw [h.st, this, List.take_of_length_le (by simp), h.ws]; rfl
theorem RefRep.write {R : RefLow} {d : Dk.Dk} {c : Nat} (h : RefRep R d c) (x : WrAt) (hb : d.blown = false) (hi : x.blk < d.stable.length) (hl : x.data.length = 256) : RefRep (R.tick.addW x) (d.write x.blk x.data) (c + 1) := by
  have e : d.write x.blk x.data = { d with pend := d.pend ++ [(x.blk, x.data)], fuse := d.fuse.map (· - 1) } := by unfold Dk.Dk.write; rw [if_neg (by simp [hb])]
  have hok := Dk.write_ok d h.ok x.blk x.data hi hl
  have ht := h.tick
  rw [e] at hok ⊢
  refine ⟨h.st, ?_, h.gs, ht.1, ht.2.1, hok, h.big, ?_, ht.2.2⟩
  · show (R.ws ++ [x]).map WrAt.plain = _
    rw [List.map_append, h.ws]; rfl
  · have := h.few
    show (R.ws ++ [x]).length + R.gs.length ≤ c + 1
    rw [List.length_append]; simp; omega
theorem RefRep.ghost {R : RefLow} {d : Dk.Dk} {c : Nat} (h : RefRep R d c) (x : WrAt) (hb : d.blown = true) (hi : x.blk < d.stable.length) (hl : x.data.length = 256) : RefRep (R.addG x) (d.write x.blk x.data) (c + 1) := by
  have e : d.write x.blk x.data = { d with ghosts := d.ghosts ++ [(x.blk, x.data)] } := by unfold Dk.Dk.write; rw [if_pos hb]
  have hok := Dk.write_ok d h.ok x.blk x.data hi hl
  rw [e] at hok ⊢
  refine ⟨h.st, h.ws, ?_, h.set, h.left, hok, h.big, ?_, h.fits⟩
  · show (R.gs ++ [x]).map WrAt.plain = _
    rw [List.map_append, h.gs]; rfl
  · have := h.few
    show R.ws.length + (R.gs ++ [x]).length ≤ c + 1
    rw [List.length_append]; simp; omega
theorem RefRep.fuse {R : RefLow} {d : Dk.Dk} {c : Nat} (h : RefRep R d c) (n : Int) (hn : n ≤ 9223372036854775807) : RefRep (R.fuse n) (d.setFuse n) c := by
  have hok := Dk.fuse_ok d h.ok n
  have hbl := h.blown
  unfold RefLow.fuse
  unfold Dk.Dk.setFuse at hok ⊢
  rw [hbl]
  cases hb : d.blown
  · rw [hb] at hok
    simp only [Bool.false_eq_true, if_false] at hok ⊢
    refine ⟨h.st, h.ws, h.gs, ?_, ?_, hok, h.big, h.few, by show n.toNat ≤ _; omega⟩
    · show decide (0 ≤ n) = _
      by_cases hx : n < 0
      · simp [hx]
      · simp [hx]; omega
    · show n.toNat = _
      by_cases hx : n < 0
      · simp [hx]; omega
      · simp [hx]
  · simp only [if_true]
    exact h
end Go.Proofs.Ytelnoibfamcnmaa.Disk

namespace Go.Proofs.Ytelnoibfamcnmaa.Disk
set_option maxRecDepth 20000
open Go.RowKit
open Go.Proofs.Ytelnoibfamcnmaa.Mem

/-- The blocks in which the Writes' bytes lie. -/
def Own (R : RefLow) (k : Nat) : Prop := ∃ x ∈ R.ws ++ R.gs, ∃ off, x.A = some ⟨k, off, none⟩
theorem RefAt.own {w : World} {r : Nat} {R : RefLow} {vb vw vg : Value} {D : Nat → Prop} (h : RefAt w r R vb vw vg D) : ∀ k, Own R k → D k ∧ k < w.heap.size ∧ ∃ cur, w.heap[k]? = some (.cells cur 5 (0, 0)) := by
  rintro k ⟨x, hx, off, hA⟩
  obtain ⟨_, b, o, e, hD, hb, _, cur, hc⟩ := h.data x hx
  rw [hA] at e
  injection e with e
  injection e with e1 e2
  subst e1
  exact ⟨hD, hb, cur, hc⟩
theorem RefAt.exact {w : World} {r : Nat} {R : RefLow} {vb vw vg : Value} {D : Nat → Prop} (h : RefAt w r R vb vw vg D) : RefAt w r R vb vw vg (Own R) :=
  ⟨h.head, h.st, h.ws, h.gs, fun e => h.far (h.own r e).1, fun x hx => by
    obtain ⟨hl, b, o, e, hD, hb, hr⟩ := h.data x hx
    exact ⟨hl, b, o, e, ⟨x, hx, o, e⟩, hb, hr⟩⟩
/-- The document's disk at r is d; its blocks are F. -/
def RefDisk (w : World) (r : Nat) (d : Dk.Dk) (c : Nat) (F : Nat → Prop) : Prop := ∃ R vb vw vg, RefAt w r R vb vw vg (Own R) ∧ RefRep R d c ∧ (∀ k, Own R k → vb.ownBlock ≠ some k) ∧ (∀ k, vw.ownBlock = some k → vg.ownBlock ≠ some k) ∧
  ∀ k, F k ↔ (k = r ∨ vb.ownBlock = some k ∨ vw.ownBlock = some k ∨ vg.ownBlock = some k ∨ Own R k)
theorem RefDisk.lt {w : World} {r c : Nat} {d : Dk.Dk} {F : Nat → Prop} (h : RefDisk w r d c F) (k : Nat) (hk : F k) : k < w.heap.size := by
  obtain ⟨R, vb, vw, vg, hA, _, _, _, hF⟩ := h
  rcases (hF k).1 hk with e | e | e | e | e
  · rw [e]; exact hA.lt
  · exact hA.st.lt e
  · exact hA.ws.lt e
  · exact hA.gs.lt e
  · exact (hA.own k e).2.1
theorem RefDisk.turns {w w' : World} {r c : Nat} {d : Dk.Dk} {F G : Nat → Prop} (h : RefDisk w r d c F) (ht : Turns G w w') (hn : ∀ k, F k → ¬ G k) : RefDisk w' r d c F := by
  obtain ⟨R, vb, vw, vg, hA, hR, h1, h2, hF⟩ := h
  exact ⟨R, vb, vw, vg, hA.turns ht (hn r ((hF r).2 (.inl rfl))) (fun k hk => hn k ((hF k).2 (.inr (.inl hk)))) (fun k hk => hn k ((hF k).2 (.inr (.inr (.inl hk))))) (fun k hk => hn k ((hF k).2 (.inr (.inr (.inr (.inl hk))))))
    (fun k hk => hn k ((hF k).2 (.inr (.inr (.inr (.inr hk)))))), hR, h1, h2, hF⟩

/-- What a call leaves. -/
def RNow (w : World) (r : Nat) (d : Dk.Dk) (c : Nat) (F : Nat → Prop) (v : Value) (e : Ending) (w' : World) : Prop :=
  ∃ F', e = .returned v ∧ RefDisk w' r d c F' ∧ (∀ k, F' k → F k ∨ w.heap.size ≤ k) ∧ Turns F w w'

structure Duo (w W : World) (p r : Nat) (d : Dk.Dk) (c : Nat) (F G : Nat → Prop) : Prop where
  one : DiskAt W p d c F
  two : RefDisk W r d c G
  apart : ∀ k, F k → ¬ G k
  lowF : ∀ k, F k → w.heap.size ≤ k
  lowG : ∀ k, G k → w.heap.size ≤ k
  below : Below w.heap.size w W
theorem Duo.turns {w W W' : World} {p r c : Nat} {d : Dk.Dk} {F G : Nat → Prop} (h : Duo w W p r d c F G) (ht : Turns (fun _ => False) W W') : Duo w W' p r d c F G :=
  ⟨h.one.turns ht (fun _ _ e => e), h.two.turns ht (fun _ _ e => e), h.apart, h.lowF, h.lowG, h.below.trans (ht.below (fun _ e => e.elim) h.below.size)⟩
theorem DiskAt.later {w V : World} {p c : Nat} {d : Dk.Dk} {F : Nat → Prop} (h : DiskAt w p d c F) (hV : Below w.heap.size w V) : DiskAt V p d c F := h.turns (Turns.of_below (F := fun _ => False) hV) (fun _ _ e => e)
theorem RefDisk.later {w V : World} {p c : Nat} {d : Dk.Dk} {F : Nat → Prop} (h : RefDisk w p d c F) (hV : Below w.heap.size w V) : RefDisk V p d c F := h.turns (Turns.of_below (F := fun _ => False) hV) (fun _ _ e => e)

end Go.Proofs.Ytelnoibfamcnmaa.Disk

