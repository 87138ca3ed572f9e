/- The document's disk as a plain one: each call. -/
import Derived.Test.YtelnoibfamcnmaaGreatDkRefR
import Derived.Test.YtelnoibfamcnmaaGreatDkApi
namespace Go.Proofs.YtelnoibfamcnmaaGreat.Disk
set_option maxRecDepth 20000
open Go.Proofs.YtelnoibfamcnmaaGreat.Mem


/-- The document's disk is this plain one. -/
structure RefRep (R : RefLow) (d : Dk.Dk) (c : Nat) : Prop where
  st : R.st = d.stable.flatten
  ws : R.ws.map WrAt.plain = d.pend
  gs : R.gs.map WrAt.plain = d.ghosts
  set : R.set = d.fuse.isSome
  left : R.left = d.fuse.getD 0
  ok : d.Ok
  big : 1 ≤ d.stable.length ∧ d.stable.length ≤ 1024
  few : R.ws.length + R.gs.length ≤ c
  fits : R.left ≤ 9223372036854775807
theorem RefRep.size {R : RefLow} {d : Dk.Dk} {c : Nat} (h : RefRep R d c) : R.st.length = 256 * d.stable.length := by rw [h.st]; exact flat_size _ h.ok.len
theorem RefRep.blown {R : RefLow} {d : Dk.Dk} {c : Nat} (h : RefRep R d c) : R.blown = d.blown := by
  unfold RefLow.blown Dk.Dk.blown
  rw [h.set, h.left]
  cases d.fuse with
  | none => rfl
  | some k =>
    simp
    rw [Bool.eq_iff_iff]; simp
theorem RefRep.blk {R : RefLow} {d : Dk.Dk} {c : Nat} (h : RefRep R d c) : ∀ x ∈ R.ws, x.blk < d.stable.length := fun x hx => by
  have := (h.ok.pend x.plain (by rw [← h.ws]; exact List.mem_map_of_mem hx)).1
  exact this
theorem RefRep.each {R : RefLow} {d : Dk.Dk} {c : Nat} (h : RefRep R d c) : ∀ x ∈ R.ws.map WrAt.plain, x.1 < d.stable.length ∧ x.2.length = 256 := fun x hx => by
  rw [h.ws] at hx; exact h.ok.pend x hx
theorem RefRep.read {R : RefLow} {d : Dk.Dk} {c : Nat} (h : RefRep R d c) (i : Nat) (hi : i < d.stable.length) : readR R i = d.read i := by
  unfold readR Dk.Dk.read
  rw [h.ws, h.gs, h.st, flat_block _ h.ok.len i hi]
theorem RefRep.image {R : RefLow} {d : Dk.Dk} {c : Nat} (h : RefRep R d c) : imageR R d.stable.length = d.image.flatten := by
  unfold imageR Dk.Dk.image
  rw [List.flatMap_def]
  congr 1
  apply List.map_congr_left
  intro i hi
  exact h.read i (List.mem_range.1 hi)
theorem RefRep.tick {R : RefLow} {d : Dk.Dk} {c : Nat} (h : RefRep R d c) : R.tick.set = (d.fuse.map (· - 1)).isSome ∧ R.tick.left = (d.fuse.map (· - 1)).getD 0 ∧ R.tick.left ≤ 9223372036854775807 := by
  have h1 := h.set
  have h2 := h.left
  have h3 := h.fits
  unfold RefLow.tick
  cases hf : d.fuse with
  | none => rw [hf] at h1 h2; simp at h1 h2; simp [h1, h2]
  | some k =>
    rw [hf] at h1 h2
    simp at h1 h2
    simp [h1, h2]
    omega
theorem RefRep.flush {R : RefLow} {d : Dk.Dk} {c : Nat} (h : RefRep R d c) (hb : d.blown = false) : RefRep { (R.flushed R.ws.length).tick with ws := [] } d.flush c := by
  have e : d.flush = { d with stable := Dk.applyAll d.stable d.pend, pend := [], fuse := d.fuse.map (· - 1) } := by unfold Dk.Dk.flush; rw [if_neg (by simp [hb])]
  have hok := Dk.flush_ok d h.ok
  have ht := h.tick
  have hl : d.flush.stable.length = d.stable.length := Dk.size_flush d
  rw [e] at hok hl ⊢
  refine ⟨?_, rfl, h.gs, ht.1, ht.2.1, hok, by rw [hl]; exact h.big, by have := h.few; show 0 + R.gs.length ≤ c; omega, ht.2.2⟩
  show flushL (R.ws.map WrAt.plain) R.st R.ws.length = _
  have := flushL_flat (R.ws.map WrAt.plain) d.stable h.ok.len h.each R.ws.length (by simp)
  rw [h.st, this, List.take_of_length_le (by simp), h.ws]
theorem RefRep.crash {R : RefLow} {d : Dk.Dk} {c : Nat} (h : RefRep R d c) (bits : List UInt8) :
    RefRep { st := (R.crashed bits R.ws.length).st, ws := [], gs := [], set := false, left := 0 } (d.crash bits) c := by
  have hok := Dk.crash_ok d h.ok bits
  have hl : (d.crash bits).stable.length = d.stable.length := Dk.size_crash d bits
  refine ⟨?_, rfl, rfl, rfl, rfl, hok, by rw [hl]; exact h.big, Nat.zero_le _, by show (0 : Nat) ≤ _; omega⟩
  show crashL bits (R.ws.map WrAt.plain) R.st R.ws.length = _
  have := crashL_flat bits (R.ws.map WrAt.plain) d.stable h.ok.len h.each R.ws.length (by simp)
  rw [h.st, this, List.take_of_length_le (by simp), h.ws]; rfl
theorem RefRep.write {R : RefLow} {d : Dk.Dk} {c : Nat} (h : RefRep R d c) (x : WrAt) (hb : d.blown = false) (hi : x.blk < d.stable.length) (hl : x.data.length = 256) : RefRep (R.tick.addW x) (d.write x.blk x.data) (c + 1) := by
  have e : d.write x.blk x.data = { d with pend := d.pend ++ [(x.blk, x.data)], fuse := d.fuse.map (· - 1) } := by unfold Dk.Dk.write; rw [if_neg (by simp [hb])]
  have hok := Dk.write_ok d h.ok x.blk x.data hi hl
  have ht := h.tick
  rw [e] at hok ⊢
  refine ⟨h.st, ?_, h.gs, ht.1, ht.2.1, hok, h.big, ?_, ht.2.2⟩
  · show (R.ws ++ [x]).map WrAt.plain = _
    rw [List.map_append, h.ws]; rfl
  · have := h.few
    show (R.ws ++ [x]).length + R.gs.length ≤ c + 1
    rw [List.length_append]; simp; omega
theorem RefRep.ghost {R : RefLow} {d : Dk.Dk} {c : Nat} (h : RefRep R d c) (x : WrAt) (hb : d.blown = true) (hi : x.blk < d.stable.length) (hl : x.data.length = 256) : RefRep (R.addG x) (d.write x.blk x.data) (c + 1) := by
  have e : d.write x.blk x.data = { d with ghosts := d.ghosts ++ [(x.blk, x.data)] } := by unfold Dk.Dk.write; rw [if_pos hb]
  have hok := Dk.write_ok d h.ok x.blk x.data hi hl
  rw [e] at hok ⊢
  refine ⟨h.st, h.ws, ?_, h.set, h.left, hok, h.big, ?_, h.fits⟩
  · show (R.gs ++ [x]).map WrAt.plain = _
    rw [List.map_append, h.gs]; rfl
  · have := h.few
    show R.ws.length + (R.gs ++ [x]).length ≤ c + 1
    rw [List.length_append]; simp; omega
theorem RefRep.fuse {R : RefLow} {d : Dk.Dk} {c : Nat} (h : RefRep R d c) (n : Int) (hn : n ≤ 9223372036854775807) : RefRep (R.fuse n) (d.setFuse n) c := by
  have hok := Dk.fuse_ok d h.ok n
  have hbl := h.blown
  unfold RefLow.fuse
  unfold Dk.Dk.setFuse at hok ⊢
  rw [hbl]
  cases hb : d.blown
  · rw [hb] at hok
    simp only [Bool.false_eq_true, if_false] at hok ⊢
    refine ⟨h.st, h.ws, h.gs, ?_, ?_, hok, h.big, h.few, by show n.toNat ≤ _; omega⟩
    · show decide (0 ≤ n) = _
      by_cases hx : n < 0
      · simp [hx]
      · simp [hx]; omega
    · show n.toNat = _
      by_cases hx : n < 0
      · simp [hx]; omega
      · simp [hx]
  · simp only [if_true]
    exact h
end Go.Proofs.YtelnoibfamcnmaaGreat.Disk

namespace Go.Proofs.YtelnoibfamcnmaaGreat.Disk
set_option maxRecDepth 20000
open Go.RowKit
open Go.Proofs.YtelnoibfamcnmaaGreat.Mem

/-- The blocks in which the Writes' bytes lie. -/
def Own (R : RefLow) (k : Nat) : Prop := ∃ x ∈ R.ws ++ R.gs, ∃ off, x.A = some ⟨k, off, none⟩
theorem RefAt.own {w : World} {r : Nat} {R : RefLow} {vb vw vg : Value} {D : Nat → Prop} (h : RefAt w r R vb vw vg D) : ∀ k, Own R k → D k ∧ k < w.heap.size ∧ ∃ cur, w.heap[k]? = some (.cells cur 5 (0, 0)) := by
  rintro k ⟨x, hx, off, hA⟩
  obtain ⟨_, b, o, e, hD, hb, _, cur, hc⟩ := h.data x hx
  rw [hA] at e
  injection e with e
  injection e with e1 e2
  subst e1
  exact ⟨hD, hb, cur, hc⟩
theorem RefAt.exact {w : World} {r : Nat} {R : RefLow} {vb vw vg : Value} {D : Nat → Prop} (h : RefAt w r R vb vw vg D) : RefAt w r R vb vw vg (Own R) :=
  ⟨h.head, h.st, h.ws, h.gs, fun e => h.far (h.own r e).1, fun x hx => by
    obtain ⟨hl, b, o, e, hD, hb, hr⟩ := h.data x hx
    exact ⟨hl, b, o, e, ⟨x, hx, o, e⟩, hb, hr⟩⟩
theorem RefAt.own_w {w : World} {r : Nat} {R : RefLow} {vb vw vg : Value} {D : Nat → Prop} (h : RefAt w r R vb vw vg D) : ∀ k, Own R k → vw.ownBlock ≠ some k := fun k hk e => by
  obtain ⟨_, _, cur, hc⟩ := h.own k hk
  obtain ⟨cu, h2⟩ := row_type h.ws e
  rw [hc] at h2
  injection h2 with h2
  injection h2 with _ h2
  exact absurd h2 (by decide)
theorem RefAt.own_g {w : World} {r : Nat} {R : RefLow} {vb vw vg : Value} {D : Nat → Prop} (h : RefAt w r R vb vw vg D) : ∀ k, Own R k → vg.ownBlock ≠ some k := fun k hk e => by
  obtain ⟨_, _, cur, hc⟩ := h.own k hk
  obtain ⟨cu, h2⟩ := row_type h.gs e
  rw [hc] at h2
  injection h2 with h2
  injection h2 with _ h2
  exact absurd h2 (by decide)

/-- The document's disk at r is d; its blocks are F. -/
def RefDisk (w : World) (r : Nat) (d : Dk.Dk) (c : Nat) (F : Nat → Prop) : Prop := ∃ R vb vw vg, RefAt w r R vb vw vg (Own R) ∧ RefRep R d c ∧ (∀ k, Own R k → vb.ownBlock ≠ some k) ∧ (∀ k, vw.ownBlock = some k → vg.ownBlock ≠ some k) ∧
  ∀ k, F k ↔ (k = r ∨ vb.ownBlock = some k ∨ vw.ownBlock = some k ∨ vg.ownBlock = some k ∨ Own R k)
theorem RefDisk.lt {w : World} {r c : Nat} {d : Dk.Dk} {F : Nat → Prop} (h : RefDisk w r d c F) (k : Nat) (hk : F k) : k < w.heap.size := by
  obtain ⟨R, vb, vw, vg, hA, _, _, _, hF⟩ := h
  rcases (hF k).1 hk with e | e | e | e | e
  · rw [e]; exact hA.lt
  · exact hA.st.lt e
  · exact hA.ws.lt e
  · exact hA.gs.lt e
  · exact (hA.own k e).2.1
theorem RefDisk.turns {w w' : World} {r c : Nat} {d : Dk.Dk} {F G : Nat → Prop} (h : RefDisk w r d c F) (ht : Turns G w w') (hn : ∀ k, F k → ¬ G k) : RefDisk w' r d c F := by
  obtain ⟨R, vb, vw, vg, hA, hR, h1, h2, hF⟩ := h
  exact ⟨R, vb, vw, vg, hA.turns ht (hn r ((hF r).2 (.inl rfl))) (fun k hk => hn k ((hF k).2 (.inr (.inl hk)))) (fun k hk => hn k ((hF k).2 (.inr (.inr (.inl hk))))) (fun k hk => hn k ((hF k).2 (.inr (.inr (.inr (.inl hk))))))
    (fun k hk => hn k ((hF k).2 (.inr (.inr (.inr (.inr hk)))))), hR, h1, h2, hF⟩

/-- What a call leaves. -/
def RNow (w : World) (r : Nat) (d : Dk.Dk) (c : Nat) (F : Nat → Prop) (v : Value) (e : Ending) (w' : World) : Prop :=
  ∃ F', e = .returned v ∧ RefDisk w' r d c F' ∧ (∀ k, F' k → F k ∨ w.heap.size ≤ k) ∧ Turns F w w'

theorem rflush_d (d : Dk.Dk) (r c : Nat) (F : Nat → Prop) (w : World) (h : RefDisk w r d c F) (hc : c ≤ 1048576) :
    Calls Tryz.prog 42 #[ptr r] w (RNow w r d.flush c F (.tuple #[])) := by
  have hall := h
  obtain ⟨R, vb, vw, vg, hA, hR, h1, h2, hF⟩ := h
  cases hb : d.blown
  · refine (refFlush_some R r d.stable.length vb vw vg (Own R) w hA hR.size (by have := hR.big; omega) hR.big.2 hR.blk (by have := hR.few; omega) (by rw [hR.blown]; exact hb) hR.fits h1).mono ?_
    rintro e w' ⟨he, hA', ht⟩
    have hsub : ∀ k, Own { (R.flushed R.ws.length).tick with ws := [] } k → Own R k := by
      rintro k ⟨x, hx, o, e⟩
      exact ⟨x, List.mem_append_right _ (by simpa [RefLow.flushed, RefLow.tick] using hx), o, e⟩
    refine ⟨fun k => k = r ∨ vb.ownBlock = some k ∨ (Value.slice none 0 0).ownBlock = some k ∨ vg.ownBlock = some k ∨ Own { (R.flushed R.ws.length).tick with ws := [] } k, he, ⟨_, vb, _, vg, hA'.exact, hR.flush hb, fun k hk => h1 k (hsub k hk), fun k hk => by simp [Value.ownBlock] at hk, fun _ => Iff.rfl⟩, fun k hk => ?_, ht.mono (fun k _ hk => ?_)⟩
    · rcases hk with e | e | e | e | e
      · exact .inl ((hF k).2 (.inl e))
      · exact .inl ((hF k).2 (.inr (.inl e)))
      · simp [Value.ownBlock] at e
      · exact .inl ((hF k).2 (.inr (.inr (.inr (.inl e)))))
      · exact .inl ((hF k).2 (.inr (.inr (.inr (.inr (hsub k e))))))
    · rcases hk with e | e
      · exact (hF k).2 (.inl e)
      · exact (hF k).2 (.inr (.inl e))
  · refine (refFlush_blown R r vb vw vg (Own R) w hA (by rw [hR.blown]; exact hb)).mono ?_
    rintro e w' ⟨he, rfl⟩
    have e1 : d.flush = d := by unfold Dk.Dk.flush; rw [if_pos hb]
    rw [e1]
    exact ⟨F, he, hall, fun k hk => .inl hk, Turns.refl _ _⟩
theorem rread_d (i : Nat) (d : Dk.Dk) (r c : Nat) (F : Nat → Prop) (w : World) (h : RefDisk w r d c F) (hc : c ≤ 1048576) (hi : i < d.stable.length) :
    Calls Tryz.prog 46 #[ptr r, .int .i64 (i : Int)] w fun e w' => ∃ v, e = .returned (.tuple #[v, .int .i64 0]) ∧ Owned w' w.heap.size v (d.read i) ∧ Below w.heap.size w w' := by
  obtain ⟨R, vb, vw, vg, hA, hR, h1, h2, hF⟩ := h
  have := refRead_some i d.stable.length R r vb vw vg (Own R) w hA hR.size hR.big.2 hi (by have := hR.few; omega) (by have := hR.few; omega)
  rw [hR.read i hi] at this
  exact this
theorem rimage_d (d : Dk.Dk) (r c : Nat) (F : Nat → Prop) (w : World) (h : RefDisk w r d c F) (hc : c ≤ 1048576) :
    Calls Tryz.prog 16 #[ptr r] w fun e w' => ∃ v, e = .returned v ∧ Owned w' w.heap.size v d.image.flatten ∧ Below w.heap.size w w' := by
  obtain ⟨R, vb, vw, vg, hA, hR, h1, h2, hF⟩ := h
  have := refImage_any d.stable.length R r vb vw vg (Own R) w hA hR.size hR.big.2 (by have := hR.few; omega) (by have := hR.few; omega)
  rw [hR.image] at this
  exact this
theorem rwrite_d (i : Nat) (A : Option Addr) (cb B : Nat) (data : List UInt8) (d : Dk.Dk) (r c : Nat) (F : Nat → Prop) (w : World) (h : RefDisk w r d c F) (hc : c ≤ 1048576) (hi : i < d.stable.length) (hd : Holds w B A 256 data) (hB : B ≤ w.heap.size) :
    Calls Tryz.prog 43 #[ptr r, .int .i64 (i : Int), .slice A 256 cb] w (RNow w r (d.write i data) (c + 1) F (.int .i64 0)) := by
  obtain ⟨R, vb, vw, vg, hA, hR, h1, h2, hF⟩ := h
  have hl : data.length = 256 := hd.1
  have hto : ∀ (R' : RefLow) (vw' vg' : Value) (D' : Nat → Prop) (w' : World), Wrote w w' r R' vb vw vg vw' vg' (Own R) D' → RefRep R' (d.write i data) (c + 1) → (vw' = vw ∨ vg' = vg) → RNow w r (d.write i data) (c + 1) F (.int .i64 0) (.returned (.int .i64 0)) w' := by
    intro R' vw' vg' D' w' hW hR' hor
    have hsub : ∀ k, Own R' k → Own R k ∨ w.heap.size ≤ k := fun k hk => hW.more k (hW.at_.own k hk).1
    refine ⟨fun k => k = r ∨ vb.ownBlock = some k ∨ vw'.ownBlock = some k ∨ vg'.ownBlock = some k ∨ Own R' k, rfl, ⟨R', vb, vw', vg', hW.at_.exact, hR', fun k hk e => ?_, fun k hk e => ?_, fun _ => Iff.rfl⟩, fun k hk => ?_, hW.turns.mono (fun k _ hk => ?_)⟩
    · rcases hsub k hk with hk | hk
      · exact h1 k hk e
      · have := hA.st.lt e; omega
    · rcases hor with rfl | rfl
      · rcases hW.rowG k e with e' | e'
        · exact h2 k hk e'
        · have := hA.ws.lt hk; omega
      · rcases hW.rowW k hk with e' | e'
        · exact h2 k e' e
        · have := hA.gs.lt e; omega
    · rcases hk with e | e | e | e | e
      · exact .inl ((hF k).2 (.inl e))
      · exact .inl ((hF k).2 (.inr (.inl e)))
      · rcases hW.rowW k e with e | e
        · exact .inl ((hF k).2 (.inr (.inr (.inl e))))
        · exact .inr e
      · rcases hW.rowG k e with e | e
        · exact .inl ((hF k).2 (.inr (.inr (.inr (.inl e)))))
        · exact .inr e
      · rcases hsub k e with e | e
        · exact .inl ((hF k).2 (.inr (.inr (.inr (.inr e)))))
        · exact .inr e
    · rcases hk with e | e | e
      · exact (hF k).2 (.inl e)
      · exact (hF k).2 (.inr (.inr (.inl e)))
      · exact (hF k).2 (.inr (.inr (.inr (.inl e))))
  cases hb : d.blown
  · refine (refWrite_pend i A cb B d.stable.length data R r vb vw vg (Own R) w hA hR.size hR.big.2 hi hd hB (by rw [hR.blown]; exact hb) hR.fits (by have := hR.few; omega) (fun k hk => hA.own_w k hk) h2).mono ?_
    rintro e w' ⟨A2, c2, vw', D', rfl, hW⟩
    exact hto _ vw' vg D' w' hW (hR.write ⟨i, A2, c2, data⟩ hb hi hl) (.inr rfl)
  · refine (refWrite_ghost i A cb B d.stable.length data R r vb vw vg (Own R) w hA hR.size hR.big.2 hi hd hB (by rw [hR.blown]; exact hb) (by have := hR.few; omega) (fun k hk => hA.own_g k hk) (fun k hk e => h2 k e hk)).mono ?_
    rintro e w' ⟨A2, c2, vg', D', rfl, hW⟩
    exact hto _ vw vg' D' w' hW (hR.ghost ⟨i, A2, c2, data⟩ hb hi hl) (.inl rfl)
structure Duo (w W : World) (p r : Nat) (d : Dk.Dk) (c : Nat) (F G : Nat → Prop) : Prop where
  one : DiskAt W p d c F
  two : RefDisk W r d c G
  apart : ∀ k, F k → ¬ G k
  lowF : ∀ k, F k → w.heap.size ≤ k
  lowG : ∀ k, G k → w.heap.size ≤ k
  below : Below w.heap.size w W
theorem Duo.turns {w W W' : World} {p r c : Nat} {d : Dk.Dk} {F G : Nat → Prop} (h : Duo w W p r d c F G) (ht : Turns (fun _ => False) W W') : Duo w W' p r d c F G :=
  ⟨h.one.turns ht (fun _ _ e => e), h.two.turns ht (fun _ _ e => e), h.apart, h.lowF, h.lowG, h.below.trans (ht.below (fun _ e => e.elim) h.below.size)⟩
theorem rsize_d (d : Dk.Dk) (r c : Nat) (F : Nat → Prop) (w : World) (h : RefDisk w r d c F) : Calls Tryz.prog 45 #[.pointer (some ⟨r, 0, none⟩)] w fun e w' => e = .returned (.int .i64 (d.stable.length : Int)) ∧ w = w' := by
  obtain ⟨R, vb, vw, vg, hA, hR, h1, h2, hF⟩ := h
  exact refSize_any R r d.stable.length vb vw vg (Own R) w hA hR.size hR.big.2
theorem DiskAt.later {w V : World} {p c : Nat} {d : Dk.Dk} {F : Nat → Prop} (h : DiskAt w p d c F) (hV : Below w.heap.size w V) : DiskAt V p d c F := h.turns (Turns.of_below (F := fun _ => False) hV) (fun _ _ e => e)
theorem RefDisk.later {w V : World} {p c : Nat} {d : Dk.Dk} {F : Nat → Prop} (h : RefDisk w p d c F) (hV : Below w.heap.size w V) : RefDisk V p d c F := h.turns (Turns.of_below (F := fun _ => False) hV) (fun _ _ e => e)

end Go.Proofs.YtelnoibfamcnmaaGreat.Disk

