/- The document's disk as a plain one: each call. -/
import Derived.Test.YtkgpdpmdkkmifaaDkRefD
namespace Go.Proofs.Ytkgpdpmdkkmifaa.Disk
set_option maxRecDepth 20000
open Go.RowKit
open Go.Proofs.Ytkgpdpmdkkmifaa.Mem

/-- The blocks in which the Writes' bytes lie. -/
def Own (R : RefLow) (k : Nat) : Prop := ∃ x ∈ R.ws ++ R.gs, ∃ off, x.A = some ⟨k, off, none⟩
theorem RefAt.own {w : World} {r : Nat} {R : RefLow} {vb vw vg : Value} {D : Nat → Prop} (h : RefAt w r R vb vw vg D) : ∀ k, Own R k → D k ∧ k < w.heap.size ∧ ∃ cur, w.heap[k]? = some (.cells cur 5 (0, 0)) := by
  rintro k ⟨x, hx, off, hA⟩
  obtain ⟨_, b, o, e, hD, hb, _, cur, hc⟩ := h.data x hx
  rw [hA] at e
  injection e with e
  injection e with e1 e2
  subst e1
  exact ⟨hD, hb, cur, hc⟩
theorem RefAt.exact {w : World} {r : Nat} {R : RefLow} {vb vw vg : Value} {D : Nat → Prop} (h : RefAt w r R vb vw vg D) : RefAt w r R vb vw vg (Own R) :=
  ⟨h.head, h.st, h.ws, h.gs, fun e => h.far (h.own r e).1, fun x hx => by
    obtain ⟨hl, b, o, e, hD, hb, hr⟩ := h.data x hx
    exact ⟨hl, b, o, e, ⟨x, hx, o, e⟩, hb, hr⟩⟩
theorem RefAt.own_w {w : World} {r : Nat} {R : RefLow} {vb vw vg : Value} {D : Nat → Prop} (h : RefAt w r R vb vw vg D) : ∀ k, Own R k → vw.ownBlock ≠ some k := fun k hk e => by
  obtain ⟨_, _, cur, hc⟩ := h.own k hk
  obtain ⟨cu, h2⟩ := row_type h.ws e
  rw [hc] at h2
  injection h2 with h2
  injection h2 with _ h2
  exact absurd h2 (by decide)
theorem RefAt.own_g {w : World} {r : Nat} {R : RefLow} {vb vw vg : Value} {D : Nat → Prop} (h : RefAt w r R vb vw vg D) : ∀ k, Own R k → vg.ownBlock ≠ some k := fun k hk e => by
  obtain ⟨_, _, cur, hc⟩ := h.own k hk
  obtain ⟨cu, h2⟩ := row_type h.gs e
  rw [hc] at h2
  injection h2 with h2
  injection h2 with _ h2
  exact absurd h2 (by decide)

/-- The document's disk at r is d; its blocks are F. -/
def RefDisk (w : World) (r : Nat) (d : Dk.Dk) (c : Nat) (F : Nat → Prop) : Prop := ∃ R vb vw vg, RefAt w r R vb vw vg (Own R) ∧ RefRep R d c ∧ (∀ k, Own R k → vb.ownBlock ≠ some k) ∧ (∀ k, vw.ownBlock = some k → vg.ownBlock ≠ some k) ∧
  ∀ k, F k ↔ (k = r ∨ vb.ownBlock = some k ∨ vw.ownBlock = some k ∨ vg.ownBlock = some k ∨ Own R k)
theorem RefDisk.lt {w : World} {r c : Nat} {d : Dk.Dk} {F : Nat → Prop} (h : RefDisk w r d c F) (k : Nat) (hk : F k) : k < w.heap.size := by
  obtain ⟨R, vb, vw, vg, hA, _, _, _, hF⟩ := h
  rcases (hF k).1 hk with e | e | e | e | e
  · rw [e]; exact hA.lt
  · exact hA.st.lt e
  · exact hA.ws.lt e
  · exact hA.gs.lt e
  · exact (hA.own k e).2.1
theorem RefDisk.turns {w w' : World} {r c : Nat} {d : Dk.Dk} {F G : Nat → Prop} (h : RefDisk w r d c F) (ht : Turns G w w') (hn : ∀ k, F k → ¬ G k) : RefDisk w' r d c F := by
  obtain ⟨R, vb, vw, vg, hA, hR, h1, h2, hF⟩ := h
  exact ⟨R, vb, vw, vg, hA.turns ht (hn r ((hF r).2 (.inl rfl))) (fun k hk => hn k ((hF k).2 (.inr (.inl hk)))) (fun k hk => hn k ((hF k).2 (.inr (.inr (.inl hk))))) (fun k hk => hn k ((hF k).2 (.inr (.inr (.inr (.inl hk))))))
    (fun k hk => hn k ((hF k).2 (.inr (.inr (.inr (.inr hk)))))), hR, h1, h2, hF⟩

/-- What a call leaves. -/
def RNow (w : World) (r : Nat) (d : Dk.Dk) (c : Nat) (F : Nat → Prop) (v : Value) (e : Ending) (w' : World) : Prop :=
  ∃ F', e = .returned v ∧ RefDisk w' r d c F' ∧ (∀ k, F' k → F k ∨ w.heap.size ≤ k) ∧ Turns F w w'

theorem rflush_d (d : Dk.Dk) (r c : Nat) (F : Nat → Prop) (w : World) (h : RefDisk w r d c F) (hc : c ≤ 1048576) :
    Calls Try.prog 26 #[ptr r] w (RNow w r d.flush c F (.tuple #[])) := by
  have hall := h
  obtain ⟨R, vb, vw, vg, hA, hR, h1, h2, hF⟩ := h
  cases hb : d.blown
  · refine (refFlush_some R r d.stable.length vb vw vg (Own R) w hA hR.size (by have := hR.big; omega) hR.big.2 hR.blk (by have := hR.few; omega) (by rw [hR.blown]; exact hb) hR.fits h1).mono ?_
    rintro e w' ⟨he, hA', ht⟩
    have hsub : ∀ k, Own { (R.flushed R.ws.length).tick with ws := [] } k → Own R k := by
      rintro k ⟨x, hx, o, e⟩
      exact ⟨x, List.mem_append_right _ (by simpa [RefLow.flushed, RefLow.tick] using hx), o, e⟩
    refine ⟨fun k => k = r ∨ vb.ownBlock = some k ∨ (Value.slice none 0 0).ownBlock = some k ∨ vg.ownBlock = some k ∨ Own { (R.flushed R.ws.length).tick with ws := [] } k, he, ⟨_, vb, _, vg, hA'.exact, hR.flush hb, fun k hk => h1 k (hsub k hk), fun k hk => by simp [Value.ownBlock] at hk, fun _ => Iff.rfl⟩, fun k hk => ?_, ht.mono (fun k _ hk => ?_)⟩
    · rcases hk with e | e | e | e | e
      · exact .inl ((hF k).2 (.inl e))
      · exact .inl ((hF k).2 (.inr (.inl e)))
      · simp [Value.ownBlock] at e
      · exact .inl ((hF k).2 (.inr (.inr (.inr (.inl e)))))
      · exact .inl ((hF k).2 (.inr (.inr (.inr (.inr (hsub k e))))))
    · rcases hk with e | e
      · exact (hF k).2 (.inl e)
      · exact (hF k).2 (.inr (.inl e))
  · refine (refFlush_blown R r vb vw vg (Own R) w hA (by rw [hR.blown]; exact hb)).mono ?_
    rintro e w' ⟨he, rfl⟩
    have e1 : d.flush = d := by unfold Dk.Dk.flush; rw [if_pos hb]
    rw [e1]
    exact ⟨F, he, hall, fun k hk => .inl hk, Turns.refl _ _⟩
theorem rcrash_d (A : Option Addr) (nb cb B : Nat) (bits : List UInt8) (d : Dk.Dk) (r c : Nat) (F : Nat → Prop) (w : World) (h : RefDisk w r d c F) (hc : c ≤ 1048576) (hbits : ∀ w', Turns F w w' → Holds w' B A nb bits) (hnb : nb ≤ maxLen) :
    Calls Try.prog 31 #[ptr r, .slice A nb cb] w (RNow w r (d.crash bits) c F (.tuple #[])) := by
  obtain ⟨R, vb, vw, vg, hA, hR, h1, h2, hF⟩ := h
  have hsub : ∀ k, (k = r ∨ vb.ownBlock = some k) → F k := fun k hk => hk.elim (fun e => (hF k).2 (.inl e)) (fun e => (hF k).2 (.inr (.inl e)))
  refine (refCrash_any A nb cb B bits R r d.stable.length vb vw vg (Own R) w hA hR.size (by have := hR.big; omega) hR.big.2 hR.blk (by have := hR.few; omega) (fun w' ht => hbits w' (ht.mono (fun k _ hk => hsub k hk))) hnb h1).mono ?_
  rintro e w' ⟨he, hA', ht⟩
  have hno : ∀ k, ¬ Own { st := (R.crashed bits R.ws.length).st, ws := [], gs := [], set := false, left := 0 } k := by
    rintro k ⟨x, hx, _⟩
    simp at hx
  refine ⟨fun k => k = r ∨ vb.ownBlock = some k, he, ⟨_, vb, _, _, hA'.exact, hR.crash bits, fun k hk => absurd hk (hno k), fun k hk => by simp [Value.ownBlock] at hk, fun k => ⟨fun e => e.elim .inl (fun e => .inr (.inl e)), fun e => ?_⟩⟩, fun k hk => .inl (hsub k hk), ht.mono (fun k _ hk => hsub k hk)⟩
  rcases e with e | e | e | e | e
  · exact .inl e
  · exact .inr e
  · simp [Value.ownBlock] at e
  · simp [Value.ownBlock] at e
  · exact absurd e (hno k)
theorem rsettle_d (A : Option Addr) (nb cb B : Nat) (bits : List UInt8) (d : Dk.Dk) (r c : Nat) (F : Nat → Prop) (w : World) (h : RefDisk w r d c F) (hc : c ≤ 1048576) (hbits : ∀ w', Turns F w w' → Holds w' B A nb bits) (hnb : nb ≤ maxLen) :
    Calls Try.prog 28 #[ptr r, .slice A nb cb] w (RNow w r (d.settle bits) c F (.tuple #[])) := by
  have hall := h
  obtain ⟨R, vb, vw, vg, hA, hR, h1, h2, hF⟩ := h
  have hsub : ∀ k, (k = r ∨ vb.ownBlock = some k) → F k := fun k hk => hk.elim (fun e => (hF k).2 (.inl e)) (fun e => (hF k).2 (.inr (.inl e)))
  cases hb : d.blown
  · refine (refSettle_some A nb cb B bits R r d.stable.length vb vw vg (Own R) w hA (by rw [hR.blown]; exact hb) hR.size (by have := hR.big; omega) hR.big.2 hR.blk (by have := hR.few; omega) (fun w' ht => hbits w' (ht.mono (fun k _ hk => hsub k hk))) hnb h1 (fun k hk => (hA.own k hk).2.1)).mono ?_
    rintro e w' ⟨he, vw', hA', ht, hnew⟩
    have hso : ∀ k, Own { R with st := (R.settled bits R.ws.length).st, ws := keptR (goneF bits (blkOf R) R.ws.length) R.ws R.ws.length } k → Own R k := by
      rintro k ⟨x, hx, o, e⟩
      refine ⟨x, ?_, o, e⟩
      rcases List.mem_append.1 hx with hx | hx
      · exact List.mem_append_left _ (keptR_mem _ _ _ _ hx)
      · exact List.mem_append_right _ hx
    refine ⟨fun k => k = r ∨ vb.ownBlock = some k ∨ vw'.ownBlock = some k ∨ vg.ownBlock = some k ∨ Own { R with st := (R.settled bits R.ws.length).st, ws := keptR (goneF bits (blkOf R) R.ws.length) R.ws R.ws.length } k, he, ⟨_, vb, vw', vg, hA'.exact, hR.settle bits hb, fun k hk => h1 k (hso k hk), fun k hk e => ?_, fun _ => Iff.rfl⟩, fun k hk => ?_, ht.mono (fun k _ hk => hsub k hk)⟩
    · have := hnew k hk
      have := hA.gs.lt e
      omega
    · rcases hk with e | e | e | e | e
      · exact .inl ((hF k).2 (.inl e))
      · exact .inl ((hF k).2 (.inr (.inl e)))
      · exact .inr (hnew k e)
      · exact .inl ((hF k).2 (.inr (.inr (.inr (.inl e)))))
      · exact .inl ((hF k).2 (.inr (.inr (.inr (.inr (hso k e))))))
  · refine (refSettle_blown A nb cb R r vb vw vg (Own R) w hA (by rw [hR.blown]; exact hb)).mono ?_
    rintro e w' ⟨he, rfl⟩
    have e1 : d.settle bits = d := by unfold Dk.Dk.settle; rw [if_pos hb]
    rw [e1]
    exact ⟨F, he, hall, fun k hk => .inl hk, Turns.refl _ _⟩
theorem rfuse_d (n : Int) (hn : n ≤ 9223372036854775807) (d : Dk.Dk) (r c : Nat) (F : Nat → Prop) (w : World) (h : RefDisk w r d c F) :
    Calls Try.prog 30 #[ptr r, .int .i64 n] w (RNow w r (d.setFuse n) c F (.tuple #[])) := by
  obtain ⟨R, vb, vw, vg, hA, hR, h1, h2, hF⟩ := h
  refine (refFuse_any n R r vb vw vg (Own R) w hA).mono ?_
  rintro e w' ⟨he, hA', ht⟩
  have e1 : Own (R.fuse n) = Own R := by
    funext k
    unfold RefLow.fuse
    split <;> rfl
  refine ⟨F, he, ⟨_, vb, vw, vg, by rw [e1]; exact hA', hR.fuse n hn, by rw [e1]; exact h1, h2, by rw [e1]; exact hF⟩, fun k hk => .inl hk, ht.mono (fun k _ hk => (hF k).2 (.inl hk))⟩
theorem rread_d (i : Nat) (d : Dk.Dk) (r c : Nat) (F : Nat → Prop) (w : World) (h : RefDisk w r d c F) (hc : c ≤ 1048576) (hi : i < d.stable.length) :
    Calls Try.prog 12 #[ptr r, .int .i64 (i : Int)] w fun e w' => ∃ v, e = .returned (.tuple #[v, .int .i64 0]) ∧ Owned w' w.heap.size v (d.read i) ∧ Below w.heap.size w w' := by
  obtain ⟨R, vb, vw, vg, hA, hR, h1, h2, hF⟩ := h
  have := refRead_some i d.stable.length R r vb vw vg (Own R) w hA hR.size hR.big.2 hi (by have := hR.few; omega) (by have := hR.few; omega)
  rw [hR.read i hi] at this
  exact this
theorem rimage_d (d : Dk.Dk) (r c : Nat) (F : Nat → Prop) (w : World) (h : RefDisk w r d c F) (hc : c ≤ 1048576) :
    Calls Try.prog 15 #[ptr r] w fun e w' => ∃ v, e = .returned v ∧ Owned w' w.heap.size v d.image.flatten ∧ Below w.heap.size w w' := by
  obtain ⟨R, vb, vw, vg, hA, hR, h1, h2, hF⟩ := h
  have := refImage_any d.stable.length R r vb vw vg (Own R) w hA hR.size hR.big.2 (by have := hR.few; omega) (by have := hR.few; omega)
  rw [hR.image] at this
  exact this
theorem rwrite_d (i : Nat) (A : Option Addr) (cb B : Nat) (data : List UInt8) (d : Dk.Dk) (r c : Nat) (F : Nat → Prop) (w : World) (h : RefDisk w r d c F) (hc : c ≤ 1048576) (hi : i < d.stable.length) (hd : Holds w B A 256 data) (hB : B ≤ w.heap.size) :
    Calls Try.prog 25 #[ptr r, .int .i64 (i : Int), .slice A 256 cb] w (RNow w r (d.write i data) (c + 1) F (.int .i64 0)) := by
  obtain ⟨R, vb, vw, vg, hA, hR, h1, h2, hF⟩ := h
  have hl : data.length = 256 := hd.1
  have hto : ∀ (R' : RefLow) (vw' vg' : Value) (D' : Nat → Prop) (w' : World), Wrote w w' r R' vb vw vg vw' vg' (Own R) D' → RefRep R' (d.write i data) (c + 1) → (vw' = vw ∨ vg' = vg) → RNow w r (d.write i data) (c + 1) F (.int .i64 0) (.returned (.int .i64 0)) w' := by
    intro R' vw' vg' D' w' hW hR' hor
    have hsub : ∀ k, Own R' k → Own R k ∨ w.heap.size ≤ k := fun k hk => hW.more k (hW.at_.own k hk).1
    refine ⟨fun k => k = r ∨ vb.ownBlock = some k ∨ vw'.ownBlock = some k ∨ vg'.ownBlock = some k ∨ Own R' k, rfl, ⟨R', vb, vw', vg', hW.at_.exact, hR', fun k hk e => ?_, fun k hk e => ?_, fun _ => Iff.rfl⟩, fun k hk => ?_, hW.turns.mono (fun k _ hk => ?_)⟩
    · rcases hsub k hk with hk | hk
      · exact h1 k hk e
      · have := hA.st.lt e; omega
    · rcases hor with rfl | rfl
      · rcases hW.rowG k e with e' | e'
        · exact h2 k hk e'
        · have := hA.ws.lt hk; omega
      · rcases hW.rowW k hk with e' | e'
        · exact h2 k e' e
        · have := hA.gs.lt e; omega
    · rcases hk with e | e | e | e | e
      · exact .inl ((hF k).2 (.inl e))
      · exact .inl ((hF k).2 (.inr (.inl e)))
      · rcases hW.rowW k e with e | e
        · exact .inl ((hF k).2 (.inr (.inr (.inl e))))
        · exact .inr e
      · rcases hW.rowG k e with e | e
        · exact .inl ((hF k).2 (.inr (.inr (.inr (.inl e)))))
        · exact .inr e
      · rcases hsub k e with e | e
        · exact .inl ((hF k).2 (.inr (.inr (.inr (.inr e)))))
        · exact .inr e
    · rcases hk with e | e | e
      · exact (hF k).2 (.inl e)
      · exact (hF k).2 (.inr (.inr (.inl e)))
      · exact (hF k).2 (.inr (.inr (.inr (.inl e))))
  cases hb : d.blown
  · refine (refWrite_pend i A cb B d.stable.length data R r vb vw vg (Own R) w hA hR.size hR.big.2 hi hd hB (by rw [hR.blown]; exact hb) hR.fits (by have := hR.few; omega) (fun k hk => hA.own_w k hk) h2).mono ?_
    rintro e w' ⟨A2, c2, vw', D', rfl, hW⟩
    exact hto _ vw' vg D' w' hW (hR.write ⟨i, A2, c2, data⟩ hb hi hl) (.inr rfl)
  · refine (refWrite_ghost i A cb B d.stable.length data R r vb vw vg (Own R) w hA hR.size hR.big.2 hi hd hB (by rw [hR.blown]; exact hb) (by have := hR.few; omega) (fun k hk => hA.own_g k hk) (fun k hk e => h2 k e hk)).mono ?_
    rintro e w' ⟨A2, c2, vg', D', rfl, hW⟩
    exact hto _ vw vg' D' w' hW (hR.ghost ⟨i, A2, c2, data⟩ hb hi hl) (.inl rfl)
theorem rnew_d (n : Nat) (w : World) (h1 : 1 ≤ n) (h2 : n ≤ 1024) :
    Calls Try.prog 7 #[.int .i64 (n : Int)] w fun e w' => ∃ r F, e = .returned (.tuple #[ptr r, .int .i64 0]) ∧ RefDisk w' r (Dk.Dk.new n) 0 F ∧ (∀ k, F k → w.heap.size ≤ k) ∧ Below w.heap.size w w' := by
  refine (refNew_ok n w h1 h2).mono ?_
  rintro e w' ⟨r, vb, he, hA, hr, hv, hb⟩
  have hno : ∀ k, ¬ Own ⟨List.replicate (256 * n) 0, [], [], false, 0⟩ k := by
    rintro k ⟨x, hx, _⟩
    simp at hx
  have hst : List.replicate (256 * n) (0 : UInt8) = (Dk.Dk.new n).stable.flatten := (rep_fresh n 0 h1 h2).st
  refine ⟨r, fun k => k = r ∨ vb.ownBlock = some k, he, ⟨_, vb, _, _, hA.exact, ⟨hst, rfl, rfl, rfl, rfl, Dk.new_ok n, ?_, Nat.le_refl _, by show (0 : Nat) ≤ _; omega⟩, fun k hk => absurd hk (hno k), fun k hk => by simp [Value.ownBlock] at hk, fun k => ⟨fun e => e.elim .inl (fun e => .inr (.inl e)), fun e => ?_⟩⟩, fun k hk => ?_, hb⟩
  · have : (Dk.Dk.new n).stable.length = n := by simp [Dk.Dk.new]
    omega
  · rcases e with e | e | e | e | e
    · exact .inl e
    · exact .inr e
    · simp [Value.ownBlock] at e
    · simp [Value.ownBlock] at e
    · exact absurd e (hno k)
  · rcases hk with e | e
    · omega
    · exact hv k e
end Go.Proofs.Ytkgpdpmdkkmifaa.Disk
