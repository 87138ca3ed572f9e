/- The calls of the program's disk, each against the plain model: what it answers, what the disk is behind it, and that no other block turns. -/
import Derived.Test.YtbmbolgmeehloaaDkRep
namespace Go.Proofs.Ytbmbolgmeehloaa.Disk
set_option maxRecDepth 20000
open Go.RowKit
open Go.Proofs.Ytbmbolgmeehloaa.Mem

/-- The program's disk, at block p: it is this disk of the plain model; so many writes at most; it owns the blocks F. -/
def DiskAt (w : World) (p : Nat) (d : Dk.Dk) (c : Nat) (F : Nat → Prop) : Prop := ∃ L vs vw m, LowAt w p L vs vw m ∧ Rep L d c ∧ ∀ k, F k ↔ Foot p m vs vw k
def ptr (p : Nat) : Value := .pointer (some ⟨p, 0, none⟩)

theorem DiskAt.lt {w : World} {p c : Nat} {d : Dk.Dk} {F : Nat → Prop} (h : DiskAt w p d c F) (k : Nat) (hk : F k) : k < w.heap.size := by
  obtain ⟨L, vs, vw, m, hL, _, hF⟩ := h
  exact hL.foot_lt k ((hF k).1 hk)
theorem DiskAt.turns {w w' : World} {p c : Nat} {d : Dk.Dk} {F G : Nat → Prop} (h : DiskAt w p d c F) (ht : Turns G w w') (hn : ∀ k, F k → ¬ G k) : DiskAt w' p d c F := by
  obtain ⟨L, vs, vw, m, hL, hR, hF⟩ := h
  exact ⟨L, vs, vw, m, hL.turns ht (fun k hk => hn k ((hF k).2 hk)), hR, hF⟩
theorem DiskAt.more {w : World} {p c c' : Nat} {d : Dk.Dk} {F : Nat → Prop} (h : DiskAt w p d c F) (hc : c ≤ c') : DiskAt w p d c' F := by
  obtain ⟨L, vs, vw, m, hL, hR, hF⟩ := h
  exact ⟨L, vs, vw, m, hL, { hR with few := Nat.le_trans hR.few hc }, hF⟩
theorem DiskAt.ok {w : World} {p c : Nat} {d : Dk.Dk} {F : Nat → Prop} (h : DiskAt w p d c F) : d.Ok ∧ 1 ≤ d.stable.length ∧ d.stable.length ≤ 1024 := by
  obtain ⟨L, vs, vw, m, hL, hR, hF⟩ := h
  exact ⟨hR.ok, hR.big⟩

/-- The disk behind a call: what the call answered, and that only its own blocks turned. -/
def Now (w : World) (p : Nat) (d : Dk.Dk) (c : Nat) (F : Nat → Prop) (r : Value) (e : Ending) (w' : World) : Prop :=
  ∃ F', e = .returned r ∧ DiskAt w' p d c F' ∧ (∀ k, F' k → F k ∨ w.heap.size ≤ k) ∧ Turns F w w'

theorem rep_fresh (n c : Nat) (h1 : 1 ≤ n) (h2 : n ≤ 1024) : Rep (freshL n) (Dk.Dk.new n) c := by
  refine ⟨?_, rfl, rfl, fun _ _ => rfl, rfl, rfl, Dk.new_ok n, ?_, (fun x hx => by cases hx), Nat.zero_le _, by simp [freshL]⟩
  · have hz : ∀ b ∈ (Dk.Dk.new n).stable, b.length = 256 := (Dk.new_ok n).len
    apply List.ext_getElem?
    intro j
    rw [flat_idx _ hz]
    simp only [freshL, Dk.Dk.new, List.getElem?_replicate]
    by_cases hj : j < 256 * n
    · rw [if_pos hj, if_pos (by omega)]
      rw [Option.bind_some]
      unfold Dk.zeros
      rw [List.getElem?_replicate, if_pos (by omega)]
    · rw [if_neg hj, if_neg (by omega)]; rfl
  · simp [Dk.Dk.new]; omega

/-- A disk and OK, its blocks being new. -/
def NewAt (w : World) (d : Dk.Dk) (c : Nat) (e : Ending) (w' : World) : Prop := ∃ p F, e = .returned (.tuple #[ptr p, .int .i64 0]) ∧ DiskAt w' p d c F ∧ (∀ k, F k → w.heap.size ≤ k) ∧ Below w.heap.size w w'
theorem new_d (i : Int) (n c : Nat) (w : World) (hi : i = (n : Int)) (h1 : 1 ≤ n) (h2 : n ≤ 1024) : Calls Try.prog 13 #[.int .i64 i] w (NewAt w (Dk.Dk.new n) c) :=
  (new_ok i n w hi h1 h2).mono fun _ _ ⟨p, m, vs, vw, he, hL, hF, hB⟩ => ⟨p, Foot p m vs vw, he, ⟨freshL n, vs, vw, m, hL, rep_fresh n c h1 h2, fun _ => Iff.rfl⟩, hF, hB⟩

theorem rep_write {L : Low} {d : Dk.Dk} {c : Nat} (h : Rep L d c) (hb : d.blown = false) (i : Nat) (data : List UInt8) (hi : i < d.stable.length) (hl : data.length = 256) :
    Rep (Low.burnt { L with ws := L.ws ++ [(i, data)], pend := L.pend + 1 }) (d.write i data) (c + 1) := by
  have hall := h.all hb
  have hg := h.ok.none d hb
  have hok := Dk.write_ok d h.ok i data hi hl
  have hsz := Dk.size_write d i data
  have e : d.write i data = { d with pend := d.pend ++ [(i, data)], fuse := d.fuse.map (· - 1) } := by unfold Dk.Dk.write; rw [if_neg (by simp [hb])]
  rw [e] at hok hsz ⊢
  have hf := h.fused
  have hlf := h.left
  have hfi := h.fits
  have hfw := h.few
  have hpd := h.pend
  have hbl : (Low.burnt { L with ws := L.ws ++ [(i, data)], pend := L.pend + 1 }).ws = L.ws ++ [(i, data)] ∧ (Low.burnt { L with ws := L.ws ++ [(i, data)], pend := L.pend + 1 }).pend = L.pend + 1 ∧
      (Low.burnt { L with ws := L.ws ++ [(i, data)], pend := L.pend + 1 }).st = L.st ∧ (Low.burnt { L with ws := L.ws ++ [(i, data)], pend := L.pend + 1 }).fused = L.fused ∧
      (Low.burnt { L with ws := L.ws ++ [(i, data)], pend := L.pend + 1 }).left = if L.fused then L.left - 1 else L.left := by
    unfold Low.burnt
    cases L.fused <;> simp
  obtain ⟨b1, b2, b3, b4, b5⟩ := hbl
  have hpl : L.pend = L.ws.length := by rw [hall, hpd]
  refine ⟨by rw [b3]; exact h.st, by rw [b2, hpd]; simp, ?_, fun b j => ?_, ?_, ?_, hok, by rw [hsz]; exact h.big, ?_, ?_, ?_⟩
  · rw [b1, b2, hpl, List.take_of_length_le (by simp), hall]
  · rw [b1, b2, hpl, List.drop_eq_nil_of_le (by simp)]
    show _ = Dk.last b d.ghosts j
    rw [hg]
  · rw [b4, hf]; cases d.fuse <;> rfl
  · rw [b5, hf, hlf]; cases d.fuse <;> rfl
  · rw [b1, hsz]
    intro x hx
    rcases List.mem_append.1 hx with hx | hx
    · exact h.each x hx
    · simp at hx; subst hx; exact ⟨hi, hl⟩
  · rw [b1]; simp; omega
  · rw [b5]; split <;> omega

theorem write_d (ii : Int) (i : Nat) (hii : ii = (i : Int)) (b o cb : Nat) (data : List UInt8) (d : Dk.Dk) (p c : Nat) (F : Nat → Prop) (w : World) (h : DiskAt w p d c F) (hb : d.blown = false) (hi : i < d.stable.length) (hl : data.length = 256)
    (hd : w.rangeAt b o (data.map byteV)) (hc : c ≤ 1048576) :
    Calls Try.prog 24 #[ptr p, .int .i64 ii, .slice (some ⟨b, o, none⟩) 256 cb] w (Now w p (d.write i data) (c + 1) F (.int .i64 0)) := by
  obtain ⟨L, vs, vw, m, hL, hR, hF⟩ := h
  refine (write_int ii i hii b o cb data L p m d.stable.length vs vw w hL hR.size hR.big.2 hi hl hd (by have := hR.few; omega) (by have := hR.few; have := hR.le; omega) (by rw [hR.blown]; exact hb) hR.fits).mono ?_
  rintro e w' ⟨vw', he, hL', hfr, ht⟩
  refine ⟨Foot p m vs vw', he, ⟨_, vs, vw', m, hL', rep_write hR hb i data hi hl, fun _ => Iff.rfl⟩, fun k hk => ?_, ht.mono (fun k _ hk => (hF k).2 hk)⟩
  rcases hk with hk | hk | hk | hk
  · exact .inl ((hF k).2 (.inl hk))
  · exact .inl ((hF k).2 (.inr (.inl hk)))
  · exact .inl ((hF k).2 (.inr (.inr (.inl hk))))
  · rcases hfr k hk with e | e
    · exact .inl ((hF k).2 (.inr (.inr (.inr e))))
    · exact .inr e
theorem write_short_d (ii : Int) (i : Nat) (hii : ii = (i : Int)) (A : Option Addr) (k cb : Nat) (d : Dk.Dk) (p c : Nat) (F : Nat → Prop) (w : World) (h : DiskAt w p d c F) (hi : i < d.stable.length) (hk : ¬ k = 256) :
    Calls Try.prog 24 #[ptr p, .int .i64 ii, .slice A k cb] w fun e w' => e = .returned (.int .i64 1) ∧ w = w' := by
  obtain ⟨L, vs, vw, m, hL, hR, hF⟩ := h
  exact write_short ii A k cb L p m d.stable.length vs vw w hL hR.size hR.big.2 (by subst hii; simp [hasB]; omega) hk
theorem write_hasnt_d (ii : Int) (A : Option Addr) (k cb : Nat) (d : Dk.Dk) (p c : Nat) (F : Nat → Prop) (w : World) (h : DiskAt w p d c F) (hi : hasB d.stable.length ii = false) :
    Calls Try.prog 24 #[ptr p, .int .i64 ii, .slice A k cb] w fun e w' => e = .returned (.int .i64 16) ∧ w = w' := by
  obtain ⟨L, vs, vw, m, hL, hR, hF⟩ := h
  exact write_hasnt ii A k cb L p m d.stable.length vs vw w hL hR.size hR.big.2 hi

theorem read_d (ii : Int) (i : Nat) (hii : ii = (i : Int)) (d : Dk.Dk) (p c : Nat) (F : Nat → Prop) (w : World) (h : DiskAt w p d c F) (hi : i < d.stable.length) (hc : c ≤ 1048576) :
    Calls Try.prog 18 #[ptr p, .int .i64 ii] w (Reads w (d.read i)) := by
  obtain ⟨L, vs, vw, m, hL, hR, hF⟩ := h
  have := read_int ii i hii L p m d.stable.length vs vw w hL hR.size hR.big.2 hi (fun x hx => (hR.each x hx).2) (by have := hR.few; omega)
  rwa [hR.read i hi] at this
theorem read_hasnt_d (ii : Int) (d : Dk.Dk) (p c : Nat) (F : Nat → Prop) (w : World) (h : DiskAt w p d c F) (hi : hasB d.stable.length ii = false) :
    Calls Try.prog 18 #[ptr p, .int .i64 ii] w fun e w' => e = .returned (.tuple #[.slice none 0 0, .int .i64 16]) ∧ w = w' := by
  obtain ⟨L, vs, vw, m, hL, hR, hF⟩ := h
  exact read_hasnt ii L p m d.stable.length vs vw w hL hR.size hR.big.2 hi

theorem stable_d (d : Dk.Dk) (p c : Nat) (F : Nat → Prop) (w : World) (h : DiskAt w p d c F) : Calls Try.prog 23 #[ptr p] w (Made w d.stable.flatten) := by
  obtain ⟨L, vs, vw, m, hL, hR, hF⟩ := h
  have := stable_any L p m d.stable.length vs vw w hL hR.size hR.big.1 hR.big.2
  rwa [hR.st] at this
theorem image_d (d : Dk.Dk) (p c : Nat) (F : Nat → Prop) (w : World) (h : DiskAt w p d c F) (hc : c ≤ 1048576) : Calls Try.prog 21 #[ptr p] w (Made w d.image.flatten) := by
  obtain ⟨L, vs, vw, m, hL, hR, hF⟩ := h
  have := image_any L p m d.stable.length vs vw w hL hR.size hR.big.1 hR.big.2 hR.each (by have := hR.few; omega)
  rwa [hR.image] at this
theorem pending_d (d : Dk.Dk) (p c : Nat) (F : Nat → Prop) (w : World) (h : DiskAt w p d c F) : Calls Try.prog 17 #[ptr p] w fun e w' => e = .returned (.int .i64 (d.pend.length : Int)) ∧ w = w' := by
  obtain ⟨L, vs, vw, m, hL, hR, hF⟩ := h
  have := pending_any L p m vs vw w hL
  rwa [hR.pend] at this
theorem size_d (d : Dk.Dk) (p c : Nat) (F : Nat → Prop) (w : World) (h : DiskAt w p d c F) : Calls Try.prog 28 #[ptr p] w fun e w' => e = .returned (.int .i64 (d.stable.length : Int)) ∧ w = w' := by
  obtain ⟨L, vs, vw, m, hL, hR, hF⟩ := h
  exact size_any L p m d.stable.length vs vw w hL hR.size hR.big.2

theorem crash_d (A : Option Addr) (nb cb B : Nat) (bits : List UInt8) (d : Dk.Dk) (p c : Nat) (F : Nat → Prop) (w : World) (h : DiskAt w p d c F) (hc : c ≤ 1048576) (hbits : ∀ w', Turns F w w' → Holds w' B A nb bits) (hnb : nb ≤ maxLen) :
    Calls Try.prog 27 #[ptr p, .slice A nb cb] w (Now w p (d.crash bits) 0 F (.tuple #[])) := by
  obtain ⟨L, vs, vw, m, hL, hR, hF⟩ := h
  refine (crash_any A nb cb B bits L p m d.stable.length vs vw w hL hR.size hR.big.2 hR.each hR.le (by have := hR.few; omega) (fun w' ht => hbits w' (ht.mono (fun k _ hk => (hF k).2 hk))) hnb).mono ?_
  rintro e w' ⟨he, hL', ht⟩
  have hst : crashL bits L.ws L.st L.pend = (d.crash bits).stable.flatten := by
    rw [hR.st, crashL_flat bits L.ws d.stable hR.ok.len hR.each L.pend hR.le, hR.pre]; rfl
  refine ⟨Foot p m vs (.slice none 0 0), he, ⟨_, vs, _, m, hL', ?_, fun _ => Iff.rfl⟩, fun k hk => .inl ((hF k).2 ?_), ht.mono (fun k _ hk => (hF k).2 ?_)⟩
  · refine ⟨hst, rfl, rfl, fun _ _ => rfl, rfl, rfl, Dk.crash_ok d hR.ok bits, by rw [Dk.size_crash]; exact hR.big, fun x hx => (by cases hx), Nat.le_refl _, by simp⟩
  · rcases hk with hk | hk | hk | hk
    · exact .inl hk
    · exact .inr (.inl hk)
    · exact .inr (.inr (.inl hk))
    · cases hk
  · rcases hk with hk | hk | hk
    · exact .inl hk
    · exact .inr (.inl hk)
    · exact .inr (.inr (.inl hk))

theorem burnt_parts (L : Low) : (Low.burnt L).ws = L.ws ∧ (Low.burnt L).pend = L.pend ∧ (Low.burnt L).st = L.st ∧ (Low.burnt L).fused = L.fused ∧ (Low.burnt L).left = if L.fused then L.left - 1 else L.left := by
  unfold Low.burnt
  cases h : L.fused <;> simp [h]
theorem flush_d (d : Dk.Dk) (p c : Nat) (F : Nat → Prop) (w : World) (h : DiskAt w p d c F) (hc : c ≤ 1048576) : Calls Try.prog 26 #[ptr p] w (Now w p d.flush c F (.tuple #[])) := by
  obtain ⟨L, vs, vw, m, hL, hR, hF⟩ := h
  cases hb : d.blown
  · refine (flush_some L p m d.stable.length vs vw w hL hR.size hR.big.2 hR.each (by have := hR.few; omega) (by rw [hR.blown]; exact hb) hR.fits).mono ?_
    rintro e w' ⟨he, hL', ht⟩
    have hall := hR.all hb
    have hst : flushL L.ws L.st L.ws.length = d.flush.stable.flatten := by
      rw [hR.st, flushL_flat L.ws d.stable hR.ok.len hR.each L.ws.length (Nat.le_refl _), List.take_length, hall]
      unfold Dk.Dk.flush; rw [if_neg (by simp [hb])]
    obtain ⟨b1, b2, b3, b4, b5⟩ := burnt_parts { L with st := flushL L.ws L.st L.ws.length, ws := [], pend := 0 }
    refine ⟨Foot p m vs (.slice none 0 0), he, ⟨_, vs, _, m, hL', ?_, fun _ => Iff.rfl⟩, fun k hk => .inl ((hF k).2 ?_), ht.mono (fun k _ hk => (hF k).2 ?_)⟩
    · have e : d.flush = { d with stable := Dk.applyAll d.stable d.pend, pend := [], fuse := d.fuse.map (· - 1) } := by unfold Dk.Dk.flush; rw [if_neg (by simp [hb])]
      refine ⟨by rw [b3]; exact hst, by rw [b2, e]; rfl, by rw [b1, b2, e]; rfl, fun b j => by rw [b1, b2, e]; show _ = Dk.last b d.ghosts j; rw [hR.ok.none d hb]; rfl, ?_, ?_, Dk.flush_ok d hR.ok, by rw [Dk.size_flush]; exact hR.big, fun x hx => (by rw [b1] at hx; cases hx), by rw [b1]; exact Nat.zero_le _, ?_⟩
      · rw [b4, e]; show L.fused = _; rw [hR.fused]; cases d.fuse <;> rfl
      · rw [b5, e]; show (if L.fused = true then L.left - 1 else L.left) = _; rw [hR.fused, hR.left]; cases d.fuse <;> rfl
      · rw [b5]; show (if L.fused = true then L.left - 1 else L.left) ≤ _; have := hR.fits; split <;> omega
    · rcases hk with hk | hk | hk | hk
      · exact .inl hk
      · exact .inr (.inl hk)
      · exact .inr (.inr (.inl hk))
      · cases hk
    · rcases hk with hk | hk | hk
      · exact .inl hk
      · exact .inr (.inl hk)
      · exact .inr (.inr (.inl hk))
  · refine (flush_blown L p m vs vw w hL (by rw [hR.blown]; exact hb)).mono ?_
    rintro e w' ⟨he, rfl⟩
    have e : d.flush = d := by unfold Dk.Dk.flush; rw [if_pos hb]
    rw [e]
    exact ⟨F, he, ⟨L, vs, vw, m, hL, hR, hF⟩, fun k hk => .inl hk, Turns.refl _ _⟩
theorem settle_d (A : Option Addr) (nb cb B : Nat) (bits : List UInt8) (d : Dk.Dk) (p c : Nat) (F : Nat → Prop) (w : World) (h : DiskAt w p d c F) (hc : c ≤ 1048576) (hbits : ∀ w', Turns F w w' → Holds w' B A nb bits) (hnb : nb ≤ maxLen) :
    Calls Try.prog 49 #[ptr p, .slice A nb cb] w (Now w p (d.settle bits) c F (.tuple #[])) := by
  obtain ⟨L, vs, vw, m, hL, hR, hF⟩ := h
  cases hb : d.blown
  · refine (settle_some A nb cb B bits L p m d.stable.length vs vw w hL hR.size hR.big.2 hR.each (by have := hR.few; omega) (by rw [hR.blown]; exact hb) (fun w' ht => hbits w' (ht.mono (fun k _ hk => (hF k).2 hk))) hnb).mono ?_
    rintro e w' ⟨vw', he, hL', hfr, ht⟩
    have hall := hR.all hb
    have e : d.settle bits = { d with stable := Dk.settleFrom bits 0 d.stable d.pend, pend := Dk.keepFrom bits 0 d.pend } := by unfold Dk.Dk.settle; rw [if_neg (by simp [hb])]
    have hst : settleL bits L.ws L.st L.ws.length = (d.settle bits).stable.flatten := by
      rw [hR.st, settleL_flat bits L.ws d.stable hR.ok.len hR.each L.ws.length (Nat.le_refl _), List.take_length, hall, e]
    have hkl := keptL_len bits L.ws L.ws.length
    have hkf := kept_flat bits L.ws
    refine ⟨Foot p m vs vw', he, ⟨_, vs, vw', m, hL', ?_, fun _ => Iff.rfl⟩, fun k hk => ?_, ht.mono (fun k _ hk => (hF k).2 hk)⟩
    · refine ⟨hst, by rw [e]; show (keptL bits L.ws L.ws.length).length = _; rw [hkf, hall], ?_, fun b j => ?_, by rw [e]; exact hR.fused, by rw [e]; exact hR.left, Dk.settle_ok d hR.ok bits, by rw [Dk.size_settle]; exact hR.big, ?_, by have := hR.few; show (keptL bits L.ws L.ws.length).length ≤ c; omega, hR.fits⟩
      · show (keptL bits L.ws L.ws.length).take (keptL bits L.ws L.ws.length).length = _
        rw [List.take_length, hkf, hall, e]
      · show Dk.last b ((keptL bits L.ws L.ws.length).drop (keptL bits L.ws L.ws.length).length) j = _
        rw [List.drop_length, e]
        show _ = Dk.last b d.ghosts j
        rw [hR.ok.none d hb]
      · show ∀ x ∈ keptL bits L.ws L.ws.length, _
        rw [hkf, Dk.size_settle]
        intro x hx
        exact hR.each x (Dk.keep_sub bits _ _ x hx)
    · rcases hk with hk | hk | hk | hk
      · exact .inl ((hF k).2 (.inl hk))
      · exact .inl ((hF k).2 (.inr (.inl hk)))
      · exact .inl ((hF k).2 (.inr (.inr (.inl hk))))
      · exact .inr (hfr k hk)
  · refine (settle_blown A nb cb L p m vs vw w hL (by rw [hR.blown]; exact hb)).mono ?_
    rintro e w' ⟨he, rfl⟩
    have e : d.settle bits = d := by unfold Dk.Dk.settle; rw [if_pos hb]
    rw [e]
    exact ⟨F, he, ⟨L, vs, vw, m, hL, hR, hF⟩, fun k hk => .inl hk, Turns.refl _ _⟩
end Go.Proofs.Ytbmbolgmeehloaa.Disk
