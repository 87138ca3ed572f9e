/- Writing to any disk, and setting its fuse, against the plain model. -/
import Derived.Test.YtelnoibfamcnmaaGreatDkNil
import Derived.Test.YtelnoibfamcnmaaGreatDkApi
namespace Go.Proofs.YtelnoibfamcnmaaGreat.Disk
set_option maxRecDepth 20000
open Go.RowKit
open Go.Proofs.YtelnoibfamcnmaaGreat.Mem

theorem lastAt_split (b : Nat) (ws : List Wr) : ∀ k, lastAt (nums ws) b = some k → ∃ A y B, ws = A ++ y :: B ∧ A.length = k ∧ y.1 = b ∧ ∀ z ∈ B, z.1 ≠ b := by
  induction ws using rev_ind with
  | h0 => intro k h; cases h
  | h1 l x ih =>
    intro k h
    simp only [nums, List.map_append, List.map_cons, List.map_nil] at h
    rw [lastAt_snoc, List.length_map] at h
    split at h
    · rename_i e
      injection h with h
      exact ⟨l, x, [], by simp, h, e, fun z hz => by cases hz⟩
    · rename_i e
      obtain ⟨A, y, B, h1, h2, h3, h4⟩ := ih k h
      refine ⟨A, y, B ++ [x], by rw [h1]; simp, h2, h3, fun z hz => ?_⟩
      rcases List.mem_append.1 hz with hz | hz
      · exact h4 z hz
      · simp at hz; subst hz; exact e
theorem last_none (j : Nat) : ∀ (B : List Wr) (b : List UInt8), (∀ z ∈ B, z.1 ≠ j) → Dk.last b B j = b
  | [], _, _ => rfl
  | z :: B, b, h => by
    rw [Dk.last_cons, if_neg (h z (by simp))]
    exact last_none j B b (fun y hy => h y (by simp [hy]))

theorem rep_ghost {L : Low} {d : Dk.Dk} {c : Nat} (h : Rep L d c) (hb : d.blown = true) (i : Nat) (data : List UInt8) (hi : i < d.stable.length) (hl : data.length = 256) :
    Rep (hauntL L (i, data)) (d.write i data) (c + 1) := by
  have hok := Dk.write_ok d h.ok i data hi hl
  have e : d.write i data = { d with ghosts := d.ghosts ++ [(i, data)] } := by unfold Dk.Dk.write; rw [if_pos hb]
  rw [e] at hok ⊢
  have hle := h.le
  have hnew : Rep { L with ws := L.ws ++ [(i, data)] } { d with ghosts := d.ghosts ++ [(i, data)] } (c + 1) := by
    refine ⟨h.st, h.pend, ?_, fun b j => ?_, h.fused, h.left, hok, h.big, ?_, ?_, h.fits⟩
    · show (L.ws ++ [(i, data)]).take L.pend = _
      rw [List.take_append_of_le_length hle]; exact h.pre
    · show Dk.last b ((L.ws ++ [(i, data)]).drop L.pend) j = Dk.last b (d.ghosts ++ [(i, data)]) j
      rw [List.drop_append_of_le_length hle, Dk.last_snoc, Dk.last_snoc, h.post]
    · intro x hx
      rcases List.mem_append.1 hx with hx | hx
      · exact h.each x hx
      · simp at hx; subst hx; exact ⟨hi, hl⟩
    · have := h.few
      show (L.ws ++ [(i, data)]).length ≤ c + 1
      simp; omega
  unfold hauntL
  cases hla : lastAt (nums L.ws) i with
  | none => exact hnew
  | some k =>
    by_cases hp : L.pend ≤ k
    · simp only [if_pos hp]
      obtain ⟨A, y, B, hw, hk, hy, hB⟩ := lastAt_split i L.ws k hla
      have hset : L.ws.set k (i, data) = A ++ (i, data) :: B := by
        rw [hw, List.set_append, if_neg (by omega), hk]; simp
      refine ⟨h.st, h.pend, ?_, fun b j => ?_, h.fused, h.left, hok, h.big, ?_, ?_, h.fits⟩
      · show (L.ws.set k (i, data)).take L.pend = _
        have h1 := h.pre
        rw [hw, List.take_append_of_le_length (by omega)] at h1
        rw [hset, List.take_append_of_le_length (by omega)]; exact h1
      · show Dk.last b ((L.ws.set k (i, data)).drop L.pend) j = Dk.last b (d.ghosts ++ [(i, data)]) j
        have h1 := h.post b j
        rw [hw, List.drop_append_of_le_length (by omega)] at h1
        rw [hset, List.drop_append_of_le_length (by omega), Dk.last_snoc, ← h1]
        rw [Dk.last_append, Dk.last_cons, Dk.last_append, Dk.last_cons]
        by_cases e : i = j
        · subst e
          simp only [if_true]
          rw [last_none i B _ hB]
        · have e1 : ¬ (i, data).1 = j := e
          have e2 : ¬ y.1 = j := by rw [hy]; exact e
          simp only [if_neg e1, if_neg e2]
      · intro x hx
        rcases List.mem_or_eq_of_mem_set hx with hx | hx
        · exact h.each x hx
        · subst hx; exact ⟨hi, hl⟩
      · have := h.few
        show (L.ws.set k (i, data)).length ≤ c + 1
        rw [List.length_set]; omega
    · simp only [if_neg hp]
      exact hnew

theorem writes_d (ii : Int) (i : Nat) (hii : ii = (i : Int)) (b o cb : Nat) (data : List UInt8) (d : Dk.Dk) (p c : Nat) (F : Nat → Prop) (w : World) (h : DiskAt w p d c F) (hi : i < d.stable.length) (hl : data.length = 256)
    (hd : w.rangeAt b o (data.map byteV)) (hc : c ≤ 1048576) :
    Calls Tryz.prog 62 #[ptr p, .int .i64 ii, .slice (some ⟨b, o, none⟩) 256 cb] w (Now w p (d.write i data) (c + 1) F (.int .i64 0)) := by
  cases hb : d.blown
  · exact write_d ii i hii b o cb data d p c F w h hb hi hl hd hc
  · obtain ⟨L, vs, vw, m, hL, hR, hF⟩ := h
    subst hii
    refine (write_ghost i b o cb data L p m d.stable.length vs vw w hL hR.size hR.big.2 hi hl hd (fun y hy => (hR.each y hy).2) (by have := hR.few; omega) (by rw [hR.blown]; exact hb)).mono ?_
    rintro e w' ⟨vw', he, hL', hfr, ht⟩
    refine ⟨Foot p m vs vw', he, ⟨_, vs, vw', m, hL', rep_ghost hR hb i data hi hl, fun _ => Iff.rfl⟩, fun k hk => ?_, ht.mono (fun k _ hk => (hF k).2 hk)⟩
    rcases hk with hk | hk | hk | hk
    · exact .inl ((hF k).2 (.inl hk))
    · exact .inl ((hF k).2 (.inr (.inl hk)))
    · exact .inl ((hF k).2 (.inr (.inr (.inl hk))))
    · rcases hfr k hk with e | e
      · exact .inl ((hF k).2 (.inr (.inr (.inr e))))
      · exact .inr e

end Go.Proofs.YtelnoibfamcnmaaGreat.Disk
