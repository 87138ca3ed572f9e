/- A table of what names stand for, held against a model of it. -/
import Derived.Test.YtbagocghlijleaaGreatHtModel
import Derived.Test.YtbagocghlijleaaGreatLfMem
import Derived.Maps.OwnSet
import Derived.Maps.OwnOps
import Derived.Maps.Ext
namespace Go.Proofs.YtbagocghlijleaaGreat.Ht
set_option maxRecDepth 20000
open Go.RowKit
open Go.Proofs.YtbagocghlijleaaGreat.Mem Go.Proofs.YtbagocghlijleaaGreat.Crc Go.Proofs.YtbagocghlijleaaGreat.Rec Go.Proofs.YtbagocghlijleaaGreat.Lf

def keyS (t : List UInt8) : Lit := .string t
theorem keyS_inj (a b : List UInt8) : keyS a = keyS b ↔ a = b := by
  unfold keyS
  constructor
  · intro h; injection h
  · intro h; rw [h]
def litM (i : Int) : DataW Unit := .lit (.int .i64 i)
structure TabD (D : DataW Unit) (M : Mdl) (K : List (List UInt8)) : Prop where
  tidy : Maps.Tidy D
  at_ : ∀ t zd, D.atKey (keyS t) zd = (match M t with | some i => litM i | none => zd)
  has : ∀ t, Maps.has D (keyS t) = (M t).isSome
  size : Maps.size D = K.length
  nodup : K.Nodup
  mem : ∀ t, t ∈ K ↔ M t ≠ none
theorem TabD.new : TabD (.map []) (fun _ => none) [] := ⟨Maps.tidy_empty, fun t zd => rfl, fun t => rfl, rfl, List.nodup_nil, fun t => by simp⟩
def keysP (K : List (List UInt8)) (M : Mdl) (t : List UInt8) : List (List UInt8) := if M t = none then K ++ [t] else K
theorem TabD.put {D : DataW Unit} {M : Mdl} {K : List (List UInt8)} (h : TabD D M K) (e : Nm) : TabD (D.put (keyS e.t) (litM e.i)) (putM M e) (keysP K M e.t) := by
  have hk : WideAt.IsKeyLit (keyS e.t) := by unfold keyS; trivial
  refine ⟨h.tidy.put hk _, fun t zd => ?_, fun t => ?_, ?_, ?_, fun t => ?_⟩
  · unfold putM
    by_cases ht : t = e.t
    · rw [if_pos ht, ht, Maps.atKey_put_same h.tidy.isMap hk]
    · rw [if_neg ht, Maps.atKey_put_other (by rw [Ne, keyS_inj]; exact ht), h.at_]
  · unfold putM
    by_cases ht : t = e.t
    · rw [if_pos ht, ht, Maps.has_put_same h.tidy.isMap hk]; rfl
    · rw [if_neg ht, Maps.has_put_other (by rw [Ne, keyS_inj]; exact ht), h.has]
  · rw [Maps.size_put h.tidy, h.has, h.size]
    unfold keysP
    cases hm : M e.t with
    | none => simp
    | some i => simp
  · unfold keysP
    split
    · rename_i hm
      refine List.nodup_append.2 ⟨h.nodup, by simp, fun a ha b hb => ?_⟩
      rw [List.mem_singleton.1 hb]
      rintro rfl
      exact (h.mem _).1 ha hm
    · exact h.nodup
  · unfold keysP putM
    by_cases ht : t = e.t
    · rw [if_pos ht, ht]
      split
      · simp
      · rename_i hm
        simp [(h.mem e.t).2 hm]
    · rw [if_neg ht]
      split
      · rw [List.mem_append, List.mem_singleton, h.mem]
        exact ⟨fun k => k.resolve_right ht, .inl⟩
      · exact h.mem t
theorem TabD.off {D : DataW Unit} {M : Mdl} {K : List (List UInt8)} (h : TabD D M K) (t : List UInt8) : TabD (D.del (keyS t)) (offM M t) (K.erase t) := by
  refine ⟨h.tidy.del _, fun u zd => ?_, fun u => ?_, ?_, h.nodup.sublist List.erase_sublist, fun u => ?_⟩
  · unfold offM
    by_cases hu : u = t
    · rw [if_pos hu, hu, Maps.atKey_del_same]
    · rw [if_neg hu, Maps.atKey_del_other (by rw [Ne, keyS_inj]; exact hu), h.at_]
  · unfold offM
    by_cases hu : u = t
    · rw [if_pos hu, hu, Maps.has_del_same]; rfl
    · rw [if_neg hu, Maps.has_del_other (by rw [Ne, keyS_inj]; exact hu), h.has]
  · have h1 := Maps.size_del h.tidy (k := keyS t)
    rw [h.has, h.size] at h1
    cases hm : M t with
    | none =>
      rw [hm] at h1
      have : t ∉ K := fun hk => (h.mem t).1 hk hm
      rw [List.erase_of_not_mem this]
      simpa using h1
    | some i =>
      rw [hm] at h1
      have : t ∈ K := (h.mem t).2 (by rw [hm]; simp)
      rw [List.length_erase_of_mem this]
      simp at h1
      omega
  · rw [List.Nodup.mem_erase_iff h.nodup, h.mem]
    unfold offM
    by_cases hu : u = t
    · rw [if_pos hu]; simp [hu]
    · rw [if_neg hu]; simp [hu]
theorem strKey : Maps.Keyed Tryz.prog 9 := Maps.string_keyed Tryz.underlying9
/-- A table in memory. -/
def Tab (w : World) (m n : Nat) (M : Mdl) (K : List (List UInt8)) : Prop := ∃ D, w.ownsMap Tryz.prog 9 (plainElem Tryz.prog 3) m n D ∧ TabD D M K
theorem Tab.new (w : World) : Tab (w.alloc (.map #[] 0)) w.heap.size 0 (fun _ => none) [] := ⟨_, World.ownsMap_made w _ _ _, TabD.new⟩
theorem Tab.mono {w : World} {m n n' : Nat} {M : Mdl} {K : List (List UInt8)} (h : Tab w m n M K) (hn : n ≤ n') : Tab w m n' M K := by
  obtain ⟨D, h1, h2⟩ := h
  exact ⟨D, h1.mono hn, h2⟩
theorem Tab.lt {w : World} {m n : Nat} {M : Mdl} {K : List (List UInt8)} (h : Tab w m n M K) : m < w.heap.size := by
  obtain ⟨D, h1, _⟩ := h
  exact h1.lt
theorem Tab.below {w w' : World} {m n : Nat} {M : Mdl} {K : List (List UInt8)} (h : Tab w m n M K) (hb : Below w.heap.size w w') : Tab w' m n M K := by
  obtain ⟨D, h1, h2⟩ := h
  exact ⟨D, h1.kept (grown_of_below hb none) (by simp), h2⟩
theorem text_le (S : ByteArray) (t : List UInt8) (hS : S.data.toList = t) (ht : t.length ≤ maxLen) : S.size ≤ maxLen := by
  rw [show S.size = S.data.toList.length from Array.length_toList.symm, hS]; exact ht
set_option maxRecDepth 100000 in
theorem run_tabLook (W : World) (m n : Nat) (M : Mdl) (K : List (List UInt8)) (S : ByteArray) (t : List UInt8) (hS : S.data.toList = t) (ht : t.length ≤ maxLen) (h : Tab W m n M K) :
    (Instr.lookup 44 (.map (some m)) (.string S) true).run Tryz.prog W = .ok (.tuple #[.int .i64 ((M t).getD 0), .bool (M t).isSome]) W := by
  obtain ⟨D, h1, h2⟩ := h
  subst hS
  have hz : (zeroValue 3).run Tryz.prog W = .ok (.int .i64 0) W := by rfl
  obtain ⟨v, ps, hrun, hv⟩ := h1.look_ok (zd := .lit (.int .i64 0)) (zp := []) strKey Tryz.underlying44 hz (plainElem_int Tryz.underlying3 (by decide)) (WideMaps.keyOf_string_mk Tryz.underlying9 (text_le S _ rfl ht))
  have h3 := h2.at_ S.data.toList (.lit (.int .i64 0))
  have h4 := h2.has S.data.toList
  unfold keyS at h3 h4
  rw [h4] at hrun
  rw [h3] at hv
  obtain ⟨a, rfl, ha, _⟩ := plainElem_int_inv Tryz.underlying3 hv
  rw [hrun]
  have h5 := congrArg Prod.fst ha
  dsimp only at h5
  cases hm : M S.data.toList with
  | none =>
    rw [hm] at h5
    injection h5 with h5
    injection h5 with _ h5
    rw [← h5]; rfl
  | some i =>
    rw [hm] at h5
    unfold litM at h5
    injection h5 with h5
    injection h5 with _ h5
    rw [← h5]; rfl
theorem run_tabPut (W : World) (m n : Nat) (M : Mdl) (K : List (List UInt8)) (S : ByteArray) (e : Nm) (hS : S.data.toList = e.t) (he : e.rep) (hn : n < maxLen) (h : Tab W m n M K) :
    ∃ w', (Instr.mapUpdate 44 (.map (some m)) (.string S) (.int .i64 e.i)).run Tryz.prog W = .ok () w' ∧ Tab w' m (n + 1) (putM M e) (keysP K M e.t) ∧ W.grownBy w' (some m) := by
  obtain ⟨D, h1, h2⟩ := h
  have hwf : (Lit.int .i64 e.i).wf = true := by
    have := he.i
    unfold i64 at this
    simp [Lit.wf, show IntKind.i64.min = -9223372036854775808 from rfl, show IntKind.i64.max = 9223372036854775807 from rfl]
    omega
  obtain ⟨w2, hrun, hM2, hg2⟩ := h1.update (t := 44) strKey Tryz.underlying44 hn (WideMaps.keyOf_string_mk Tryz.underlying9 (text_le S _ hS he.t)) (plainElem_int (H := Unit) (P := Tryz.prog) (a := e.i) Tryz.underlying3 hwf)
  refine ⟨w2, hrun, ⟨_, hM2, ?_⟩, hg2⟩
  rw [hS]
  exact h2.put e
theorem run_tabOff (W : World) (m n : Nat) (M : Mdl) (K : List (List UInt8)) (S : ByteArray) (t : List UInt8) (hS : S.data.toList = t) (ht : t.length ≤ maxLen) (ty : TypeId) (h : Tab W m n M K) :
    ∃ w', (Builtin.delete_ #[44, 9] ty #[.map (some m), .string S]).run Tryz.prog W = .ok (.tuple #[]) w' ∧ Tab w' m n (offM M t) (K.erase t) ∧ W.grownBy w' (some m) := by
  obtain ⟨D, h1, h2⟩ := h
  obtain ⟨w2, hrun, hM2, hg2⟩ := h1.drop strKey Tryz.underlying44 (WideMaps.keyOf_string_mk Tryz.underlying9 (text_le S _ hS ht)) ty
  refine ⟨w2, hrun, ⟨_, hM2, ?_⟩, hg2.grown⟩
  rw [hS]
  exact h2.off t
theorem run_tabLen (W : World) (m n : Nat) (M : Mdl) (K : List (List UInt8)) (ty : TypeId) (h : Tab W m n M K) :
    (Builtin.len_ #[44] ty #[.map (some m)]).run Tryz.prog W = .ok (.int .i64 (K.length : Int)) W := by
  obtain ⟨D, h1, h2⟩ := h
  rw [← h2.size]
  exact h1.len Tryz.underlying44 ty
end Go.Proofs.YtbagocghlijleaaGreat.Ht
