/- slices.Chunk over extents, 20 of them at a time: what its iterator hands to a loop's body. -/
import Derived.Test.YtkhenchhafmlmaaExHandsN
import Derived.Test.YtkhenchhafmlmaaExParts
import Derived.Test.YtkhenchhafmlmaaExCode
namespace Go.Proofs.Ytkhenchhafmlmaa.Ex
set_option maxRecDepth 20000
open Go Go.RowKit Go.Shelf
open Go.Proofs.Ytkhenchhafmlmaa.Mem Go.Proofs.Ytkhenchhafmlmaa.Crc Go.Proofs.Ytkhenchhafmlmaa.Rec Go.Proofs.Ytkhenchhafmlmaa.Reg
attribute [local go_sem] Oper.semAt_some
attribute [local go_sem ↓] ldX_eq stX_eq
theorem run_fromX (W : World) (b off N c q : Nat) (hj : q < N) (hc : N ≤ c) :
    (Instr.slice 22 (.slice (some ⟨b, off, none⟩) N c) (some (.int .i64 (q : Int))) none none).run Try.prog W = .ok (.slice (some ⟨b, off + q * 4, none⟩) (N - q) (c - q)) W := by
  have h := run_slice_l (P := Try.prog) W 22 (some ⟨b, off, none⟩) N c (by rw [Try.underlying22]; rfl) .i64 (q : Int) (by omega) (by omega)
  rw [h]
  have hs : (sizeOf (Try.prog.elem 22)).run Try.prog W = .ok 4 W := by rfl
  rw [hs]
  simp [Result.andThen, sliced, show ¬ c = q by omega, Addr.add_mid]
theorem run_chunkX (W : World) (b off N c q m : Nat) (hj : q + m ≤ N) (hm : ¬ m = 0) (hc : N ≤ c) :
    (Instr.slice 22 (.slice (some ⟨b, off, none⟩) N c) (some (.int .i64 (q : Int))) (some (.int .i64 ((q : Int) + (m : Int)))) (some (.int .i64 ((q : Int) + (m : Int))))).run Try.prog W = .ok (.slice (some ⟨b, off + q * 4, none⟩) m m) W := by
  have h := run_slice_lhm (P := Try.prog) W 22 (some ⟨b, off, none⟩) N c (by rw [Try.underlying22]; rfl) .i64 .i64 .i64 (q : Int) ((q : Int) + (m : Int)) ((q : Int) + (m : Int)) (by omega) (by omega) (by omega) (by omega)
  rw [h]
  have hs : (sizeOf (Try.prog.elem 22)).run Try.prog W = .ok 4 W := by rfl
  rw [hs]
  have e : ((q : Int) + (m : Int)).toNat = q + m := by omega
  simp [Result.andThen, sliced, Addr.add_mid, e, hm]
theorem chunk_mk (A : Option Addr) (n c : Nat) (w : World) :
    Calls Try.prog 69 #[.slice A n c, .int .i64 20] w fun e w' => e = .returned (.func (.func 77) #[] #[.pointer (some ⟨w.heap.size, 0, none⟩), .pointer (some ⟨w.heap.size + 1, 0, none⟩)]) ∧ Below w.heap.size w w' ∧
      w'.heap[w.heap.size]? = some (.cells #[.slice A n c] 22 (0, 0)) ∧ w'.heap[w.heap.size + 1]? = some (.cells #[.int .i64 20] 3 (0, 0)) ∧ w'.heap.size = w.heap.size + 2 := by
  obtain ⟨W1, hW1⟩ : ∃ W1, W1 = w.alloc (.cells #[.slice A n c] 22) := ⟨_, rfl⟩
  obtain ⟨W2, hW2⟩ : ∃ W2, W2 = W1.alloc (.cells #[.int .i64 20] 3) := ⟨_, rfl⟩
  have z1 : W1.heap.size = w.heap.size + 1 := by rw [hW1]; simp
  have z2 : W2.heap.size = w.heap.size + 2 := by rw [hW2]; simp; omega
  have c1 : W1.heap[w.heap.size]? = some (.cells #[.slice A n c] 22 (0, 0)) := hW1 ▸ heap_alloc_new w _
  have c2 : W2.heap[w.heap.size + 1]? = some (.cells #[.int .i64 20] 3 (0, 0)) := by rw [hW2, ← z1]; exact heap_alloc_new W1 _
  have d1 : W2.heap[w.heap.size]? = some (.cells #[.slice A n c] 22 (0, 0)) := by
    rw [hW2, Below.heap_alloc _ _ _ (by omega)]; exact c1
  have hb : Below w.heap.size w W2 := by
    rw [hW2, hW1]
    exact ((Below.refl _ w).alloc (Nat.le_refl _) _).alloc (by simp) _
  have hF : W2 = (w.alloc (.cells #[.slice A n c] 22)).alloc (.cells #[.int .i64 20] 3) := by rw [hW2, hW1]
  have q1 : (W2.cell? ⟨w.heap.size + 1, 0, none⟩) = some (.int .i64 20) := cell_of_row W2 _ 0 _ _ _ c2
  have HR : Hid (Below w.heap.size w W2 ∧ W2.heap[w.heap.size]? = some (.cells #[.slice A n c] 22 (0, 0)) ∧ W2.heap[w.heap.size + 1]? = some (.cells #[.int .i64 20] 3 (0, 0)) ∧ W2.heap.size = w.heap.size + 2) := Lib.hid ⟨hb, d1, c2, z2⟩
  rw [hF] at HR q1
  clear hF hb d1 c1 c2 z1 z2 hW1 hW2
  go_enter Try.func69, Try.ntmps69
  go_wp2
  go_ret
  exact ⟨rfl, HR.out⟩
/-- What is handed as the i-th part. -/
def chunkV (b off n : Nat) (i : Nat) : Array Value := #[.slice (some ⟨b, off + (i * 20) * 4, none⟩) (min 20 (n - i * 20)) (min 20 (n - i * 20))]

set_option maxRecDepth 100000 in
set_option maxHeartbeats 4000000 in
theorem chunk_hands (n1 : Nat) (hn1 : 1 ≤ n1) (Bl b off n c M : Nat) (w : World)
    (h1 : w.heap[Bl]? = some (.cells #[.slice (some ⟨b, off, none⟩) n c] 22 (0, 0))) (h2 : w.heap[Bl + 1]? = some (.cells #[.int .i64 20] 3 (0, 0)))
    (hn : n ≤ 60) (hc : n ≤ c) (hM : M < Bl) (hT0 : ∀ q, Tch M M w q → q = M) :
    Hands Fence.wide n1 Try.prog 77 #[] #[.pointer (some ⟨Bl, 0, none⟩), .pointer (some ⟨Bl + 1, 0, none⟩)] (chunkV b off n) (KpT M M) (ZT M M) (fun pre i _ _ => pre = List.range i ∧ i * 20 < n) (fun xs => xs = List.range (manyX n)) w := by
  intro l J W hW hJb hJZ hY hJ0
  have hbl : Bl < w.heap.size := (Array.getElem?_eq_some_iff.1 h1).1
  have hbl2 : Bl + 1 < w.heap.size := (Array.getElem?_eq_some_iff.1 h2).1
  have hkeep : ∀ V, KpT M M W V → V.cell? ⟨Bl, 0, none⟩ = some (.slice (some ⟨b, off, none⟩) n c) ∧ V.cell? ⟨Bl + 1, 0, none⟩ = some (.int .i64 20) := fun V hV => by
    have hws := hW.size
    obtain ⟨_, k2, _⟩ := hV ⟨by omega, by omega⟩
    have hTW : ∀ q, Tch M M W q → q = M := fun q hq => hT0 q ((tch_of_boxes (hW.block _ (by omega)) (hW.block _ (by omega)) q).1 hq)
    have hbx : ∀ i cs ty z, w.heap[i]? = some (.cells cs ty z) → i ≠ M → V.heap[i]? = some (.cells cs ty z) := fun i cs ty z hi n9 => by
      have hi' := (hW.block i (Array.getElem?_eq_some_iff.1 hi).1).trans hi
      rw [k2 i cs ty z hi' (fun ht => n9 (hTW i ht))]
      exact hi'
    exact ⟨cell_of_row V _ 0 _ _ _ (hbx _ _ _ _ h1 (by omega)), cell_of_row V _ 0 _ _ _ (hbx _ _ _ _ h2 (by omega))⟩
  have HKEEP := Lib.hid hkeep; clear hkeep h1 h2
  have HY := Lib.hid hY; clear hY
  have HJB := Lib.hid hJb; clear hJb
  have HJZ := Lib.hid hJZ; clear hJZ
  have HT0 := Lib.hid hT0; clear hT0
  have HW := Lib.hid hW; clear hW
  obtain ⟨b0, -⟩ := HKEEP.out W (KpT.of_below (Below.refl _ W))
  refine callsIn_of_wp Try.func77 rfl trivial ?_ rfl
  simp only [Try.ntmps77, List.size_toArray, List.length_cons, List.length_nil, Nat.reduceAdd, Nat.reduceSub, Array.replicate_succ, Array.replicate_zero, List.push_toArray, List.append_toArray, List.nil_append, List.cons_append]
  clear b0
  gi_wp2
  gi_loopw [4] (fun i wr => ∃ j q : Nat, q = j * 20 ∧ j ≤ manyX n ∧ i = .int .i64 (q : Int) ∧ J (List.range j) wr ∧ KpT M M W wr) (fun i _ => n - (intOf i).toNat)
  case atStart => exact ⟨0, 0, rfl, Nat.zero_le _, rfl, hJ0, KpT.of_below (Below.refl _ W)⟩
  case round =>
    obtain ⟨j, q, hq, hj, rfl, hJ, hK⟩ := hrel
    clear hJ0
    unfold manyX at hj
    obtain ⟨e1, e2⟩ := HKEEP.out wr hK
    have hi1 : (0 : Int) ≤ (q : Int) := by omega
    rcases Nat.lt_or_ge q n with hlt | hge
    · obtain ⟨fn, tmps, assign, body, hy, hR⟩ := HY.out (List.range j) j wr wr.drew hJ (Below.refl _ wr).drew ⟨rfl, by omega⟩
      dsimp only [chunkV] at hy hR
      rw [← hq] at hy
      have hK : KpT M M W wr.drew := KpT.trans hK (KpT.of_below (Below.refl _ wr).drew)
      have HK := Lib.hid hK; clear hK
      have hi2 : (q : Int) < (n : Int) := by omega
      have s1 := fun W => run_fromX W b off n c q hlt hc
      obtain ⟨m, hm⟩ : ∃ m, m = min 20 (n - q) := ⟨_, rfl⟩
      have hm0 : 0 < m ∧ q + m ≤ n ∧ m ≤ 20 := by omega
      have s2 := fun W => run_chunkX W b off n c q m hm0.2.1 (by omega) hc
      rw [← hm] at hy
      obtain ⟨K, hKe⟩ : ∃ K, K = n - q := ⟨_, rfl⟩
      rw [← hKe] at s1 hm
      have hmn : ∀ (ts : Array TypeId) (ty : TypeId) (W : World), (Builtin.min_ ts ty #[.int .i64 20, .int .i64 (K : Int)]).run Try.prog W = .ok (.int .i64 (m : Int)) W := fun ts ty W => by
        rw [clamp_min, hm]
        congr 2
        omega
      have e1d : wr.drew.cell? ⟨Bl, 0, none⟩ = some (.slice (some ⟨b, off, none⟩) n c) := e1
      have e2d : wr.drew.cell? ⟨Bl + 1, 0, none⟩ = some (.int .i64 20) := e2
      have hw1 : IntKind.i64.wrap ((q : Int) + (m : Int)) = (q : Int) + (m : Int) := by rw [IntKind.wrap_i64]; omega
      have hw2 : IntKind.i64.wrap ((q : Int) + 20) = (q : Int) + 20 := by rw [IntKind.wrap_i64]; omega
      have HJN : Hid (j + 1 ≤ (n + 19) / 20) := Lib.hid (by omega)
      have HQ := Lib.hid hq; clear hq
      have HM := Lib.hid hm; clear hm
      have HKE := Lib.hid hKe; clear hKe hm0
      gi_wp2
      gi_region
      all_goals
        gi_wp2
        refine hR.mono ?_
        rintro e W3 ⟨rfl, hJ3, hk3⟩
        have hk3' : KpT M M W W3 := KpT.trans HK.out hk3
        obtain ⟨-, e3⟩ := HKEEP.out W3 hk3'
        have HK3 := Lib.hid hk3'; clear hk3'
        have HJ3 := Lib.hid hJ3; clear hJ3
        gi_wp2
        go_roundw
        case rel => exact ⟨j + 1, q + 20, by have := HQ.out; omega, HJN.out, by go_num, by rw [List.range_succ]; exact HJ3.out, HK3.out⟩
        case measure => simp [intOf]; omega
    · have hj2 : j = manyX n := by unfold manyX; omega
      have HJ := Lib.hid hJ; clear hJ
      have HJ2 := Lib.hid hj2; clear hj2
      have hi2 : ¬ (q : Int) < (n : Int) := by omega
      gi_wp2
      go_end0
      exact ⟨⟨_, rfl⟩, by rw [← HJ2.out]; exact HJ.out⟩
/-- Of an empty slice nothing is handed. -/
theorem chunk_hands0 (n1 : Nat) (Bl c M : Nat) (A : Option Addr) (b off : Nat) (w : World)
    (h1 : w.heap[Bl]? = some (.cells #[.slice A 0 c] 22 (0, 0))) :
    Hands Fence.wide n1 Try.prog 77 #[] #[.pointer (some ⟨Bl, 0, none⟩), .pointer (some ⟨Bl + 1, 0, none⟩)] (chunkV b off 0) (KpT M M) (ZT M M) (fun pre i _ _ => pre = List.range i ∧ i * 20 < 0) (fun xs => xs = List.range (manyX 0)) w := by
  intro l J W hW hJb hJZ hY hJ0
  have hbl : Bl < w.heap.size := (Array.getElem?_eq_some_iff.1 h1).1
  have e1 : W.cell? ⟨Bl, 0, none⟩ = some (.slice A 0 c) := cell_of_row W _ 0 _ _ _ ((hW.block _ hbl).trans h1)
  clear hY hJb hJZ hW h1
  have HJ0 := Lib.hid hJ0; clear hJ0
  refine callsIn_of_wp Try.func77 rfl trivial ?_ rfl
  simp only [Try.ntmps77, List.size_toArray, List.length_cons, List.length_nil, Nat.reduceAdd, Nat.reduceSub, Array.replicate_succ, Array.replicate_zero, List.push_toArray, List.append_toArray, List.nil_append, List.cons_append]
  gi_wp2
  gi_loopw [4] (fun i wr => i = .int .i64 0 ∧ wr = W) (fun i _ => 0)
  case atStart => exact ⟨rfl, rfl⟩
  case round =>
    obtain ⟨rfl, rfl⟩ := hrel
    gi_wp2
    go_end0
    exact ⟨⟨_, rfl⟩, _, rfl, HJ0.out⟩
end Go.Proofs.Ytkhenchhafmlmaa.Ex
