/- The iterator over the free chunks of a pool: what it hands to a loop's body. -/
import Derived.Test.YtnkiblifnknbkaaBdPart
import Derived.Laws.EntriesVeiled
namespace Go.Proofs.Ytnkiblifnknbkaa.Buddy
set_option maxRecDepth 20000
open Go Go.RowKit Go.Shelf
open Go.Proofs.Ytnkiblifnknbkaa.Mem Go.Proofs.Ytnkiblifnknbkaa.Bt Go.Proofs.Ytnkiblifnknbkaa.Rec Go.Proofs.Ytnkiblifnknbkaa.Bits Go.Proofs.Ytnkiblifnknbkaa.Bd Go.Proofs.Ytnkiblifnknbkaa.Reg
attribute [local go_sem] Oper.semAt_some
attribute [local go_sem ↓] shlN_eq

theorem chunksTo_prefix (f : Nat → Bool) (n : Nat) {r q : Nat} (h : r ≤ q) : chunksTo f n r <+: chunksTo f n q := by
  induction q with
  | zero => obtain rfl : r = 0 := by omega
            exact List.prefix_refl _
  | succ q ih =>
    rcases Nat.lt_or_ge q r with h1 | h1
    · obtain rfl : r = q + 1 := by omega
      exact List.prefix_refl _
    · exact (ih h1).trans (List.prefix_append _ _)

section
variable (Bm Bn By Bp l B : Nat) (A : Option Addr) (len c nn : Nat) (bs : List UInt8) (T : Nat → Prop) (N : Nat) (J Jx : List (Nat × Nat) → World → Prop)
theorem part_any (hT1 : ¬ T Bm) (hT2 : ¬ T Bn) (hT3 : ¬ T By) (hT4 : ¬ T Bp)
    (hY : ∀ m pre x W, x.1 + 2 ^ x.2 ≤ nn → x.2 ≤ 6 → J pre W → pre.length < N → YieldAt Fence.wide m Try.prog l (encC x) W fun e W' => (e = .returned (.bool true) ∧ J (pre ++ [x]) W' ∧ KpT B T W W') ∨ (e = .returned (.bool false) ∧ Jx (pre ++ [x]) W'))
    (hJ : ∀ pre V V', J pre V → Below V.heap.size V V' → J pre V') (hl : len ≤ 140737488355328) (hnn : nn ≤ 1125899906842624) :
    ∀ (k s : Nat) (pre : List (Nat × Nat)) (W : World), k ≤ 6 → s + 2 ^ k ≤ 1125899906842688 → Bx Bm Bn By Bp l A len c nn W → Holds W B A len bs → B ≤ W.heap.size → J pre W → pre.length + (parts (bt bs) nn k s).length ≤ N →
      Calls Try.prog 40 (innerArgs Bm Bn By Bp s k) W fun e W' =>
        (e = .returned (.bool true) ∧ J (pre ++ parts (bt bs) nn k s) W' ∧ KpT B T W W') ∨ (e = .returned (.bool false) ∧ ∃ q, q <+: parts (bt bs) nn k s ∧ Jx (pre ++ q) W')
  | 0, s, pre, W, hk, hs, hx, h, hB, hp, hN => by
    by_cases hf : FreeC (bt bs) nn s 0
    · have e : parts (bt bs) nn 0 s = [(s, 0)] := by unfold parts; rw [if_pos hf]
      rw [e] at hN ⊢
      refine (part_yield Bm Bn By Bp l B A len c nn bs T N J Jx hY hJ W hx h hB hl hnn s 0 hk hf pre hp (by simp at hN; omega)).mono fun e W' hr => ?_
      exact hr.imp id fun ⟨h1, h2⟩ => ⟨h1, [(s, 0)], List.prefix_refl _, h2⟩
    · have e : parts (bt bs) nn 0 s = [] := by unfold parts; rw [if_neg hf]
      rw [e, List.append_nil]
      exact (part_pass Bm Bn By Bp l B A len c nn bs W hx h hB hl s 0 (by omega) hk hf (.inr rfl)).mono fun e W' ⟨h1, h2⟩ => .inl ⟨h1, hJ _ _ _ hp h2, KpT.of_below h2 hB⟩
  | k + 1, s, pre, W, hk, hs, hx, h, hB, hp, hN => by
    have h2k := two_succ k
    have h2p := Nat.two_pow_pos k
    by_cases hf : FreeC (bt bs) nn s (k + 1)
    · have e : parts (bt bs) nn (k + 1) s = [(s, k + 1)] := by rw [parts, if_pos hf]
      rw [e] at hN ⊢
      refine (part_yield Bm Bn By Bp l B A len c nn bs T N J Jx hY hJ W hx h hB hl hnn s (k + 1) hk hf pre hp (by simp at hN; omega)).mono fun e W' hr => ?_
      exact hr.imp id fun ⟨h1, h2⟩ => ⟨h1, [(s, k + 1)], List.prefix_refl _, h2⟩
    · by_cases hall : cnt (bt bs) s (2 ^ (k + 1)) = 2 ^ (k + 1)
      · have e : parts (bt bs) nn (k + 1) s = [] := by rw [parts, if_neg hf, if_pos hall]
        rw [e, List.append_nil]
        exact (part_pass Bm Bn By Bp l B A len c nn bs W hx h hB hl s (k + 1) (by omega) hk hf (.inl hall)).mono fun e W' ⟨h1, h2⟩ => .inl ⟨h1, hJ _ _ _ hp h2, KpT.of_below h2 hB⟩
      · have e : parts (bt bs) nn (k + 1) s = parts (bt bs) nn k s ++ parts (bt bs) nn k (s + 2 ^ k) := by rw [parts, if_neg hf, if_neg hall]
        rw [e] at hN ⊢
        rw [List.length_append] at hN
        refine (part_split Bm Bn By Bp l B A len c nn bs
          (fun V => J (pre ++ parts (bt bs) nn k s) V ∧ KpT B T W V) (fun V => ∃ q, q <+: parts (bt bs) nn k s ∧ Jx (pre ++ q) V)
          (fun V => J (pre ++ parts (bt bs) nn k s ++ parts (bt bs) nn k (s + 2 ^ k)) V ∧ KpT B T W V) (fun V => ∃ q, q <+: parts (bt bs) nn k (s + 2 ^ k) ∧ Jx (pre ++ parts (bt bs) nn k s ++ q) V)
          W hx h hB hl s k (by omega) (by omega) hf hall ?_ ?_ ?_).mono fun e W' hr => ?_
        · intro V hb
          have hkV : KpT B T W V := KpT.of_below hb hB
          refine (part_any hT1 hT2 hT3 hT4 hY hJ hl hnn k s pre V (by omega) (by omega) (hx.below hb) (h.below hkV.below) (by have := hb.size; omega) (hJ _ _ _ hp hb) (by omega)).mono fun e W' hr => ?_
          exact hr.imp (fun ⟨h1, h2, h3⟩ => ⟨h1, h2, hkV.trans h3⟩) id
        · exact fun V hV => cell_of_row V _ 0 _ _ _ (hx.kept hV.2 hT1 hT2 hT3 hT4).p
        · intro V ⟨hj, hkV⟩
          refine (part_any hT1 hT2 hT3 hT4 hY hJ hl hnn k (s + 2 ^ k) _ V (by omega) (by omega) (hx.kept hkV hT1 hT2 hT3 hT4) (h.below hkV.below) (by have := hkV.below.size; omega) hj (by rw [List.length_append]; omega)).mono fun e W' hr => ?_
          exact hr.imp (fun ⟨h1, h2, h3⟩ => ⟨h1, h2, hkV.trans h3⟩) id
        · rcases hr with ⟨h1, h2, h3⟩ | ⟨h1, ⟨q, hq, hj⟩ | ⟨q, hq, hj⟩⟩
          · exact .inl ⟨h1, by rw [List.append_assoc] at h2; exact h2, h3⟩
          · exact .inr ⟨h1, q, hq.trans (List.prefix_append _ _), hj⟩
          · exact .inr ⟨h1, parts (bt bs) nn k s ++ q, (List.prefix_append_right_inj _).2 hq, by rw [List.append_assoc] at hj; exact hj⟩

/-- The function that a pool's chunks are told by: what it has captured. -/
theorem chunks_mk (A : Option Addr) (len c nn : Nat) (w : World) :
    Calls Try.prog 31 #[.slice A len c, .int .i64 (nn : Int)] w fun e w' => e = .returned (.func (.func 39) #[] #[.pointer (some ⟨w.heap.size, 0, none⟩), .pointer (some ⟨w.heap.size + 1, 0, none⟩)]) ∧ Below w.heap.size w w' ∧
      w'.heap[w.heap.size]? = some (.cells #[.slice A len c] 22 (0, 0)) ∧ w'.heap[w.heap.size + 1]? = some (.cells #[.int .i64 (nn : Int)] 3 (0, 0)) ∧ w'.heap.size = w.heap.size + 2 := by
  obtain ⟨W2, hW2⟩ : ∃ W2, W2 = (w.alloc (.cells #[.slice A len c] 22)).alloc (.cells #[.int .i64 (nn : Int)] 3) := ⟨_, rfl⟩
  have z1 : (w.alloc (.cells #[.slice A len c] 22)).heap.size = w.heap.size + 1 := by simp
  have hb0 : W2.heap[w.heap.size]? = some (.cells #[.slice A len c] 22 (0, 0)) := by
    rw [hW2]
    exact (Below.heap_alloc _ _ _ (by rw [z1]; omega)).trans (heap_alloc_new w _)
  have hb1 : W2.heap[w.heap.size + 1]? = some (.cells #[.int .i64 (nn : Int)] 3 (0, 0)) := by
    rw [hW2, ← z1]
    exact heap_alloc_new _ _
  have hz : W2.heap.size = w.heap.size + 2 := by rw [hW2]; simp
  have hbl : Below w.heap.size w W2 := by rw [hW2]; exact ((Below.refl _ w).alloc (Nat.le_refl _) _).alloc (by simp) _
  go_enter Try.func31, Try.ntmps31
  go_wp2
  go_ret
  rw [← hW2]
  exact ⟨rfl, hbl, hb0, hb1, hz⟩

set_option maxRecDepth 100000 in
set_option maxHeartbeats 2000000 in
theorem chunks1_in (n : Nat) (hT1 : ¬ T Bm) (hT2 : ¬ T Bn) (hN : N = (chunksL (bt bs) nn).length) (hl : len ≤ 140737488355328) (hnn : nn ≤ 1125899906842624)
    (hY : ∀ m pre x W, x.1 + 2 ^ x.2 ≤ nn → x.2 ≤ 6 → J pre W → pre.length < N → YieldAt Fence.wide m Try.prog l (encC x) W fun e W' => (e = .returned (.bool true) ∧ J (pre ++ [x]) W' ∧ KpT B T W W') ∨ (e = .returned (.bool false) ∧ Jx (pre ++ [x]) W'))
    (hJ : ∀ pre V V', J pre V → Below V.heap.size V V' → J pre V') (W : World) (hT : ∀ b, T b → b < W.heap.size) (hBm : W.heap[Bm]? = some (.cells #[.slice A len c] 22 (0, 0))) (hBn : W.heap[Bn]? = some (.cells #[.int .i64 (nn : Int)] 3 (0, 0)))
    (h : Holds W B A len bs) (hB : B ≤ W.heap.size) (h0 : J [] W) :
    CallsIn Fence.wide n Try.prog 39 #[.func (.yield l) #[] #[], .pointer (some ⟨Bm, 0, none⟩), .pointer (some ⟨Bn, 0, none⟩)] W fun e W' => (∃ v, e = .returned v) ∧
      ((∃ ys, ys = chunksL (bt bs) nn ∧ J ys W') ∨ (∃ pre, pre <+: chunksL (bt bs) nn ∧ Jx pre W')) := by
  have hmS : Bm < W.heap.size := (Array.getElem?_eq_some_iff.1 hBm).1
  have hnS : Bn < W.heap.size := (Array.getElem?_eq_some_iff.1 hBn).1
  -- the world behind the two boxes
  obtain ⟨V0, hV0⟩ : ∃ V0, V0 = W.alloc (.cells #[.func (.yield l) #[] #[]] 61) := ⟨_, rfl⟩
  have hz0 : V0.heap.size = W.heap.size + 1 := by rw [hV0]; simp
  obtain ⟨V1, hV1⟩ : ∃ V1, V1 = V0.alloc (.cells #[innerV Bm Bn W.heap.size (W.heap.size + 1)] 61) := ⟨_, rfl⟩
  have hz1 : V1.heap.size = W.heap.size + 2 := by rw [hV1]; simp [hz0]
  have hb1 : Below W.heap.size W V1 := by rw [hV1, hV0]; exact ((Below.refl _ W).alloc (Nat.le_refl _) _).alloc (by simp) _
  have hx1 : Bx Bm Bn W.heap.size (W.heap.size + 1) l A len c nn V1 := by
    refine ⟨(hb1.block _ hmS).trans hBm, (hb1.block _ hnS).trans hBn, ?_, ?_⟩
    · rw [hV1, hV0]
      exact (Below.heap_alloc _ _ _ (by simp)).trans (heap_alloc_new W _)
    · rw [hV1, ← hz0]
      exact heap_alloc_new _ _
  have hcall := part_any Bm Bn W.heap.size (W.heap.size + 1) l B A len c nn bs T N J Jx hT1 hT2 (fun hh => by have := hT _ hh; omega) (fun hh => by have := hT _ hh; omega) hY hJ hl hnn
  have hnT3 : ¬ T W.heap.size := fun hh => by have := hT _ hh; omega
  have hnT4 : ¬ T (W.heap.size + 1) := fun hh => by have := hT _ hh; omega
  have hk1 : KpT B T W V1 := KpT.of_below hb1 hB
  have hJ1 := hJ _ _ _ h0 hb1
  have HCALL := Lib.hid hcall; clear hcall hY
  have HK1 := Lib.hid hk1; clear hk1
  have HX1 := Lib.hid hx1; clear hx1
  refine callsIn_of_wp Try.func39 rfl trivial ?_ rfl
  simp only [Try.ntmps39, List.size_toArray, List.length_cons, List.length_nil, Nat.reduceAdd, Nat.reduceSub, Array.replicate_succ, Array.replicate_zero, List.push_toArray, List.append_toArray, List.nil_append, List.cons_append]
  gi_wp2_with fail
  obtain ⟨Bo, hBo⟩ : ∃ Bo, Bo = W.heap.size := ⟨_, rfl⟩
  have hV1' : V1 = (W.alloc (.cells #[.func (.yield l) #[] #[]] 61)).alloc (.cells #[innerV Bm Bn W.heap.size (W.heap.size + 1)] 61) := by rw [hV1, hV0]
  unfold innerV at hV1'
  rw [← hV1']
  clear hV1' hV1 hV0 hz0 hb1 hBm hBn hmS hnS
  rw [← hBo] at HCALL HX1 hnT3 hnT4 hz1 ⊢
  have HBo := Lib.hid hBo; clear hBo
  have HH := Lib.hid h; clear h
  have HNN := Lib.hid hN; clear hN h0 hJ
  obtain ⟨R, hR⟩ : ∃ R, R = rnds nn := ⟨_, rfl⟩
  have hRb : 64 * R < nn + 64 ∧ nn ≤ 64 * R := by rw [hR]; unfold rnds; omega
  have hRc : chunksL (bt bs) nn = chunksTo (bt bs) nn R := by rw [hR]; rfl
  have HRC := Lib.hid hRc; clear hRc
  clear hR
  gi_loopw [5] (fun i wr => ∃ r : Nat, r ≤ R ∧ i = .int .i64 ((64 * r : Nat) : Int) ∧ J (chunksTo (bt bs) nn r) wr ∧ KpT B T V1 wr) (fun i _ => nn + 64 - (intOf i).toNat)
  case atStart => exact ⟨0, Nat.zero_le _, by first | trivial | rfl, hJ1, KpT.refl _ _ _⟩
  case round =>
    obtain ⟨r, hr, rfl, hJr, hkr⟩ := hrel
    have hxr := HX1.out.kept hkr hT1 hT2 hnT3 hnT4
    have y1 : wr.cell? ⟨Bn, 0, none⟩ = some (.int .i64 (nn : Int)) := cell_of_row wr _ 0 _ _ _ hxr.n
    have y2 : wr.cell? ⟨Bo + 1, 0, none⟩ = some (.func (.func 40) #[] #[.pointer (some ⟨Bm, 0, none⟩), .pointer (some ⟨Bn, 0, none⟩), .pointer (some ⟨Bo, 0, none⟩), .pointer (some ⟨Bo + 1, 0, none⟩)]) := cell_of_row wr _ 0 _ _ _ hxr.p
    obtain ⟨s, hs⟩ : ∃ s, s = 64 * r := ⟨_, rfl⟩
    by_cases hlt : s < nn
    · have hlt' : (s : Int) < (nn : Int) := by omega
      have hrR : r < R := by omega
      have hstep : chunksTo (bt bs) nn (r + 1) = chunksTo (bt bs) nn r ++ parts (bt bs) nn 6 s := by rw [hs]; rfl
      have hpre : chunksTo (bt bs) nn (r + 1) <+: chunksL (bt bs) nn := by rw [HRC.out]; exact chunksTo_prefix _ _ (by omega)
      have hlen : (chunksTo (bt bs) nn r).length + (parts (bt bs) nn 6 s).length ≤ N := by
        have := hpre.length_le
        rw [hstep, List.length_append] at this
        rw [HNN.out]; exact this
      have hc := HCALL.out 6 s (chunksTo (bt bs) nn r) wr (by omega) (by omega) hxr (HH.out.below (HK1.out.below.trans hkr.below)) (by have := HK1.out.below.size; have := hkr.below.size; omega) hJr hlen
      rw [← hstep] at hc
      unfold innerArgs at hc
      have HC := Lib.hid hc; clear hc
      have HKR := Lib.hid hkr; clear hkr
      have HST := Lib.hid hstep; clear hstep
      have HPR := Lib.hid hpre; clear hpre hlen hxr hJr
      rw [← hs]
      have HSS := Lib.hid hs; clear hs
      gi_wp2
      refine ⟨trivial, fun h => (by simp [Fence.wide] at h), (callsIn_wide (n := n - 1)).2 (HC.out.mono ?_)⟩
      rintro e W3 (⟨rfl, hJ3, hk3⟩ | ⟨rfl, q, hq, hJx3⟩)
      · clear HC
        gi_wp2
        go_roundw
        case rel => exact ⟨r + 1, by omega, by have := HSS.out; go_num, hJ3, HKR.out.trans hk3⟩
        case measure => simp [intOf]; omega
      · clear HC
        gi_wp2
        refine bodyPost_ret (results_none rfl _ _ _) rfl ?_
        refine ⟨⟨_, rfl⟩, .inr ⟨chunksTo (bt bs) nn r ++ q, ?_, hJx3⟩⟩
        refine List.IsPrefix.trans ?_ HPR.out
        rw [HST.out]
        exact (List.prefix_append_right_inj _).2 hq
    · have hlt' : ¬ (s : Int) < (nn : Int) := by omega
      obtain rfl : r = R := by omega
      have hdone := hJr
      rw [← HRC.out] at hdone
      have HD := Lib.hid hdone; clear hdone hJr hkr hxr
      rw [← hs]
      clear hs
      gi_wp2
      go_end0
      exact ⟨⟨_, rfl⟩, .inl HD.out⟩

end
/-- A chunk below n. -/
def Ck (nn : Nat) : Type := { x : Nat × Nat // x.1 + 2 ^ x.2 ≤ nn ∧ x.2 ≤ 6 }
def mkCk {nn : Nat} (x : Nat × Nat) (h1 : x.1 + 2 ^ x.2 ≤ nn) (h2 : x.2 ≤ 6) : Ck nn := ⟨x, h1, h2⟩
def raw {nn : Nat} (l : List (Ck nn)) : List (Nat × Nat) := l.map (·.1)
theorem raw_snoc {nn : Nat} (l : List (Ck nn)) (x : Ck nn) : raw (l ++ [x]) = raw l ++ [x.1] := by simp [raw]
theorem raw_len {nn : Nat} (l : List (Ck nn)) : (raw l).length = l.length := by simp [raw]
def encK {nn : Nat} (x : Ck nn) : Array Value := encC x.1
theorem raw_inj {nn : Nat} : ∀ {l m : List (Ck nn)}, raw l = raw m → l = m
  | [], [], _ => rfl
  | [], _ :: _, h => by simp [raw] at h
  | _ :: _, [], h => by simp [raw] at h
  | x :: l, y :: m, h => by
    simp only [raw, List.map_cons, List.cons.injEq] at h
    rw [Subtype.ext h.1, raw_inj (l := l) (m := m) h.2]

theorem chunks_stops (Bm Bn B : Nat) (A : Option Addr) (len c nn : Nat) (bs : List UInt8) (T : Nat → Prop) (n : Nat) (hT1 : ¬ T Bm) (hT2 : ¬ T Bn) (hl : len ≤ 140737488355328) (hnn : nn ≤ 1125899906842624) (w : World) (hT : ∀ b, T b → b < w.heap.size) (hBm : w.heap[Bm]? = some (.cells #[.slice A len c] 22 (0, 0))) (hBn : w.heap[Bn]? = some (.cells #[.int .i64 (nn : Int)] 3 (0, 0)))
    (h : Holds w B A len bs) (hB : B ≤ w.heap.size) :
    SeqStopsK Fence.wide n Try.prog 39 #[.pointer (some ⟨Bm, 0, none⟩), .pointer (some ⟨Bn, 0, none⟩)] (encK (nn := nn)) (KpT B T) (fun ys => raw ys = chunksL (bt bs) nn) (fun pre => raw pre <+: chunksL (bt bs) nn) (chunksL (bt bs) nn).length w := fun l J Jx W hW hJ _ hY h0 => by
  refine (chunks1_in Bm Bn l B A len c nn bs T _ (fun pre V => ∃ p : List (Ck nn), raw p = pre ∧ J p V) (fun pre V => ∃ p : List (Ck nn), raw p = pre ∧ Jx p V) n hT1 hT2 rfl hl hnn ?_ ?_ W (fun b hb => by have := hT b hb; have := hW.size; omega)
    ((hW.block _ (Array.getElem?_eq_some_iff.1 hBm).1).trans hBm) ((hW.block _ (Array.getElem?_eq_some_iff.1 hBn).1).trans hBn) (h.below (hW.mono hB)) (by have := hW.size; omega) ⟨[], rfl, h0⟩).mono ?_
  · rintro m pre x W1 g1 g2 ⟨p, rfl, hp⟩ hlt
    rw [raw_len] at hlt
    refine YieldAt.mono (anyDepth rfl m (hY p (mkCk x g1 g2) W1 hp hlt)) fun e W' hr => ?_
    exact hr.imp (fun ⟨h1, h2, h3⟩ => ⟨h1, ⟨p ++ [mkCk x g1 g2], raw_snoc p _, h2⟩, h3⟩) (fun ⟨h1, h2⟩ => ⟨h1, p ++ [mkCk x g1 g2], raw_snoc p _, h2⟩)
  · rintro pre V V' ⟨p, hp, h1⟩ h2
    exact ⟨p, hp, hJ p V V' none h1 (Below.grownN h2) (fun r e => by cases e)⟩
  · rintro e W' ⟨hv, hr⟩
    refine ⟨hv, hr.imp ?_ ?_⟩
    · rintro ⟨ys, rfl, p, hp, h1⟩
      exact ⟨p, hp, h1⟩
    · rintro ⟨pre, hpre, p, rfl, h1⟩
      exact ⟨p, hpre, h1⟩
end Go.Proofs.Ytnkiblifnknbkaa.Buddy
