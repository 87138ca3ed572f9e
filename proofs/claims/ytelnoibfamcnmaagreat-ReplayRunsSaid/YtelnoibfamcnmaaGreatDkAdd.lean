/- Contracts of the program's adding a pending write, and of its adding a ghost. -/
import Derived.Test.YtelnoibfamcnmaaGreatDkLow
import Derived.Deep.RegionHeld3
import Derived.Deep.DrawnRows
import Derived.IntWalk
import Derived.Deep.WholeRow
import Derived.Great.BuildSlice
import Derived.Deep.AppendLies
import Derived.Deep.RegionLaw
namespace Go.Proofs.YtelnoibfamcnmaaGreat.Disk
set_option maxRecDepth 20000
open Go.RowKit
open Go.Proofs.YtelnoibfamcnmaaGreat.Mem
attribute [local go_sem ↓] Go.wp_at_zero Go.wp_at_succ

theorem Row.cut {w : World} {e : TypeId} {size : Nat} {v : Value} {n : Nat} {xs : List Value} (h : Row w e size v n xs) (hn : 0 < n) :
    ∃ g cap cur, v = .slice (some ⟨g, 0, none⟩) n cap ∧ w.heap[g]? = some (.cells cur e (0, 0)) ∧ n ≤ cap ∧ cap ≤ maxLen ∧ cur.size = cap * size ∧ cur.toList.take (n * size) = xs := by
  rcases h.2 with ⟨rfl, hz⟩ | ⟨g, cap, cur, rfl, _, r⟩
  · omega
  · exact ⟨g, cap, cur, rfl, r⟩
theorem splice_get {α : Type} (L : List α) (off : Nat) (cs : List α) (h : off ≤ L.length) (j : Nat) : (splice L off cs)[j]? = if j < off then L[j]? else if j < off + cs.length then cs[j - off]? else L[j]? := by
  unfold splice
  have hl : (L.take off).length = off := by simp; omega
  by_cases h1 : j < off
  · rw [if_pos h1, List.getElem?_append_left (by omega), List.getElem?_take, if_pos h1]
  · rw [if_neg h1, List.getElem?_append_right (by omega), hl]
    by_cases h2 : j < off + cs.length
    · rw [if_pos h2, List.getElem?_append_left (by omega)]
    · rw [if_neg h2, List.getElem?_append_right (by omega), List.getElem?_drop]
      congr 1
      omega
theorem splice_take {α : Type} (L : List α) (n off : Nat) (cs : List α) (h : off + cs.length ≤ n) (hn : n ≤ L.length) : (splice L off cs).take n = splice (L.take n) off cs := by
  apply List.ext_getElem?
  intro j
  rw [List.getElem?_take, splice_get _ _ _ (by omega), splice_get _ _ _ (by simp; omega), List.getElem?_take]
  by_cases h1 : j < n
  · simp [h1]
  · simp [h1, show ¬ j < off by omega, show ¬ j < off + cs.length by omega]
theorem Row.laid {w' : World} {e : TypeId} {g n cap off : Nat} {cur : Array Value} {xs cs : List Value} (hn : n ≤ cap) (hm : cap ≤ maxLen) (hs : cur.size = cap) (hx : cur.toList.take n = xs)
    (h : w'.heap[g]? = some (.cells (splice cur.toList off cs).toArray e (0, 0))) (ho : off + cs.length ≤ n) : Row w' e 1 (.slice (some ⟨g, 0, none⟩) n cap) n (splice xs off cs) := by
  have hxl : xs.length = n := by rw [← hx]; simp; omega
  refine ⟨by rw [length_splice _ _ _ (by omega), hxl]; omega, .inr ⟨g, cap, _, rfl, Nat.zero_le _, h, hn, hm, ?_, ?_⟩⟩
  · rw [List.size_toArray, length_splice _ _ _ (by simp; omega)]; simp; omega
  · rw [List.toList_toArray, Nat.mul_one, splice_take _ _ _ _ ho (by simp; omega), hx]

/-- 'copy' as one step of a statement that draws its order, the world behind it written out. -/
theorem step_copy_row {P : Program} {ops : Array Oper} {o : Oper} {a : Act} {w : World} {K : Act → World → Prop} {Q : Exit → Act → World → Prop} {E : Prop} (hgd : o.guard = none) (d s : Operand) (dT sT : TypeId)
    (ho : o.op = .call { callee := .builtin .copy, args := #[d, s], argTypes := #[dT, sT] }) (elem : TypeId) (hu : P.underlying dT = some (.slice elem)) (hsz : (P.info? elem).map (·.size) = some 1)
    (g off dLen dCap : Nat) (ad : Addr) (sLen sCap : Nat) (hd : a.eval d = .slice (some ⟨g, off, none⟩) dLen dCap) (hs : a.eval s = .slice (some ad) sLen sCap)
    (cur : Array Value) (t : TypeId) (hg : w.heap[g]? = some (.cells cur t (0, 0))) (cs : List Value) (hn : cs.length = Nat.min sLen dLen)
    (hsrc : ∀ j v, cs[j]? = some v → w.cell? (ad.add j) = some v) (hfit : off + cs.length ≤ cur.size) (h1 : ∀ v ∈ cs, v.oneCell' = true)
    (h : K (a.put o.dst (goInt cs.length)) (w.setRow g (splice cur.toList off cs).toArray)) :
    if Region.wanted o (yielded ops a.tmps) = true then Oper.wp P o a w K Q else E := by
  have hw : Region.wanted o (yielded ops a.tmps) = true := by simp [Region.wanted, hgd]
  rw [if_pos hw]
  have hrun := run_copy_row (P := P) w dT sT o.type elem g off dLen dCap ad sLen sCap cur t cs hu hsz hg hn hsrc hfit h1
  unfold Oper.wp
  simp [execOp, ho, resolve, invoke, builtin, hd, hs, hrun, Result.andThen]
  have h' : K (a.put o.dst (goInt cs.length)) (w.setRow g (cur.toList.take off ++ (cs ++ cur.toList.drop (off + cs.length))).toArray) := h
  exact h'
theorem info_byte : (Tryz.prog.info? 5).map (·.size) = some 1 := by kernel_rfl

theorem run_slice_from (W : World) (g n cap k : Nat) (i : Int) (hi : i = (k : Int)) (hk : k < n) (hn : n ≤ cap) :
    (Instr.slice 25 (.slice (some ⟨g, 0, none⟩) n cap) (some (.int .i64 i)) none none).run Tryz.prog W = .ok (.slice (some ⟨g, k, none⟩) (n - k) (cap - k)) W := by
  subst hi
  have h := run_slice_l (P := Tryz.prog) W 25 (some ⟨g, 0, none⟩) n cap (by rw [Tryz.underlying25]; rfl) .i64 (k : Int) (by omega) (by omega)
  rw [h]
  have hs : (sizeOf (Tryz.prog.elem 25)).run Tryz.prog W = .ok 1 W := by rfl
  rw [hs]
  simp [Result.andThen, sliced, show ¬ cap = k by omega, Addr.add_mid]
theorem run_sliceAt_from (W : World) (g n cap k : Nat) (i : Int) (hi : i = (k : Int)) (hk : k < n) (hn : n ≤ cap) :
    (Instr.sliceAt 25 (.slice (some ⟨g, 0, none⟩) n cap) (some (.int .i64 i)) none none).run Tryz.prog W = .ok (.slice (some ⟨g, k, none⟩) (n - k) (cap - k)) W := by
  rw [run_sliceAt_slice (P := Tryz.prog) W 25 _ _ _ _ (by rw [Tryz.underlying25]; rfl)]
  exact run_slice_from W g n cap k i hi hk hn
theorem run_sliceAt_sec (W : World) (B l h : Nat) (i j : Int) (hi : i = (l : Int)) (hj : j = (h : Int)) (hl : l < h) (hh : h ≤ 256) :
    (Instr.sliceAt 81 (.pointer (some ⟨B, 1, none⟩)) (some (.int .i64 i)) (some (.int .i64 j)) none).run Tryz.prog W = .ok (.slice (some ⟨B, 1 + l, none⟩) (h - l) (256 - l)) W := by
  subst hi hj
  have hA : Tryz.prog.arrayLen 81 = 256 := by kernel_rfl
  have hh' : (h : Int) ≤ ((Tryz.prog.arrayLen 81 : Nat) : Int) := by rw [hA]; omega
  have hq := run_sliceAt_array_lh (P := Tryz.prog) W 81 ⟨B, 1, none⟩ (by rw [Tryz.underlying81]; rfl) .i64 .i64 (l : Int) (h : Int) (by omega) (by omega) hh'
  rw [hq]
  have hs : (sizeOf (Tryz.prog.elem 81)).run Tryz.prog W = .ok 1 W := by rfl
  rw [hs, hA]
  simp [Result.andThen, slicedAt, show ¬ 256 = l by omega, Addr.add_mid]

/-- Some sectors of a write laid over the stable bytes. -/
def laid (st : List UInt8) (x : Wr) (f t : Nat) : List UInt8 := splice st (x.1 * 256 + f * 64) ((x.2.drop (f * 64)).take (t * 64 - f * 64))

set_option maxHeartbeats 1000000 in
theorem keep_any (L : Low) (p m n f t : Nat) (x : Wr) (vs vw : Value) (w : World) (h : LowAt w p L vs vw m) (hn : L.st.length = 256 * n) (hm : n ≤ 1024) (hx : x.1 < n) (hl : x.2.length = 256) (hf : f < t) (ht : t ≤ 4) :
    Calls Tryz.prog 35 #[.pointer (some ⟨p, 0, none⟩), .agg (wcells x).toArray, .int .i64 (f : Int), .int .i64 (t : Int)] w fun e w' =>
      e = .returned (.tuple #[]) ∧ LowAt w' p { L with st := laid L.st x f t } vs vw m ∧ Turns (fun k => vs.ownBlock = some k) w w' := by
  have h0 := h.f0
  obtain ⟨g, cap, cur, rfl, hg, hc1, hc2, hc3, hc4⟩ := h.st.cut (by omega)
  unfold maxLen at hc2
  have hgl : g < w.heap.size := (Array.getElem?_eq_some_iff.1 hg).1
  have hpl := h.p_lt
  obtain ⟨C, hC⟩ : ∃ C, C = (wcells x).toArray := ⟨_, rfl⟩
  rw [← hC]
  have hCs : C.size = 257 := by rw [hC, List.size_toArray, wcells_len x hl]
  have hC0 : C[0]? = some (.int .i64 (x.1 : Int)) := by rw [hC]; rfl
  have HC := Lib.hid hC; clear hC
  have H := Lib.hid h; clear h
  obtain ⟨N, hN⟩ : ∃ N, L.st.length = N := ⟨_, rfl⟩
  rw [hN] at h0 hc1 hc4 hn
  have hlt : x.1 * 256 + f * 64 < N := by omega
  have hend : x.1 * 256 + f * 64 + (t * 64 - f * 64) ≤ N := by omega
  have HNN := Lib.hid hN; clear hN
  go_enter Tryz.func35, Tryz.ntmps35
  go_wp2
  have ht0 : Turns (fun k => some g = some k) w (w.alloc (.cells C 83)) := (Turns.refl _ w).alloc _
  have hB : (w.alloc (.cells C 83)).heap[w.heap.size]? = some (.cells C 83 (0, 0)) := heap_alloc_new w _
  have hS : (w.alloc (.cells C 83)).heap[g]? = some (.cells cur 5 (0, 0)) := by rw [Below.heap_alloc _ _ _ hgl]; exact hg
  have hP : (w.alloc (.cells C 83)).cell? ⟨p, 0, none⟩ = some (.slice (some ⟨g, 0, none⟩) N cap) := by rw [World.cell?_of_block (Below.heap_alloc _ _ _ hpl)]; exact h0
  have hX : (w.alloc (.cells C 83)).cell? ⟨w.heap.size, 0, none⟩ = some (.int .i64 (x.1 : Int)) := by rw [cell_of_row _ _ _ _ _ _ hB]; exact hC0
  generalize w.alloc (.cells C 83) = W at ht0 hB hS hP hX ⊢
  have HS := Lib.hid hS; clear hS
  have HB := Lib.hid hB; clear hB
  have HG := Lib.hid hg; clear hg
  have HT := Lib.hid ht0; clear ht0
  have HC0 := Lib.hid hC0; clear hC0
  have HCS := Lib.hid hCs; clear hCs
  have HN := Lib.hid hn; clear hn
  have HL := Lib.hid hl; clear hl
  have H4 := Lib.hid hc4; clear hc4
  have H3 := Lib.hid hc3; clear hc3
  have q1 := fun W => run_slice_from W g N cap (x.1 * 256 + f * 64) ((x.1 : Int) * 256 + (f : Int) * 64) (by omega) hlt hc1
  have q2 := fun W => run_sliceAt_from W g N cap (x.1 * 256 + f * 64) ((x.1 : Int) * 256 + (f : Int) * 64) (by omega) hlt hc1
  have q3 := fun W => run_sliceAt_sec W w.heap.size (f * 64) (t * 64) ((f : Int) * 64) ((t : Int) * 64) (by omega) (by omega) (by omega) (by omega)
  have e1 : IntKind.i64.wrap ((x.1 : Int) * 256) = (x.1 : Int) * 256 := IntWalk.i64_in _ (by omega)
  have e2 : IntKind.i64.wrap ((f : Int) * 64) = (f : Int) * 64 := IntWalk.i64_in _ (by omega)
  have e3 : IntKind.i64.wrap ((t : Int) * 64) = (t : Int) * 64 := IntWalk.i64_in _ (by omega)
  have e4 : IntKind.i64.wrap ((x.1 : Int) * 256 + (f : Int) * 64) = (x.1 : Int) * 256 + (f : Int) * 64 := IntWalk.i64_in _ (by omega)
  obtain ⟨cs, hcs⟩ : ∃ cs, cs = ((x.2.drop (f * 64)).take (t * 64 - f * 64)).map byteV := ⟨_, rfl⟩
  have hcl : cs.length = t * 64 - f * 64 := by have := HL.out; rw [hcs]; simp; omega
  have hlen : cs.length = Nat.min (t * 64 - f * 64) (N - (x.1 * 256 + f * 64)) := by rw [hcl]; exact (Nat.min_eq_left (by omega)).symm
  have hsrc : ∀ j v, cs[j]? = some v → W.drew.cell? ((⟨w.heap.size, 1 + f * 64, none⟩ : Addr).add j) = some v := by
    intro j v hv
    have hj : j < cs.length := (List.getElem?_eq_some_iff.1 hv).1
    rw [Addr.add_mid]
    show W.cell? _ = _
    rw [cell_of_row _ _ _ _ _ _ HB.out, HC.out]
    rw [hcs, List.getElem?_map, List.getElem?_take, if_pos (by omega), List.getElem?_drop] at hv
    simp only [wcells, List.getElem?_toArray]
    rw [show 1 + f * 64 + j = (f * 64 + j) + 1 by omega, List.getElem?_cons_succ, List.getElem?_map]
    exact hv
  have hfit : x.1 * 256 + f * 64 + cs.length ≤ cur.size := by have := H3.out; omega
  have hone : ∀ v ∈ cs, v.oneCell' = true := by
    intro v hv; rw [hcs] at hv; obtain ⟨c, _, rfl⟩ := List.mem_map.1 hv; rfl
  have HCS2 := Lib.hid hcs; clear hcs
  have HCL := Lib.hid hcl; clear hcl
  have HLE := Lib.hid hlen; clear hlen
  have HSR := Lib.hid hsrc; clear hsrc
  have HON := Lib.hid hone; clear hone
  have hD : W.drew.heap[g]? = some (.cells cur 5 (0, 0)) := HS.out
  have HD := Lib.hid hD; clear hD
  have hpg : p ≠ g := fun e => by
    have h1 := H.out.head
    rw [e, HG.out] at h1
    cases h1
  have HK1 : Hid ((W.drew.setRow g (splice cur.toList (x.1 * 256 + f * 64) cs).toArray).cell? ⟨p, 0, none⟩ = some (.slice (some ⟨g, 0, none⟩) N cap)) := Lib.hid ((World.cell?_of_block (w := W) (setRow_other W.drew g p _ hpg)).trans hP)
  have HK2 : Hid ((W.drew.setRow g (splice cur.toList (x.1 * 256 + f * 64) cs).toArray).cell? ⟨w.heap.size, 0, none⟩ = some (.int .i64 (x.1 : Int))) := Lib.hid ((World.cell?_of_block (w := W) (setRow_other W.drew g w.heap.size _ (by omega))).trans hX)
  go_region_held3 (fun w' => w'.cell? ⟨p, 0, none⟩ = some (.slice (some ⟨g, 0, none⟩) N cap) ∧ w'.cell? ⟨w.heap.size, 0, none⟩ = some (.int .i64 (x.1 : Int))) (first | go_keep | exact ⟨HK1.out, HK2.out⟩)
    ((refine step_copy_row rfl (.tmp 18) (.tmp 24) 25 25 rfl 5 Tryz.underlying25 info_byte g (x.1 * 256 + f * 64) _ _ ⟨w.heap.size, 1 + f * 64, none⟩ _ _ rfl rfl cur 5 HD.out cs HLE.out HSR.out hfit HON.out ?_))
  go_wp2
  go_end0
  have hW : Turns (fun k => some g = some k) w (W.drew.setRow g (splice cur.toList (x.1 * 256 + f * 64) cs).toArray) := HT.out.drew.setRow g _ (fun _ => rfl)
  have hh := H.out
  refine ⟨rfl, ?_, hW⟩
  have hap := hh.apart
  have hrow : (W.drew.setRow g (splice cur.toList (x.1 * 256 + f * 64) cs).toArray).heap[g]? = some (.cells (splice cur.toList (x.1 * 256 + f * 64) cs).toArray 5 (0, 0)) := setRow_heap _ _ _ _ _ _ HD.out
  have hlaid : (laid L.st x f t).length = L.st.length := by
    have h1 := HNN.out
    have h2 := HCL.out
    rw [HCS2.out, List.length_map] at h2
    unfold laid
    rw [length_splice _ _ _ (by omega)]
  refine ⟨?_, ?_, hh.ws.turns hW (fun k hk e => hap.2.2.2.2.2 g rfl (by rw [hk, e])), ?_⟩
  · exact (hW.block p hh.p_lt (fun e => hap.2.1 (by simpa [Value.ownBlock] using e))).trans hh.head
  · show Row _ _ _ _ (laid L.st x f t).length ((laid L.st x f t).map byteV)
    rw [hlaid]
    have hr := Row.laid (n := N) (xs := L.st.map byteV) hc1 (by unfold maxLen; omega) (by have := H3.out; omega) (by have := H4.out; rwa [Nat.mul_one] at this) hrow (by have := HCL.out; omega)
    rw [HNN.out]
    have e : (laid L.st x f t).map byteV = splice (L.st.map byteV) (x.1 * 256 + f * 64) cs := by
      rw [HCS2.out]
      simp [laid, splice, List.map_take, List.map_drop]
    rw [e]
    exact hr
  · obtain ⟨es, clock, g1, g2⟩ := hh.last
    exact ⟨es, clock, (hW.block m hh.last.lt (fun e => hap.2.2.2.1 (by simpa [Value.ownBlock] using e))).trans g1, g2⟩
end Go.Proofs.YtelnoibfamcnmaaGreat.Disk

namespace Go.Proofs.YtelnoibfamcnmaaGreat.Disk
set_option maxRecDepth 20000
open Go.RowKit
open Go.Proofs.YtelnoibfamcnmaaGreat.Mem

def ldW (x : Value) : Sem Value := Instr.loadAt 83 x
def stW (x v : Value) : Sem Unit := Instr.storeAt 83 x v
def newW (b : Bool) (v : Value) : Sem Value := Instr.alloc 83 b v
def mkW (parts : Array (Nat × Value)) : Sem Value := Instr.build 83 parts
def oneW (n : Nat) (parts : Array (Nat × Value)) : Sem Value := Instr.buildSlice 77 n parts
theorem ldW_eq (x : Value) : Instr.loadAt 83 x = ldW x := rfl
theorem stW_eq (x v : Value) : Instr.storeAt 83 x v = stW x v := rfl
theorem newW_eq (b : Bool) (v : Value) : Instr.alloc 83 b v = newW b v := rfl
theorem mkW_eq (parts : Array (Nat × Value)) : Instr.build 83 parts = mkW parts := rfl
theorem oneW_eq (n : Nat) (parts : Array (Nat × Value)) : Instr.buildSlice 77 n parts = oneW n parts := rfl

def zeroWr : List Value := wcells (0, List.replicate 256 0)
theorem zeroWr_len : zeroWr.length = 257 := wcells_len _ (List.length_replicate ..)
theorem info_wr : (Tryz.prog.info? 83).map (fun i => (i.zero, i.size, i.bytes)) = some (some (.agg zeroWr.toArray), 257, 264) := by kernel_rfl
theorem size_wr : (Tryz.prog.info? 83).map (·.size) = some 257 := by kernel_rfl
theorem zeroSz_wr : (Tryz.prog.info? 83).map (fun i => (i.zero, i.size)) = some (some (.agg zeroWr.toArray), 257) := by kernel_rfl

theorem run_ldW (W : World) (b o : Nat) (cs : List Value) (hr : W.rangeAt b o cs) (hl : cs.length = 257) : (ldW (.pointer (some ⟨b, o, none⟩))).run Tryz.prog W = .ok (.agg cs.toArray) W :=
  run_loadAt_mid W b o _ cs _ hr Tryz.underlying83 rfl (by rw [size_wr, hl])
theorem run_stW (W : World) (b o : Nat) (cs : List Value) (ht : W.there b o 257) (hl : cs.length = 257) (h1 : ∀ v ∈ cs, v.oneCell' = true) : (stW (.pointer (some ⟨b, o, none⟩)) (.agg cs.toArray)).run Tryz.prog W = .ok () (W.setCells b o cs) := by
  have h := run_storeAt_mid (P := Tryz.prog) W b o 83 cs.toArray (by rw [List.size_toArray, hl]; exact ht) (by rw [size_wr, List.size_toArray, hl]) (all_oneCell_toArray h1)
  rw [← stW_eq]
  simpa using h
/-- A variable of a write, made and at once laid. -/
theorem run_newW (W : World) : (newW true (.tuple #[])).run Tryz.prog W = .ok (.pointer (some ⟨W.heap.size, 0, none⟩)) (W.alloc (.cells zeroWr.toArray 83)) := by
  have hz := (zero_of_info zeroSz_wr).1
  unfold newW Instr.alloc
  simp [hz, Sem.run_bind, Result.andThen, go_sem]
theorem run_stW_new (W : World) (cs : List Value) (hl : cs.length = 257) (h1 : ∀ v ∈ cs, v.oneCell' = true) :
    (stW (.pointer (some ⟨W.heap.size, 0, none⟩)) (.agg cs.toArray)).run Tryz.prog (W.alloc (.cells zeroWr.toArray 83)) = .ok () (W.alloc (.cells cs.toArray 83)) :=
  run_storeAt_new W 83 zeroWr.toArray cs.toArray (by rw [size_wr, List.size_toArray, hl]) (by rw [List.size_toArray, List.size_toArray, hl, zeroWr_len]) (all_oneCell_toArray h1)
theorem run_oneW (cs : List Value) (hC : cs.length = 257) (W : World) :
    (oneW 1 #[(0, Value.agg cs.toArray)]).run Tryz.prog W = .ok (.slice (some ⟨W.heap.size, 0, none⟩) 1 1) (W.alloc (.cells cs.toArray 83)) := by
  obtain ⟨i0, hi, hz0, hz1, hz2⟩ := info_parts info_wr
  refine run_buildSlice W 77 83 1 _ cs.toArray i0 (.agg zeroWr.toArray) Tryz.underlying77 hi hz0 (by rw [hz1]; omega) (by rw [hz1]; omega) ?_
  rw [hz1]
  have h := Great.fill_whole (s := 257) (by omega) [Value.agg cs.toArray] ((Array.range (1 * 257)).map ((Value.agg zeroWr.toArray).cells[· % (Value.agg zeroWr.toArray).cells.size]!)) (by intro v hv; simp at hv; subst hv; simpa [Value.cells] using hC) (by simp)
  simpa [Value.cells] using h
theorem run_mkW (b : Int) (W : World) : (mkW #[(0, .int .i64 b)]).run Tryz.prog W = .ok (.agg (Value.int .i64 b :: (List.replicate 256 (0 : UInt8)).map byteV).toArray) W :=
  run_build W 83 _ _ (by kernel_rfl)
end Go.Proofs.YtelnoibfamcnmaaGreat.Disk

namespace Go.Proofs.YtelnoibfamcnmaaGreat.Disk
set_option maxRecDepth 20000
open Go.RowKit
open Go.Proofs.YtelnoibfamcnmaaGreat.Mem
attribute [local go_sem ↓] Go.wp_at_zero Go.wp_at_succ ldW_eq stW_eq newW_eq mkW_eq oneW_eq

theorem intLit (n : Nat) (h : n ≤ 4294967296) : (Lit.int .i64 (n : Int)).wf = true := by
  simp [Lit.wf, show IntKind.i64.min = -9223372036854775808 from rfl, show IntKind.i64.max = 9223372036854775807 from rfl]
  omega
theorem Row.shape {w : World} {e : TypeId} {size : Nat} {v : Value} {n : Nat} {xs : List Value} (h : Row w e size v n xs) : ∃ A c, v = .slice A n c := by
  rcases h.2 with ⟨rfl, rfl⟩ | ⟨g, cap, cur, rfl, _⟩
  · exact ⟨none, 0, rfl⟩
  · exact ⟨_, _, rfl⟩

/-- The device behind a write more. -/
def Added (w : World) (p m : Nat) (L : Low) (vs vw : Value) (e : Ending) (w' : World) : Prop :=
  ∃ vw', e = .returned (.tuple #[]) ∧ LowAt w' p L vs vw' m ∧ (∀ k, vw'.ownBlock = some k → vw.ownBlock = some k ∨ w.heap.size ≤ k) ∧ Turns (fun k => k = p ∨ k = m ∨ vw.ownBlock = some k) w w'

set_option maxRecDepth 100000 in
set_option maxHeartbeats 1000000 in
theorem add_any (L : Low) (p m n : Nat) (x : Wr) (vs vw : Value) (w : World) (h : LowAt w p L vs vw m) (hm : n ≤ 1024) (hx : x.1 < n) (hl : x.2.length = 256) (hw : L.ws.length ≤ 1048576) (hpd : L.pend ≤ 1048576) :
    Calls Tryz.prog 91 #[.pointer (some ⟨p, 0, none⟩), .agg (wcells x).toArray] w (Added w p m { L with ws := L.ws ++ [x], pend := L.pend + 1 } vs vw) := by
  have c1 := h.f1
  have c2 := h.f2
  have c3 := h.f3
  have hpl := h.p_lt
  have hml := h.last.lt
  have hap := h.apart
  obtain ⟨A, cp, rfl⟩ := h.ws.shape
  obtain ⟨cs, hC⟩ : ∃ cs, cs = wcells x := ⟨_, rfl⟩
  rw [← hC]
  have hCs : cs.length = 257 := by rw [hC, wcells_len x hl]
  have hC0 : cs.toArray[0]? = some (.int .i64 (x.1 : Int)) := by rw [hC]; rfl
  have hC1 : ∀ v ∈ cs, v.oneCell' = true := by rw [hC]; intro v hv; exact flat_one [x] v (by simpa [flat] using hv)
  have hone := run_oneW cs hCs
  obtain ⟨i0, hi, hz0, hz1, hz2⟩ := info_parts info_wr
  have HC := Lib.hid hC; clear hC
  have H := Lib.hid h; clear h
  have HCS := Lib.hid hCs
  have HC0 := Lib.hid hC0; clear hC0
  have hcs := HCS.out
  clear hCs
  have HAP := Lib.hid hap; clear hap
  go_enter Tryz.func91, Tryz.ntmps91
  go_wp2
  obtain ⟨W, hW⟩ : ∃ W, w.alloc (.cells cs.toArray 83) = W := ⟨_, rfl⟩
  rw [hW]
  have hbl : ∀ k, k < w.heap.size → W.heap[k]? = w.heap[k]? := fun k hk => by rw [← hW]; exact Below.heap_alloc _ _ _ hk
  have hB : W.heap[w.heap.size]? = some (.cells cs.toArray 83 (0, 0)) := by rw [← hW]; exact heap_alloc_new w _
  have hWs : W.heap.size = w.heap.size + 1 := by rw [← hW]; simp
  have ht1 : Turns (fun k => k = p ∨ k = m ∨ (Value.slice A L.ws.length cp).ownBlock = some k) w W := by rw [← hW]; exact (Turns.refl _ w).alloc _
  have a1 : W.cell? ⟨p, 1, none⟩ = some (.slice A L.ws.length cp) := by rw [World.cell?_of_block (hbl p hpl)]; exact c1
  have a3 : W.cell? ⟨p, 3, none⟩ = some (.map (some m)) := by rw [World.cell?_of_block (hbl p hpl)]; exact c3
  have aB : W.cell? ⟨w.heap.size, 0, none⟩ = some (.int .i64 (x.1 : Int)) := by rw [cell_of_row _ _ _ _ _ _ hB]; exact HC0.out
  have hM : W.drew.ownsMap Tryz.prog 3 (plainElem Tryz.prog 3) m L.ws.length (lastD (nums L.ws)) := by
    obtain ⟨es, clock, g1, g2⟩ := H.out.last
    exact ⟨es, clock, (hbl m hml).trans g1, g2⟩
  have hk : keyOf Tryz.prog 3 (.int .i64 (x.1 : Int)) = some (keyL x.1) := Maps.keyOf_int_mk Tryz.underlying3 (intLit x.1 (by omega))
  have hv : plainElem (H := Unit) Tryz.prog 3 (.int .i64 (L.ws.length : Int)) = some (placeD L.ws.length, []) := plainElem_int Tryz.underlying3 (intLit L.ws.length (by omega))
  obtain ⟨w2, hrun, hM2, hg2⟩ := hM.update (t := 78) intKey Tryz.underlying78 (by unfold maxLen; omega) hk hv
  clear hk hv
  clear hW
  have hbl2 : ∀ k, k < W.heap.size → k ≠ m → w2.heap[k]? = W.heap[k]? := fun k hk hne => hg2.block k hk (fun e => hne (by injection e))
  have b1 : w2.cell? ⟨p, 1, none⟩ = some (.slice A L.ws.length cp) := by rw [World.cell?_of_block (hbl2 p (by omega) HAP.out.1)]; exact a1
  have b3 : w2.cell? ⟨p, 3, none⟩ = some (.map (some m)) := by rw [World.cell?_of_block (hbl2 p (by omega) HAP.out.1)]; exact a3
  have bB : w2.cell? ⟨w.heap.size, 0, none⟩ = some (.int .i64 (x.1 : Int)) := by rw [World.cell?_of_block (hbl2 w.heap.size (by omega) (by omega))]; exact aB
  have HBL := Lib.hid hbl; clear hbl
  have HBL2 := Lib.hid hbl2; clear hbl2
  have HB := Lib.hid hB; clear hB
  have HWS := Lib.hid hWs; clear hWs
  go_region_held3 (fun w' => w'.cell? ⟨p, 1, none⟩ = some (.slice A L.ws.length cp) ∧ w'.cell? ⟨p, 3, none⟩ = some (.map (some m)) ∧ w'.cell? ⟨w.heap.size, 0, none⟩ = some (.int .i64 (x.1 : Int))) (go_keep) (fail)
  clear hrun
  go_wp2
  have hB2 : w2.heap[w.heap.size]? = some (.cells cs.toArray 83 (0, 0)) := by rw [HBL2.out _ (by have := HWS.out; omega) (by omega)]; exact HB.out
  have hr2 : w2.rangeAt w.heap.size 0 cs := by
    intro j v hv
    rw [Nat.zero_add, cell_of_row _ _ _ _ _ _ hB2]
    simpa using hv
  have HB2 := Lib.hid hB2; clear hB2
  have hs2 : W.heap.size ≤ w2.heap.size := hg2.size
  have hrow2 : Row w2 83 257 (.slice A L.ws.length cp) L.ws.length (flat L.ws) :=
    H.out.ws.turns (F := fun k => k = m ∨ w.heap.size ≤ k) ⟨hg2.os.trans ht1.os, hg2.tape.trans ht1.tape, hg2.output.trans ht1.output, by have := HWS.out; omega, fun k hk hf => (HBL2.out k (by have := HWS.out; omega) (fun e => hf (.inl e))).trans (HBL.out k hk)⟩
      (fun k hk hf => by
        have := H.out.ws.lt hk
        rcases hf with hf | hf
        · subst hf; exact HAP.out.2.2.2.2.1 hk
        · omega)
  have hL2 : (ldW (.pointer (some ⟨w.heap.size, 0, none⟩))).run Tryz.prog w2.drew = .ok (.agg cs.toArray) w2.drew := run_ldW w2.drew _ 0 cs hr2 hcs
  clear hr2
  have a1D : w2.drew.cell? ⟨p, 1, none⟩ = some (.slice A L.ws.length cp) := b1
  have a1A : (w2.alloc (.cells cs.toArray 83)).cell? ⟨p, 1, none⟩ = some (.slice A L.ws.length cp) := by rw [World.cell?_of_block (Below.heap_alloc w2 _ p (by show p < w2.heap.size; have := HWS.out; omega))]; exact b1
  have hrowA : Row (w2.drew.alloc (.cells cs.toArray 83)) 83 257 (.slice A L.ws.length cp) L.ws.length (flat L.ws) := World.ownsRow.alloc (w := w2.drew) hrow2 _
  have hnews := World.news_of_block (w := w2.drew.alloc (.cells cs.toArray 83)) (heap_alloc_new w2.drew (.cells cs.toArray 83))
  have hlen1 : cs.toArray.toList.length = 1 * 257 := by simpa using hcs
  have hones : ∀ u ∈ cs.toArray.toList, u.oneCell' = true := by simpa using hC1
  have HRA := Lib.hid hrowA; clear hrowA
  have HNW := Lib.hid hnews; clear hnews
  have HL1 := Lib.hid hlen1; clear hlen1
  have HON := Lib.hid hones; clear hones
  have HZ0 := Lib.hid hz0; clear hz0
  have HZ1 := Lib.hid hz1; clear hz1
  have HZ2 := Lib.hid hz2; clear hz2
  have HI := Lib.hid hi; clear hi
  have hT2 : Turns (fun k => k = p ∨ k = m ∨ (Value.slice A L.ws.length cp).ownBlock = some k) w w2 := ht1.drew.grown hg2 (fun k hk _ => .inr (.inl (by injection hk with hk; exact hk.symm)))
  have hpd : w2.heap[p]? = some (.cells (headOf vs (.slice A L.ws.length cp) m L) 80 (0, 0)) := (HBL2.out p (by have := HWS.out; omega) HAP.out.1).trans ((HBL.out p hpl).trans H.out.head)
  have HPD := Lib.hid hpd; clear hpd
  have HT2 := Lib.hid hT2; clear hT2
  have hp2 : p < w2.heap.size := by have := HWS.out; omega
  have hps : p < (w2.drew.alloc (.cells cs.toArray 83)).heap.size := by
    have : p < w2.heap.size := by have := HWS.out; omega
    simp; omega
  clear hs2 hM
  go_region_law ((
    refine step_append_lies _ rfl (.tmp 19) (.tmp 21) 77 rfl 0 83 i0 (.agg zeroWr.toArray) 257 264 Tryz.underlying77 HI.out HZ0.out HZ1.out HZ2.out (by rw [Value.cells, List.size_toArray, zeroWr_len]) (by omega) (.slice A L.ws.length cp) L.ws.length (flat L.ws) rfl HRA.out ⟨w2.drew.heap.size, 0, none⟩ 1 1 cs.toArray.toList rfl HL1.out HNW.out HON.out (by omega) (by unfold maxLen; omega) (by omega) (by omega) _ rfl ?_
    intro g cap w4 hown4 hgrow4 hat4 hlt4
    have hp4 : Hid (w4.heap[p]? = some (.cells (headOf vs (.slice A L.ws.length cp) m L) 80 (0, 0))) := Lib.hid ((hgrow4.block p hps (fun e => HAP.out.2.2.1 e.symm)).trans ((Below.heap_alloc w2.drew _ p hp2).trans HPD.out))
    have e1 : w4.cell? ⟨p, 1, none⟩ = some (.slice A L.ws.length cp) := (cell_of_row w4 p 1 _ _ _ hp4.out)
    have e2 : w4.cell? ⟨p, 2, none⟩ = some (.int .i64 (L.pend : Int)) := (cell_of_row w4 p 2 _ _ _ hp4.out)
    have f1 : w4.frozen? ⟨p, 1, none⟩ = false := frozen_of_row w4 p 1 _ _ hp4.out
    have f2 : w4.frozen? ⟨p, 2, none⟩ = false := frozen_of_row w4 p 2 _ _ hp4.out
    have HO4 := Lib.hid hown4
    clear hown4
    have HG4 := Lib.hid hgrow4
    clear hgrow4
    have HA4 := Lib.hid hat4
    clear hat4))
  all_goals
    go_wp2
    go_end0
    have hT2 := HT2.out
    have hT4 : Turns (fun k => k = p ∨ k = m ∨ (Value.slice A L.ws.length cp).ownBlock = some k) w w4 := (hT2.drew.alloc _).grown HG4.out (fun k hk _ => .inr (.inr hk))
    have hap := HAP.out
    have hh := H.out
    have hm4 : w4.ownsMap Tryz.prog 3 (plainElem Tryz.prog 3) m (L.ws.length + 1) (lastD (nums (L.ws ++ [x]))) := by
      have e : lastD (nums (L.ws ++ [x])) = (lastD (nums L.ws)).put (keyL x.1) (placeD L.ws.length) := by
        simp only [nums, List.map_append, List.map_cons, List.map_nil]
        rw [lastD_snoc]; simp
      rw [e]
      exact (hM2.drew.alloc _).kept HG4.out (fun e => hap.2.2.2.2.1 e.symm)
    have hgp : g ≠ p := fun e => by
      obtain ⟨cur, hc⟩ := row_type (v := .slice (some ⟨g, 0, none⟩) (L.ws.length + 1) cap) HO4.out (k := g) rfl
      have := hp4.out
      rw [e, this] at hc
      cases hc
    have hTz : ∀ u v, Turns (fun k => k = p) w4 ((w4.setCell ⟨p, 1, none⟩ u).setCell ⟨p, 2, none⟩ v) := fun u v => (turns_cell w4 p 1 u).trans (turns_cell _ p 2 v) (fun _ _ e => e)
    refine ⟨.slice (some ⟨g, 0, none⟩) (L.ws.length + 1) cap, rfl, ⟨?_, ?_, ?_, ?_⟩, ?_, (hT4.setCell (p := ⟨p, 1, none⟩) (fun _ => .inl rfl) _).setCell (p := ⟨p, 2, none⟩) (fun _ => .inl rfl) _⟩
    · rw [heap_setCell_same _ p 2 _ _ _ (heap_setCell_same w4 p 1 _ _ _ hp4.out)]
      simp [headOf]
    · exact (hh.st.turns hT4 (fun k hk hf => by
        rcases hf with e | e | e
        · exact hap.2.1 (by rw [hk, e])
        · exact hap.2.2.2.1 (by rw [hk, e])
        · exact hap.2.2.2.2.2 k hk e)).turns (hTz _ _) (fun k hk e => hap.2.1 (by rw [hk, e]))
    · have hr : Row w4 83 257 (.slice (some ⟨g, 0, none⟩) (L.ws.length + 1) cap) (L.ws ++ [x]).length (flat (L.ws ++ [x])) := by
        rw [flat_snoc, List.length_append]
        have h1 := HO4.out
        have h2 := HC.out
        subst h2
        exact h1
      exact hr.turns (hTz _ _) (fun k hk e => hgp (by simp [Value.ownBlock] at hk; omega))
    · obtain ⟨es, clock, g1, g2⟩ := hm4
      refine ⟨es, clock, ((hTz _ _).block m (Array.getElem?_eq_some_iff.1 g1).1 (fun e => hap.1 e.symm)).trans g1, ?_⟩
      simpa using g2
    · intro k hk
      simp [Value.ownBlock] at hk
      subst hk
      rcases HA4.out with h1 | h1
      · exact .inl h1
      · right
        have := HWS.out
        have hs2 : W.heap.size ≤ w2.heap.size := hg2.size
        simp at h1
        omega
end Go.Proofs.YtelnoibfamcnmaaGreat.Disk
