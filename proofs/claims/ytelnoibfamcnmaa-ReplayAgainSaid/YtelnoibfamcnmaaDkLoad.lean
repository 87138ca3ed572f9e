/- Contracts of the program's and the document's loading of an image. -/
import Derived.Test.YtelnoibfamcnmaaDkApi
namespace Go.Proofs.Ytelnoibfamcnmaa.Disk
set_option maxRecDepth 20000
open Go.RowKit
open Go.Proofs.Ytelnoibfamcnmaa.Mem
attribute [local go_sem ↓] Go.wp_at_zero Go.wp_at_succ ldW_eq stW_eq newW_eq mkW_eq oneW_eq

def loadable (N : Nat) : Bool := decide (N % 256 = 0) && (decide (1 ≤ N / 256) && decide (N / 256 ≤ 1024))
theorem load_bad (A : Option Addr) (N c : Nat) (w : World) (h : loadable N = false) (hN : N ≤ 140737488355328) : Calls Try.prog 53 #[.slice A N c] w fun e w' => e = .returned (.tuple #[.pointer none, .int .i64 1]) ∧ w = w' := by
  by_cases h1 : N % 256 = 0
  · have hm : mayB ((N : Int) / 256) = false := by
      simp [loadable, h1] at h
      simp only [mayB, Bool.and_eq_false_iff, decide_eq_false_iff_not]
      omega
    have hr : ((N : Int) % 256 != 0) = false := by simp; omega
    have h0 : (N : Int) % 256 = 0 := by omega
    have H1 := Lib.hid h1; clear h1 h
    go_enter Try.func53, Try.ntmps53
    go_wp2_with fail
    refine (mayBe_any _ _).mono ?_
    rintro e w' ⟨rfl, rfl⟩
    go_wp2
    go_ret2
    exact ⟨rfl, rfl⟩
  · have hr : ((N : Int) % 256 != 0) = true := by simp; omega
    have H1 := Lib.hid h; clear h
    have h2 : ¬ ((N : Int) % 256 = 0) := by omega
    clear h1
    go_enter Try.func53, Try.ntmps53
    go_wp2
    go_ret2
    exact ⟨rfl, rfl⟩

def chunks (bs : List UInt8) (n : Nat) : List (List UInt8) := (List.range n).map fun i => (bs.drop (i * 256)).take 256
theorem chunks_len (bs : List UInt8) (n : Nat) (h : bs.length = 256 * n) : ∀ b ∈ chunks bs n, b.length = 256 := by
  intro b hb
  obtain ⟨i, hi, rfl⟩ := List.mem_map.1 hb
  have := List.mem_range.1 hi
  simp; omega
theorem chunks_flat (bs : List UInt8) (n : Nat) (h : bs.length = 256 * n) : (chunks bs n).flatten = bs := by
  apply List.ext_getElem?
  intro j
  rw [flat_idx _ (chunks_len bs n h)]
  by_cases hj : j < 256 * n
  · have e : (chunks bs n)[j / 256]? = some ((bs.drop (j / 256 * 256)).take 256) := by
      simp only [chunks, List.getElem?_map, List.getElem?_range (show j / 256 < n by omega), Option.map_some]
    rw [e, Option.bind_some, List.getElem?_take, if_pos (by omega), List.getElem?_drop]
    congr 1
    omega
  · have e : (chunks bs n)[j / 256]? = none := List.getElem?_eq_none (by simp [chunks]; omega)
    rw [e, List.getElem?_eq_none (by omega)]; rfl
def loaded (bs : List UInt8) (n : Nat) : Dk.Dk := { stable := chunks bs n }

theorem rep_loaded (bs : List UInt8) (n c : Nat) (h : bs.length = 256 * n) (h1 : 1 ≤ n) (h2 : n ≤ 1024) : Rep { st := bs, ws := [], pend := 0, fused := false, left := 0 } (loaded bs n) c := by
  refine ⟨(chunks_flat bs n h).symm, rfl, rfl, fun _ _ => rfl, rfl, rfl, ⟨chunks_len bs n h, (fun w hw => by cases hw), (fun w hw => by cases hw), fun e => absurd rfl e⟩, by simp [loaded, chunks]; omega, (fun x hx => by cases hx), Nat.zero_le _, by simp⟩

set_option maxRecDepth 100000 in
set_option maxHeartbeats 1000000 in
theorem load_ok (a : Addr) (N n c B k : Nat) (bs : List UInt8) (w : World) (hn : N = 256 * n) (h1 : 1 ≤ n) (h2 : n ≤ 1024) (h : Holds w B (some a) N bs) (hB : B ≤ w.heap.size) :
    Calls Try.prog 53 #[.slice (some a) N c] w (NewAt w (loaded bs n) k) := by
  obtain rfl : bs.length = N := h.1
  have hq : (bs.length : Int) / 256 = (n : Int) := by omega
  have hr : (bs.length : Int) % 256 = 0 := by omega
  have hb : mayB (n : Int) = true := by simp [mayB]; omega
  have HN := Lib.hid hn; clear hn
  have H := Lib.hid h; clear h
  go_enter Try.func53, Try.ntmps53
  go_wp2_with fail
  refine (mayBe_any _ _).mono ?_
  rintro e w' ⟨rfl, rfl⟩
  go_wp2_with fail
  refine (made_any n _ h2).mono ?_
  rintro e w1 ⟨p, m, vs, vw, rfl, hL, hF, hB1⟩
  have c0 := hL.f0
  obtain ⟨g, cap, cur, rfl, hg, hc1, hc2, hc3, hc4⟩ := hL.st.cut (by simp; omega)
  have hlz : (List.replicate (256 * n) (0 : UInt8)).length = bs.length := by rw [List.length_replicate]; exact HN.out.symm
  have hgl : g < w1.heap.size := (Array.getElem?_eq_some_iff.1 hg).1
  have hcopy : (Builtin.copy_ #[33, 33] 3 #[.slice (some ⟨g, 0, none⟩) bs.length cap, .slice (some a) bs.length c]).run Try.prog w1 = .ok (goInt bs.length) (w1.setRow g (splice cur.toList 0 (bs.map byteV)).toArray) := by
    have hh := H.out.below (hB1.mono hB)
    have e := run_copy_row (P := Try.prog) w1 33 33 3 5 g 0 bs.length cap a bs.length c cur 5 (bs.map byteV) Try.underlying33 info_byte hg (by rw [List.length_map]; exact (Nat.min_self _).symm)
      (fun j v hv => by
        have hj : j < bs.length := by have := (List.getElem?_eq_some_iff.1 hv).1; simpa using this
        obtain ⟨b, off, e, _, hcell⟩ := hh.2 (by omega)
        injection e with e
        subst e
        rw [Addr.add_mid, hcell j hj]
        rw [List.getElem?_map, List.getElem?_eq_getElem hj] at hv
        exact hv) (by rw [List.length_map]; simp at hc1; have := HN.out; omega) (by intro v hv; obtain ⟨u, _, rfl⟩ := List.mem_map.1 hv; rfl)
    rw [e, List.length_map]
    simp [splice]
  have c0' : w1.cell? ⟨p, 0, none⟩ = some (.slice (some ⟨g, 0, none⟩) bs.length cap) := by rw [c0]; congr 2
  have HL := Lib.hid hL; clear hL
  have HF := Lib.hid hF; clear hF
  have HB1 := Lib.hid hB1; clear hB1
  have HG := Lib.hid hg; clear hg
  have HC3 := Lib.hid hc3; clear hc3
  have HC4 := Lib.hid hc4; clear hc4
  have HC1 := Lib.hid hc1; clear hc1
  have HLZ := Lib.hid hlz; clear hlz
  clear c0
  go_wp2
  go_ret2
  have hh := HL.out
  have hap := hh.apart
  have hW : Turns (fun k => some g = some k) w1 (w1.setRow g (splice cur.toList 0 (bs.map byteV)).toArray) := (Turns.refl _ w1).setRow g _ (fun _ => rfl)
  have hrow : (w1.setRow g (splice cur.toList 0 (bs.map byteV)).toArray).heap[g]? = some (.cells (splice cur.toList 0 (bs.map byteV)).toArray 5 (0, 0)) := setRow_heap _ _ _ _ _ _ HG.out
  have hcs : cur.size = cap := by have := HC3.out; omega
  have hcl : bs.length ≤ cap := by have := HC1.out; rw [← HLZ.out]; exact this
  have hr2 : Row (w1.setRow g (splice cur.toList 0 (bs.map byteV)).toArray) 5 1 (.slice (some ⟨g, 0, none⟩) bs.length cap) bs.length (bs.map byteV) := by
    have hx : cur.toList.take bs.length = (List.replicate (256 * n) (0 : UInt8)).map byteV := by
      have := HC4.out; rw [Nat.mul_one] at this; rw [← HLZ.out]; exact this
    have hr := Row.laid (n := bs.length) (xs := (List.replicate (256 * n) (0 : UInt8)).map byteV) hcl hc2 hcs hx hrow (by rw [List.length_map]; omega)
    have e : splice ((List.replicate (256 * n) (0 : UInt8)).map byteV) 0 (bs.map byteV) = bs.map byteV := by
      unfold splice
      rw [List.take_zero, List.nil_append, List.drop_eq_nil_of_le (by rw [List.length_map, List.length_map, HLZ.out]; omega), List.append_nil]
    rwa [e] at hr
  have hb1 := hW.below (B := w.heap.size) (fun k e => HF.out k (.inr (.inr (.inl e)))) HB1.out.size
  refine ⟨p, Foot p m (.slice (some ⟨g, 0, none⟩) bs.length cap) vw, rfl, ⟨{ st := bs, ws := [], pend := 0, fused := false, left := 0 }, _, vw, m, ⟨?_, hr2, ?_, ?_⟩, rep_loaded bs n k HN.out h1 h2, fun _ => Iff.rfl⟩, fun k hk => ?_, HB1.out.trans hb1⟩
  · rw [hW.block p hh.p_lt (fun e => hap.2.1 (by simpa [Value.ownBlock] using e))]
    have e2 : headOf (.slice (some ⟨g, 0, none⟩) (List.replicate (256 * n) (0 : UInt8)).length cap) vw m { st := List.replicate (256 * n) 0, ws := [], pend := 0, fused := false, left := 0 } =
        headOf (.slice (some ⟨g, 0, none⟩) bs.length cap) vw m { st := bs, ws := [], pend := 0, fused := false, left := 0 } := by rw [HLZ.out]; rfl
    rw [← e2]
    exact hh.head
  · exact hh.ws.turns hW (fun k hk e => hap.2.2.2.2.2 g rfl (by rw [hk, e]))
  · obtain ⟨es, clock, g1, g2⟩ := hh.last
    exact ⟨es, clock, (hW.block m hh.last.lt (fun e => hap.2.2.2.1 (by simpa [Value.ownBlock] using e))).trans g1, g2⟩
  · exact HF.out k hk

/-- The document's disk behind its loading. -/
def RefNew (w : World) (bs : List UInt8) (e : Ending) (w' : World) : Prop :=
  ∃ r A c, e = .returned (.tuple #[ptr r, .int .i64 0]) ∧ w'.heap[r]? = some (.cells #[.slice A bs.length c, .slice none 0 0, .slice none 0 0, .bool false, .int .i64 0] 39 (0, 0)) ∧ Owned w' w.heap.size (.slice A bs.length c) bs ∧ w.heap.size ≤ r ∧ Below w.heap.size w w'
end Go.Proofs.Ytelnoibfamcnmaa.Disk
