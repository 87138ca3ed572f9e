/- Contracts of making and reading a record, as the statements use them. -/
import Derived.Test.YtjbelbhcdbbelaaRcAlive
import Derived.Test.YtjbelbhcdbbelaaRcHeld
import Derived.Test.YtjbelbhcdbbelaaRfSame
namespace Go.Proofs.Ytjbelbhcdbbelaa.Rec
set_option maxRecDepth 20000
open Go.RowKit
open Go.Proofs.Ytjbelbhcdbbelaa.Mem Go.Proofs.Ytjbelbhcdbbelaa.Crc

theorem enc_fits (t : Tx) (Aw Ar : Option Addr) (nw cw nr cr B : Nat) (w : World) (h : TxAt w B t Aw nw cw Ar nr cr) (hB : B ≤ w.heap.size) (hm : t.mayB = true) :
    Calls Try.prog 5 #[.agg #[.int .u64 (t.seq : Int), .slice Aw nw cw, .slice Ar nr cr]] w fun e w' =>
      ∃ b off c, e = .returned (.tuple #[.slice (some ⟨b, off, none⟩) t.enc.length c, .int .i64 0]) ∧ Owned w' w.heap.size (.slice (some ⟨b, off, none⟩) t.enc.length c) t.enc ∧ t.enc.length ≤ c ∧ c ≤ 9223372036854775807 ∧ Below w.heap.size w w' := by
  refine (enc_any t Aw Ar nw cw nr cr B w h hB).mono ?_
  rintro e w' (⟨hn, _⟩ | ⟨_, A, c, rfl, ho, hb⟩)
  · rw [hm] at hn; cases hn
  · have hl := enc_len t ((mayB_iff t).1 hm)
    obtain ⟨b, off, rfl⟩ := Go.Proofs.Ytjbelbhcdbbelaa.Rec.Holds.addr (Owned.reads ho) (by omega)
    exact ⟨b, off, c, rfl, ho, (Owned.fits ho).1, (Owned.fits ho).2, hb⟩
theorem enc_unfit (t : Tx) (Aw Ar : Option Addr) (nw cw nr cr B : Nat) (w : World) (h : TxAt w B t Aw nw cw Ar nr cr) (hB : B ≤ w.heap.size) (hm : t.mayB = false) :
    Calls Try.prog 5 #[.agg #[.int .u64 (t.seq : Int), .slice Aw nw cw, .slice Ar nr cr]] w fun e w' =>
      e = .returned (.tuple #[.slice none 0 0, .int .i64 17]) ∧ Below w.heap.size w w' := by
  refine (enc_any t Aw Ar nw cw nr cr B w h hB).mono ?_
  rintro e w' (⟨_, rfl, hb⟩ | ⟨hn, _⟩)
  · exact ⟨rfl, hb⟩
  · rw [hm] at hn; cases hn

/-- A record's blocks are read. -/
theorem dec_fits (t : Tx) (behind : List UInt8) (A : Option Addr) (N c B : Nat) (w : World) (h : Holds w B A N (t.enc ++ behind)) (hB : B ≤ w.heap.size) (hc : N ≤ c) (hm : c ≤ 9223372036854775807) (hs : t.seq < 18446744073709551616) (hmay : t.mayB = true) :
    Calls Try.prog 6 #[.slice A N c, .int .u64 (t.seq : Int)] w fun e w' =>
      ∃ Ax cx Ar cr, e = .returned (.tuple #[.agg #[.int .u64 (t.seq : Int), .slice Ax t.ws.length cx, .slice Ar t.rs.length cr], .int .i64 ((t.ws.length : Int) + 2), .bool true]) ∧
        TxAt w' w'.heap.size t Ax t.ws.length cx Ar t.rs.length cr ∧ Below w.heap.size w w' := by
  have hM := (mayB_iff t).1 hmay
  obtain ⟨hW, hR, _, hL⟩ := tell_enc t hM behind
  have hd := (dec_back t hM behind).1
  refine (dec_any A N c B _ t.seq w h hB hc hm hs).mono ?_
  rintro e w' (⟨_, Aw, cw, Ar, cr, vs, rfl, ho, hb⟩ | ⟨hn, _⟩)
  · have ht := ho.holds hs
    rw [hW, hR, hL] at ht
    rw [hW, hR]
    exact ⟨Aw, cw, Ar, cr, rfl, ht, hb⟩
  · rw [hd] at hn; cases hn

/-- Bytes that are no record with this number. -/
theorem dec_not (bs : List UInt8) (S : Int) (s : Nat) (hS : S = (s : Int)) (A : Option Addr) (N c B : Nat) (w : World) (h : Holds w B A N bs) (hB : B ≤ w.heap.size) (hc : N ≤ c) (hm : c ≤ 9223372036854775807) (hs : s < 18446744073709551616) (hno : decB bs s = false) :
    Calls Try.prog 6 #[.slice A N c, .int .u64 S] w fun e w' =>
      e = .returned (.tuple #[.agg #[.int .u64 0, .slice none 0 0, .slice none 0 0], .int .i64 0, .bool false]) ∧ Below w.heap.size w w' := by
  subst hS
  refine (dec_any A N c B _ s w h hB hc hm hs).mono ?_
  rintro e w' (⟨hn, _⟩ | ⟨_, rfl, hb⟩)
  · rw [hno] at hn; cases hn
  · exact ⟨rfl, hb⟩

/-- A record's blocks are read; what is made lies in blocks of its own. -/
theorem dec_owns (t : Tx) (behind : List UInt8) (A : Option Addr) (N c B : Nat) (w : World) (h : Holds w B A N (t.enc ++ behind)) (hB : B ≤ w.heap.size) (hc : N ≤ c) (hm : c ≤ 9223372036854775807) (hs : t.seq < 18446744073709551616) (hmay : t.mayB = true) :
    Calls Try.prog 6 #[.slice A N c, .int .u64 (t.seq : Int)] w fun e w' =>
      ∃ Ax cx Ar cr, e = .returned (.tuple #[.agg #[.int .u64 (t.seq : Int), .slice Ax t.ws.length cx, .slice Ar t.rs.length cr], .int .i64 ((t.ws.length : Int) + 2), .bool true]) ∧
        (∀ v, Kept w.heap.size w' v → w'.heap.size = v.heap.size → TxAt v v.heap.size t Ax t.ws.length cx Ar t.rs.length cr) ∧ Below w.heap.size w w' := by
  have hM := (mayB_iff t).1 hmay
  obtain ⟨hW, hR, _, hL⟩ := tell_enc t hM behind
  have hd := (dec_back t hM behind).1
  refine (dec_any A N c B _ t.seq w h hB hc hm hs).mono ?_
  rintro e w' (⟨_, Aw, cw, Ar, cr, vs, rfl, ho, hb⟩ | ⟨hn, _⟩)
  · rw [hW, hR]
    refine ⟨Aw, cw, Ar, cr, rfl, fun v hk hz => ?_, hb⟩
    have ht := (ho.kept hk).holds hs
    rw [hW, hR, hL] at ht
    exact ht
  · rw [hd] at hn; cases hn

/-- Whatever is made of a record. -/
theorem enc_some (t : Tx) (Aw Ar : Option Addr) (nw cw nr cr B : Nat) (w : World) (h : TxAt w B t Aw nw cw Ar nr cr) (hB : B ≤ w.heap.size) :
    Calls Try.prog 5 #[.agg #[.int .u64 (t.seq : Int), .slice Aw nw cw, .slice Ar nr cr]] w fun e w' =>
      ∃ A n c k, e = .returned (.tuple #[.slice A n c, .int .i64 k]) ∧ Below w.heap.size w w' := by
  refine (enc_any t Aw Ar nw cw nr cr B w h hB).mono ?_
  rintro e w' (⟨_, rfl, hb⟩ | ⟨_, A, c, rfl, _, hb⟩)
  · exact ⟨_, _, _, _, rfl, hb⟩
  · exact ⟨_, _, _, _, rfl, hb⟩

/-- Unlike records have unlike blocks. -/
theorem enc_inj (t u : Tx) (ht : t.May) (hu : u.May) (h1 : t.seq < 18446744073709551616) (h2 : u.seq < 18446744073709551616) : decide (t.enc = u.enc) = sameB t u := by
  by_cases e : t = u
  · subst e
    rw [(sameB_iff t t).2 rfl]; simp
  · have hs : sameB t u = false := by
      cases hb : sameB t u
      · rfl
      · exact absurd ((sameB_iff t u).1 hb) e
    rw [hs]
    refine decide_eq_false fun h => e ?_
    have hseq := enc_seq t u ht hu h1 h2 [] [] (by rw [h])
    have a := (dec_back t ht []).2
    have b := (dec_back u hu []).2
    rw [h, hseq] at a
    rw [← a, b]
end Go.Proofs.Ytjbelbhcdbbelaa.Rec
