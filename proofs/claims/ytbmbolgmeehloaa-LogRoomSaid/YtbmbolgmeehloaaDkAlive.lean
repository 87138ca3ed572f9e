/- Contracts of the program's new disk, and of the fixed fact with which every statement of layer 2 begins. -/
import Derived.Test.YtbmbolgmeehloaaDkCrash
namespace Go.Proofs.Ytbmbolgmeehloaa.Disk
set_option maxRecDepth 20000
open Go.RowKit
open Go.Proofs.Ytbmbolgmeehloaa.Mem
attribute [local go_sem ↓] Go.wp_at_zero Go.wp_at_succ ldW_eq stW_eq newW_eq mkW_eq oneW_eq

def freshL (n : Nat) : Low := { st := List.replicate (256 * n) 0, ws := [], pend := 0, fused := false, left := 0 }
/-- A disk and OK, its blocks being new. -/
def NewDisk (w : World) (L : Low) (e : Ending) (w' : World) : Prop := ∃ p m vs vw, e = .returned (.tuple #[.pointer (some ⟨p, 0, none⟩), .int .i64 0]) ∧ LowAt w' p L vs vw m ∧ (∀ k, Foot p m vs vw k → w.heap.size ≤ k) ∧ Below w.heap.size w w'
theorem new_ok (i : Int) (n : Nat) (w : World) (hi : i = (n : Int)) (h1 : 1 ≤ n) (h2 : n ≤ 1024) : Calls Try.prog 13 #[.int .i64 i] w (NewDisk w (freshL n)) := by
  subst hi
  have hb : mayB (n : Int) = true := by simp [mayB]; omega
  go_enter Try.func13, Try.ntmps13
  go_wp2_with fail
  refine (mayBe_any _ _).mono ?_
  rintro e w' ⟨rfl, rfl⟩
  go_wp2_with fail
  refine (made_any n _ h2).mono ?_
  rintro e w' ⟨p, m, vs, vw, rfl, hL, hF, hB⟩
  go_wp2
  go_ret2
  exact ⟨p, m, vs, vw, rfl, hL, hF, hB⟩
theorem new_bad (i : Int) (w : World) (hb : mayB i = false) : Calls Try.prog 13 #[.int .i64 i] w fun e w' => e = .returned (.tuple #[.pointer none, .int .i64 1]) ∧ w = w' := by
  go_enter Try.func13, Try.ntmps13
  go_wp2_with fail
  refine (mayBe_any _ _).mono ?_
  rintro e w' ⟨rfl, rfl⟩
  go_wp2
  go_ret2
  exact ⟨rfl, rfl⟩

theorem range_new (w : World) (cs : List Value) (t : TypeId) (fr : Nat × Nat := (0, 0)) : (w.alloc (.cells cs.toArray t fr)).rangeAt w.heap.size 0 cs := fun j v hv => by
  rw [Nat.zero_add, cell_of_row _ _ _ _ _ _ (heap_alloc_new w _)]; simpa using hv
theorem holds_of_range {w : World} {b o B : Nat} {bs : List UInt8} (h : w.rangeAt b o (bs.map byteV)) (hb : b < B) : Holds w B (some ⟨b, o, none⟩) bs.length bs :=
  ⟨rfl, fun _ => ⟨b, o, rfl, hb, fun j hj => h j _ (by rw [List.getElem?_map, List.getElem?_eq_getElem hj]; rfl)⟩⟩
theorem range_turns {w w' : World} {b o : Nat} {cs : List Value} (h : w.rangeAt b o cs) {F : Nat → Prop} (ht : Turns F w w') (hb : b < w.heap.size) (hF : ¬ F b) : w'.rangeAt b o cs := fun j v hv => by
  rw [World.cell?_of_block (a := ⟨b, o + j, none⟩) (ht.block b hb hF)]; exact h j v hv
theorem ones_full : partly (fun _ => byteV 1) (byteV 0) 256 256 = ((List.replicate 256 (1 : UInt8)).map byteV).toArray := by
  apply Array.ext_getElem?
  intro j
  by_cases hj : j < 256
  · rw [partly_get _ _ _ _ _ hj hj, List.map_replicate, List.getElem?_toArray, List.getElem?_replicate, if_pos hj]
  · rw [Array.getElem?_eq_none (by rw [partly_size]; omega), List.map_replicate, List.getElem?_toArray, List.getElem?_replicate, if_neg hj]
theorem made_partly (f : Nat → Value) : madeCells #[.int .u8 0] 256 = partly f (byteV 0) 256 0 := by
  rw [← partly_zero]
  apply Array.ext_getElem?
  intro j
  simp only [madeCells, Array.getElem?_map, Array.getElem?_replicate]
  by_cases hj : j < 256
  · have : j % 1 = 0 := by omega
    simp [hj, this, byteV]
  · simp [hj]

theorem write_int (ii : Int) (i : Nat) (hii : ii = (i : Int)) (b o c : Nat) (data : List UInt8) (L : Low) (p m n : Nat) (vs vw : Value) (w : World) (h : LowAt w p L vs vw m) (hn : L.st.length = 256 * n) (hm : n ≤ 1024) (hi : i < n) (hl : data.length = 256)
    (hd : w.rangeAt b o (data.map byteV)) (hw : L.ws.length ≤ 1048576) (hpd : L.pend ≤ 1048576) (hbl : L.blown = false) (hlf : L.left ≤ 9223372036854775807) :
    Calls Try.prog 24 #[.pointer (some ⟨p, 0, none⟩), .int .i64 ii, .slice (some ⟨b, o, none⟩) 256 c] w (Did w p m (Low.burnt { L with ws := L.ws ++ [(i, data)], pend := L.pend + 1 }) vs vw (.int .i64 0)) := by
  subst hii; exact write_some i b o c data L p m n vs vw w h hn hm hi hl hd hw hpd hbl hlf
theorem read_int (ii : Int) (i : Nat) (hii : ii = (i : Int)) (L : Low) (p m n : Nat) (vs vw : Value) (w : World) (h : LowAt w p L vs vw m) (hn : L.st.length = 256 * n) (hm : n ≤ 1024) (hi : i < n) (hx : ∀ x ∈ L.ws, x.2.length = 256) (hw : L.ws.length ≤ 1048576) :
    Calls Try.prog 18 #[.pointer (some ⟨p, 0, none⟩), .int .i64 ii] w (Reads w (readL L i)) := by
  subst hii; exact read_some i L p m n vs vw w h hn hm hi hx hw

def ones : List UInt8 := List.replicate 256 1
def aliveBytes : List UInt8 := ((crashL [2] [(0, ones)] (List.replicate 512 0) 1).drop 0).take 256
theorem alive_len : aliveBytes.length = 256 := by decide +kernel
theorem alive_at : aliveBytes[63]? = some 0 ∧ aliveBytes[64]? = some 1 ∧ aliveBytes[127]? = some 1 ∧ aliveBytes[128]? = some 0 := by decide +kernel

set_option maxRecDepth 100000 in
set_option maxHeartbeats 2000000 in
theorem alive_any (w : World) : Calls Try.prog 12 #[] w fun e w' => e = .returned (.bool true) ∧ Below w.heap.size w w' := by
  go_enter Try.func12, Try.ntmps12
  go_wp2_with fail
  refine (new_ok 2 2 _ rfl (by omega) (by omega)).mono ?_
  rintro e w1 ⟨p, m, vs, vw, rfl, hL1, hF1, hB1⟩
  have HL1 := Lib.hid hL1; clear hL1
  have HF1 := Lib.hid hF1; clear hF1
  have HB1 := Lib.hid hB1; clear hB1
  go_wp2_with fail
  refine (size_any _ p m 2 vs vw _ HL1.out (by simp [freshL]) (by omega)).mono ?_
  rintro e w' ⟨rfl, rfl⟩
  have hmk := run_make256 w1
  rw [made_partly (fun _ => byteV 1)] at hmk
  go_wp2
  clear hmk
  go_loopw [4] (fun i wr => ∃ k : Nat, k ≤ 256 ∧ i = .int .i64 k ∧ wr = w1.alloc (.cells (partly (fun _ => byteV 1) (byteV 0) 256 k) 5)) (fun i _ => 256 - (intOf i).toNat)
  case atStart => exact ⟨0, by omega, rfl, rfl⟩
  case round =>
    obtain ⟨k, hk, rfl, rfl⟩ := hrel
    by_cases hlt : k < 256
    · have hk1 : (0 : Int) ≤ (k : Int) := by omega
      have hk2 : (k : Int) < 256 := by omega
      have hsz := partly_size (fun _ => byteV 1) (byteV 0) 256 k
      have hset := partly_set (fun _ => byteV 1) (byteV 0) 256 k hlt
      have HS := Lib.hid hset; clear hset
      go_wp2
      go_roundw
      case rel =>
        refine ⟨k + 1, by omega, by go_num, ?_⟩
        rw [← HS.out]; rfl
      case measure => simp [intOf]; omega
    · obtain rfl : k = 256 := by omega
      rw [ones_full]
      have hr := range_new w1 ((List.replicate 256 (1 : UInt8)).map byteV) 5
      have ht : Turns (fun _ => False) w1 (w1.alloc (.cells ((List.replicate 256 (1 : UInt8)).map byteV).toArray 5)) := (Turns.refl _ w1).alloc _
      generalize w1.alloc (.cells ((List.replicate 256 (1 : UInt8)).map byteV).toArray 5) = W at hr ht ⊢
      have hL := HL1.out.turns ht (fun _ _ e => e)
      have HL := Lib.hid hL; clear hL
      have HT := Lib.hid ht; clear ht
      have HR := Lib.hid hr; clear hr
      go_wp2_with fail
      refine (write_int 0 0 rfl _ _ _ ones _ p m 2 vs vw W HL.out (by simp [freshL]) (by omega) (by omega) (by simp [ones]) HR.out (by simp [freshL]) (by simp [freshL]) (by simp [freshL, Low.blown]) (by simp [freshL])).mono ?_
      rintro e w2 ⟨vw2, rfl, hL2, hF2, hT2⟩
      have hL2' : LowAt w2 p { st := List.replicate 512 0, ws := [(0, ones)], pend := 1, fused := false, left := 0 } vs vw2 m := by simpa [Low.burnt, freshL] using hL2
      clear hL2
      have HL2 := Lib.hid hL2'; clear hL2'
      have HT2 := Lib.hid hT2; clear hT2
      have HF2 := Lib.hid hF2; clear hF2
      go_wp2_with fail
      have ht3 : Turns (fun _ => False) w2 (w2.alloc (.cells ([2].map byteV).toArray 5)) := (Turns.refl _ w2).alloc _
      have hr3 := range_new w2 ([2].map byteV) 5
      have hs3 : w2.heap.size < (w2.alloc (.cells ([2].map byteV).toArray 5)).heap.size := by simp
      have e3 : w2.alloc (.cells #[.int .u8 2] 5) = w2.alloc (.cells ([2].map byteV).toArray 5) := rfl
      rw [e3]
      clear e3
      generalize w2.alloc (.cells ([2].map byteV).toArray 5) = W3 at ht3 hr3 hs3 ⊢
      have hL3 := HL2.out.turns ht3 (fun _ _ e => e)
      have hfl := HL2.out.foot_lt
      refine (crash_any _ 1 1 (w2.heap.size + 1) [2] _ p m 2 vs vw2 W3 hL3 rfl (by omega) (by intro x hx; simp at hx; subst hx; simp [ones]) (by simp) (by simp) (fun w' ht => holds_of_range (range_turns hr3 ht hs3 (fun e => by have := hfl _ e; omega)) (by omega)) (by unfold maxLen; omega)).mono ?_
      rintro e w4 ⟨rfl, hL4, hT4⟩
      have HL4 := Lib.hid hL4; clear hL4
      have HT4 := Lib.hid hT4; clear hT4
      have HT3 := Lib.hid ht3; clear ht3
      clear hr3 hL3 hfl
      go_wp2_with fail
      refine (read_int 0 0 rfl _ p m 2 vs _ w4 HL4.out (by rw [crashL_len [2] _ _ 2 (by simp) (by intro x hx; simp at hx; subst hx; simp [ones]) 1 (by simp)]) (by omega) (by omega) (by simp) (by simp)).mono ?_
      rintro e w5 ⟨rfl, hlen, rfl⟩
      have hrd : readL { st := crashL [2] [(0, ones)] (List.replicate 512 0) 1, ws := [], pend := 0, fused := false, left := 0 } 0 = aliveBytes := rfl
      rw [hrd]
      have hc : ∀ j u, aliveBytes[j]? = some u → (w4.alloc (.cells (aliveBytes.map byteV).toArray 5)).cell? ⟨w4.heap.size, j, none⟩ = some (.int .u8 (u.toNat : Int)) := by
        intro j u hu
        rw [cell_of_row _ _ _ _ _ _ (heap_alloc_new w4 _)]
        simp [hu, byteV]
      have h63 := hc 63 _ alive_at.1
      have h64 := hc 64 _ alive_at.2.1
      have h127 := hc 127 _ alive_at.2.2.1
      have h128 := hc 128 _ alive_at.2.2.2
      clear hc hlen hrd
      have HT5 : Hid (Below w4.heap.size w4 (w4.alloc (.cells (aliveBytes.map byteV).toArray 5))) := Lib.hid ((Below.refl _ _).alloc (Nat.le_refl _) _)
      generalize w4.alloc (.cells (aliveBytes.map byteV).toArray 5) = W5 at h63 h64 h127 h128 HT5 ⊢
      go_wp2
      go_ret
      have hf := HF1.out
      have b1 := HB1.out
      have b2 := HT.out.below (B := w.heap.size) (fun _ e => e.elim) b1.size
      have b12 := b1.trans b2
      have b3 := HT2.out.below hf b12.size
      have b13 := b12.trans b3
      have b4 := HT3.out.below (B := w.heap.size) (fun _ e => e.elim) b13.size
      have b14 := b13.trans b4
      have b5 := HT4.out.below (B := w.heap.size) (fun k e => hf k (by
        rcases e with e | e | e
        · exact .inl e
        · exact .inr (.inl e)
        · exact .inr (.inr (.inl e)))) b14.size
      have b15 := b14.trans b5
      exact ⟨rfl, b15.trans (HT5.out.mono b15.size)⟩
end Go.Proofs.Ytbmbolgmeehloaa.Disk
