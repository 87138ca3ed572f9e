/- Small calls of the areas: places, whether an area may be, and what is written into it. -/
import Derived.Test.YtelnoibfamcnmaaGreatRcTxn
import Derived.RegionTactic
import Derived.ChangeAlike
import Derived.Deep.RegionWith
import Derived.Deep.OwnRows
import Derived.Test.YtelnoibfamcnmaaGreatDkGhost
import Derived.Deep.RegionHeld
namespace Go.Proofs.YtelnoibfamcnmaaGreat.Log
set_option maxRecDepth 20000
open Go.RowKit
open Go.Proofs.YtelnoibfamcnmaaGreat.Mem Go.Proofs.YtelnoibfamcnmaaGreat.Crc Go.Proofs.YtelnoibfamcnmaaGreat.Rec

def markH : List UInt8 := [85, 76, 79, 71, 3, 0, 0, 0]
def hd1 : List UInt8 := over (List.replicate 256 0) 0 markH
def hd2 (seq : Nat) : List UInt8 := over hd1 8 (bytesL seq 8)
def hd3 (seq pl : Nat) : List UInt8 := over (hd2 seq) 16 (bytesL pl 4)
/-- The block that is a head with that Seq and that place. -/
def headH (seq pl : Nat) : List UInt8 := over (hd3 seq pl) 20 (bytesL (sum ((hd3 seq pl).take 20)) 4)
theorem hd1_len : hd1.length = 256 := by
  unfold hd1
  rw [over_len _ _ _ (by rw [List.length_replicate]; show 0 + 8 ≤ 256; omega), List.length_replicate]
theorem hd2_len (seq : Nat) : (hd2 seq).length = 256 := by
  unfold hd2
  rw [over_len _ _ _ (by rw [hd1_len, bytesL_len]; omega), hd1_len]
theorem hd3_len (seq pl : Nat) : (hd3 seq pl).length = 256 := by
  unfold hd3
  rw [over_len _ _ _ (by rw [hd2_len, bytesL_len]; omega), hd2_len]
theorem headH_len (seq pl : Nat) : (headH seq pl).length = 256 := by
  unfold headH
  rw [over_len _ _ _ (by rw [hd3_len, bytesL_len]; omega), hd3_len]
theorem hd1_eq : hd1 = markH ++ (List.replicate 8 0 ++ List.replicate 240 0) := by
  unfold hd1
  rw [show (256 : Nat) = 8 + 248 from rfl, zeros_add, show (248 : Nat) = 8 + 240 from rfl, zeros_add]
  exact over_mid [] (List.replicate 8 0) _ markH 0 rfl (by simp [markH])
theorem hd2_eq (seq : Nat) : hd2 seq = (markH ++ bytesL seq 8) ++ (List.replicate 4 0 ++ List.replicate 236 0) := by
  unfold hd2
  rw [hd1_eq, over_mid markH _ _ _ 8 rfl (by rw [bytesL_len, List.length_replicate]), List.append_assoc]
  rfl
theorem hd3_eq (seq pl : Nat) : hd3 seq pl = (markH ++ bytesL seq 8 ++ bytesL pl 4) ++ (List.replicate 4 0 ++ List.replicate 232 0) := by
  unfold hd3
  rw [hd2_eq, over_mid _ _ _ _ 16 (by rw [List.length_append, bytesL_len]; rfl) (by rw [bytesL_len, List.length_replicate]), List.append_assoc, List.append_assoc, List.append_assoc]
  rfl
theorem headH_eq (seq pl : Nat) : headH seq pl = (markH ++ bytesL seq 8 ++ bytesL pl 4) ++ (bytesL (sum (markH ++ bytesL seq 8 ++ bytesL pl 4)) 4 ++ List.replicate 232 0) := by
  have h20 : (markH ++ bytesL seq 8 ++ bytesL pl 4).length = 20 := by
    rw [List.length_append, List.length_append, bytesL_len, bytesL_len]; rfl
  unfold headH
  rw [hd3_eq, List.take_left' h20, over_mid _ _ _ _ 20 h20.symm (by rw [bytesL_len, List.length_replicate])]

set_option maxRecDepth 100000 in
set_option maxHeartbeats 1000000 in
theorem head_any (seq pl : Nat) (w : World) (hp : pl < 9223372036854775808) :
    Calls Tryz.prog 64 #[.int .u64 (seq : Int), .int .i64 (pl : Int)] w (Made w (headH seq pl)) := by
  have hol := headH_len seq pl
  unfold Made
  rw [hol]
  clear hol
  have hpw : IntKind.u64.wrap (pl : Int) = (pl : Int) := by rw [IntKind.wrap_u64]; omega
  have HPW := Lib.hid hpw; clear hpw
  obtain ⟨Z, hZ⟩ : ∃ Z, Z = List.replicate 256 (0 : UInt8) := ⟨_, rfl⟩
  have hmk : ∀ W, (Instr.makeSlice 25 (.int .i64 256) (.int .i64 256)).run Tryz.prog W = .ok (.slice (some ⟨W.heap.size, 0, none⟩) 256 256) (W.alloc (.cells (Z.map byteV).toArray 5)) := by
    rw [hZ]
    exact run_makeZ 256 (by omega)
  have hZl : Z.length = 256 := by rw [hZ, List.length_replicate]
  have ho := owned_made w Z w.heap.size (Nat.le_refl _) (by unfold maxLen; rw [hZl]; omega)
  have hb := (Below.refl w.heap.size w).alloc (Nat.le_refl _) (.cells (Z.map byteV).toArray 5)
  have h1 : over Z 0 markH = hd1 := by rw [hZ]; rfl
  have H1 := Lib.hid h1; clear h1
  have HZL := Lib.hid hZl; clear hZl
  clear hZ
  have HMK := Lib.hid hmk; clear hmk
  have HO := Lib.hid ho; clear ho
  have HB := Lib.hid hb; clear hb
  go_enter Tryz.func64, Tryz.ntmps64
  go_wp2_with fail
  rw [HMK.out]
  simp only [Result.andThen]
  rw [Oper.upon_value]
  generalize w.alloc (.cells (Z.map byteV).toArray 5) = w1 at HO HB ⊢
  have ho := HO.out
  obtain ⟨w2, hrun, ho2, hb2⟩ := run_copy_const w1 3 w.heap.size w.heap.size _ _ Z markH 256 256 ho (by show 0 < 8; omega) (by show 8 ≤ 256; omega) (by rw [HZL.out]; show 8 ≤ 256; omega)
  clear ho
  have hrun' : (Builtin.copy_ #[25, 9] 3 #[.slice (some ⟨w.heap.size, 0, none⟩) 256 256, .string ⟨#[85, 76, 79, 71, 3, 0, 0, 0]⟩]).run Tryz.prog w1 = .ok (goInt 8) w2 := hrun
  clear hrun
  rw [HZL.out, H1.out] at ho2
  have HO2 : Hid (Owned w2.drew w.heap.size (.slice (some ⟨w.heap.size, 0, none⟩) 256 256) hd1) := Lib.hid ho2
  have HB2 : Hid (Below w.heap.size w w2.drew) := Lib.hid (HB.out.trans hb2).drew
  clear ho2 hb2 HO HB HMK
  go_wp2_with fail
  clear hrun'
  go_region_with (go_at_call 81; refine (bytes_laid _ seq 8 rfl _ w.heap.size w.heap.size 256 256 hd1 8 248 248 HO2.out HB2.out.size (by omega) (by omega) (by omega) (by omega)).mono ?_; rintro e w4 ⟨A4, c4, w5, rfl, hrun5, ho5, hb5⟩; have HO5 : Hid (Owned w5.drew w.heap.size (.slice (some ⟨w.heap.size, 0, none⟩) 256 256) (hd2 seq)) := Lib.hid ho5; have HB5 : Hid (Below w.heap.size w w5.drew) := Lib.hid (HB2.out.trans hb5).drew; clear ho5 hb5)
  all_goals
    go_wp2_with fail
    clear hrun5
    go_region_with (go_at_call 81; refine (bytes_laid _ pl 4 HPW.out _ w.heap.size w.heap.size 256 256 (hd2 seq) 16 240 240 HO5.out HB5.out.size (by omega) (by omega) (by omega) (by omega)).mono ?_; rintro e w6 ⟨A6, c6, w7, rfl, hrun7, ho7, hb7⟩; have HO7 : Hid (Owned w7.drew w.heap.size (.slice (some ⟨w.heap.size, 0, none⟩) 256 256) (hd3 seq pl)) := Lib.hid ho7; have HB7 : Hid (Below w.heap.size w w7.drew) := Lib.hid (HB5.out.trans hb7).drew; clear ho7 hb7)
    all_goals
      go_wp2_with fail
      clear hrun7
      have HR7 : Hid (Holds w7.drew w7.drew.heap.size (some ⟨w.heap.size, 0, none⟩) 20 ((hd3 seq pl).take 20)) := Lib.hid ((Owned.reads HO7.out).take (by omega))
      go_region_with
        (first
          | (go_at_call 82
             refine (sum_any (some ⟨w.heap.size, 0, none⟩) 20 256 ((hd3 seq pl).take 20) _ HR7.out (by unfold maxLen; omega)).mono ?_
             rintro e w8 ⟨rfl, hb8⟩
             have HO8 := Lib.hid (Owned.keep HO7.out hb8 (Nat.le_refl _))
             have HB8 : Hid (Below w.heap.size w w8) := Lib.hid (HB7.out.trans (hb8.mono HB7.out.size))
             clear hb8)
          | (go_at_call 81
             refine (bytes_laid _ (sum ((hd3 seq pl).take 20)) 4 (wrap_sum _) _ w.heap.size w.heap.size 256 256 (hd3 seq pl) 20 236 236 HO8.out HB8.out.size (by omega) (by omega) (by omega) (by omega)).mono ?_
             rintro e w9 ⟨A9, c9, w10, rfl, hrun10, ho10, hb10⟩
             have HO10 : Hid (Owned w10 w.heap.size (.slice (some ⟨w.heap.size, 0, none⟩) 256 256) (headH seq pl)) := Lib.hid ho10
             have HB10 : Hid (Below w.heap.size w w10) := Lib.hid (HB8.out.trans hb10)
             clear ho10 hb10))
      all_goals
        go_wp2
        go_ret
        exact ⟨_, _, rfl, HO10.out, HB10.out⟩
end Go.Proofs.YtelnoibfamcnmaaGreat.Log

namespace Go.Proofs.YtelnoibfamcnmaaGreat.Log
set_option maxRecDepth 20000
open Go.RowKit
open Go.Proofs.YtelnoibfamcnmaaGreat.Mem Go.Proofs.YtelnoibfamcnmaaGreat.Disk
attribute [local go_sem ↓] Go.wp_at_zero Go.wp_at_succ

def areaV (p : Nat) (s r : Int) : Value := .agg #[ptr p, .int .i64 s, .int .i64 r]
def noArea : Value := .agg #[.pointer none, .int .i64 0, .int .i64 0]

theorem size_later (d : Dk.Dk) (p c : Nat) (F : Nat → Prop) (w : World) (h : DiskAt w p d c F) : ∀ W, Below w.heap.size w W → Calls Tryz.prog 74 #[.pointer (some ⟨p, 0, none⟩)] W fun e w' => e = .returned (.int .i64 (d.stable.length : Int)) ∧ W = w' := fun W hb =>
  size_d d p c F W (h.turns (Turns.of_below (F := fun _ => False) hb) (fun _ _ e => e))

theorem of_ok (s l : Nat) (S L : Int) (hS : S = (s : Int)) (hL : L = (l : Int)) (d : Dk.Dk) (p c : Nat) (F : Nat → Prop) (w : World) (h : DiskAt w p d c F) (h8 : 8 ≤ l) (hs : s + l ≤ d.stable.length) :
    Calls Tryz.prog 49 #[ptr p, .int .i64 S, .int .i64 L] w fun e w' => e = .returned (.tuple #[areaV p (s : Int) ((l : Int) - 1), .bool true]) ∧ Below w.heap.size w w' := by
  subst hS hL
  have hm := h.ok.2.2
  have HS := Lib.hid (size_later d p c F w h)
  clear h
  have g1 : ¬ (l : Int) < 8 := by omega
  have g2 : ¬ (1024 : Int) < (l : Int) := by omega
  have g3 : ¬ (s : Int) < 0 := by omega
  have g4 : ¬ (d.stable.length : Int) - (l : Int) < (s : Int) := by omega
  unfold ptr areaV at *
  go_enter Tryz.func49, Tryz.ntmps49
  go_wp2_with fail
  refine (HS.out _ ((Below.refl _ w).alloc (Nat.le_refl _) _)).mono ?_
  rintro e w' ⟨rfl, rfl⟩
  go_wp2
  have hh : (w.alloc (.cells #[.pointer (some ⟨p, 0, none⟩), .int .i64 (s : Int), .int .i64 ((l : Int) - 1)] 66)).heap[w.heap.size]? = some (.cells #[.pointer (some ⟨p, 0, none⟩), .int .i64 (s : Int), .int .i64 ((l : Int) - 1)] 66 (0, 0)) := heap_alloc_new w _
  have q0 := cell_of_row _ w.heap.size 0 _ _ _ hh
  have q1 := cell_of_row _ w.heap.size 1 _ _ _ hh
  have q2 := cell_of_row _ w.heap.size 2 _ _ _ hh
  refine bodyPost_ret (v := .tuple #[.agg #[.pointer (some ⟨p, 0, none⟩), .int .i64 (s : Int), .int .i64 ((l : Int) - 1)], .bool true]) (by simp [results, go_sem, q0, q1, q2]) rfl ?_
  exact ⟨rfl, (Below.refl _ w).alloc (Nat.le_refl _) _⟩
theorem behind_any (p pl n r : Nat) (s : Int) (w : World) (h0 : 0 < r) (h1 : r ≤ 1024) (h2 : pl ≤ 1024) (h3 : n ≤ 1024) :
    Calls Tryz.prog 31 #[areaV p s (r : Int), .int .i64 (pl : Int), .int .i64 (n : Int)] w fun e w' => e = .returned (.int .i64 (((pl : Int) + (n : Int)) % (r : Int))) ∧ Below w.heap.size w w' := by
  unfold areaV ptr
  go_enter Tryz.func31, Tryz.ntmps31
  go_wp2
  go_ret
  exact ⟨by simp, (Below.refl _ w).alloc (Nat.le_refl _) _⟩
theorem places_any (p : Nat) (s r : Int) (w : World)  :
    Calls Tryz.prog 58 #[areaV p s r] w fun e w' => e = .returned (.int .i64 r) ∧ Below w.heap.size w w' := by
  unfold areaV ptr
  go_enter Tryz.func58, Tryz.ntmps58
  go_wp2
  go_ret
  exact ⟨by simp, (Below.refl _ w).alloc (Nat.le_refl _) _⟩
theorem placed_any (p s pl : Nat) (r : Int) (w : World) (h0 : s ≤ 1024) (h1 : pl ≤ 1024) :
    Calls Tryz.prog 63 #[areaV p (s : Int) r, .int .i64 (pl : Int)] w fun e w' => e = .returned (.int .i64 ((s : Int) + 1 + (pl : Int))) ∧ Below w.heap.size w w' := by
  unfold areaV ptr
  go_enter Tryz.func63, Tryz.ntmps63
  go_wp2
  go_ret
  exact ⟨by simp, (Below.refl _ w).alloc (Nat.le_refl _) _⟩

/-- An area that may not be. -/
def okArea (n : Nat) (S L : Int) : Bool := decide (8 ≤ L) && decide (L ≤ 1024) && decide (0 ≤ S) && decide (S ≤ (n : Int) - L)
theorem of_not (S L : Int) (d : Dk.Dk) (p c : Nat) (F : Nat → Prop) (w : World) (h : DiskAt w p d c F) (hn : okArea d.stable.length S L = false) :
    Calls Tryz.prog 49 #[ptr p, .int .i64 S, .int .i64 L] w fun e w' => e = .returned (.tuple #[noArea, .bool false]) ∧ Below w.heap.size w w' := by
  have hm := h.ok.2.2
  have HS := Lib.hid (size_later d p c F w h)
  clear h
  have hh : ∀ o, (w.alloc (.cells #[.pointer none, .int .i64 0, .int .i64 0] 66 o)).heap[w.heap.size]? = some (.cells #[.pointer none, .int .i64 0, .int .i64 0] 66 o) := fun o => heap_alloc_new w _
  have HH := Lib.hid hh; clear hh
  unfold ptr noArea at *
  by_cases g1 : L < 8
  · clear hn
    go_enter Tryz.func49, Tryz.ntmps49
    go_wp2
    have q0 := cell_of_row _ w.heap.size 0 _ _ _ (HH.out (0, 0))
    have q1 := cell_of_row _ w.heap.size 1 _ _ _ (HH.out (0, 0))
    have q2 := cell_of_row _ w.heap.size 2 _ _ _ (HH.out (0, 0))
    refine bodyPost_ret (v := .tuple #[.agg #[.pointer none, .int .i64 0, .int .i64 0], .bool false]) (by simp [results, go_sem, q0, q1, q2]) rfl ?_
    exact ⟨rfl, (Below.refl _ w).alloc (Nat.le_refl _) _⟩
  by_cases g2 : (1024 : Int) < L
  · clear hn
    go_enter Tryz.func49, Tryz.ntmps49
    go_wp2
    have q0 := cell_of_row _ w.heap.size 0 _ _ _ (HH.out (0, 0))
    have q1 := cell_of_row _ w.heap.size 1 _ _ _ (HH.out (0, 0))
    have q2 := cell_of_row _ w.heap.size 2 _ _ _ (HH.out (0, 0))
    refine bodyPost_ret (v := .tuple #[.agg #[.pointer none, .int .i64 0, .int .i64 0], .bool false]) (by simp [results, go_sem, q0, q1, q2]) rfl ?_
    exact ⟨rfl, (Below.refl _ w).alloc (Nat.le_refl _) _⟩
  by_cases g3 : S < 0
  · clear hn
    go_enter Tryz.func49, Tryz.ntmps49
    go_wp2
    have q0 := cell_of_row _ w.heap.size 0 _ _ _ (HH.out (0, 0))
    have q1 := cell_of_row _ w.heap.size 1 _ _ _ (HH.out (0, 0))
    have q2 := cell_of_row _ w.heap.size 2 _ _ _ (HH.out (0, 0))
    refine bodyPost_ret (v := .tuple #[.agg #[.pointer none, .int .i64 0, .int .i64 0], .bool false]) (by simp [results, go_sem, q0, q1, q2]) rfl ?_
    exact ⟨rfl, (Below.refl _ w).alloc (Nat.le_refl _) _⟩
  have g4 : (d.stable.length : Int) - L < S := by simp [okArea] at hn; omega
  clear hn
  go_enter Tryz.func49, Tryz.ntmps49
  go_wp2_with fail
  refine (HS.out _ ((Below.refl _ w).alloc (Nat.le_refl _) _)).mono ?_
  rintro e w' ⟨rfl, rfl⟩
  go_wp2
  have q0 := cell_of_row _ w.heap.size 0 _ _ _ (HH.out (0, 0))
  have q1 := cell_of_row _ w.heap.size 1 _ _ _ (HH.out (0, 0))
  have q2 := cell_of_row _ w.heap.size 2 _ _ _ (HH.out (0, 0))
  refine bodyPost_ret (v := .tuple #[.agg #[.pointer none, .int .i64 0, .int .i64 0], .bool false]) (by simp [results, go_sem, q0, q1, q2]) rfl ?_
  exact ⟨rfl, (Below.refl _ w).alloc (Nat.le_refl _) _⟩

theorem range_of_holds {w : World} {B b o n : Nat} {bs : List UInt8} (h : Holds w B (some ⟨b, o, none⟩) n bs) : w.rangeAt b o (bs.map byteV) := fun j v hv => by
  rw [List.getElem?_map] at hv
  obtain ⟨x, hx, rfl⟩ := Option.map_eq_some_iff.1 hv
  obtain ⟨hj, rfl⟩ := List.getElem?_eq_some_iff.1 hx
  obtain ⟨b', o', e, _, hc⟩ := h.2 (by rw [← h.1]; omega)
  injection e with e
  injection e with e1 e2
  subst e1 e2
  exact hc j hj
/-- A block is written, whatever slice holds its bytes. -/
theorem writeH_d (ii : Int) (i : Nat) (hii : ii = (i : Int)) (A : Option Addr) (cb B : Nat) (data : List UInt8) (d : Dk.Dk) (p c : Nat) (F : Nat → Prop) (w : World) (h : DiskAt w p d c F) (hi : i < d.stable.length)
    (hd : Holds w B A 256 data) (hc : c ≤ 1048576) :
    Calls Tryz.prog 62 #[.pointer (some ⟨p, 0, none⟩), .int .i64 ii, .slice A 256 cb] w (Now w p (d.write i data) (c + 1) F (.int .i64 0)) := by
  obtain ⟨b, o, rfl⟩ := Go.Proofs.YtelnoibfamcnmaaGreat.Rec.Holds.addr hd (by omega)
  exact writes_d ii i hii b o cb data d p c F w h hi hd.1 (range_of_holds hd) hc

set_option maxHeartbeats 1000000 in
/-- The cells of an area in a block of the call's own. -/
def BoxAt (V : World) (b p s : Nat) (r : Int) : Prop := V.cell? ⟨b, 0, none⟩ = some (.pointer (some ⟨p, 0, none⟩)) ∧ V.cell? ⟨b, 1, none⟩ = some (.int .i64 (s : Int)) ∧ V.cell? ⟨b, 2, none⟩ = some (.int .i64 r)
theorem box_at {V : World} {b p s : Nat} {r : Int} (h : V.heap[b]? = some (.cells #[.pointer (some ⟨p, 0, none⟩), .int .i64 (s : Int), .int .i64 r] 66 (0, 0))) : BoxAt V b p s r :=
  ⟨cell_of_row V b 0 _ _ _ h, cell_of_row V b 1 _ _ _ h, cell_of_row V b 2 _ _ _ h⟩

/-- A head is written. -/
theorem puthead_d (s seq pl : Nat) (r : Int) (d : Dk.Dk) (p c : Nat) (F : Nat → Prop) (w : World) (h : DiskAt w p d c F) (hc : c < 1048576) (hs : s < d.stable.length) (hp : pl < 1048576) :
    Calls Tryz.prog 33 #[areaV p (s : Int) r, .int .u64 (seq : Int), .int .i64 (pl : Int)] w (Now w p (d.write s (headH seq pl)) (c + 1) F (.tuple #[])) := by
  have hFl : ∀ k, F k → k < w.heap.size := fun k hk => h.lt k hk
  have HFL := Lib.hid hFl; clear hFl
  have hl := headH_len seq pl
  have H := Lib.hid h; clear h
  unfold areaV ptr
  go_enter Tryz.func33, Tryz.ntmps33
  go_wp2_with fail
  have ht1 : Turns (fun _ => False) w (w.alloc (.cells #[.pointer (some ⟨p, 0, none⟩), .int .i64 (s : Int), .int .i64 r] 66)) := (Turns.refl _ w).alloc _
  have hx1 : (w.alloc (.cells #[.pointer (some ⟨p, 0, none⟩), .int .i64 (s : Int), .int .i64 r] 66)).heap[w.heap.size]? = some (.cells #[.pointer (some ⟨p, 0, none⟩), .int .i64 (s : Int), .int .i64 r] 66 (0, 0)) := heap_alloc_new w _
  generalize w.alloc (.cells #[.pointer (some ⟨p, 0, none⟩), .int .i64 (s : Int), .int .i64 r] 66) = W at ht1 hx1 ⊢
  have hz1 : w.heap.size < W.heap.size := (Array.getElem?_eq_some_iff.1 hx1).1
  have q0 : W.drew.cell? ⟨w.heap.size, 0, none⟩ = some (.pointer (some ⟨p, 0, none⟩)) := cell_of_row W w.heap.size 0 _ _ _ hx1
  have q1 : W.drew.cell? ⟨w.heap.size, 1, none⟩ = some (.int .i64 (s : Int)) := cell_of_row W w.heap.size 1 _ _ _ hx1
  have HX1 : Hid (W.drew.heap[w.heap.size]? = some (.cells #[.pointer (some ⟨p, 0, none⟩), .int .i64 (s : Int), .int .i64 r] 66 (0, 0))) := Lib.hid hx1
  have HT1 : Hid (Turns (fun _ => False) w W.drew) := Lib.hid ht1.drew
  have HZ1 : Hid (w.heap.size < W.drew.heap.size) := Lib.hid hz1
  clear hz1 hx1 ht1
  have hD1 : DiskAt W.drew p d c F := H.out.turns HT1.out (fun _ _ e => e)
  have hHEAD : Calls Tryz.prog 64 #[.int .u64 (seq : Int), .int .i64 (pl : Int)] W.drew fun e V => ∃ A1 c1, e = .returned (.slice A1 256 c1) ∧ (V.cell? ⟨w.heap.size, 0, none⟩ = some (.pointer (some ⟨p, 0, none⟩)) ∧ V.cell? ⟨w.heap.size, 1, none⟩ = some (.int .i64 (s : Int))) ∧
      Calls Tryz.prog 62 #[.pointer (some ⟨p, 0, none⟩), .int .i64 (s : Int), .slice A1 256 c1] V (fun e V2 => (V2.cell? ⟨w.heap.size, 0, none⟩ = some (.pointer (some ⟨p, 0, none⟩)) ∧ V2.cell? ⟨w.heap.size, 1, none⟩ = some (.int .i64 (s : Int))) ∧ Now w p (d.write s (headH seq pl)) (c + 1) F (.int .i64 0) e V2) := by
    refine (head_any seq pl W.drew (by omega)).mono ?_
    rintro e V ⟨A1, c1, rfl, ho, hb⟩
    rw [hl] at ho ⊢
    have hx := (hb.block _ HZ1.out).trans HX1.out
    have htV : Turns F w V := (HT1.out.mono (F := F) (fun _ _ e => e.elim)).trans (Turns.of_below (F := F) hb) (fun _ _ e => e)
    refine ⟨A1, c1, rfl, ⟨cell_of_row V w.heap.size 0 _ _ _ hx, cell_of_row V w.heap.size 1 _ _ _ hx⟩, ?_⟩
    refine (writeH_d _ s rfl A1 c1 V.heap.size _ d p c F V (hD1.turns (Turns.of_below (F := fun _ => False) hb) (fun _ _ e => e)) hs (Go.Proofs.YtelnoibfamcnmaaGreat.Rec.Owned.reads ho) (by omega)).mono ?_
    rintro e V2 ⟨F', rfl, hD, hF, hT⟩
    have hx2 := (hT.block _ (Array.getElem?_eq_some_iff.1 hx).1 (fun e => by have := HFL.out _ e; omega)).trans hx
    refine ⟨⟨cell_of_row V2 w.heap.size 0 _ _ _ hx2, cell_of_row V2 w.heap.size 1 _ _ _ hx2⟩, F', rfl, hD, fun k hk => ?_, htV.trans hT (fun _ _ e => e)⟩
    · rcases hF k hk with e | e
      · exact .inl e
      · have := htV.size; exact .inr (by omega)
  have HH := Lib.hid hHEAD; clear hHEAD hD1 H
  have hq0 := And.intro q0 q1
  clear q0 q1
  go_region_held (fun V => V.cell? ⟨w.heap.size, 0, none⟩ = some (.pointer (some ⟨p, 0, none⟩)) ∧ V.cell? ⟨w.heap.size, 1, none⟩ = some (.int .i64 (s : Int))) (assumption)
    (first
      | (go_at_call 64
         have hcall := HH.out
         with_reducible refine hcall.mono ?_
         clear hcall
         rintro e V1 ⟨A1, c1, rfl, hq, hW⟩
         have HW := Lib.hid hW
         clear hW)
      | (go_at_call 62
         have hcall := HW.out
         with_reducible refine hcall.mono ?_
         clear hcall
         rintro e V2 ⟨hq2, F', rfl, hD, hF, hT⟩))
  all_goals
    go_wp2
    refine bodyPost_ret (results_none rfl _ _ _) rfl ?_
    exact ⟨F', rfl, hD, hF, hT⟩

set_option maxHeartbeats 1000000 in
/-- A block is written into the ring. -/
theorem put_d (s pl : Nat) (r : Int) (A : Option Addr) (cb B : Nat) (data : List UInt8) (d : Dk.Dk) (p c : Nat) (F : Nat → Prop) (w : World) (h : DiskAt w p d c F) (hc : c < 1048576) (hs : s + 1 + pl < d.stable.length) (hd : Holds w B A 256 data) (hB : B ≤ w.heap.size) :
    Calls Tryz.prog 32 #[areaV p (s : Int) r, .int .i64 (pl : Int), .slice A 256 cb] w (Now w p (d.write (s + 1 + pl) data) (c + 1) F (.tuple #[])) := by
  have hm := h.ok.2.2
  have hFl : ∀ k, F k → k < w.heap.size := fun k hk => h.lt k hk
  have HFL := Lib.hid hFl; clear hFl
  have H := Lib.hid h; clear h
  unfold areaV ptr
  go_enter Tryz.func32, Tryz.ntmps32
  go_wp2_with fail
  have ht1 : Turns (fun _ => False) w (w.alloc (.cells #[.pointer (some ⟨p, 0, none⟩), .int .i64 (s : Int), .int .i64 r] 66)) := (Turns.refl _ w).alloc _
  have hx1 : (w.alloc (.cells #[.pointer (some ⟨p, 0, none⟩), .int .i64 (s : Int), .int .i64 r] 66)).heap[w.heap.size]? = some (.cells #[.pointer (some ⟨p, 0, none⟩), .int .i64 (s : Int), .int .i64 r] 66 (0, 0)) := heap_alloc_new w _
  generalize w.alloc (.cells #[.pointer (some ⟨p, 0, none⟩), .int .i64 (s : Int), .int .i64 r] 66) = W at ht1 hx1 ⊢
  have hz1 : w.heap.size < W.heap.size := (Array.getElem?_eq_some_iff.1 hx1).1
  have hq0 := box_at (V := W.drew) hx1
  have HX1 : Hid (W.drew.heap[w.heap.size]? = some (.cells #[.pointer (some ⟨p, 0, none⟩), .int .i64 (s : Int), .int .i64 r] 66 (0, 0))) := Lib.hid hx1
  have HT1 : Hid (Turns (fun _ => False) w W.drew) := Lib.hid ht1.drew
  have HZ1 : Hid (w.heap.size < W.drew.heap.size) := Lib.hid hz1
  clear hz1 hx1 ht1
  have hD1 : DiskAt W.drew p d c F := H.out.turns HT1.out (fun _ _ e => e)
  have hPL : Calls Tryz.prog 63 #[.agg #[.pointer (some ⟨p, 0, none⟩), .int .i64 (s : Int), .int .i64 r], .int .i64 (pl : Int)] W.drew fun e V => e = .returned (.int .i64 ((s : Int) + 1 + (pl : Int))) ∧ BoxAt V w.heap.size p s r ∧
      Calls Tryz.prog 62 #[.pointer (some ⟨p, 0, none⟩), .int .i64 ((s : Int) + 1 + (pl : Int)), .slice A 256 cb] V (fun e V2 => BoxAt V2 w.heap.size p s r ∧ Now w p (d.write (s + 1 + pl) data) (c + 1) F (.int .i64 0) e V2) := by
    refine (placed_any p s pl r W.drew (by omega) (by omega)).mono ?_
    rintro e V ⟨rfl, hb⟩
    have hx := (hb.block _ HZ1.out).trans HX1.out
    have htV : Turns F w V := (HT1.out.mono (F := F) (fun _ _ e => e.elim)).trans (Turns.of_below (F := F) hb) (fun _ _ e => e)
    refine ⟨rfl, box_at hx, ?_⟩
    refine (writeH_d _ (s + 1 + pl) (by omega) A cb B data d p c F V (hD1.turns (Turns.of_below (F := fun _ => False) hb) (fun _ _ e => e)) hs (hd.below ((HT1.out.below (fun _ e => e.elim) hB).trans (hb.mono (by have := HT1.out.size; omega)))) (by omega)).mono ?_
    rintro e V2 ⟨F', rfl, hD, hF, hT⟩
    have hx2 := (hT.block _ (Array.getElem?_eq_some_iff.1 hx).1 (fun e => by have := HFL.out _ e; omega)).trans hx
    refine ⟨box_at hx2, F', rfl, hD, fun k hk => ?_, htV.trans hT (fun _ _ e => e)⟩
    rcases hF k hk with e | e
    · exact .inl e
    · have := htV.size; exact .inr (by omega)
  have HH := Lib.hid hPL; clear hPL hD1 H
  go_region_held (fun V => V.cell? ⟨w.heap.size, 0, none⟩ = some (.pointer (some ⟨p, 0, none⟩)) ∧ V.cell? ⟨w.heap.size, 1, none⟩ = some (.int .i64 (s : Int)) ∧ V.cell? ⟨w.heap.size, 2, none⟩ = some (.int .i64 r)) (assumption)
    (first
      | (go_at_call 63
         have hcall := HH.out
         with_reducible refine hcall.mono ?_
         clear hcall
         rintro e V1 ⟨rfl, hq, hW⟩
         have HW := Lib.hid hW
         clear hW)
      | (go_at_call 62
         have hcall := HW.out
         with_reducible refine hcall.mono ?_
         clear hcall
         rintro e V2 ⟨hq2, F', rfl, hD, hF, hT⟩))
  all_goals
    go_wp2
    refine bodyPost_ret (results_none rfl _ _ _) rfl ?_
    exact ⟨F', rfl, hD, hF, hT⟩
end Go.Proofs.YtelnoibfamcnmaaGreat.Log

