/- Whether the sums of a row's entries are its own: the program's call. -/
import Derived.Test.YtbagocghlijleaaGreatHtRows
import Derived.Test.YtbagocghlijleaaGreatLfDec
import Derived.Maps.OwnSet
import Derived.Maps.OwnOps
import Derived.Test.YtbagocghlijleaaGreatHtNodes
namespace Go.Proofs.YtbagocghlijleaaGreat.Ht
set_option maxRecDepth 20000
open Go.RowKit
open Go.Proofs.YtbagocghlijleaaGreat.Mem Go.Proofs.YtbagocghlijleaaGreat.Crc Go.Proofs.YtbagocghlijleaaGreat.Rec Go.Proofs.YtbagocghlijleaaGreat.Reg Go.Proofs.YtbagocghlijleaaGreat.Lf
attribute [local go_sem ↓] ldE_eq stE_eq ldX_eq stX_eq ldR_eq stR_eq

theorem numberAt_any (A : Option Addr) (n c B : Nat) (bs : List UInt8) (w : World) (h : Holds w B A n bs) (hm : n ≤ 8) :
    Calls Tryz.prog 111 #[.slice A n c] w fun e w' => e = .returned (.int .u64 (nmb bs : Int)) ∧ w = w' := by
  have hln := h.1
  have hc := number_any A n c B bs w h hm
  have e : numAt bs n = nmb bs := by unfold nmb; rw [hln]
  rw [e] at hc
  clear h e hln
  go_enter Tryz.func111, Tryz.ntmps111
  go_wp2_with (with_reducible refine hc.mono ?_; rintro E w1 ⟨rfl, rfl⟩)
  go_ret
  exact ⟨rfl, rfl⟩
theorem run_slice_from (W : World) (a off N c l : Nat) (i : Int) (hi : i = (l : Int)) (hl : l ≤ N) (h0 : l < c) (_hc : N ≤ c) :
    (Instr.slice 34 (.slice (some ⟨a, off, none⟩) N c) (some (.int .i64 i)) none none).run Tryz.prog W = .ok (.slice (some ⟨a, off + l, none⟩) (N - l) (c - l)) W := by
  subst hi
  have h := run_slice_l (P := Tryz.prog) W 34 (some ⟨a, off, none⟩) N c (by rw [Tryz.underlying34]; rfl) .i64 (l : Int) (by omega) (by omega)
  rw [h]
  have hs : (sizeOf (Tryz.prog.elem 34)).run Tryz.prog W = .ok 1 W := by rfl
  rw [hs]
  simp only [Result.andThen, sliced, Int.toNat_natCast]
  rw [if_neg (by omega)]
  simp [Addr.add_mid]
def rvZ : Rv := ⟨0, 0, none, 0, 0⟩
/-- A row as the index tells it: without entries. -/
def rv0 (r : Rw) : Rv := ⟨r.s, r.b, none, 0, 0⟩
theorem rv0_w (l : List Rw) : (l.map rv0).map Rv.w = l := by
  rw [List.map_map]
  have : Rv.w ∘ rv0 = id := by funext r; rfl
  rw [this, List.map_id]
theorem made_cells {α : Type} {R : Rk α} (ok : R.Ok) (x : α) (hx : (R.enc x) = R.zero.cells.toList) (n : Nat) : madeCells R.zero.cells (n * R.k) = (R.cells (List.replicate n x)).toArray := by
  apply Array.ext_getElem?
  intro t
  have hp := ok.pos
  by_cases ht : t < n * R.k
  · have hd : t / R.k < n := Nat.div_lt_of_lt_mul (by rw [Nat.mul_comm]; exact ht)
    have hm : t % R.k < R.k := Nat.mod_lt _ hp
    have h := ok.get (List.replicate n x) (t / R.k) (t % R.k) (by simpa using hd) hm
    rw [show t / R.k * R.k + t % R.k = t by rw [Nat.mul_comm]; exact Nat.div_add_mod t R.k] at h
    have h' : (R.cells (List.replicate n x)).toArray[t]? = R.zero.cells[t % R.k]? := by
      rw [List.getElem?_toArray, h, List.getElem_replicate, hx, Array.getElem?_toList]
    rw [h']
    unfold madeCells
    rw [Array.getElem?_map, Array.getElem?_range, if_pos ht]
    simp only [Option.map_some, ok.zs]
    rw [getElem!_pos _ _ (by rw [ok.zs]; exact hm), Array.getElem?_eq_getElem]
  · rw [Array.getElem?_eq_none (by rw [size_madeCells]; omega), Array.getElem?_eq_none (by simp [ok.clen]; omega)]
theorem make_rows (n : Nat) (hn : n ≤ 1048576) (W : World) : (Instr.makeSlice 77 (.int .u64 (n : Int)) (.int .u64 (n : Int))).run Tryz.prog W = .ok (.slice (some ⟨W.heap.size, 0, none⟩) n n) (W.alloc (.cells (RK.cells (List.replicate n rvZ)).toArray 64)) := by
  obtain ⟨i0, hi, hz0, hz1, hz2⟩ := info_parts RK_ok.info
  have h := run_make (P := Tryz.prog) W 77 64 i0 RK.zero Tryz.underlying77 hi hz0 .u64 .u64 n n (by omega) (by omega) (by rw [hz2]; show (40 : Int) * _ ≤ _; omega) (by omega)
  rw [hz1] at h
  simp only [Int.toNat_natCast] at h
  rw [made_cells RK_ok rvZ rfl n] at h
  exact h
theorem rowsAt_len' (b : List UInt8) (n : Nat) : (rowsAt b n).length = n := rowsAt_len b n
theorem num2_lt4 (b : List UInt8) (i n : Nat) (h : n ≤ 4) : num2 b i n < 4294967296 := by
  unfold num2 nmb
  have h1 := numAt_lt ((b.drop i).take n) ((b.drop i).take n).length
  have hp : 2 ^ (8 * ((b.drop i).take n).length) ≤ 2 ^ 32 := Nat.pow_le_pow_right (by omega) (by rw [List.length_take]; omega)
  omega
theorem rowAt_lt (b : List UInt8) (i : Nat) : (rowAt b i).s < 4294967296 ∧ (rowAt b i).b < 4294967296 := ⟨num2_lt4 _ _ _ (by omega), num2_lt4 _ _ _ (by omega)⟩
/-- Whether the bytes begin as an index's do: their length and their number of rows. -/
def headOk (b : List UInt8) : Bool := decide (b.length = 256) && (decide (2 ≤ num2 b 0 2) && decide (num2 b 0 2 ≤ 30))
/-- What toldRows answers. -/
def Told2 (w : World) (b : List UInt8) (e : Ending) (w' : World) : Prop :=
  (headOk b = false ∧ e = .returned (.tuple #[.slice none 0 0, .bool false]) ∧ Below w.heap.size w w') ∨
  (headOk b = true ∧ ∃ A c, e = .returned (.tuple #[.slice A (num2 b 0 2) c, .bool (decide (b = indexL (rowsAt b (num2 b 0 2))))]) ∧ OwnC RK w' w.heap.size (.slice A (num2 b 0 2) c) ((rowsAt b (num2 b 0 2)).map rv0) ∧ Below w.heap.size w w')

set_option maxRecDepth 100000 in
set_option maxHeartbeats 4000000 in
theorem toldRows_any (A : Option Addr) (n c B : Nat) (b : List UInt8) (w : World) (h : Holds w B A n b) (hB : B ≤ w.heap.size) (hc : n ≤ c) (hm : n ≤ 140737488355328) :
    Calls Tryz.prog 85 #[.slice A n c] w (Told2 w b) := by
  have hln := h.1
  obtain ⟨post, hpost⟩ : ∃ post, post = Told2 w b := ⟨_, rfl⟩
  rw [← hpost]
  have HP := Lib.hid hpost; clear hpost
  have H := Lib.hid h; clear h
  have HLN := Lib.hid hln; clear hln
  by_cases h256 : n = 256
  · subst h256
    obtain ⟨b0, off, rfl⟩ := Holds.addr H.out (by omega)
    have hs2 : ∀ W, (Instr.slice 34 (.slice (some ⟨b0, off, none⟩) 256 c) none (some (.int .i64 2)) none).run Tryz.prog W = .ok (.slice (some ⟨b0, off, none⟩) 2 c) W := fun W => run_slice_first W b0 off 256 c 2 2 rfl (by omega) (by omega)
    have hnum := numberAt_any (some ⟨b0, off, none⟩) 2 c B ((b.drop 0).take 2) w (by rw [List.drop_zero]; exact Holds.take H.out (by omega)) (by omega)
    obtain ⟨N, hN⟩ : ∃ N, N = num2 b 0 2 := ⟨_, rfl⟩
    have hN2 : nmb ((b.drop 0).take 2) = N := by rw [hN]; rfl
    rw [hN2] at hnum
    have HN := Lib.hid hN; clear hN hN2
    have HNUM := Lib.hid hnum; clear hnum
    by_cases hN0 : 2 ≤ N
    · by_cases hN1 : N ≤ 30
      · have hk0 : ¬ (N : Int) < 2 := by omega
        have hk1 : ¬ (30 : Int) < (N : Int) := by omega
        have hmk := make_rows N (by omega) w
        have hown := ownC_new RK_ok w (List.replicate N rvZ) (by simp; unfold maxLen; omega)
        rw [List.length_replicate] at hown
        obtain ⟨W0, hW0⟩ : ∃ W0, W0 = w.alloc (.cells (RK.cells (List.replicate N rvZ)).toArray 64) := ⟨_, rfl⟩
        have hown0 : OwnC RK W0 w.heap.size (.slice (some ⟨w.heap.size, 0, none⟩) N N) (List.replicate N rvZ) := by rw [hW0]; exact hown
        have hb0 : Below w.heap.size w W0 := by rw [hW0]; exact (Below.refl _ w).alloc (Nat.le_refl _) _
        rw [← hW0] at hmk
        obtain ⟨g, hg⟩ : ∃ g, g = w.heap.size := ⟨_, rfl⟩
        rw [← hg] at hmk
        have HO0 : Hid (OwnC RK W0 w.heap.size (.slice (some ⟨g, 0, none⟩) N N) (List.replicate N rvZ)) := Lib.hid (by rw [hg]; exact hown0)
        have HB0 := Lib.hid hb0
        have HGG : Hid (w.heap.size ≤ g) := Lib.hid (by omega)
        clear hown hown0 hb0 hW0 hg
        go_enter Tryz.func85, Tryz.ntmps85
        go_wp2_with (with_reducible refine HNUM.out.mono ?_; rintro E w1 ⟨rfl, rfl⟩)
        go_loopw [24] (fun i wr => ∃ k : Nat, k ≤ N ∧ i = .int .i64 (k : Int) ∧ OwnC RK wr w.heap.size (.slice (some ⟨g, 0, none⟩) N N) ((((rowsAt b N).take k).map rv0) ++ List.replicate (N - k) rvZ) ∧ Below w.heap.size w wr) (fun i _ => N - (intOf i).toNat)
        case atStart => exact ⟨0, Nat.zero_le _, rfl, by simpa using HO0.out, HB0.out⟩
        case round =>
          obtain ⟨k, hk, rfl, hown, hb⟩ := hrel
          have HB := Lib.hid hb; clear hb
          have HO := Lib.hid hown; clear hown
          rcases Nat.lt_or_ge k N with hlt | hge
          · have hlen : ((((rowsAt b N).take k).map rv0) ++ List.replicate (N - k) rvZ).length = N := by simp [rowsAt_len]; omega
            have hnext : ((((rowsAt b N).take k).map rv0) ++ List.replicate (N - k) rvZ).set k (rv0 (rowAt b k)) = (((rowsAt b N).take (k + 1)).map rv0) ++ List.replicate (N - (k + 1)) rvZ := by
              have hl : (((rowsAt b N).take k).map rv0).length = k := by simp [rowsAt_len]; omega
              rw [List.set_append_right _ _ (by omega), hl, Nat.sub_self]
              have hr : (rowsAt b N)[k]'(by rw [rowsAt_len]; exact hlt) = rowAt b k := by simp [rowsAt]
              rw [List.take_succ_eq_append_getElem (by rw [rowsAt_len]; exact hlt), hr, show N - k = (N - (k + 1)) + 1 by omega, List.replicate_succ]
              simp
            have hlow := rowAt_lt b k
            obtain ⟨x, hx⟩ : ∃ x, x = rv0 (rowAt b k) := ⟨_, rfl⟩
            have hxs : x.s = num2 b (4 + 8 * k) 4 := by rw [hx]; rfl
            have hxb : x.b = num2 b (8 + 8 * k) 4 := by rw [hx]; rfl
            have hxc : rC x = #[.int .u32 (x.s : Int), .int .i64 (x.b : Int), .slice none 0 0] := by rw [hx]; rfl
            have hxs' : x.s < 4294967296 := by rw [hx]; exact hlow.1
            have hxb' : x.b < 4294967296 := by rw [hx]; exact hlow.2
            rw [← hx] at hnext
            have e8 : ((4 + 8 * k : Nat) : Int) = 4 + 8 * (k : Int) := by omega
            have s1 : ∀ W, (Instr.slice 34 (.slice (some ⟨b0, off, none⟩) 256 c) (some (.int .i64 (4 + 8 * (k : Int)))) none none).run Tryz.prog W = .ok (.slice (some ⟨b0, off + (4 + 8 * k), none⟩) (256 - (4 + 8 * k)) (c - (4 + 8 * k))) W := fun W => run_slice_from W b0 off 256 c (4 + 8 * k) _ e8.symm (by omega) (by omega) hc
            have s2 : ∀ W, (Instr.slice 34 (.slice (some ⟨b0, off + (4 + 8 * k), none⟩) (256 - (4 + 8 * k)) (c - (4 + 8 * k))) none (some (.int .i64 8)) none).run Tryz.prog W = .ok (.slice (some ⟨b0, off + (4 + 8 * k), none⟩) 8 (c - (4 + 8 * k))) W := fun W => run_slice_first W b0 _ _ _ 8 8 rfl (by omega) (by omega)
            have s3 : ∀ W, (Instr.slice 34 (.slice (some ⟨b0, off + (4 + 8 * k), none⟩) 8 (c - (4 + 8 * k))) none (some (.int .i64 4)) none).run Tryz.prog W = .ok (.slice (some ⟨b0, off + (4 + 8 * k), none⟩) 4 (c - (4 + 8 * k))) W := fun W => run_slice_first W b0 _ _ _ 4 4 rfl (by omega) (by omega)
            have s4 : ∀ W, (Instr.slice 34 (.slice (some ⟨b0, off + (4 + 8 * k), none⟩) 8 (c - (4 + 8 * k))) (some (.int .i64 4)) none none).run Tryz.prog W = .ok (.slice (some ⟨b0, off + (4 + 8 * k) + 4, none⟩) 4 (c - (4 + 8 * k) - 4)) W := fun W => run_slice_from W b0 _ 8 _ 4 4 rfl (by omega) (by omega) (by omega)
            have hN1c : ∀ V, Below w.heap.size w V → Calls Tryz.prog 111 #[.slice (some ⟨b0, off + (4 + 8 * k), none⟩) 4 (c - (4 + 8 * k))] V fun e w' => e = .returned (.int .u64 (x.s : Int)) ∧ V = w' := fun V hV => by
              have hh := Holds.drop (H.out.below (hV.mono hB)) (show (4 + 8 * k) + 4 ≤ 256 by omega)
              have := numberAt_any _ 4 (c - (4 + 8 * k)) B _ V hh (by omega)
              rw [show nmb ((b.drop (4 + 8 * k)).take 4) = x.s by rw [hxs]; rfl] at this
              exact this
            have hN2c : ∀ V, Below w.heap.size w V → Calls Tryz.prog 111 #[.slice (some ⟨b0, off + (4 + 8 * k) + 4, none⟩) 4 (c - (4 + 8 * k) - 4)] V fun e w' => e = .returned (.int .u64 (x.b : Int)) ∧ V = w' := fun V hV => by
              have hh := Holds.drop (H.out.below (hV.mono hB)) (show (8 + 8 * k) + 4 ≤ 256 by omega)
              rw [show off + (8 + 8 * k) = off + (4 + 8 * k) + 4 by omega] at hh
              have := numberAt_any _ 4 (c - (4 + 8 * k) - 4) B _ V hh (by omega)
              rw [show nmb ((b.drop (8 + 8 * k)).take 4) = x.b by rw [hxb]; rfl] at this
              exact this
            have w3 : IntKind.u32.wrap (x.s : Int) = (x.s : Int) := by simp [IntKind.wrap, IntKind.bits, IntKind.signed]; omega
            have w4 : IntKind.i64.wrap (x.b : Int) = (x.b : Int) := by rw [IntKind.wrap_i64]; omega
            have HN1 := Lib.hid hN1c; clear hN1c
            have HN2 := Lib.hid hN2c; clear hN2c
            have HX := Lib.hid hnext; clear hnext
            have hO1 : OwnC RK wr.drew w.heap.size (.slice (some ⟨g, 0, none⟩) N N) ((((rowsAt b N).take k).map rv0) ++ List.replicate (N - k) rvZ) := HO.out
            obtain ⟨W5, hst, ho5, hg5, hz5⟩ := put_own RK_ok hO1 k (by rw [hlen]; exact hlt) x _ rfl (k * 3) rfl
            have hst' : (stR (.pointer (some ⟨g, k * 3, none⟩)) (.agg #[.int .u32 (x.s : Int), .int .i64 (x.b : Int), .slice none 0 0])).run Tryz.prog wr.drew = .ok () W5 := by rw [← hxc]; exact hst
            rw [HX.out] at ho5
            have hb5 : Below w.heap.size w W5 := (below_drew HB.out).grown hg5 (below_drew HB.out).size (fun j hj => by injection hj with hj; have := HGG.out; omega)
            have HO5 := Lib.hid ho5
            have HB5 := Lib.hid hb5
            clear hst ho5 hb5 hg5 hz5 hO1 hlen hlow hx hxs hxb hxc e8
            generalize hxs : x.s = xs at w3 HN1 hst' hxs'
            generalize hxb : x.b = xb at w4 HN2 hst' hxb'
            have hk2 : (k : Int) < (N : Int) := by omega
            go_wp2
            refine wp_region_E (fun V => Below w.heap.size w V) 99 rfl ?_
            have hS := (below_drew HB.out)
            refine wpE_takeF 0 ⟨some 33, _, _, _, _, _⟩ (v := ?_) (by decide) rfl (by kernel_rfl) (by kernel_rfl) (by kernel_rfl) (fun _ _ _ h => h) hS (Or.inl ⟨by kernel_rfl, ?_⟩) ?_
            rotate_left
            · (intro V hSw; go_simp; try with_reducible rfl)
            try simp only [Act.put]
            refine wpE_takeF 1 ⟨some 34, _, _, _, _, _⟩ (v := ?_) (by decide) rfl (by kernel_rfl) (by kernel_rfl) (by kernel_rfl) (fun _ _ _ h => h) hS (Or.inl ⟨by kernel_rfl, ?_⟩) ?_
            rotate_left
            · (intro V hSw; go_simp; try with_reducible rfl)
            try simp only [Act.put]
            refine wpE_takeF 2 ⟨some 35, _, _, _, _, _⟩ (v := ?_) (by decide) rfl (by kernel_rfl) (by kernel_rfl) (by kernel_rfl) (fun _ _ _ h => h) hS (Or.inl ⟨by kernel_rfl, ?_⟩) ?_
            rotate_left
            · (intro V hSw; go_simp; try with_reducible rfl)
            try simp only [Act.put]
            refine wpE_takeF 3 ⟨some 36, _, _, _, _, _⟩ (v := ?_) (by decide) rfl (by kernel_rfl) (by kernel_rfl) (by kernel_rfl) (fun _ _ _ h => h) hS (Or.inl ⟨by kernel_rfl, ?_⟩) ?_
            rotate_left
            · (intro V hSw; go_simp; try with_reducible rfl)
            try simp only [Act.put]
            refine wpE_takeF 6 ⟨some 39, _, _, _, _, _⟩ (v := ?_) (by decide) rfl (by kernel_rfl) (by kernel_rfl) (by kernel_rfl) (fun _ _ _ h => h) hS (Or.inl ⟨by kernel_rfl, ?_⟩) ?_
            rotate_left
            · (intro V hSw; go_simp; try with_reducible rfl)
            try simp only [Act.put]
            refine wpE_takeF 7 ⟨some 40, _, _, _, _, _⟩ (v := ?_) (by decide) rfl (by kernel_rfl) (by kernel_rfl) (by kernel_rfl) (fun _ _ _ h => h) hS (Or.inl ⟨by kernel_rfl, ?_⟩) ?_
            rotate_left
            · (intro V hSw; go_simp; try with_reducible rfl)
            try simp only [Act.put]
            refine wpE_takeCF 4 ⟨some 37, _, _, _, _, _⟩ (v := .int .u64 (xs : Int)) (by decide) rfl (by kernel_rfl) (by kernel_rfl) (by kernel_rfl) (fun _ _ _ h => h) hS (yieldsC_of (by kernel_rfl) 111 _ _ _ _ rfl Tryz.func111 (by kernel_rfl) rfl #[.slice (some ⟨b0, off + (4 + 8 * k), none⟩) 4 (c - (4 + 8 * k))] ?hv HN1.out) ?_
            case hv => simp only [List.map_toArray, List.map_cons, List.map_nil]; go_simp
            try simp only [Act.put]
            refine wpE_takeF 5 ⟨some 38, _, _, _, _, _⟩ (v := ?_) (by decide) rfl (by kernel_rfl) (by kernel_rfl) (by kernel_rfl) (fun _ _ _ h => h) hS (Or.inl ⟨by kernel_rfl, ?_⟩) ?_
            rotate_left
            · (intro V hSw; go_simp; try with_reducible rfl)
            try simp only [Act.put]
            refine wpE_takeCF 8 ⟨some 41, _, _, _, _, _⟩ (v := .int .u64 (xb : Int)) (by decide) rfl (by kernel_rfl) (by kernel_rfl) (by kernel_rfl) (fun _ _ _ h => h) hS (yieldsC_of (by kernel_rfl) 111 _ _ _ _ rfl Tryz.func111 (by kernel_rfl) rfl #[.slice (some ⟨b0, off + (4 + 8 * k) + 4, none⟩) 4 (c - (4 + 8 * k) - 4)] ?hv HN2.out) ?_
            case hv => simp only [List.map_toArray, List.map_cons, List.map_nil]; go_simp
            try simp only [Act.put]
            refine wpE_takeF 9 ⟨some 42, _, _, _, _, _⟩ (v := ?_) (by decide) rfl (by kernel_rfl) (by kernel_rfl) (by kernel_rfl) (fun _ _ _ h => h) hS (Or.inl ⟨by kernel_rfl, ?_⟩) ?_
            rotate_left
            · (intro V hSw; go_simp; try with_reducible rfl)
            try simp only [Act.put]
            refine wpE_takeF 10 ⟨some 43, _, _, _, _, _⟩ (v := ?_) (by decide) rfl (by kernel_rfl) (by kernel_rfl) (by kernel_rfl) (fun _ _ _ h => h) hS (Or.inl ⟨by kernel_rfl, ?_⟩) ?_
            rotate_left
            · (intro V hSw; go_simp; try with_reducible rfl)
            try simp only [Act.put]
            refine wpE_takeF 11 ⟨some 44, _, _, _, _, _⟩ (v := ?_) (by decide) rfl (by kernel_rfl) (by kernel_rfl) (by kernel_rfl) (fun _ _ _ h => h) hS (Or.inl ⟨by kernel_rfl, ?_⟩) ?_
            rotate_left
            · (intro V hSw; go_simp; try with_reducible rfl)
            try simp only [Act.put]
            refine wpE_one 12 (by kernel_rfl) rfl (fun K' hK' => ?_)
            go_simp
            refine hK'.out _ _ HB5.out (fun hS => ?_)
            clear hK' K'
            try simp only [Act.put]
            refine wpE_done (by kernel_rfl) ?_ _
            try simp only [List.setIfInBounds_toArray, List.set_cons_succ, List.set_cons_zero]
            go_wp2
            go_roundw
            case rel => exact ⟨k + 1, by omega, by go_num, HO5.out, HB5.out⟩
            case measure => simp [intOf]; omega
          · obtain rfl : k = N := by omega
            have htk : (rowsAt b k).take k = rowsAt b k := List.take_of_length_le (by rw [rowsAt_len]; omega)
            have ho := HO.out
            rw [htk, Nat.sub_self, List.replicate_zero, List.append_nil] at ho
            have hnk : ¬ (k : Int) < (k : Int) := by omega
            obtain ⟨L, hL⟩ : ∃ L, L = rowsAt b k := ⟨_, rfl⟩
            rw [← hL] at ho
            have hLl : L.length = k := by rw [hL, rowsAt_len]
            have hLb : ∀ y ∈ L.map rv0, y.s < 4294967296 ∧ y.b < 4294967296 := fun y hy => by
              obtain ⟨z, hz, rfl⟩ := List.mem_map.1 hy
              rw [hL] at hz
              obtain ⟨i, _, rfl⟩ := List.mem_map.1 hz
              exact rowAt_lt b i
            have hix := indexOf_any (some ⟨g, 0, none⟩) k k wr.heap.size (L.map rv0) wr (ho.reads RK_ok) (Nat.le_refl _) hN1 hLb
            rw [rv0_w] at hix
            have HIX := Lib.hid hix; clear hix
            have HOL := Lib.hid ho; clear ho
            have HL := Lib.hid hL; clear hL htk hLl hLb HO
            go_wp2_with fail
            with_reducible refine HIX.out.mono ?_
            rintro E W6 ⟨A6, c6, rfl, ho6, hb6⟩
            have HB6 : Hid (Below w.heap.size w W6) := Lib.hid (HB.out.trans (hb6.mono HB.out.size))
            have heq := equal_any (some ⟨b0, off, none⟩) A6 256 _ c c6 B W6.heap.size b (indexL L) W6 (H.out.below (HB6.out.mono hB)) (Owned.reads ho6)
            have HEQ := Lib.hid heq; clear heq
            have HO6 : Hid (OwnC RK W6 w.heap.size (.slice (some ⟨g, 0, none⟩) k k) (L.map rv0)) := Lib.hid (HOL.out.below hb6)
            clear ho6 hb6
            go_wp2_with (with_reducible refine HEQ.out.mono ?_; rintro E w7 ⟨rfl, rfl⟩)
            rw [HP.out]
            unfold Told2
            rw [← HN.out, ← HL.out]
            refine .inr ⟨?_, _, _, rfl, HO6.out, HB6.out⟩
            unfold headOk
            rw [HLN.out, ← HN.out]
            simp
            omega
      · have hk0 : ¬ (N : Int) < 2 := by omega
        have hk1 : (30 : Int) < (N : Int) := by omega
        go_enter Tryz.func85, Tryz.ntmps85
        go_wp2_with (with_reducible refine HNUM.out.mono ?_; rintro E w1 ⟨rfl, rfl⟩)
        rw [HP.out]
        refine .inl ⟨?_, rfl, Below.refl _ _⟩
        unfold headOk
        rw [← HN.out, decide_eq_false hN1, Bool.and_false, Bool.and_false]
    · have hk0 : (N : Int) < 2 := by omega
      go_enter Tryz.func85, Tryz.ntmps85
      go_wp2_with (with_reducible refine HNUM.out.mono ?_; rintro E w1 ⟨rfl, rfl⟩)
      rw [HP.out]
      refine .inl ⟨?_, rfl, Below.refl _ _⟩
      unfold headOk
      rw [← HN.out, decide_eq_false hN0, Bool.false_and, Bool.and_false]
  · have hk0 : ¬ (n : Int) = 256 := by omega
    go_enter Tryz.func85, Tryz.ntmps85
    go_wp2
    rw [HP.out]
    refine .inl ⟨?_, rfl, Below.refl _ _⟩
    unfold headOk
    rw [HLN.out, decide_eq_false h256, Bool.false_and]
end Go.Proofs.YtbagocghlijleaaGreat.Ht

namespace Go.Proofs.YtbagocghlijleaaGreat.Ht
set_option maxRecDepth 20000
open Go.RowKit
open Go.Proofs.YtbagocghlijleaaGreat.Mem Go.Proofs.YtbagocghlijleaaGreat.Crc Go.Proofs.YtbagocghlijleaaGreat.Rec Go.Proofs.YtbagocghlijleaaGreat.Reg Go.Proofs.YtbagocghlijleaaGreat.Lf
attribute [local go_sem ↓] ldE_eq stE_eq ldX_eq stX_eq ldR_eq stR_eq

/-- What rise looks at, row by row. -/
def stepOk (n : Nat) (l : List Rw) (i : Nat) : Bool :=
  decide (i = 0 → (l.getD i ⟨0, 0⟩).s = 0) && (decide (0 < i → (l.getD (i - 1) ⟨0, 0⟩).s < (l.getD i ⟨0, 0⟩).s) && decide (1 ≤ (l.getD i ⟨0, 0⟩).b ∧ (l.getD i ⟨0, 0⟩).b ≤ n))
def riseB (l : List Rw) : Bool := (List.range l.length).all (stepOk l.length l) && decide ((l.map Rw.b).Nodup)
theorem rise_rows {n : Nat} {l : List Rw} (hl : l.length = n) (h2 : 2 ≤ n) (h30 : n ≤ 30) (h32 : ∀ r ∈ l, r.s < 4294967296) : rowsOk n l = riseB l := by
  have hg : ∀ i, (h : i < l.length) → l.getD i ⟨0, 0⟩ = l[i] := fun i h => by rw [List.getD_eq_getElem?_getD, List.getElem?_eq_getElem h]; rfl
  have hs : riseB l = true ↔ (∀ i, i < n → stepOk n l i = true) ∧ (l.map Rw.b).Nodup := by
    unfold riseB
    rw [Bool.and_eq_true, List.all_eq_true, decide_eq_true_iff, hl]
    simp
  have hr := rowsOk_steps hl h2 h30 h32
  rw [Bool.eq_iff_iff, hs]
  constructor
  · intro h
    refine ⟨fun i hi => ?_, ((rowsOk_iff.1 h).2.2.1)⟩
    have := hr.1 h i hi
    unfold okRow at this
    unfold stepOk
    simp only [Bool.and_eq_true, decide_eq_true_iff] at this ⊢
    exact ⟨this.2.2.1, this.2.2.2, this.1⟩
  · rintro ⟨h, hn⟩
    refine hr.2 fun i hi => ?_
    have := h i hi
    unfold stepOk at this
    unfold okRow
    simp only [Bool.and_eq_true, decide_eq_true_iff] at this ⊢
    refine ⟨this.2.2, ?_, this.1, this.2.1⟩
    rw [nodup_steps] at hn
    have := hn i (by simpa [hl] using hi)
    rw [hg i (by omega)]
    simpa [List.map_take] using this

theorem keys_count : ∀ (xs Ls : List Nat), ((xs.map fun b : Nat => Lit.int .i64 (b : Int)).foldl Maps.addKey (Ls.map fun b : Nat => Lit.int .i64 (b : Int))).length ≤ Ls.length + xs.length ∧
    (((xs.map fun b : Nat => Lit.int .i64 (b : Int)).foldl Maps.addKey (Ls.map fun b : Nat => Lit.int .i64 (b : Int))).length = Ls.length + xs.length ↔ xs.Nodup ∧ ∀ x ∈ xs, x ∉ Ls)
  | [], Ls => by simp
  | x :: xs, Ls => by
    have hany : ((Ls.map fun b : Nat => Lit.int .i64 (b : Int)).any fun y => y.sameKey (Lit.int .i64 (x : Int))) = true ↔ x ∈ Ls := by
      rw [List.any_eq_true]
      constructor
      · rintro ⟨y, hy, hs⟩
        obtain ⟨b, hb, rfl⟩ := List.mem_map.1 hy
        have := WideAt.sameKey_eq hs
        injection this with _ this
        have hbx : b = x := by omega
        exact hbx ▸ hb
      · intro hx
        exact ⟨_, List.mem_map.2 ⟨x, hx, rfl⟩, WideAt.sameKey_self (by trivial)⟩
    simp only [List.map_cons, List.foldl_cons, List.length_cons]
    by_cases hx : x ∈ Ls
    · have e : Maps.addKey (Ls.map fun b : Nat => Lit.int .i64 (b : Int)) (Lit.int .i64 (x : Int)) = (Ls.map fun b : Nat => Lit.int .i64 (b : Int)) := by unfold Maps.addKey; rw [if_pos (hany.2 hx)]
      rw [e]
      obtain ⟨k1, _⟩ := keys_count xs Ls
      refine ⟨by omega, ?_⟩
      constructor
      · intro h; omega
      · rintro ⟨_, h⟩
        exact absurd hx (h x (by simp))
    · have e : Maps.addKey (Ls.map fun b : Nat => Lit.int .i64 (b : Int)) (Lit.int .i64 (x : Int)) = ((Ls ++ [x]).map fun b : Nat => Lit.int .i64 (b : Int)) := by unfold Maps.addKey; rw [if_neg (fun h => hx (hany.1 h)), List.map_append]; rfl
      rw [e]
      obtain ⟨k1, k2⟩ := keys_count xs (Ls ++ [x])
      rw [List.length_append, List.length_singleton] at k1 k2
      refine ⟨by omega, ?_⟩
      rw [show Ls.length + (xs.length + 1) = Ls.length + 1 + xs.length by omega, k2, List.nodup_cons]
      constructor
      · rintro ⟨h1, h2⟩
        refine ⟨⟨fun hm => h2 x hm (by simp), h1⟩, fun y hy => ?_⟩
        rcases List.mem_cons.1 hy with rfl | hy
        · exact hx
        · exact fun hm => h2 y hy (by simp [hm])
      · rintro ⟨⟨h1, h2⟩, h3⟩
        refine ⟨h2, fun y hy hm => ?_⟩
        rcases List.mem_append.1 hm with hm | hm
        · exact h3 y (by simp [hy]) hm
        · rw [List.mem_singleton] at hm
          exact h1 (hm ▸ hy)
def keyL (r : Rv) : Lit := .int .i64 (r.b : Int)
def seenR (l : List Rv) : DataW Unit := Maps.setOf (.agg []) (l.map keyL)
theorem seen_size (l : List Rv) : (Maps.size (seenR l) = l.length ↔ ((l.map Rv.w).map Rw.b).Nodup) := by
  unfold seenR
  rw [Maps.size_setOf _ _ (fun x hx => by obtain ⟨r, _, rfl⟩ := List.mem_map.1 hx; trivial)]
  have e : l.map keyL = ((l.map Rv.w).map Rw.b).map fun b : Nat => Lit.int .i64 (b : Int) := by rw [List.map_map, List.map_map]; rfl
  have h := (keys_count ((l.map Rv.w).map Rw.b) []).2
  rw [e]
  simp only [List.map_nil, List.length_nil, Nat.zero_add, List.length_map] at h
  rw [h]
  simp
abbrev Seen (w : World) (m n : Nat) (l : List Rv) : Prop := w.ownsMap Tryz.prog 3 unitElem m n (seenR l)
theorem run_see (W : World) (m n : Nat) (l : List Rv) (x : Rv) (hn : n < maxLen) (hx : x.b < 4294967296) (h : Seen W m n l) :
    ∃ w', (Instr.mapUpdate 154 (.map (some m)) (.int .i64 (x.b : Int)) (.agg #[])).run Tryz.prog W = .ok () w' ∧ Seen w' m (n + 1) (l ++ [x]) ∧ W.grownBy w' (some m) := by
  have hw : (Lit.int .i64 (x.b : Int)).wf = true := by
    simp [Lit.wf, show IntKind.i64.min = -9223372036854775808 from rfl, show IntKind.i64.max = 9223372036854775807 from rfl]
    omega
  obtain ⟨w', h1, h2, h3⟩ := h.update (t := 154) (Maps.int_keyed Tryz.underlying3) Tryz.underlying154 hn (Maps.keyOf_int_mk Tryz.underlying3 hw) (unitElem_mk)
  refine ⟨w', h1, ?_, h3⟩
  unfold Seen seenR
  rw [List.map_append, List.map_cons, List.map_nil, Maps.setOf_snoc]
  exact h2

set_option maxRecDepth 100000 in
set_option maxHeartbeats 4000000 in
theorem rise_any (A : Option Addr) (n c B : Nat) (l : List Rv) (w : World) (h : HoldsC RK w B A n l) (hB : B ≤ w.heap.size) (hn : n ≤ 1048576) (hs : ∀ x ∈ l, x.s < 4294967296 ∧ x.b < 4294967296) :
    Calls Tryz.prog 86 #[.slice A n c] w fun e w' => e = .returned (.bool (riseB (l.map Rv.w))) ∧ Below w.heap.size w w' := by
  have hln := h.1
  have H := Lib.hid h; clear h
  have HS := Lib.hid hs; clear hs
  have hmk := fun W => run_makeMap (P := Tryz.prog) 154 W
  obtain ⟨m, hm⟩ : ∃ m, m = w.heap.size := ⟨_, rfl⟩
  obtain ⟨W0, hW0⟩ : ∃ W0, W0 = w.alloc (.map #[] 0) := ⟨_, rfl⟩
  have hseen : Seen W0 m 0 [] := by rw [hW0, hm]; exact World.ownsMap_made w _ _ _
  have hb0 : Below w.heap.size w W0 := by rw [hW0]; exact (Below.refl _ w).alloc (Nat.le_refl _) _
  have hmk0 : (Instr.makeMap 154 none).run Tryz.prog w = .ok (.map (some m)) W0 := by rw [hm, hW0]; exact run_makeMap _ _
  have HM : Hid (w.heap.size ≤ m) := Lib.hid (by omega)
  have HSEEN := Lib.hid hseen
  have HB0 := Lib.hid hb0
  clear hseen hb0 hW0 hm hmk
  obtain ⟨post, hpost⟩ : ∃ post : Ending → World → Prop, post = fun e w' => e = .returned (.bool (riseB (l.map Rv.w))) ∧ Below w.heap.size w w' := ⟨_, rfl⟩
  rw [← hpost]
  have HP := Lib.hid hpost; clear hpost
  have HLN := Lib.hid hln; clear hln
  have hgR : ∀ i, (h : i < l.length) → (l.map Rv.w).getD i ⟨0, 0⟩ = l[i].w := fun i h => by rw [List.getD_eq_getElem?_getD, List.getElem?_eq_getElem (by simpa using h)]; simp
  have HGR := Lib.hid hgR; clear hgR
  have hbad : ∀ i, i < n → stepOk n (l.map Rv.w) i = false → riseB (l.map Rv.w) = false := fun i hi hf => by
    unfold riseB
    rw [Bool.and_eq_false_iff]
    left
    rw [List.all_eq_false]
    refine ⟨i, by rw [List.mem_range, List.length_map, HLN.out]; exact hi, ?_⟩
    rw [List.length_map, HLN.out, hf]; decide
  have HBAD := Lib.hid hbad; clear hbad
  go_enter Tryz.func86, Tryz.ntmps86
  go_wp2
  go_loopw [9] (fun i wr => ∃ k : Nat, k ≤ n ∧ i = .int .i64 (k : Int) ∧ Seen wr m k (l.take k) ∧ (∀ j, j < k → stepOk n (l.map Rv.w) j = true) ∧ Below w.heap.size w wr) (fun i _ => n - (intOf i).toNat)
  case atStart => exact ⟨0, Nat.zero_le _, rfl, by simpa using HSEEN.out, fun j hj => absurd hj (Nat.not_lt_zero _), HB0.out⟩
  case round =>
    obtain ⟨k, hk, rfl, hseen, hall, hb⟩ := hrel
    have HB := Lib.hid hb; clear hb
    have HSN := Lib.hid hseen; clear hseen
    have HALL := Lib.hid hall; clear hall
    rcases Nat.lt_or_ge k n with hlt | hge
    · obtain ⟨b, off, rfl, hbB⟩ := H.out.addr (by omega)
      have hkl : k < l.length := by have := HLN.out; omega
      have hld := run_ldR_at (H.out.below (HB.out.mono hB)) k hkl (off + k * 3) rfl
      have hst := run_stR_new wr l[k]
      obtain ⟨x, hx⟩ : ∃ x, x = l[k] := ⟨_, rfl⟩
      rw [← hx] at hld hst
      have hxs := HS.out x (hx ▸ List.getElem_mem hkl)
      obtain ⟨hxs1, hxs2⟩ := hxs
      obtain ⟨W1, hW1⟩ : ∃ W1, W1 = wr.alloc (.cells (rC x) 64) := ⟨_, rfl⟩
      rw [← hW1] at hst
      have hv1 : VarR W1 wr.heap.size x := by rw [hW1]; exact VarR.new wr x
      have hb1 : Below w.heap.size w W1 := by rw [hW1]; exact HB.out.alloc HB.out.size _
      have hsn1 : Seen W1 m k (l.take k) := by rw [hW1]; exact World.ownsMap.alloc HSN.out _
      have hz1 : W1.heap.size = wr.heap.size + 1 := by rw [hW1]; simp
      -- the row ahead
      obtain ⟨y, hy⟩ : ∃ y, y = l.getD (k - 1) rvZ := ⟨_, rfl⟩
      have hyl : 0 < k → ∃ h : k - 1 < l.length, l[k - 1] = y := fun h0 => ⟨by omega, by rw [hy, List.getD_eq_getElem?_getD, List.getElem?_eq_getElem (by omega)]; rfl⟩
      have hst1 : stepOk n (l.map Rv.w) k = (decide (k = 0 → x.s = 0) && (decide (0 < k → y.s < x.s) && decide (1 ≤ x.b ∧ x.b ≤ n))) := by
        unfold stepOk
        rw [HGR.out k hkl, ← hx]
        have e : (0 < k → ((l.map Rv.w).getD (k - 1) ⟨0, 0⟩).s < x.w.s) ↔ (0 < k → y.s < x.s) := by
          constructor
          · intro h h0
            obtain ⟨h1, h2⟩ := hyl h0
            have := h h0
            rw [HGR.out (k - 1) h1, h2] at this
            exact this
          · intro h h0
            obtain ⟨h1, h2⟩ := hyl h0
            rw [HGR.out (k - 1) h1, h2]
            exact h h0
        rw [decide_eq_decide.2 e]
        rfl
      have hcel : ∀ V, Below W1.heap.size W1 V → V.cell? ⟨wr.heap.size, 0, none⟩ = some (.int .u32 (x.s : Int)) ∧ V.cell? ⟨wr.heap.size, 1, none⟩ = some (.int .i64 (x.b : Int)) ∧ (0 < k → V.cell? ⟨b, off + (k - 1) * 3, none⟩ = some (.int .u32 (y.s : Int))) := fun V hV => by
        have hv : VarR V wr.heap.size x := (hV.block _ (by omega)).trans hv1
        refine ⟨hv.cells.1, hv.cells.2.1, fun h0 => ?_⟩
        obtain ⟨h1, h2⟩ := hyl h0
        have hh := H.out.below (B := B) (w' := V) ((hb1.trans (hV.mono hb1.size)).mono hB)
        rw [(cells_rv hh (k - 1) h1).1, h2]
      have HC := Lib.hid hcel; clear hcel hyl
      have HST1 := Lib.hid hst1; clear hst1
      have HSN1 := Lib.hid hsn1; clear hsn1
      have HB1 := Lib.hid hb1; clear hb1 hv1
      have HX := Lib.hid hx; clear hx
      have HW1 := Lib.hid hW1; clear hW1
      have HZ1 := Lib.hid hz1; clear hz1
      have HXS2 := Lib.hid hxs2; clear hxs2
      have HXS1 := Lib.hid hxs1; clear hxs1
      obtain ⟨C, hC⟩ : ∃ C, C = rC x := ⟨_, rfl⟩
      rw [← hC] at hld hst HW1
      have HCC := Lib.hid hC; clear hC
      unfold zeroR at hst
      generalize hys : y.s = ys at HC HST1
      clear hys hy
      have hk2 : (k : Int) < (n : Int) := by omega
      have HV1 : Hid (VarR W1 wr.heap.size x) := Lib.hid (by rw [HW1.out, HCC.out]; exact VarR.new wr x)
      have HB1d : Hid (Below w.heap.size w W1.drew) := Lib.hid (below_drew HB1.out)
      go_wp2
      rcases Nat.eq_zero_or_pos k with hkz | hk0
      · have hki : (k : Int) = 0 := by omega
        have hnp : 0 < n := by omega
        have hnpi : (0 : Int) < (n : Int) := by omega
        have HKZ := Lib.hid hkz; clear hkz
        by_cases hx0 : x.s = 0
        · have hx0' : (x.s : Int) = 0 := by omega
          refine wp_region_E (fun V => Below W1.heap.size W1 V) 99 rfl ?_
          have hS := (show Below W1.heap.size W1 W1.drew from below_drew (Below.refl _ _))
          refine wpE_takeF 0 ⟨some 14, _, _, _, _, _⟩ (v := ?_) (by decide) rfl (by kernel_rfl) (by kernel_rfl) (by kernel_rfl) (fun _ _ _ h => h) hS (Or.inl ⟨by kernel_rfl, ?_⟩) ?_
          rotate_left
          · (intro V hSw; obtain ⟨q0, q1, q2⟩ := HC.out V hSw; go_simp; try with_reducible rfl)
          try simp only [Act.put]
          refine wpE_takeF 1 ⟨some 15, _, _, _, _, _⟩ (v := ?_) (by decide) rfl (by kernel_rfl) (by kernel_rfl) (by kernel_rfl) (fun _ _ _ h => h) hS (Or.inl ⟨by kernel_rfl, ?_⟩) ?_
          rotate_left
          · (intro V hSw; obtain ⟨q0, q1, q2⟩ := HC.out V hSw; go_simp; try with_reducible rfl)
          try simp only [Act.put]
          refine wpE_takeF 2 ⟨some 16, _, _, _, _, _⟩ (v := ?_) (by decide) rfl (by kernel_rfl) (by kernel_rfl) (by kernel_rfl) (fun _ _ _ h => h) hS (Or.inl ⟨by kernel_rfl, ?_⟩) ?_
          rotate_left
          · (intro V hSw; obtain ⟨q0, q1, q2⟩ := HC.out V hSw; go_simp; try with_reducible rfl)
          try simp only [Act.put]
          refine wpE_takeF 3 ⟨some 17, _, _, _, _, _⟩ (v := ?_) (by decide) rfl (by kernel_rfl) (by kernel_rfl) (by kernel_rfl) (fun _ _ _ h => h) hS (Or.inl ⟨by kernel_rfl, ?_⟩) ?_
          rotate_left
          · (intro V hSw; obtain ⟨q0, q1, q2⟩ := HC.out V hSw; go_simp; try with_reducible rfl)
          try simp only [Act.put]
          refine wpE_takeF 4 ⟨some 18, _, _, _, _, _⟩ (v := ?_) (by decide) rfl (by kernel_rfl) (by kernel_rfl) (by kernel_rfl) (fun _ _ _ h => h) hS (Or.inl ⟨by kernel_rfl, ?_⟩) ?_
          rotate_left
          · (intro V hSw; obtain ⟨q0, q1, q2⟩ := HC.out V hSw; go_simp; try with_reducible rfl)
          try simp only [Act.put]
          refine wpE_takeF 5 ⟨some 19, _, _, _, _, _⟩ (v := ?_) (by decide) rfl (by kernel_rfl) (by kernel_rfl) (by kernel_rfl) (fun _ _ _ h => h) hS (Or.inl ⟨by kernel_rfl, ?_⟩) ?_
          rotate_left
          · (intro V hSw; obtain ⟨q0, q1, q2⟩ := HC.out V hSw; go_simp; try with_reducible rfl)
          try simp only [Act.put]
          refine wpE_takeF 6 ⟨some 20, _, _, _, _, _⟩ (v := ?_) (by decide) rfl (by kernel_rfl) (by kernel_rfl) (by kernel_rfl) (fun _ _ _ h => h) hS (Or.inl ⟨by kernel_rfl, ?_⟩) ?_
          rotate_left
          · (intro V hSw; obtain ⟨q0, q1, q2⟩ := HC.out V hSw; go_simp; try with_reducible rfl)
          try simp only [Act.put]
          refine wpE_takeF 7 ⟨some 21, _, _, _, _, _⟩ (v := ?_) (by decide) rfl (by kernel_rfl) (by kernel_rfl) (by kernel_rfl) (fun _ _ _ h => h) hS (Or.inl ⟨by kernel_rfl, ?_⟩) ?_
          rotate_left
          · (intro V hSw; obtain ⟨q0, q1, q2⟩ := HC.out V hSw; go_simp; try with_reducible rfl)
          try simp only [Act.put]
          refine wpE_takeF 8 ⟨some 22, _, _, _, _, _⟩ (v := ?_) (by decide) rfl (by kernel_rfl) (by kernel_rfl) (by kernel_rfl) (fun _ _ _ h => h) hS (Or.inl ⟨by kernel_rfl, ?_⟩) ?_
          rotate_left
          · (intro V hSw; obtain ⟨q0, q1, q2⟩ := HC.out V hSw; go_simp; try with_reducible rfl)
          try simp only [Act.put]
          refine wpE_takeF 9 ⟨some 23, _, _, _, _, _⟩ (v := ?_) (by decide) rfl (by kernel_rfl) (by kernel_rfl) (by kernel_rfl) (fun _ _ _ h => h) hS (Or.inl ⟨by kernel_rfl, ?_⟩) ?_
          rotate_left
          · (intro V hSw; obtain ⟨q0, q1, q2⟩ := HC.out V hSw; go_simp; try with_reducible rfl)
          try simp only [Act.put]
          refine wpE_takeF 10 ⟨some 24, _, _, _, _, _⟩ (v := ?_) (by decide) rfl (by kernel_rfl) (by kernel_rfl) (by kernel_rfl) (fun _ _ _ h => h) hS (Or.inl ⟨by kernel_rfl, ?_⟩) ?_
          rotate_left
          · (intro V hSw; obtain ⟨q0, q1, q2⟩ := HC.out V hSw; go_simp; try with_reducible rfl)
          try simp only [Act.put]
          refine wpE_takeF 11 ⟨some 25, _, _, _, _, _⟩ (v := undef) (by decide) rfl (by kernel_rfl) (by kernel_rfl) (by kernel_rfl) (fun _ _ _ h => h) hS (Or.inr ⟨by kernel_rfl, rfl⟩) ?_
          try simp only [Act.put]
          refine wpE_takeF 12 ⟨some 26, _, _, _, _, _⟩ (v := undef) (by decide) rfl (by kernel_rfl) (by kernel_rfl) (by kernel_rfl) (fun _ _ _ h => h) hS (Or.inr ⟨by kernel_rfl, rfl⟩) ?_
          try simp only [Act.put]
          refine wpE_takeF 13 ⟨some 27, _, _, _, _, _⟩ (v := undef) (by decide) rfl (by kernel_rfl) (by kernel_rfl) (by kernel_rfl) (fun _ _ _ h => h) hS (Or.inr ⟨by kernel_rfl, rfl⟩) ?_
          try simp only [Act.put]
          refine wpE_takeF 14 ⟨some 28, _, _, _, _, _⟩ (v := undef) (by decide) rfl (by kernel_rfl) (by kernel_rfl) (by kernel_rfl) (fun _ _ _ h => h) hS (Or.inr ⟨by kernel_rfl, rfl⟩) ?_
          try simp only [Act.put]
          refine wpE_takeF 15 ⟨some 29, _, _, _, _, _⟩ (v := undef) (by decide) rfl (by kernel_rfl) (by kernel_rfl) (by kernel_rfl) (fun _ _ _ h => h) hS (Or.inr ⟨by kernel_rfl, rfl⟩) ?_
          try simp only [Act.put]
          refine wpE_takeF 16 ⟨some 30, _, _, _, _, _⟩ (v := undef) (by decide) rfl (by kernel_rfl) (by kernel_rfl) (by kernel_rfl) (fun _ _ _ h => h) hS (Or.inr ⟨by kernel_rfl, rfl⟩) ?_
          try simp only [Act.put]
          refine wpE_takeF 17 ⟨some 31, _, _, _, _, _⟩ (v := undef) (by decide) rfl (by kernel_rfl) (by kernel_rfl) (by kernel_rfl) (fun _ _ _ h => h) hS (Or.inr ⟨by kernel_rfl, rfl⟩) ?_
          try simp only [Act.put]
          refine wpE_takeF 18 ⟨some 32, _, _, _, _, _⟩ (v := undef) (by decide) rfl (by kernel_rfl) (by kernel_rfl) (by kernel_rfl) (fun _ _ _ h => h) hS (Or.inr ⟨by kernel_rfl, rfl⟩) ?_
          try simp only [Act.put]
          refine wpE_takeF 19 ⟨some 33, _, _, _, _, _⟩ (v := undef) (by decide) rfl (by kernel_rfl) (by kernel_rfl) (by kernel_rfl) (fun _ _ _ h => h) hS (Or.inr ⟨by kernel_rfl, rfl⟩) ?_
          try simp only [Act.put]
          refine wpE_takeF 20 ⟨some 34, _, _, _, _, _⟩ (v := ?_) (by decide) rfl (by kernel_rfl) (by kernel_rfl) (by kernel_rfl) (fun _ _ _ h => h) hS (Or.inl ⟨by kernel_rfl, ?_⟩) ?_
          rotate_left
          · (intro V hSw; obtain ⟨q0, q1, q2⟩ := HC.out V hSw; go_simp; try with_reducible rfl)
          try simp only [Act.put]
          refine wpE_takeF 21 ⟨some 35, _, _, _, _, _⟩ (v := ?_) (by decide) rfl (by kernel_rfl) (by kernel_rfl) (by kernel_rfl) (fun _ _ _ h => h) hS (Or.inl ⟨by kernel_rfl, ?_⟩) ?_
          rotate_left
          · (intro V hSw; obtain ⟨q0, q1, q2⟩ := HC.out V hSw; go_simp; try with_reducible rfl)
          try simp only [Act.put]
          refine wpE_done (by kernel_rfl) ?_ _
          try simp only [List.setIfInBounds_toArray, List.set_cons_succ, List.set_cons_zero]
          clear hS
          have hblk : VarR W1.drew wr.heap.size x := HV1.out
          obtain ⟨-, qb, -⟩ := hblk.cells
          by_cases h1 : 1 ≤ x.b
          · by_cases h2 : x.b ≤ n
            · have h1' : ¬ (x.b : Int) < 1 := by omega
              have h2' : ¬ (n : Int) < (x.b : Int) := by omega
              obtain ⟨W3, hrun, hsn3, hg3⟩ := run_see W1.drew m k (l.take k) x (by unfold maxLen; omega) HXS2.out (World.ownsMap.drew HSN1.out)
              have HB3 : Hid (Below w.heap.size w W3) := Lib.hid (HB1d.out.grown hg3 HB1d.out.size (fun j hj => by injection hj with hj; have := HM.out; omega))
              have HSN3 := Lib.hid hsn3
              clear hsn3 hg3
              go_wp2
              go_roundw
              case rel =>
                refine ⟨k + 1, by omega, by go_num, ?_, fun j hj => ?_, HB3.out⟩
                · rw [List.take_succ_eq_append_getElem hkl, ← HX.out]
                  exact HSN3.out
                · rcases Nat.lt_or_ge j k with hj1 | hj1
                  · exact HALL.out j hj1
                  · have hjk : j = k := by omega
                    rw [hjk, HST1.out]
                    rw [decide_eq_true (show (k = 0 → x.s = 0) from fun _ => hx0), decide_eq_true (show (0 < k → ys < x.s) from fun h => absurd h (by have := HKZ.out; omega)), decide_eq_true (show 1 ≤ x.b ∧ x.b ≤ n from ⟨h1, h2⟩)]; try rfl
              case measure => simp [intOf]; omega
            · have h1' : ¬ (x.b : Int) < 1 := by omega
              have h2' : (n : Int) < (x.b : Int) := by omega
              go_wp2
              rw [HP.out]
              exact ⟨by rw [HBAD.out k (by omega) (by rw [HST1.out]; rw [decide_eq_false (show ¬ (1 ≤ x.b ∧ x.b ≤ n) by omega), Bool.and_false, Bool.and_false])]; try rfl, HB1d.out⟩
          · have h1' : (x.b : Int) < 1 := by omega
            go_wp2
            rw [HP.out]
            exact ⟨by rw [HBAD.out k (by omega) (by rw [HST1.out]; rw [decide_eq_false (show ¬ (1 ≤ x.b ∧ x.b ≤ n) by omega), Bool.and_false, Bool.and_false])]; try rfl, HB1d.out⟩
        · have hx0' : ¬ (x.s : Int) = 0 := by omega
          have hx0b : ((x.s : Int) == 0) = false := by rw [beq_eq_false_iff_ne]; exact hx0'
          have hx0c : ((x.s : Int) != 0) = true := by rw [bne_iff_ne]; exact hx0'
          refine wp_region_E (fun V => Below W1.heap.size W1 V) 99 rfl ?_
          have hS := (show Below W1.heap.size W1 W1.drew from below_drew (Below.refl _ _))
          refine wpE_takeF 0 ⟨some 14, _, _, _, _, _⟩ (v := ?_) (by decide) rfl (by kernel_rfl) (by kernel_rfl) (by kernel_rfl) (fun _ _ _ h => h) hS (Or.inl ⟨by kernel_rfl, ?_⟩) ?_
          rotate_left
          · (intro V hSw; obtain ⟨q0, q1, q2⟩ := HC.out V hSw; go_simp; try with_reducible rfl)
          try simp only [Act.put]
          refine wpE_takeF 1 ⟨some 15, _, _, _, _, _⟩ (v := ?_) (by decide) rfl (by kernel_rfl) (by kernel_rfl) (by kernel_rfl) (fun _ _ _ h => h) hS (Or.inl ⟨by kernel_rfl, ?_⟩) ?_
          rotate_left
          · (intro V hSw; obtain ⟨q0, q1, q2⟩ := HC.out V hSw; go_simp; try with_reducible rfl)
          try simp only [Act.put]
          refine wpE_takeF 2 ⟨some 16, _, _, _, _, _⟩ (v := ?_) (by decide) rfl (by kernel_rfl) (by kernel_rfl) (by kernel_rfl) (fun _ _ _ h => h) hS (Or.inl ⟨by kernel_rfl, ?_⟩) ?_
          rotate_left
          · (intro V hSw; obtain ⟨q0, q1, q2⟩ := HC.out V hSw; go_simp; try with_reducible rfl)
          try simp only [Act.put]
          refine wpE_takeF 3 ⟨some 17, _, _, _, _, _⟩ (v := ?_) (by decide) rfl (by kernel_rfl) (by kernel_rfl) (by kernel_rfl) (fun _ _ _ h => h) hS (Or.inl ⟨by kernel_rfl, ?_⟩) ?_
          rotate_left
          · (intro V hSw; obtain ⟨q0, q1, q2⟩ := HC.out V hSw; go_simp; try with_reducible rfl)
          try simp only [Act.put]
          refine wpE_takeF 4 ⟨some 18, _, _, _, _, _⟩ (v := ?_) (by decide) rfl (by kernel_rfl) (by kernel_rfl) (by kernel_rfl) (fun _ _ _ h => h) hS (Or.inl ⟨by kernel_rfl, ?_⟩) ?_
          rotate_left
          · (intro V hSw; obtain ⟨q0, q1, q2⟩ := HC.out V hSw; go_simp; try with_reducible rfl)
          try simp only [Act.put]
          refine wpE_takeF 5 ⟨some 19, _, _, _, _, _⟩ (v := ?_) (by decide) rfl (by kernel_rfl) (by kernel_rfl) (by kernel_rfl) (fun _ _ _ h => h) hS (Or.inl ⟨by kernel_rfl, ?_⟩) ?_
          rotate_left
          · (intro V hSw; obtain ⟨q0, q1, q2⟩ := HC.out V hSw; go_simp; try with_reducible rfl)
          try simp only [Act.put]
          refine wpE_takeF 6 ⟨some 20, _, _, _, _, _⟩ (v := ?_) (by decide) rfl (by kernel_rfl) (by kernel_rfl) (by kernel_rfl) (fun _ _ _ h => h) hS (Or.inl ⟨by kernel_rfl, ?_⟩) ?_
          rotate_left
          · (intro V hSw; obtain ⟨q0, q1, q2⟩ := HC.out V hSw; go_simp; try with_reducible rfl)
          try simp only [Act.put]
          refine wpE_takeF 7 ⟨some 21, _, _, _, _, _⟩ (v := ?_) (by decide) rfl (by kernel_rfl) (by kernel_rfl) (by kernel_rfl) (fun _ _ _ h => h) hS (Or.inl ⟨by kernel_rfl, ?_⟩) ?_
          rotate_left
          · (intro V hSw; obtain ⟨q0, q1, q2⟩ := HC.out V hSw; go_simp; try with_reducible rfl)
          try simp only [Act.put]
          refine wpE_takeF 8 ⟨some 22, _, _, _, _, _⟩ (v := undef) (by decide) rfl (by kernel_rfl) (by kernel_rfl) (by kernel_rfl) (fun _ _ _ h => h) hS (Or.inr ⟨by kernel_rfl, rfl⟩) ?_
          try simp only [Act.put]
          refine wpE_takeF 9 ⟨some 23, _, _, _, _, _⟩ (v := undef) (by decide) rfl (by kernel_rfl) (by kernel_rfl) (by kernel_rfl) (fun _ _ _ h => h) hS (Or.inr ⟨by kernel_rfl, rfl⟩) ?_
          try simp only [Act.put]
          refine wpE_takeF 10 ⟨some 24, _, _, _, _, _⟩ (v := undef) (by decide) rfl (by kernel_rfl) (by kernel_rfl) (by kernel_rfl) (fun _ _ _ h => h) hS (Or.inr ⟨by kernel_rfl, rfl⟩) ?_
          try simp only [Act.put]
          refine wpE_takeF 11 ⟨some 25, _, _, _, _, _⟩ (v := undef) (by decide) rfl (by kernel_rfl) (by kernel_rfl) (by kernel_rfl) (fun _ _ _ h => h) hS (Or.inr ⟨by kernel_rfl, rfl⟩) ?_
          try simp only [Act.put]
          refine wpE_takeF 12 ⟨some 26, _, _, _, _, _⟩ (v := undef) (by decide) rfl (by kernel_rfl) (by kernel_rfl) (by kernel_rfl) (fun _ _ _ h => h) hS (Or.inr ⟨by kernel_rfl, rfl⟩) ?_
          try simp only [Act.put]
          refine wpE_takeF 13 ⟨some 27, _, _, _, _, _⟩ (v := undef) (by decide) rfl (by kernel_rfl) (by kernel_rfl) (by kernel_rfl) (fun _ _ _ h => h) hS (Or.inr ⟨by kernel_rfl, rfl⟩) ?_
          try simp only [Act.put]
          refine wpE_takeF 14 ⟨some 28, _, _, _, _, _⟩ (v := undef) (by decide) rfl (by kernel_rfl) (by kernel_rfl) (by kernel_rfl) (fun _ _ _ h => h) hS (Or.inr ⟨by kernel_rfl, rfl⟩) ?_
          try simp only [Act.put]
          refine wpE_takeF 15 ⟨some 29, _, _, _, _, _⟩ (v := undef) (by decide) rfl (by kernel_rfl) (by kernel_rfl) (by kernel_rfl) (fun _ _ _ h => h) hS (Or.inr ⟨by kernel_rfl, rfl⟩) ?_
          try simp only [Act.put]
          refine wpE_takeF 16 ⟨some 30, _, _, _, _, _⟩ (v := undef) (by decide) rfl (by kernel_rfl) (by kernel_rfl) (by kernel_rfl) (fun _ _ _ h => h) hS (Or.inr ⟨by kernel_rfl, rfl⟩) ?_
          try simp only [Act.put]
          refine wpE_takeF 17 ⟨some 31, _, _, _, _, _⟩ (v := undef) (by decide) rfl (by kernel_rfl) (by kernel_rfl) (by kernel_rfl) (fun _ _ _ h => h) hS (Or.inr ⟨by kernel_rfl, rfl⟩) ?_
          try simp only [Act.put]
          refine wpE_takeF 18 ⟨some 32, _, _, _, _, _⟩ (v := undef) (by decide) rfl (by kernel_rfl) (by kernel_rfl) (by kernel_rfl) (fun _ _ _ h => h) hS (Or.inr ⟨by kernel_rfl, rfl⟩) ?_
          try simp only [Act.put]
          refine wpE_takeF 19 ⟨some 33, _, _, _, _, _⟩ (v := undef) (by decide) rfl (by kernel_rfl) (by kernel_rfl) (by kernel_rfl) (fun _ _ _ h => h) hS (Or.inr ⟨by kernel_rfl, rfl⟩) ?_
          try simp only [Act.put]
          refine wpE_takeF 20 ⟨some 34, _, _, _, _, _⟩ (v := undef) (by decide) rfl (by kernel_rfl) (by kernel_rfl) (by kernel_rfl) (fun _ _ _ h => h) hS (Or.inr ⟨by kernel_rfl, rfl⟩) ?_
          try simp only [Act.put]
          refine wpE_takeF 21 ⟨some 35, _, _, _, _, _⟩ (v := ?_) (by decide) rfl (by kernel_rfl) (by kernel_rfl) (by kernel_rfl) (fun _ _ _ h => h) hS (Or.inl ⟨by kernel_rfl, ?_⟩) ?_
          rotate_left
          · (intro V hSw; obtain ⟨q0, q1, q2⟩ := HC.out V hSw; go_simp; try with_reducible rfl)
          try simp only [Act.put]
          refine wpE_done (by kernel_rfl) ?_ _
          try simp only [List.setIfInBounds_toArray, List.set_cons_succ, List.set_cons_zero]
          clear hS
          go_wp2
          rw [HP.out]
          exact ⟨by rw [HBAD.out k (by omega) (by rw [HST1.out]; rw [decide_eq_false (show ¬ (k = 0 → x.s = 0) from fun h => hx0 (h HKZ.out)), Bool.false_and])]; try rfl, HB1d.out⟩
      · have hk0' : ¬ (k : Int) = 0 := by omega
        have hkn0 : ¬ k = 0 := by omega
        have hkb : ((k : Int) == 0) = false := by rw [beq_eq_false_iff_ne]; exact hk0'
        have hk0p : (0 : Int) < (k : Int) := by omega
        have hk1 : (k : Int) - 1 = ((k - 1 : Nat) : Int) := by omega
        have hk1c : ((k - 1 : Nat) : Int) < (n : Int) := by omega
        have hwk : IntKind.i64.wrap ((k - 1 : Nat) : Int) = ((k - 1 : Nat) : Int) := by rw [IntKind.wrap_i64]; omega
        by_cases hle : x.s ≤ ys
        · have hle' : (x.s : Int) ≤ (ys : Int) := by omega
          refine wp_region_E (fun V => Below W1.heap.size W1 V) 99 rfl ?_
          have hS := (show Below W1.heap.size W1 W1.drew from below_drew (Below.refl _ _))
          refine wpE_takeF 0 ⟨some 14, _, _, _, _, _⟩ (v := ?_) (by decide) rfl (by kernel_rfl) (by kernel_rfl) (by kernel_rfl) (fun _ _ _ h => h) hS (Or.inl ⟨by kernel_rfl, ?_⟩) ?_
          rotate_left
          · (intro V hSw; obtain ⟨q0, q1, q2⟩ := HC.out V hSw; have q3 := q2 hk0; go_simp; try with_reducible rfl)
          try simp only [Act.put]
          refine wpE_takeF 1 ⟨some 15, _, _, _, _, _⟩ (v := ?_) (by decide) rfl (by kernel_rfl) (by kernel_rfl) (by kernel_rfl) (fun _ _ _ h => h) hS (Or.inl ⟨by kernel_rfl, ?_⟩) ?_
          rotate_left
          · (intro V hSw; obtain ⟨q0, q1, q2⟩ := HC.out V hSw; have q3 := q2 hk0; go_simp; try with_reducible rfl)
          try simp only [Act.put]
          refine wpE_takeF 2 ⟨some 16, _, _, _, _, _⟩ (v := ?_) (by decide) rfl (by kernel_rfl) (by kernel_rfl) (by kernel_rfl) (fun _ _ _ h => h) hS (Or.inl ⟨by kernel_rfl, ?_⟩) ?_
          rotate_left
          · (intro V hSw; obtain ⟨q0, q1, q2⟩ := HC.out V hSw; have q3 := q2 hk0; go_simp; try with_reducible rfl)
          try simp only [Act.put]
          refine wpE_takeF 3 ⟨some 17, _, _, _, _, _⟩ (v := undef) (by decide) rfl (by kernel_rfl) (by kernel_rfl) (by kernel_rfl) (fun _ _ _ h => h) hS (Or.inr ⟨by kernel_rfl, rfl⟩) ?_
          try simp only [Act.put]
          refine wpE_takeF 4 ⟨some 18, _, _, _, _, _⟩ (v := undef) (by decide) rfl (by kernel_rfl) (by kernel_rfl) (by kernel_rfl) (fun _ _ _ h => h) hS (Or.inr ⟨by kernel_rfl, rfl⟩) ?_
          try simp only [Act.put]
          refine wpE_takeF 5 ⟨some 19, _, _, _, _, _⟩ (v := undef) (by decide) rfl (by kernel_rfl) (by kernel_rfl) (by kernel_rfl) (fun _ _ _ h => h) hS (Or.inr ⟨by kernel_rfl, rfl⟩) ?_
          try simp only [Act.put]
          refine wpE_takeF 6 ⟨some 20, _, _, _, _, _⟩ (v := ?_) (by decide) rfl (by kernel_rfl) (by kernel_rfl) (by kernel_rfl) (fun _ _ _ h => h) hS (Or.inl ⟨by kernel_rfl, ?_⟩) ?_
          rotate_left
          · (intro V hSw; obtain ⟨q0, q1, q2⟩ := HC.out V hSw; have q3 := q2 hk0; go_simp; try with_reducible rfl)
          try simp only [Act.put]
          refine wpE_takeF 7 ⟨some 21, _, _, _, _, _⟩ (v := ?_) (by decide) rfl (by kernel_rfl) (by kernel_rfl) (by kernel_rfl) (fun _ _ _ h => h) hS (Or.inl ⟨by kernel_rfl, ?_⟩) ?_
          rotate_left
          · (intro V hSw; obtain ⟨q0, q1, q2⟩ := HC.out V hSw; have q3 := q2 hk0; go_simp; try with_reducible rfl)
          try simp only [Act.put]
          refine wpE_takeF 8 ⟨some 22, _, _, _, _, _⟩ (v := ?_) (by decide) rfl (by kernel_rfl) (by kernel_rfl) (by kernel_rfl) (fun _ _ _ h => h) hS (Or.inl ⟨by kernel_rfl, ?_⟩) ?_
          rotate_left
          · (intro V hSw; obtain ⟨q0, q1, q2⟩ := HC.out V hSw; have q3 := q2 hk0; go_simp; try with_reducible rfl)
          try simp only [Act.put]
          refine wpE_takeF 9 ⟨some 23, _, _, _, _, _⟩ (v := ?_) (by decide) rfl (by kernel_rfl) (by kernel_rfl) (by kernel_rfl) (fun _ _ _ h => h) hS (Or.inl ⟨by kernel_rfl, ?_⟩) ?_
          rotate_left
          · (intro V hSw; obtain ⟨q0, q1, q2⟩ := HC.out V hSw; have q3 := q2 hk0; go_simp; try with_reducible rfl)
          try simp only [Act.put]
          refine wpE_takeF 10 ⟨some 24, _, _, _, _, _⟩ (v := ?_) (by decide) rfl (by kernel_rfl) (by kernel_rfl) (by kernel_rfl) (fun _ _ _ h => h) hS (Or.inl ⟨by kernel_rfl, ?_⟩) ?_
          rotate_left
          · (intro V hSw; obtain ⟨q0, q1, q2⟩ := HC.out V hSw; have q3 := q2 hk0; go_simp; try with_reducible rfl)
          try simp only [Act.put]
          refine wpE_takeF 11 ⟨some 25, _, _, _, _, _⟩ (v := ?_) (by decide) rfl (by kernel_rfl) (by kernel_rfl) (by kernel_rfl) (fun _ _ _ h => h) hS (Or.inl ⟨by kernel_rfl, ?_⟩) ?_
          rotate_left
          · (intro V hSw; obtain ⟨q0, q1, q2⟩ := HC.out V hSw; have q3 := q2 hk0; go_simp; try with_reducible rfl)
          try simp only [Act.put]
          refine wpE_takeF 12 ⟨some 26, _, _, _, _, _⟩ (v := ?_) (by decide) rfl (by kernel_rfl) (by kernel_rfl) (by kernel_rfl) (fun _ _ _ h => h) hS (Or.inl ⟨by kernel_rfl, ?_⟩) ?_
          rotate_left
          · (intro V hSw; obtain ⟨q0, q1, q2⟩ := HC.out V hSw; have q3 := q2 hk0; go_simp; try with_reducible rfl)
          try simp only [Act.put]
          refine wpE_takeF 13 ⟨some 27, _, _, _, _, _⟩ (v := ?_) (by decide) rfl (by kernel_rfl) (by kernel_rfl) (by kernel_rfl) (fun _ _ _ h => h) hS (Or.inl ⟨by kernel_rfl, ?_⟩) ?_
          rotate_left
          · (intro V hSw; obtain ⟨q0, q1, q2⟩ := HC.out V hSw; have q3 := q2 hk0; go_simp; try with_reducible rfl)
          try simp only [Act.put]
          refine wpE_takeF 14 ⟨some 28, _, _, _, _, _⟩ (v := ?_) (by decide) rfl (by kernel_rfl) (by kernel_rfl) (by kernel_rfl) (fun _ _ _ h => h) hS (Or.inl ⟨by kernel_rfl, ?_⟩) ?_
          rotate_left
          · (intro V hSw; obtain ⟨q0, q1, q2⟩ := HC.out V hSw; have q3 := q2 hk0; go_simp; try with_reducible rfl)
          try simp only [Act.put]
          refine wpE_takeF 15 ⟨some 29, _, _, _, _, _⟩ (v := ?_) (by decide) rfl (by kernel_rfl) (by kernel_rfl) (by kernel_rfl) (fun _ _ _ h => h) hS (Or.inl ⟨by kernel_rfl, ?_⟩) ?_
          rotate_left
          · (intro V hSw; obtain ⟨q0, q1, q2⟩ := HC.out V hSw; have q3 := q2 hk0; go_simp; try with_reducible rfl)
          try simp only [Act.put]
          refine wpE_takeF 16 ⟨some 30, _, _, _, _, _⟩ (v := ?_) (by decide) rfl (by kernel_rfl) (by kernel_rfl) (by kernel_rfl) (fun _ _ _ h => h) hS (Or.inl ⟨by kernel_rfl, ?_⟩) ?_
          rotate_left
          · (intro V hSw; obtain ⟨q0, q1, q2⟩ := HC.out V hSw; have q3 := q2 hk0; go_simp; try with_reducible rfl)
          try simp only [Act.put]
          refine wpE_takeF 17 ⟨some 31, _, _, _, _, _⟩ (v := ?_) (by decide) rfl (by kernel_rfl) (by kernel_rfl) (by kernel_rfl) (fun _ _ _ h => h) hS (Or.inl ⟨by kernel_rfl, ?_⟩) ?_
          rotate_left
          · (intro V hSw; obtain ⟨q0, q1, q2⟩ := HC.out V hSw; have q3 := q2 hk0; go_simp; try with_reducible rfl)
          try simp only [Act.put]
          refine wpE_takeF 18 ⟨some 32, _, _, _, _, _⟩ (v := ?_) (by decide) rfl (by kernel_rfl) (by kernel_rfl) (by kernel_rfl) (fun _ _ _ h => h) hS (Or.inl ⟨by kernel_rfl, ?_⟩) ?_
          rotate_left
          · (intro V hSw; obtain ⟨q0, q1, q2⟩ := HC.out V hSw; have q3 := q2 hk0; go_simp; try with_reducible rfl)
          try simp only [Act.put]
          refine wpE_takeF 19 ⟨some 33, _, _, _, _, _⟩ (v := ?_) (by decide) rfl (by kernel_rfl) (by kernel_rfl) (by kernel_rfl) (fun _ _ _ h => h) hS (Or.inl ⟨by kernel_rfl, ?_⟩) ?_
          rotate_left
          · (intro V hSw; obtain ⟨q0, q1, q2⟩ := HC.out V hSw; have q3 := q2 hk0; go_simp; try with_reducible rfl)
          try simp only [Act.put]
          refine wpE_takeF 20 ⟨some 34, _, _, _, _, _⟩ (v := ?_) (by decide) rfl (by kernel_rfl) (by kernel_rfl) (by kernel_rfl) (fun _ _ _ h => h) hS (Or.inl ⟨by kernel_rfl, ?_⟩) ?_
          rotate_left
          · (intro V hSw; obtain ⟨q0, q1, q2⟩ := HC.out V hSw; have q3 := q2 hk0; go_simp; try with_reducible rfl)
          try simp only [Act.put]
          refine wpE_takeF 21 ⟨some 35, _, _, _, _, _⟩ (v := ?_) (by decide) rfl (by kernel_rfl) (by kernel_rfl) (by kernel_rfl) (fun _ _ _ h => h) hS (Or.inl ⟨by kernel_rfl, ?_⟩) ?_
          rotate_left
          · (intro V hSw; obtain ⟨q0, q1, q2⟩ := HC.out V hSw; have q3 := q2 hk0; go_simp; try with_reducible rfl)
          try simp only [Act.put]
          refine wpE_done (by kernel_rfl) ?_ _
          try simp only [List.setIfInBounds_toArray, List.set_cons_succ, List.set_cons_zero]
          clear hS
          go_wp2
          rw [HP.out]
          exact ⟨by rw [HBAD.out k (by omega) (by rw [HST1.out]; rw [decide_eq_false (show ¬ (0 < k → ys < x.s) from fun h => absurd (h hk0) (by omega)), Bool.false_and, Bool.and_false])]; try rfl, HB1d.out⟩
        · have hle' : ¬ (x.s : Int) ≤ (ys : Int) := by omega
          refine wp_region_E (fun V => Below W1.heap.size W1 V) 99 rfl ?_
          have hS := (show Below W1.heap.size W1 W1.drew from below_drew (Below.refl _ _))
          refine wpE_takeF 0 ⟨some 14, _, _, _, _, _⟩ (v := ?_) (by decide) rfl (by kernel_rfl) (by kernel_rfl) (by kernel_rfl) (fun _ _ _ h => h) hS (Or.inl ⟨by kernel_rfl, ?_⟩) ?_
          rotate_left
          · (intro V hSw; obtain ⟨q0, q1, q2⟩ := HC.out V hSw; have q3 := q2 hk0; go_simp; try with_reducible rfl)
          try simp only [Act.put]
          refine wpE_takeF 1 ⟨some 15, _, _, _, _, _⟩ (v := ?_) (by decide) rfl (by kernel_rfl) (by kernel_rfl) (by kernel_rfl) (fun _ _ _ h => h) hS (Or.inl ⟨by kernel_rfl, ?_⟩) ?_
          rotate_left
          · (intro V hSw; obtain ⟨q0, q1, q2⟩ := HC.out V hSw; have q3 := q2 hk0; go_simp; try with_reducible rfl)
          try simp only [Act.put]
          refine wpE_takeF 2 ⟨some 16, _, _, _, _, _⟩ (v := ?_) (by decide) rfl (by kernel_rfl) (by kernel_rfl) (by kernel_rfl) (fun _ _ _ h => h) hS (Or.inl ⟨by kernel_rfl, ?_⟩) ?_
          rotate_left
          · (intro V hSw; obtain ⟨q0, q1, q2⟩ := HC.out V hSw; have q3 := q2 hk0; go_simp; try with_reducible rfl)
          try simp only [Act.put]
          refine wpE_takeF 3 ⟨some 17, _, _, _, _, _⟩ (v := undef) (by decide) rfl (by kernel_rfl) (by kernel_rfl) (by kernel_rfl) (fun _ _ _ h => h) hS (Or.inr ⟨by kernel_rfl, rfl⟩) ?_
          try simp only [Act.put]
          refine wpE_takeF 4 ⟨some 18, _, _, _, _, _⟩ (v := undef) (by decide) rfl (by kernel_rfl) (by kernel_rfl) (by kernel_rfl) (fun _ _ _ h => h) hS (Or.inr ⟨by kernel_rfl, rfl⟩) ?_
          try simp only [Act.put]
          refine wpE_takeF 5 ⟨some 19, _, _, _, _, _⟩ (v := undef) (by decide) rfl (by kernel_rfl) (by kernel_rfl) (by kernel_rfl) (fun _ _ _ h => h) hS (Or.inr ⟨by kernel_rfl, rfl⟩) ?_
          try simp only [Act.put]
          refine wpE_takeF 6 ⟨some 20, _, _, _, _, _⟩ (v := ?_) (by decide) rfl (by kernel_rfl) (by kernel_rfl) (by kernel_rfl) (fun _ _ _ h => h) hS (Or.inl ⟨by kernel_rfl, ?_⟩) ?_
          rotate_left
          · (intro V hSw; obtain ⟨q0, q1, q2⟩ := HC.out V hSw; have q3 := q2 hk0; go_simp; try with_reducible rfl)
          try simp only [Act.put]
          refine wpE_takeF 7 ⟨some 21, _, _, _, _, _⟩ (v := ?_) (by decide) rfl (by kernel_rfl) (by kernel_rfl) (by kernel_rfl) (fun _ _ _ h => h) hS (Or.inl ⟨by kernel_rfl, ?_⟩) ?_
          rotate_left
          · (intro V hSw; obtain ⟨q0, q1, q2⟩ := HC.out V hSw; have q3 := q2 hk0; go_simp; try with_reducible rfl)
          try simp only [Act.put]
          refine wpE_takeF 8 ⟨some 22, _, _, _, _, _⟩ (v := ?_) (by decide) rfl (by kernel_rfl) (by kernel_rfl) (by kernel_rfl) (fun _ _ _ h => h) hS (Or.inl ⟨by kernel_rfl, ?_⟩) ?_
          rotate_left
          · (intro V hSw; obtain ⟨q0, q1, q2⟩ := HC.out V hSw; have q3 := q2 hk0; go_simp; try with_reducible rfl)
          try simp only [Act.put]
          refine wpE_takeF 9 ⟨some 23, _, _, _, _, _⟩ (v := ?_) (by decide) rfl (by kernel_rfl) (by kernel_rfl) (by kernel_rfl) (fun _ _ _ h => h) hS (Or.inl ⟨by kernel_rfl, ?_⟩) ?_
          rotate_left
          · (intro V hSw; obtain ⟨q0, q1, q2⟩ := HC.out V hSw; have q3 := q2 hk0; go_simp; try with_reducible rfl)
          try simp only [Act.put]
          refine wpE_takeF 10 ⟨some 24, _, _, _, _, _⟩ (v := ?_) (by decide) rfl (by kernel_rfl) (by kernel_rfl) (by kernel_rfl) (fun _ _ _ h => h) hS (Or.inl ⟨by kernel_rfl, ?_⟩) ?_
          rotate_left
          · (intro V hSw; obtain ⟨q0, q1, q2⟩ := HC.out V hSw; have q3 := q2 hk0; go_simp; try with_reducible rfl)
          try simp only [Act.put]
          refine wpE_takeF 11 ⟨some 25, _, _, _, _, _⟩ (v := ?_) (by decide) rfl (by kernel_rfl) (by kernel_rfl) (by kernel_rfl) (fun _ _ _ h => h) hS (Or.inl ⟨by kernel_rfl, ?_⟩) ?_
          rotate_left
          · (intro V hSw; obtain ⟨q0, q1, q2⟩ := HC.out V hSw; have q3 := q2 hk0; go_simp; try with_reducible rfl)
          try simp only [Act.put]
          refine wpE_takeF 12 ⟨some 26, _, _, _, _, _⟩ (v := ?_) (by decide) rfl (by kernel_rfl) (by kernel_rfl) (by kernel_rfl) (fun _ _ _ h => h) hS (Or.inl ⟨by kernel_rfl, ?_⟩) ?_
          rotate_left
          · (intro V hSw; obtain ⟨q0, q1, q2⟩ := HC.out V hSw; have q3 := q2 hk0; go_simp; try with_reducible rfl)
          try simp only [Act.put]
          refine wpE_takeF 13 ⟨some 27, _, _, _, _, _⟩ (v := ?_) (by decide) rfl (by kernel_rfl) (by kernel_rfl) (by kernel_rfl) (fun _ _ _ h => h) hS (Or.inl ⟨by kernel_rfl, ?_⟩) ?_
          rotate_left
          · (intro V hSw; obtain ⟨q0, q1, q2⟩ := HC.out V hSw; have q3 := q2 hk0; go_simp; try with_reducible rfl)
          try simp only [Act.put]
          refine wpE_takeF 14 ⟨some 28, _, _, _, _, _⟩ (v := ?_) (by decide) rfl (by kernel_rfl) (by kernel_rfl) (by kernel_rfl) (fun _ _ _ h => h) hS (Or.inl ⟨by kernel_rfl, ?_⟩) ?_
          rotate_left
          · (intro V hSw; obtain ⟨q0, q1, q2⟩ := HC.out V hSw; have q3 := q2 hk0; go_simp; try with_reducible rfl)
          try simp only [Act.put]
          refine wpE_takeF 15 ⟨some 29, _, _, _, _, _⟩ (v := ?_) (by decide) rfl (by kernel_rfl) (by kernel_rfl) (by kernel_rfl) (fun _ _ _ h => h) hS (Or.inl ⟨by kernel_rfl, ?_⟩) ?_
          rotate_left
          · (intro V hSw; obtain ⟨q0, q1, q2⟩ := HC.out V hSw; have q3 := q2 hk0; go_simp; try with_reducible rfl)
          try simp only [Act.put]
          refine wpE_takeF 16 ⟨some 30, _, _, _, _, _⟩ (v := ?_) (by decide) rfl (by kernel_rfl) (by kernel_rfl) (by kernel_rfl) (fun _ _ _ h => h) hS (Or.inl ⟨by kernel_rfl, ?_⟩) ?_
          rotate_left
          · (intro V hSw; obtain ⟨q0, q1, q2⟩ := HC.out V hSw; have q3 := q2 hk0; go_simp; try with_reducible rfl)
          try simp only [Act.put]
          refine wpE_takeF 17 ⟨some 31, _, _, _, _, _⟩ (v := ?_) (by decide) rfl (by kernel_rfl) (by kernel_rfl) (by kernel_rfl) (fun _ _ _ h => h) hS (Or.inl ⟨by kernel_rfl, ?_⟩) ?_
          rotate_left
          · (intro V hSw; obtain ⟨q0, q1, q2⟩ := HC.out V hSw; have q3 := q2 hk0; go_simp; try with_reducible rfl)
          try simp only [Act.put]
          refine wpE_takeF 18 ⟨some 32, _, _, _, _, _⟩ (v := ?_) (by decide) rfl (by kernel_rfl) (by kernel_rfl) (by kernel_rfl) (fun _ _ _ h => h) hS (Or.inl ⟨by kernel_rfl, ?_⟩) ?_
          rotate_left
          · (intro V hSw; obtain ⟨q0, q1, q2⟩ := HC.out V hSw; have q3 := q2 hk0; go_simp; try with_reducible rfl)
          try simp only [Act.put]
          refine wpE_takeF 19 ⟨some 33, _, _, _, _, _⟩ (v := ?_) (by decide) rfl (by kernel_rfl) (by kernel_rfl) (by kernel_rfl) (fun _ _ _ h => h) hS (Or.inl ⟨by kernel_rfl, ?_⟩) ?_
          rotate_left
          · (intro V hSw; obtain ⟨q0, q1, q2⟩ := HC.out V hSw; have q3 := q2 hk0; go_simp; try with_reducible rfl)
          try simp only [Act.put]
          refine wpE_takeF 20 ⟨some 34, _, _, _, _, _⟩ (v := ?_) (by decide) rfl (by kernel_rfl) (by kernel_rfl) (by kernel_rfl) (fun _ _ _ h => h) hS (Or.inl ⟨by kernel_rfl, ?_⟩) ?_
          rotate_left
          · (intro V hSw; obtain ⟨q0, q1, q2⟩ := HC.out V hSw; have q3 := q2 hk0; go_simp; try with_reducible rfl)
          try simp only [Act.put]
          refine wpE_takeF 21 ⟨some 35, _, _, _, _, _⟩ (v := ?_) (by decide) rfl (by kernel_rfl) (by kernel_rfl) (by kernel_rfl) (fun _ _ _ h => h) hS (Or.inl ⟨by kernel_rfl, ?_⟩) ?_
          rotate_left
          · (intro V hSw; obtain ⟨q0, q1, q2⟩ := HC.out V hSw; have q3 := q2 hk0; go_simp; try with_reducible rfl)
          try simp only [Act.put]
          refine wpE_done (by kernel_rfl) ?_ _
          try simp only [List.setIfInBounds_toArray, List.set_cons_succ, List.set_cons_zero]
          clear hS
          have hblk : VarR W1.drew wr.heap.size x := HV1.out
          obtain ⟨-, qb, -⟩ := hblk.cells
          by_cases h1 : 1 ≤ x.b
          · by_cases h2 : x.b ≤ n
            · have h1' : ¬ (x.b : Int) < 1 := by omega
              have h2' : ¬ (n : Int) < (x.b : Int) := by omega
              obtain ⟨W3, hrun, hsn3, hg3⟩ := run_see W1.drew m k (l.take k) x (by unfold maxLen; omega) HXS2.out (World.ownsMap.drew HSN1.out)
              have HB3 : Hid (Below w.heap.size w W3) := Lib.hid (HB1d.out.grown hg3 HB1d.out.size (fun j hj => by injection hj with hj; have := HM.out; omega))
              have HSN3 := Lib.hid hsn3
              clear hsn3 hg3
              go_wp2
              go_roundw
              case rel =>
                refine ⟨k + 1, by omega, by go_num, ?_, fun j hj => ?_, HB3.out⟩
                · rw [List.take_succ_eq_append_getElem hkl, ← HX.out]
                  exact HSN3.out
                · rcases Nat.lt_or_ge j k with hj1 | hj1
                  · exact HALL.out j hj1
                  · have hjk : j = k := by omega
                    rw [hjk, HST1.out]
                    rw [decide_eq_true (show (k = 0 → x.s = 0) from fun h => absurd h (by omega)), decide_eq_true (show (0 < k → ys < x.s) from fun _ => by omega), decide_eq_true (show 1 ≤ x.b ∧ x.b ≤ n from ⟨h1, h2⟩)]; try rfl
              case measure => simp [intOf]; omega
            · have h1' : ¬ (x.b : Int) < 1 := by omega
              have h2' : (n : Int) < (x.b : Int) := by omega
              go_wp2
              rw [HP.out]
              exact ⟨by rw [HBAD.out k (by omega) (by rw [HST1.out]; rw [decide_eq_false (show ¬ (1 ≤ x.b ∧ x.b ≤ n) by omega), Bool.and_false, Bool.and_false])]; try rfl, HB1d.out⟩
          · have h1' : (x.b : Int) < 1 := by omega
            go_wp2
            rw [HP.out]
            exact ⟨by rw [HBAD.out k (by omega) (by rw [HST1.out]; rw [decide_eq_false (show ¬ (1 ≤ x.b ∧ x.b ≤ n) by omega), Bool.and_false, Bool.and_false])]; try rfl, HB1d.out⟩
    · obtain rfl : k = n := by omega
      have htk : l.take k = l := List.take_of_length_le (by have := HLN.out; omega)
      have hsn := HSN.out
      rw [htk] at hsn
      have hsize := seen_size l
      rw [HLN.out] at hsize
      obtain ⟨Z, hZ⟩ : ∃ Z, Z = Maps.size (seenR l) := ⟨_, rfl⟩
      have hlen : ∀ W, Seen W m k l → (Builtin.len_ #[154] 3 #[.map (some m)]).run Tryz.prog W = .ok (.int .i64 (Z : Int)) W := fun W hW => by rw [hZ]; exact World.ownsMap.len hW Tryz.underlying154 _
      have hlen1 := hlen wr hsn
      rw [← hZ] at hsize
      have HSZ := Lib.hid hsize; clear hsize hZ hlen htk hsn
      have hkk : ¬ (k : Int) < (k : Int) := by omega
      go_wp2
      rw [HP.out]
      refine ⟨?_, HB.out⟩
      have hr : riseB (l.map Rv.w) = decide ((Z : Int) = (k : Int)) := by
        have hall : ((List.range (l.map Rv.w).length).all (stepOk (l.map Rv.w).length (l.map Rv.w))) = true := by
          rw [List.all_eq_true]
          intro i hi
          rw [List.mem_range, List.length_map, HLN.out] at hi
          rw [List.length_map, HLN.out]
          exact HALL.out i hi
        unfold riseB
        rw [hall, Bool.true_and]
        refine decide_eq_decide.2 ?_
        rw [← HSZ.out]
        omega
      rw [hr]
      rfl
end Go.Proofs.YtbagocghlijleaaGreat.Ht

namespace Go.Proofs.YtbagocghlijleaaGreat.Ht
set_option maxRecDepth 20000
open Go.RowKit
open Go.Proofs.YtbagocghlijleaaGreat.Mem Go.Proofs.YtbagocghlijleaaGreat.Crc Go.Proofs.YtbagocghlijleaaGreat.Rec Go.Proofs.YtbagocghlijleaaGreat.Reg Go.Proofs.YtbagocghlijleaaGreat.Lf
attribute [local go_sem ↓] ldE_eq stE_eq ldX_eq stX_eq ldR_eq stR_eq

/-- The rows of a directory. -/
def rowsN (d : List (List UInt8)) : Option (List Rw) := if d.length = 1 then some [⟨0, 0⟩] else if d.length = 0 then none else rowsD (d.getD 0 []) (d.length - 1)
theorem rowsN_told {d : List (List UInt8)} (h1 : d.length ≠ 1) (h0 : d.length ≠ 0) (b : List UInt8) (hb : b = d.getD 0 []) :
    (headOk b = true ∧ b = indexL (rowsAt b (num2 b 0 2)) ∧ num2 b 0 2 = d.length - 1 ∧ riseB (rowsAt b (num2 b 0 2)) = true → rowsN d = some (rowsAt b (num2 b 0 2))) ∧
    (¬ (headOk b = true ∧ b = indexL (rowsAt b (num2 b 0 2)) ∧ num2 b 0 2 = d.length - 1 ∧ riseB (rowsAt b (num2 b 0 2)) = true) → rowsN d = none) := by
  subst hb
  unfold rowsN
  rw [if_neg h1, if_neg h0]
  constructor
  · rintro ⟨hh, hi, hn, hr⟩
    unfold rowsD
    rw [← hn]
    unfold headOk at hh
    simp only [Bool.and_eq_true, decide_eq_true_iff] at hh
    rw [if_pos]
    refine ⟨?_, hi.symm⟩
    rw [rise_rows (rowsAt_len _ _) hh.2.1 hh.2.2 (rowsAt_32 _ _)]
    exact hr
  · intro hno
    cases hq : rowsD (d.getD 0 []) (d.length - 1) with
    | none => rfl
    | some l =>
      exfalso
      obtain ⟨k1, k2, k3, k4, k5⟩ := rowsD_head hq
      obtain ⟨k6, k7⟩ := rowsD_some hq
      refine hno ⟨?_, ?_, k2, ?_⟩
      · unfold headOk
        rw [k1, k2, decide_eq_true k4, decide_eq_true k5]
        rfl
      · rw [k2, ← k3]; exact k7.symm
      · rw [k2, ← rise_rows (rowsAt_len _ _) k4 k5 (rowsAt_32 _ _), ← k3]
        exact k6
/-- What rowsOf answers. -/
def RowsTold (w : World) (d : List (List UInt8)) (e : Ending) (w' : World) : Prop :=
  match rowsN d with
  | none => e = .returned (.tuple #[.slice none 0 0, .bool false]) ∧ Below w.heap.size w w'
  | some rs => ∃ g c, e = .returned (.tuple #[.slice (some ⟨g, 0, none⟩) rs.length c, .bool true]) ∧ OwnC RK w' w.heap.size (.slice (some ⟨g, 0, none⟩) rs.length c) (rs.map rv0) ∧ Below w.heap.size w w'

set_option maxRecDepth 100000 in
set_option maxHeartbeats 4000000 in
theorem rowsOf_any (A : Option Addr) (n c B : Nat) (N : List (List UInt8)) (w : World) (h : HoldsN w B A n N) (hB : B ≤ w.heap.size) (hn : n ≤ 5864062014634) (hsz : ∀ b ∈ N, b.length ≤ 140737488355328) :
    Calls Tryz.prog 59 #[.slice A n c] w (RowsTold w N) := by
  have hln := h.1
  by_cases h1 : n = 1
  · have hr : rowsN N = some [⟨0, 0⟩] := by unfold rowsN; rw [if_pos (by omega)]
    unfold RowsTold
    rw [hr]
    have ho := ownC_new RK_ok w [rvZ] (by simp; unfold maxLen; omega)
    have hc : (RK.cells [rvZ]).toArray = #[.int .u32 0, .int .i64 0, .slice none 0 0] := rfl
    rw [hc] at ho
    have HO := Lib.hid ho; clear ho hc
    subst h1
    clear h hr hln
    go_enter Tryz.func59, Tryz.ntmps59
    go_wp2
    go_ret2
    exact ⟨w.heap.size, 1, rfl, HO.out, (Below.refl _ w).alloc (Nat.le_refl _) _⟩
  · by_cases h0 : n = 0
    · have hr : rowsN N = none := by unfold rowsN; rw [if_neg (by omega), if_pos (by omega)]
      unfold RowsTold
      rw [hr]
      subst h0
      clear h hr hln
      go_enter Tryz.func59, Tryz.ntmps59
      go_wp2
      go_ret2
      exact ⟨rfl, Below.refl _ _⟩
    · obtain ⟨b0, off, rfl, hbl, hc0⟩ := h.2 (by omega)
      obtain ⟨A0, c0, q0, hb0, hk0, hk1⟩ := hc0 0 (by omega)
      have e0 : N[0] = N.getD 0 [] := by rw [List.getD_eq_getElem?_getD, List.getElem?_eq_getElem (by omega)]; rfl
      have hbs := hsz N[0] (List.getElem_mem _)
      have htold := toldRows_any A0 _ c0 B N[0] w hb0 hB hk0 hbs
      obtain ⟨b, hb⟩ : ∃ b, b = N[0] := ⟨_, rfl⟩
      obtain ⟨hyes, hno⟩ := rowsN_told (d := N) (by omega) (by omega) b (by rw [hb, e0])
      rw [← hb] at htold q0
      obtain ⟨post, hpost⟩ : ∃ post, post = RowsTold w N := ⟨_, rfl⟩
      rw [← hpost]
      have HP := Lib.hid hpost; clear hpost
      have HT := Lib.hid htold; clear htold
      have HY := Lib.hid hyes; clear hyes
      have HNO := Lib.hid hno; clear hno
      have HLN := Lib.hid hln; clear hb0 hk0 hk1 hb e0 hbs hc0 h hln
      have h1i : ¬ (n : Int) = 1 := by omega
      have h0i : ¬ (n : Int) = 0 := by omega
      have hnp : (0 : Int) < (n : Int) := by omega
      have hnp' : 0 < n := by omega
      have hwn : IntKind.i64.wrap ((n : Int) - 1) = (n : Int) - 1 := by rw [IntKind.wrap_i64]; omega
      rw [Nat.add_zero] at q0
      go_enter Tryz.func59, Tryz.ntmps59
      go_wp2_with fail
      with_reducible refine HT.out.mono ?_
      rintro E w1 htd
      rcases htd with ⟨hf, rfl, hb1⟩ | ⟨ht, A1, c1, rfl, ho1, hb1⟩
      · have HB1 := Lib.hid hb1; clear hb1
        go_wp2
        rw [HP.out]
        unfold RowsTold
        rw [HNO.out (fun h => by rw [hf] at h; cases h.1)]
        exact ⟨rfl, HB1.out⟩
      · have HB1 := Lib.hid hb1; clear hb1
        obtain ⟨m, hm⟩ : ∃ m, m = num2 b 0 2 := ⟨_, rfl⟩
        rw [← hm] at ho1 HY HNO ⊢
        have hm30 : 2 ≤ m ∧ m ≤ 30 := by
          unfold headOk at ht
          simp only [Bool.and_eq_true, decide_eq_true_iff] at ht
          rw [hm]; exact ht.2
        obtain ⟨g, rfl, hg1, hg2, -⟩ := ho1.form (by omega)
        have hlow : ∀ x ∈ (rowsAt b m).map rv0, x.s < 4294967296 ∧ x.b < 4294967296 := fun y hy => by
          obtain ⟨z, hz, rfl⟩ := List.mem_map.1 hy
          obtain ⟨i, _, rfl⟩ := List.mem_map.1 hz
          exact rowAt_lt b i
        have hrise := rise_any (some ⟨g, 0, none⟩) m c1 w1.heap.size ((rowsAt b m).map rv0) w1 (ho1.reads RK_ok) (Nat.le_refl _) (by omega) hlow
        rw [rv0_w] at hrise
        have HR := Lib.hid hrise; clear hrise hlow
        have HO1 := Lib.hid ho1; clear ho1
        obtain ⟨ix, hix⟩ : ∃ ix, ix = decide (b = indexL (rowsAt b m)) := ⟨_, rfl⟩
        rw [← hix]
        have HIX := Lib.hid hix; clear hix
        have HM := Lib.hid hm; clear hm
        have HT1 := Lib.hid ht; clear ht
        cases ix with
        | false =>
          go_wp2
          rw [HP.out]
          unfold RowsTold
          rw [HNO.out (fun h => by have := HIX.out; rw [decide_eq_true h.2.1] at this; cases this)]
          exact ⟨rfl, HB1.out⟩
        | true =>
          by_cases hmn : m = n - 1
          · have hmi : (m : Int) = (n : Int) - 1 := by omega
            have HMN := Lib.hid hmn; clear hmn
            go_wp2_with fail
            with_reducible refine HR.out.mono ?_
            rintro E w2 ⟨rfl, hb2⟩
            have HO2 : Hid (OwnC RK w2 w.heap.size (.slice (some ⟨g, 0, none⟩) m c1) ((rowsAt b m).map rv0)) := Lib.hid (HO1.out.below hb2)
            have HB2 : Hid (Below w.heap.size w w2) := Lib.hid (HB1.out.trans (hb2.mono HB1.out.size))
            clear hb2
            obtain ⟨rs, hrs⟩ : ∃ rs, rs = riseB (rowsAt b m) := ⟨_, rfl⟩
            rw [← hrs]
            have HRS := Lib.hid hrs; clear hrs HR
            cases rs with
            | false =>
              go_wp2
              rw [HP.out]
              unfold RowsTold
              rw [HNO.out (fun h => by have := HRS.out; rw [h.2.2.2] at this; cases this)]
              exact ⟨rfl, HB2.out⟩
            | true =>
              go_wp2
              rw [HP.out]
              unfold RowsTold
              rw [HY.out ⟨HT1.out, of_decide_eq_true HIX.out.symm, by rw [HLN.out]; exact HMN.out, HRS.out.symm⟩]
              refine ⟨g, c1, ?_, ?_, HB2.out⟩
              · rw [rowsAt_len]; rfl
              · rw [rowsAt_len]; exact HO2.out
          · have hmi : ¬ (m : Int) = (n : Int) - 1 := by omega
            go_wp2
            rw [HP.out]
            unfold RowsTold
            rw [HNO.out (fun h => hmn (by rw [HLN.out] at h; exact h.2.2.1))]
            exact ⟨rfl, HB1.out⟩
end Go.Proofs.YtbagocghlijleaaGreat.Ht

namespace Go.Proofs.YtbagocghlijleaaGreat.Ht
set_option maxRecDepth 20000
open Go.RowKit
open Go.Proofs.YtbagocghlijleaaGreat.Mem Go.Proofs.YtbagocghlijleaaGreat.Crc Go.Proofs.YtbagocghlijleaaGreat.Rec Go.Proofs.YtbagocghlijleaaGreat.Reg Go.Proofs.YtbagocghlijleaaGreat.Lf
attribute [local go_sem ↓] ldE_eq stE_eq ldX_eq stX_eq ldR_eq stR_eq

/-- What within looks at: the first and the last of entries that are in order. -/
def withinB (lo : Nat) (hi : Option Nat) (es : List Nm) : Bool :=
  decide (es.length = 0) || (decide (lo ≤ Crc.sum (es.getD 0 n0).t) && (match hi with | none => true | some h => decide (Crc.sum (es.getD (es.length - 1) n0).t < h)))
theorem within_fits {lo : Nat} {hi : Option Nat} {l : List Nm} (hl : apart l) : withinB lo hi (sortR ordB l) = fitsL lo hi l := by
  obtain ⟨es, hes⟩ : ∃ es, es = sortR ordB l := ⟨_, rfl⟩
  have hp : es.Pairwise (fun a b => ordB a b = true) := by rw [hes]; exact sortR_pair ordB_trans l (apart_B hl)
  have hm : ∀ y, y ∈ es ↔ y ∈ l := fun y => by rw [hes, sortR_mem]
  rw [← hes, Bool.eq_iff_iff, fitsL_iff]
  clear hes
  unfold withinB
  rcases Nat.eq_zero_or_pos es.length with h0 | h0
  · have hnil : es = [] := List.eq_nil_of_length_eq_zero h0
    constructor
    · intro _ x hx
      rw [← hm, hnil] at hx
      cases hx
    · intro _
      rw [decide_eq_true h0]; rfl
  · rw [decide_eq_false (by omega), Bool.false_or, Bool.and_eq_true, decide_eq_true_iff]
    have hle : ∀ i j, (hi : i < es.length) → (hj : j < es.length) → i ≤ j → Crc.sum (es[i]).t ≤ Crc.sum (es[j]).t := fun i j hi hj hij => by
      rcases Nat.eq_or_lt_of_le hij with rfl | hlt
      · exact Nat.le_refl _
      · have := List.pairwise_iff_getElem.1 hp i j hi hj hlt
        unfold ordB at this
        rw [bel_iff] at this
        rcases this with h | ⟨h, _⟩ <;> omega
    have e0 : es.getD 0 n0 = es[0] := by rw [List.getD_eq_getElem?_getD, List.getElem?_eq_getElem h0]; rfl
    have e1 : es.getD (es.length - 1) n0 = es[es.length - 1] := by rw [List.getD_eq_getElem?_getD, List.getElem?_eq_getElem (by omega)]; rfl
    rw [e0, e1]
    constructor
    · rintro ⟨h1, h2⟩ x hx
      rw [← hm] at hx
      obtain ⟨i, hi, rfl⟩ := List.mem_iff_getElem.1 hx
      refine ⟨Nat.le_trans h1 (hle 0 i h0 hi (Nat.zero_le _)), fun h he => ?_⟩
      subst he
      simp only [decide_eq_true_iff] at h2
      exact Nat.lt_of_le_of_lt (hle i (es.length - 1) hi (by omega) (by omega)) h2
    · intro h
      refine ⟨(h _ ((hm _).1 (List.getElem_mem h0))).1, ?_⟩
      cases hi with
      | none => rfl
      | some v => exact decide_eq_true ((h _ ((hm _).1 (List.getElem_mem (show es.length - 1 < es.length by omega)))).2 v rfl)

set_option maxRecDepth 100000 in
set_option maxHeartbeats 4000000 in
theorem within_any (A : Option Addr) (n c B : Nat) (l : List Rv) (w : World) (h : HoldsC RK w B A n l) (hB : B ≤ w.heap.size) (hn : n ≤ 1048576) (k : Nat) (hk : k < l.length) (es : List Nm) (he : HoldsC EN w B l[k].A l[k].n es) (hm : es.length ≤ 1048576) :
    Calls Tryz.prog 62 #[.slice A n c, .int .i64 (k : Int)] w fun e w' => e = .returned (.bool (withinB l[k].s ((l[k + 1]?).map Rv.s) es)) ∧ Below w.heap.size w w' := by
  have hln := h.1
  have hel := he.1
  obtain ⟨b, off, rfl, hbB⟩ := h.addr (by omega)
  obtain ⟨q0, -, q2⟩ := cells_rv h k hk
  obtain ⟨x, hx⟩ : ∃ x, x = l[k] := ⟨_, rfl⟩
  rw [← hx] at he hel q0 q2 ⊢
  obtain ⟨m, hmm⟩ : ∃ m, m = es.length := ⟨_, rfl⟩
  have hxn : x.n = m := by omega
  unfold Rv.v at q2
  rw [hxn] at q2 he
  obtain ⟨res, hres⟩ : ∃ res, res = withinB x.s ((l[k + 1]?).map Rv.s) es := ⟨_, rfl⟩
  rw [← hres]
  have hk2 : (k : Int) < (n : Int) := by omega
  have hki : ¬ n ≤ k := by omega
  rcases Nat.eq_zero_or_pos m with hm0 | hm0
  · have hr : res = true := by
      rw [hres]
      unfold withinB
      rw [decide_eq_true (by omega)]; rfl
    have hmi : (m : Int) = 0 := by omega
    subst hr
    clear hres hx hxn hel hln h he hmm hm0 hm hki
    go_enter Tryz.func62, Tryz.ntmps62
    go_wp2
    go_ret
    exact ⟨rfl, Below.refl _ _⟩
  · have hmi : ¬ (m : Int) = 0 := by omega
    obtain ⟨be, oe, hxA, hbe⟩ := he.addr (by omega)
    rw [hxA] at he q2
    have f0 := he.cell 0 (by omega) 0 (by decide)
    have f1 := he.cell (m - 1) (by omega) 0 (by decide)
    rw [show oe + 0 * EN.k + 0 = oe by omega, show (EN.enc es[0])[0]? = some (.int .u32 (Crc.sum (es[0]).t : Int)) from rfl] at f0
    rw [show oe + (m - 1) * EN.k + 0 = oe + (m - 1) * 3 from rfl, show (EN.enc es[m - 1])[0]? = some (.int .u32 (Crc.sum (es[m - 1]).t : Int)) from rfl] at f1
    have e0 : es.getD 0 n0 = es[0] := by rw [List.getD_eq_getElem?_getD, List.getElem?_eq_getElem (by omega)]; rfl
    have e1 : es.getD (es.length - 1) n0 = es[m - 1] := by
      rw [List.getD_eq_getElem?_getD, List.getElem?_eq_getElem (show es.length - 1 < es.length by omega)]
      simp only [Option.getD_some, ← hmm]
    obtain ⟨s0, hs0⟩ : ∃ s0, s0 = Crc.sum (es[0]).t := ⟨_, rfl⟩
    obtain ⟨s1, hs1⟩ : ∃ s1, s1 = Crc.sum (es[m - 1]).t := ⟨_, rfl⟩
    rw [← hs0] at f0
    rw [← hs1] at f1
    have hres2 : res = (decide (x.s ≤ s0) && (match (l[k + 1]?).map Rv.s with | none => true | some h => decide (s1 < h))) := by
      rw [hres]
      unfold withinB
      rw [e0, e1, decide_eq_false (by omega), Bool.false_or, ← hs0, ← hs1]
    -- the next row
    have hnx : (k + 1 = n ∧ l[k + 1]? = none) ∨ (k + 1 < n ∧ ∃ ys : Nat, w.cell? ⟨b, off + (k + 1) * 3, none⟩ = some (.int .u32 (ys : Int)) ∧ (l[k + 1]?).map Rv.s = some ys) := by
      rcases Nat.eq_or_lt_of_le (show k + 1 ≤ n by omega) with e | e
      · exact .inl ⟨e, List.getElem?_eq_none (by omega)⟩
      · exact .inr ⟨e, _, (cells_rv h (k + 1) (by omega)).1, by rw [List.getElem?_eq_getElem (by omega)]; rfl⟩
    have hcel : ∀ V, Below w.heap.size w V → V.cell? ⟨be, oe, none⟩ = some (.int .u32 (s0 : Int)) ∧ V.cell? ⟨be, oe + (m - 1) * 3, none⟩ = some (.int .u32 (s1 : Int)) := fun V hV =>
      ⟨(hV.cell (p := ⟨be, oe, none⟩) (by show be < _; omega)).trans f0, (hV.cell (p := ⟨be, oe + (m - 1) * 3, none⟩) (by show be < _; omega)).trans f1⟩
    have HC := Lib.hid hcel; clear hcel f0 f1
    have HRES := Lib.hid hres2
    have HNX := Lib.hid hnx
    clear hres2 hnx hres hs0 hs1 e0 e1 he h hx hxn hel hln hxA hki
    have hmp : (0 : Int) < (m : Int) := by omega
    have hmw : IntKind.i64.wrap ((m : Int) - 1) = ((m - 1 : Nat) : Int) := by rw [IntKind.wrap_i64]; omega
    have hml : ((m - 1 : Nat) : Int) < (m : Int) := by omega
    have hmw2 : IntKind.i64.wrap ((m - 1 : Nat) : Int) = ((m - 1 : Nat) : Int) := by rw [IntKind.wrap_i64]; omega
    have hm1 : (m : Int) - 1 = ((m - 1 : Nat) : Int) := by omega
    have HM0 := Lib.hid hm0; clear hmm hbe hbB
    obtain ⟨ls, hls⟩ : ∃ ls, ls = x.s := ⟨_, rfl⟩
    rw [← hls] at q0 HRES
    clear hls
    go_enter Tryz.func62, Tryz.ntmps62
    go_wp2
    refine wp_region_E (fun V => Below w.heap.size w V) 99 rfl ?_
    have hS := (show Below w.heap.size w w.drew from below_drew (Below.refl _ _))
    refine wpE_takeF 0 ⟨some 16, _, _, _, _, _⟩ (v := ?_) (by decide) rfl (by kernel_rfl) (by kernel_rfl) (by kernel_rfl) (fun _ _ _ h => h) hS (Or.inl ⟨by kernel_rfl, ?_⟩) ?_
    rotate_left
    · (intro V hSw; obtain ⟨f0, f1⟩ := HC.out V hSw; go_simp; try with_reducible rfl)
    try simp only [Act.put]
    refine wpE_takeF 1 ⟨some 17, _, _, _, _, _⟩ (v := ?_) (by decide) rfl (by kernel_rfl) (by kernel_rfl) (by kernel_rfl) (fun _ _ _ h => h) hS (Or.inl ⟨by kernel_rfl, ?_⟩) ?_
    rotate_left
    · (intro V hSw; obtain ⟨f0, f1⟩ := HC.out V hSw; go_simp; try with_reducible rfl)
    try simp only [Act.put]
    refine wpE_takeF 2 ⟨some 18, _, _, _, _, _⟩ (v := ?_) (by decide) rfl (by kernel_rfl) (by kernel_rfl) (by kernel_rfl) (fun _ _ _ h => h) hS (Or.inl ⟨by kernel_rfl, ?_⟩) ?_
    rotate_left
    · (intro V hSw; obtain ⟨f0, f1⟩ := HC.out V hSw; go_simp; try with_reducible rfl)
    try simp only [Act.put]
    refine wpE_takeF 3 ⟨some 19, _, _, _, _, _⟩ (v := ?_) (by decide) rfl (by kernel_rfl) (by kernel_rfl) (by kernel_rfl) (fun _ _ _ h => h) hS (Or.inl ⟨by kernel_rfl, ?_⟩) ?_
    rotate_left
    · (intro V hSw; obtain ⟨f0, f1⟩ := HC.out V hSw; go_simp; try with_reducible rfl)
    try simp only [Act.put]
    refine wpE_takeF 4 ⟨some 20, _, _, _, _, _⟩ (v := ?_) (by decide) rfl (by kernel_rfl) (by kernel_rfl) (by kernel_rfl) (fun _ _ _ h => h) hS (Or.inl ⟨by kernel_rfl, ?_⟩) ?_
    rotate_left
    · (intro V hSw; obtain ⟨f0, f1⟩ := HC.out V hSw; go_simp; try with_reducible rfl)
    try simp only [Act.put]
    refine wpE_takeF 5 ⟨some 21, _, _, _, _, _⟩ (v := ?_) (by decide) rfl (by kernel_rfl) (by kernel_rfl) (by kernel_rfl) (fun _ _ _ h => h) hS (Or.inl ⟨by kernel_rfl, ?_⟩) ?_
    rotate_left
    · (intro V hSw; obtain ⟨f0, f1⟩ := HC.out V hSw; go_simp; try with_reducible rfl)
    try simp only [Act.put]
    refine wpE_takeF 6 ⟨some 22, _, _, _, _, _⟩ (v := ?_) (by decide) rfl (by kernel_rfl) (by kernel_rfl) (by kernel_rfl) (fun _ _ _ h => h) hS (Or.inl ⟨by kernel_rfl, ?_⟩) ?_
    rotate_left
    · (intro V hSw; obtain ⟨f0, f1⟩ := HC.out V hSw; go_simp; try with_reducible rfl)
    try simp only [Act.put]
    refine wpE_takeF 7 ⟨some 23, _, _, _, _, _⟩ (v := ?_) (by decide) rfl (by kernel_rfl) (by kernel_rfl) (by kernel_rfl) (fun _ _ _ h => h) hS (Or.inl ⟨by kernel_rfl, ?_⟩) ?_
    rotate_left
    · (intro V hSw; obtain ⟨f0, f1⟩ := HC.out V hSw; go_simp; try with_reducible rfl)
    try simp only [Act.put]
    refine wpE_takeF 8 ⟨some 24, _, _, _, _, _⟩ (v := ?_) (by decide) rfl (by kernel_rfl) (by kernel_rfl) (by kernel_rfl) (fun _ _ _ h => h) hS (Or.inl ⟨by kernel_rfl, ?_⟩) ?_
    rotate_left
    · (intro V hSw; obtain ⟨f0, f1⟩ := HC.out V hSw; go_simp; try with_reducible rfl)
    try simp only [Act.put]
    refine wpE_takeF 9 ⟨some 25, _, _, _, _, _⟩ (v := ?_) (by decide) rfl (by kernel_rfl) (by kernel_rfl) (by kernel_rfl) (fun _ _ _ h => h) hS (Or.inl ⟨by kernel_rfl, ?_⟩) ?_
    rotate_left
    · (intro V hSw; obtain ⟨f0, f1⟩ := HC.out V hSw; go_simp; try with_reducible rfl)
    try simp only [Act.put]
    refine wpE_takeF 10 ⟨some 26, _, _, _, _, _⟩ (v := ?_) (by decide) rfl (by kernel_rfl) (by kernel_rfl) (by kernel_rfl) (fun _ _ _ h => h) hS (Or.inl ⟨by kernel_rfl, ?_⟩) ?_
    rotate_left
    · (intro V hSw; obtain ⟨f0, f1⟩ := HC.out V hSw; go_simp; try with_reducible rfl)
    try simp only [Act.put]
    refine wpE_takeF 11 ⟨some 6, _, _, _, _, _⟩ (v := ?_) (by decide) rfl (by kernel_rfl) (by kernel_rfl) (by kernel_rfl) (fun _ _ _ h => h) hS (Or.inl ⟨by kernel_rfl, ?_⟩) ?_
    rotate_left
    · (intro V hSw; obtain ⟨f0, f1⟩ := HC.out V hSw; go_simp; try with_reducible rfl)
    try simp only [Act.put]
    refine wpE_takeF 12 ⟨some 7, _, _, _, _, _⟩ (v := ?_) (by decide) rfl (by kernel_rfl) (by kernel_rfl) (by kernel_rfl) (fun _ _ _ h => h) hS (Or.inl ⟨by kernel_rfl, ?_⟩) ?_
    rotate_left
    · (intro V hSw; obtain ⟨f0, f1⟩ := HC.out V hSw; go_simp; try with_reducible rfl)
    try simp only [Act.put]
    refine wpE_done (by kernel_rfl) ?_ _
    try simp only [List.setIfInBounds_toArray, List.set_cons_succ, List.set_cons_zero]
    clear hS
    by_cases hlo : ls ≤ s0
    · have hlo' : (ls : Int) ≤ (s0 : Int) := by omega
      rcases HNX.out with ⟨hk1, hk1b⟩ | ⟨hk1, ys, hq, hk1b⟩
      · have hk1' : (k : Int) + 1 = (n : Int) := by omega
        rw [hk1b, decide_eq_true hlo] at HRES
        have HK1 := Lib.hid hk1; clear hk1 hk1b
        go_wp2
        go_ret
        exact ⟨by rw [HRES.out]; rfl, below_drew (Below.refl _ _)⟩
      · have hk1' : ¬ (k : Int) + 1 = (n : Int) := by omega
        have hk1p : (0 : Int) ≤ (k : Int) + 1 := by omega
        have hk1c : (k : Int) + 1 < (n : Int) := by omega
        have hkt : ((k : Int) + 1).toNat = k + 1 := by omega
        have hwk : IntKind.i64.wrap ((k : Int) + 1) = (k : Int) + 1 := by rw [IntKind.wrap_i64]; omega
        have hq' : w.drew.cell? ⟨b, off + (k + 1) * 3, none⟩ = some (.int .u32 (ys : Int)) := hq
        rw [hk1b, decide_eq_true hlo] at HRES
        by_cases hhi : s1 < ys
        · have hhi' : (s1 : Int) < (ys : Int) := by omega
          clear hk1 hk1b
          go_wp2
          go_ret
          exact ⟨by rw [HRES.out]; simp [hhi], below_drew (Below.refl _ _)⟩
        · have hhi' : ¬ (s1 : Int) < (ys : Int) := by omega
          clear hk1 hk1b
          go_wp2
          go_ret
          exact ⟨by rw [HRES.out]; simp [hhi, hk1'], below_drew (Below.refl _ _)⟩
    · have hlo' : ¬ (ls : Int) ≤ (s0 : Int) := by omega
      rw [decide_eq_false hlo, Bool.false_and] at HRES
      go_wp2
      go_ret
      exact ⟨by rw [HRES.out]; rfl, below_drew (Below.refl _ _)⟩
end Go.Proofs.YtbagocghlijleaaGreat.Ht
