/- Rows of an index in memory, and the index's bytes: the program's calls. -/
import Derived.Test.YtbagocghlijleaaGreatHtLeaf
import Derived.Test.YtbagocghlijleaaGreatLfEnc
import Derived.Test.YtbagocghlijleaaGreatHtSteps
namespace Go.Proofs.YtbagocghlijleaaGreat.Ht
set_option maxRecDepth 20000
open Go.RowKit
open Go.Proofs.YtbagocghlijleaaGreat.Mem Go.Proofs.YtbagocghlijleaaGreat.Crc Go.Proofs.YtbagocghlijleaaGreat.Rec Go.Proofs.YtbagocghlijleaaGreat.Reg Go.Proofs.YtbagocghlijleaaGreat.Lf

/-- A row's cells: its sum, its block, its entries' slice. -/
structure Rv where
  s : Nat
  b : Nat
  A : Option Addr
  n : Nat
  c : Nat
def Rv.w (r : Rv) : Rw := ⟨r.s, r.b⟩
def Rv.v (r : Rv) : Value := .slice r.A r.n r.c
def rL (r : Rv) : List Value := [.int .u32 (r.s : Int), .int .i64 (r.b : Int), r.v]
def rC (r : Rv) : Array Value := #[.int .u32 (r.s : Int), .int .i64 (r.b : Int), r.v]
def RK : Rk Rv := ⟨64, 77, 3, 40, .agg #[.int .u32 0, .int .i64 0, .slice none 0 0], rL⟩
theorem RK_ok : RK.Ok where
  len x := rfl
  one x u hu := by
    have : u ∈ rL x := hu
    simp [rL, Rv.v] at this
    rcases this with rfl | rfl | rfl <;> rfl
  pos := by decide
  und := Tryz.underlying77
  info := by kernel_rfl
  zs := rfl
  bound := by decide
instance : Inhabited Rv := ⟨⟨0, 0, none, 0, 0⟩⟩

def ldR (x : Value) : Sem Value := Instr.loadAt 64 x
theorem ldR_eq (x : Value) : Instr.loadAt 64 x = ldR x := rfl
def stR (x v : Value) : Sem Unit := Instr.storeAt 64 x v
theorem stR_eq (x v : Value) : Instr.storeAt 64 x v = stR x v := rfl
def VarR (w : World) (g : Nat) (x : Rv) : Prop := w.heap[g]? = some (.cells (rC x) 64 (0, 0))
theorem VarR.lt {w : World} {g : Nat} {x : Rv} (h : VarR w g x) : g < w.heap.size := (Array.getElem?_eq_some_iff.1 h).1
theorem VarR.new (w : World) (x : Rv) : VarR (w.alloc (.cells (rC x) 64)) w.heap.size x := heap_alloc_new w _
theorem VarR.alloc {w : World} {g : Nat} {x : Rv} (h : VarR w g x) (o : Obj) : VarR (w.alloc o) g x := (heap_alloc_old w o h.lt).trans h
theorem VarR.cells {w : World} {g : Nat} {x : Rv} (h : VarR w g x) :
    w.cell? ⟨g, 0, none⟩ = some (.int .u32 (x.s : Int)) ∧ w.cell? ⟨g, 1, none⟩ = some (.int .i64 (x.b : Int)) ∧ w.cell? ⟨g, 2, none⟩ = some x.v :=
  ⟨cell_of_row w g 0 _ _ _ h, cell_of_row w g 1 _ _ _ h, cell_of_row w g 2 _ _ _ h⟩
theorem VarR.load {w : World} {g : Nat} {x : Rv} (h : VarR w g x) : (ldR (.pointer (some ⟨g, 0, none⟩))).run Tryz.prog w = .ok (.agg (rC x)) w := by
  have hl : (loadVar 64 ⟨g, 0, none⟩).run Tryz.prog w = .ok (.agg (rC x)) w := run_loadVar_row w g _ _ (rC x) (0, 0) _ h Tryz.underlying64 rfl (by kernel_rfl)
  unfold ldR Instr.loadAt Instr.sureAddr
  simp [hl]
def zeroR : Array Value := #[.int .u32 0, .int .i64 0, .slice none 0 0]
theorem run_stR_new (w : World) (x : Rv) :
    (stR (.pointer (some ⟨w.heap.size, 0, none⟩)) (.agg (rC x))).run Tryz.prog (w.alloc (.cells zeroR 64)) = .ok () (w.alloc (.cells (rC x) 64)) :=
  run_storeAt_new w 64 _ (rC x) (by kernel_rfl) rfl (by simp [rC, Rv.v, Value.oneCell'])
/-- A row of a slice, read whole. -/
theorem run_ldR_at {w : World} {B b off n : Nat} {l : List Rv} (h : HoldsC RK w B (some ⟨b, off, none⟩) n l) (j : Nat) (hj : j < l.length) (o : Nat) (ho : o = off + j * 3) :
    (ldR (.pointer (some ⟨b, o, none⟩))).run Tryz.prog w = .ok (.agg (rC l[j])) w := by
  subst ho
  exact run_loadAt_mid w b (off + j * 3) 64 (rL l[j]) _ (h.range RK_ok j hj) Tryz.underlying64 rfl (by kernel_rfl)
theorem cells_rv {w : World} {B b off n : Nat} {l : List Rv} (h : HoldsC RK w B (some ⟨b, off, none⟩) n l) (j : Nat) (hj : j < l.length) :
    w.cell? ⟨b, off + j * 3, none⟩ = some (.int .u32 (l[j].s : Int)) ∧ w.cell? ⟨b, off + j * 3 + 1, none⟩ = some (.int .i64 (l[j].b : Int)) ∧ w.cell? ⟨b, off + j * 3 + 2, none⟩ = some l[j].v :=
  ⟨h.cell j hj 0 (by decide), h.cell j hj 1 (by decide), h.cell j hj 2 (by decide)⟩
attribute [local go_sem ↓] ldE_eq stE_eq ldX_eq stX_eq ldR_eq stR_eq

theorem putR (r : Nat) (bs : List UInt8) (v m : Nat) (w : World) (h : RowB w r bs) (hm : m ≤ 8) (hl : bs.length + m ≤ 256) (ty : TypeId) :
    Calls Tryz.prog 98 #[.int .u64 (v : Int), .int .i64 (m : Int)] w fun e w1 => ∃ A c w2, e = .returned (.slice A m c) ∧
      (Builtin.append_ #[34, 34] ty #[.slice (some ⟨r, 0, none⟩) bs.length 256, .slice A m c]).run Tryz.prog w1 = .ok (.slice (some ⟨r, 0, none⟩) (bs.length + m) 256) w2 ∧ RowB w2 r (bs ++ bytesL v m) ∧ Tn r r w w2 :=
  (bytesN_any v m w hm).mono fun e w1 ⟨A, c, he, ho, hb⟩ => by
    have hy : Holds w1 w1.heap.size A (bytesL v m).length (bytesL v m) := by rw [bytesL_len]; exact Owned.reads ho
    obtain ⟨w2, hrun, hr2, ht2⟩ := run_addR (h.below hb) (by rw [bytesL_len]; exact hl) w1.heap.size A c hy ty r
    rw [bytesL_len, List.length_append, bytesL_len] at hrun
    exact ⟨A, c, w2, he, hrun, hr2, (Tn.of_below hb).trans ht2⟩

theorem putR2 (r : Nat) (bs : List UInt8) (v : Nat) (w : World) (h : RowB w r bs) (hl : bs.length + 2 ≤ 256) (ty : TypeId) :
    Calls Tryz.prog 98 #[.int .u64 (v : Int), .int .i64 2] w fun e w1 => ∃ A c w2, e = .returned (.slice A 2 c) ∧
      (Builtin.append_ #[34, 34] ty #[.slice (some ⟨r, 0, none⟩) bs.length 256, .slice A 2 c]).run Tryz.prog w1 = .ok (.slice (some ⟨r, 0, none⟩) (bs.length + 2) 256) w2 ∧ RowB w2 r (bs ++ bytesL v 2) ∧ Tn r r w w2 := putR r bs v 2 w h (by omega) hl ty
theorem putR4 (r : Nat) (bs : List UInt8) (v : Nat) (w : World) (h : RowB w r bs) (hl : bs.length + 4 ≤ 256) (ty : TypeId) :
    Calls Tryz.prog 98 #[.int .u64 (v : Int), .int .i64 4] w fun e w1 => ∃ A c w2, e = .returned (.slice A 4 c) ∧
      (Builtin.append_ #[34, 34] ty #[.slice (some ⟨r, 0, none⟩) bs.length 256, .slice A 4 c]).run Tryz.prog w1 = .ok (.slice (some ⟨r, 0, none⟩) (bs.length + 4) 256) w2 ∧ RowB w2 r (bs ++ bytesL v 4) ∧ Tn r r w w2 := putR r bs v 4 w h (by omega) hl ty
theorem putRm (r : Nat) (bs : List UInt8) (w : World) (h : RowB w r bs) (hl : bs.length + 2 ≤ 256) (ty : TypeId) :
    Calls Tryz.prog 98 #[.int .u64 65535, .int .i64 2] w fun e w1 => ∃ A c w2, e = .returned (.slice A 2 c) ∧
      (Builtin.append_ #[34, 34] ty #[.slice (some ⟨r, 0, none⟩) bs.length 256, .slice A 2 c]).run Tryz.prog w1 = .ok (.slice (some ⟨r, 0, none⟩) (bs.length + 2) 256) w2 ∧ RowB w2 r (bs ++ bytesL 65535 2) ∧ Tn r r w w2 := putR r bs 65535 2 w h (by omega) hl ty
theorem bytes_mark : bytesL 65535 2 = [255, 255] := by decide
def headI0 (n : Nat) (l : List Rw) : List UInt8 := bytesL n 2 ++ ([255, 255] ++ codesR l)
theorem headI0_len (n : Nat) (l : List Rw) : (headI0 n l).length = 4 + 8 * l.length := by simp only [headI0, List.length_append, bytesL_len, codesR_len, List.length_cons, List.length_nil]; omega
theorem headI0_all (l : List Rw) : headI0 l.length l = headI l := rfl
theorem headI0_more (n : Nat) (l : List Rw) (x : Rw) : headI0 n (l ++ [x]) = (headI0 n l ++ bytesL x.s 4) ++ bytesL x.b 4 := by
  unfold headI0
  rw [codesR_app]
  simp [codesR, codeR]

set_option maxRecDepth 100000 in
set_option maxHeartbeats 4000000 in
theorem indexOf_any (A : Option Addr) (n c B : Nat) (l : List Rv) (w : World) (h : HoldsC RK w B A n l) (hB : B ≤ w.heap.size) (hn : n ≤ 30) (hs : ∀ x ∈ l, x.s < 4294967296 ∧ x.b < 4294967296) :
    Calls Tryz.prog 75 #[.slice A n c] w (Made w (indexL (l.map Rv.w))) := by
  have hln := h.1
  have H := Lib.hid h; clear h
  have HS := Lib.hid hs; clear hs
  have hmk := run_make_room w
  obtain ⟨r, hr⟩ : ∃ r, r = w.heap.size := ⟨_, rfl⟩
  obtain ⟨W0, hW0⟩ : ∃ W0, W0 = w.alloc (.cells room256 5) := ⟨_, rfl⟩
  have hrow : RowB W0 r [] := ⟨by simp, room256, by rw [hW0, hr]; exact heap_alloc_new w _, room_size, by simp⟩
  have hb0 : Below w.heap.size w W0 := by rw [hW0]; exact (Below.refl _ w).alloc (Nat.le_refl _) _
  rw [← hW0, ← hr] at hmk
  obtain ⟨post, hpost⟩ : ∃ post, post = Made w (indexL (l.map Rv.w)) := ⟨_, rfl⟩
  rw [← hpost]
  have HP := Lib.hid hpost; clear hpost
  have HR := Lib.hid hr; clear hr
  have HB0 := Lib.hid hb0; clear hb0
  have HBR : Hid (w.heap.size ≤ r) := Lib.hid (by have := HR.out; omega)
  clear hW0
  obtain ⟨N, rfl⟩ : ∃ N, N = n := ⟨_, rfl⟩
  have HLN := Lib.hid hln; clear hln
  have hw1 : IntKind.u64.wrap (N : Int) = (N : Int) := by rw [IntKind.wrap_u64]; omega
  have p1 := putR2 r [] N W0 hrow (by simp) 34
  have P1 := Lib.hid p1; clear p1 hrow
  go_enter Tryz.func75, Tryz.ntmps75
  go_wp2_with fail
  with_reducible refine P1.out.mono ?_
  rintro E V1 ⟨A1, c1, W1, rfl, hrun, hr1, ht1⟩
  have HB1 : Hid (Below w.heap.size w W1) := Lib.hid (HB0.out.trans (ht1.below HB0.out.size HBR.out HBR.out))
  simp only [List.nil_append, List.length_nil, Nat.zero_add] at hrun hr1
  have p2 := putRm r _ W1 hr1 (by rw [bytesL_len]; omega) 34
  rw [bytesL_len] at p2
  have P2 := Lib.hid p2; clear p2 hr1 ht1 hmk P1
  go_wp2_with (at_builtin; refine wpList_apprun rfl _ _ _ _ (by rfl) _ _ (by rfl) (by rfl) _ _ hrun ?_)
  clear hrun
  go_wp2_with fail
  with_reducible refine P2.out.mono ?_
  rintro E V2 ⟨A2, c2, W2, rfl, hrun, hr2, ht2⟩
  have HB2 : Hid (Below w.heap.size w W2) := Lib.hid (HB1.out.trans (ht2.below HB1.out.size HBR.out HBR.out))
  have hr2' : RowB W2 r (headI0 N []) := by
    have e : headI0 N [] = bytesL N 2 ++ bytesL 65535 2 := by unfold headI0; rw [bytes_mark]; simp [codesR]
    rw [e]; exact hr2
  have HR2 := Lib.hid hr2'; clear hr2' hr2 ht2 P2
  go_wp2_with (at_builtin; refine wpList_apprun rfl _ _ _ _ (by rfl) _ _ (by rfl) (by rfl) _ _ hrun ?_)
  clear hrun
  go_wp2
  go_loopw [3, 18] (fun s i wr => ∃ k : Nat, k ≤ N ∧ s = .slice (some ⟨r, 0, none⟩) (4 + 8 * k) 256 ∧ i = .int .i64 (k : Int) ∧ RowB wr r (headI0 N ((l.map Rv.w).take k)) ∧ Below w.heap.size w wr) (fun _ i _ => N - (intOf i).toNat)
  case atStart => exact ⟨0, Nat.zero_le _, rfl, rfl, HR2.out, HB2.out⟩
  case round =>
    obtain ⟨k, hk, rfl, rfl, hrow, hb⟩ := hrel
    have HB := Lib.hid hb; clear hb
    rcases Nat.lt_or_ge k N with hlt | hge
    · obtain ⟨b, off, rfl, hbB⟩ := H.out.addr (by omega)
      have hkl : k < l.length := by have := HLN.out; omega
      have hld := run_ldR_at (H.out.below (HB.out.mono hB)) k hkl (off + k * 3) rfl
      have hst := run_stR_new wr l[k]
      obtain ⟨x, hx⟩ : ∃ x, x = l[k] := ⟨_, rfl⟩
      rw [← hx] at hld hst
      have hxs := HS.out x (hx ▸ List.getElem_mem hkl)
      have hvar := VarR.new wr x
      obtain ⟨W1, hW1⟩ : ∃ W1, W1 = wr.alloc (.cells (rC x) 64) := ⟨_, rfl⟩
      have hb1 : Below w.heap.size w W1 := by rw [hW1]; exact HB.out.alloc HB.out.size _
      have hrow1 : RowB W1 r _ := hrow.below (by rw [hW1]; exact (Below.refl _ wr).alloc (Nat.le_refl _) _)
      have hW1s : W1.heap.size = wr.heap.size + 1 := by rw [hW1]; simp
      have hrlt : r < wr.heap.size := hrow.lt
      rw [← hW1] at hvar hst
      obtain ⟨q0, q1, -⟩ := hvar.cells
      have hlen := headI0_len N ((l.map Rv.w).take k)
      have hlen2 : ((l.map Rv.w).take k).length = k := by rw [List.length_take, List.length_map]; omega
      rw [hlen2] at hlen
      have hnext : headI0 N ((l.map Rv.w).take (k + 1)) = (headI0 N ((l.map Rv.w).take k) ++ bytesL x.s 4) ++ bytesL x.b 4 := by
        rw [List.take_succ_eq_append_getElem (by simpa using hkl), headI0_more, List.getElem_map, ← hx]
        rfl
      generalize headI0 N ((l.map Rv.w).take k) = P at hlen hrow1 hnext
      have HN := Lib.hid hnext; clear hnext hrow hlen2
      have p3 := putR4 r P x.s W1 hrow1 (by omega) 34
      rw [hlen] at p3
      have P3 := Lib.hid p3; clear p3
      have hw3 : IntKind.u64.wrap (x.s : Int) = (x.s : Int) := by rw [IntKind.wrap_u64]; omega
      have hw4 : IntKind.u64.wrap (x.b : Int) = (x.b : Int) := by rw [IntKind.wrap_u64]; omega
      have HV := Lib.hid hvar; clear hvar
      have HW1 := Lib.hid hW1; clear hW1
      have HB1' := Lib.hid hb1; clear hb1 hx
      have HLEN := Lib.hid hlen; clear hlen
      have HXS := Lib.hid hxs; clear hxs
      obtain ⟨C, hC⟩ : ∃ C, C = rC x := ⟨_, rfl⟩
      rw [← hC] at hld hst HW1
      have HC := Lib.hid hC; clear hC
      unfold zeroR at hst
      generalize hsx : x.s = xs at q0 P3 hw3 HN
      clear hsx
      go_wp2_with fail
      with_reducible refine P3.out.mono ?_
      rintro E V3 ⟨A3, c3, W3, rfl, hrun, hr3, ht3⟩
      have HB3 : Hid (Below w.heap.size w W3) := Lib.hid (HB1'.out.trans (ht3.below HB1'.out.size HBR.out HBR.out))
      have hv3 : VarR W3 wr.heap.size x := (ht3.block _ HV.out.lt (by omega) (by omega)).trans HV.out
      obtain ⟨-, q2, -⟩ := hv3.cells
      have p4 := putR4 r (P ++ bytesL xs 4) x.b W3 hr3 (by rw [List.length_append, bytesL_len]; have := HLEN.out; omega) 34
      rw [List.length_append, bytesL_len, HLEN.out] at p4
      have P4 := Lib.hid p4; clear p4 hr3 ht3 hld hst q0 q1 P3 hv3
      have e4 : 4 + 8 * k + 4 + 4 = 4 + 8 * (k + 1) := by omega
      rw [e4] at P4
      go_wp2_with (at_builtin; refine wpList_apprun rfl _ _ _ _ (by rfl) _ _ (by rfl) (by rfl) _ _ hrun ?_)
      clear hrun
      go_wp2_with fail
      with_reducible refine P4.out.mono ?_
      rintro E V4 ⟨A4, c4, W4, rfl, hrun, hr4, ht4⟩
      have HB4 : Hid (Below w.heap.size w W4) := Lib.hid (HB3.out.trans (ht4.below HB3.out.size HBR.out HBR.out))
      rw [← HN.out] at hr4
      have HR4 := Lib.hid hr4; clear hr4 ht4 P4 q2
      go_wp2_with (at_builtin; refine wpList_apprun rfl _ _ _ _ (by rfl) _ _ (by rfl) (by rfl) _ _ hrun ?_)
      clear hrun
      go_wp2
      go_roundw
      case rel => exact ⟨k + 1, by omega, rfl, by go_num, HR4.out, HB4.out⟩
      case measure => simp [intOf]; omega
    · obtain rfl : k = N := by omega
      have htk : (l.map Rv.w).take k = l.map Rv.w := List.take_of_length_le (by rw [List.length_map]; have := HLN.out; omega)
      rw [htk] at hrow
      obtain ⟨L, hL⟩ : ∃ L, L = l.map Rv.w := ⟨_, rfl⟩
      have hLl : L.length = k := by rw [hL, List.length_map]; exact HLN.out
      rw [← hL] at hrow
      have hhead : headI0 k L = headI L := by rw [← hLl]; exact headI0_all L
      rw [hhead] at hrow
      have hlen := headI_len L
      rw [hLl] at hlen
      have hbody : bodyI L = headI L ++ zeros (248 - 8 * k) := by unfold bodyI; rw [hLl]
      have hbl : (bodyI L).length = 252 := bodyI_len (by omega)
      obtain ⟨V5, hrun, hr5, ht5⟩ := run_addR_zeros hrow (248 - 8 * k) (by omega) 34 r
      rw [← hbody] at hrun hr5
      have HB5 : Hid (Below w.heap.size w V5) := Lib.hid (HB.out.trans (ht5.below HB.out.size HBR.out HBR.out))
      unfold slB at hrun
      rw [hlen, hbl, show ((248 - 8 * k : Nat) : Int) = 252 - (4 + 8 * (k : Int)) by omega] at hrun
      have hsum := sum_any (some ⟨r, 0, none⟩) 252 256 (bodyI L) V5 (by have := hr5.reads; rwa [hbl] at this) (by unfold maxLen; omega)
      obtain ⟨sm, hsm⟩ : ∃ sm, sm = Crc.sum (bodyI L) := ⟨_, rfl⟩
      rw [← hsm] at hsum
      have hsl := sum_lt (bodyI L)
      rw [← hsm] at hsl
      have hws : IntKind.u64.wrap (sm : Int) = (sm : Int) := by rw [IntKind.wrap_u64]; omega
      have HSUM := Lib.hid hsum; clear hsum
      have HR5 := Lib.hid hr5; clear hr5 ht5
      have HSM := Lib.hid hsm; clear hsm
      have HBL := Lib.hid hbl; clear hbl
      have HL := Lib.hid hL; clear hL htk hhead hbody hrow hLl hlen
      have hkk : ¬ (k : Int) < (k : Int) := by omega
      go_wp2_with (at_builtin; refine wpList_apprun rfl _ _ _ _ (by rfl) _ _ (by rfl) (by rfl) _ _ hrun ?_)
      clear hrun
      go_wp2_with fail
      with_reducible refine HSUM.out.mono ?_
      rintro E V6 ⟨rfl, hb6⟩
      have HB6 : Hid (Below w.heap.size w V6) := Lib.hid (HB5.out.trans (hb6.mono HB5.out.size))
      have p7 := putR4 r (bodyI L) sm V6 (HR5.out.below hb6) (by rw [HBL.out]; omega) 34
      rw [HBL.out] at p7
      have P7 := Lib.hid p7; clear p7 hb6 HSUM
      go_wp2_with fail
      with_reducible refine P7.out.mono ?_
      rintro E V7 ⟨A7, c7, W7, rfl, hrun, hr7, ht7⟩
      have HB7 : Hid (Below w.heap.size w W7) := Lib.hid (HB6.out.trans (ht7.below HB6.out.size HBR.out HBR.out))
      have HR7 := Lib.hid hr7; clear hr7 ht7 P7
      go_wp2_with (at_builtin; refine wpList_apprun rfl _ _ _ _ (by rfl) _ _ (by rfl) (by rfl) _ _ hrun ?_)
      clear hrun
      go_wp2
      rw [HP.out, ← HL.out]
      have hix : indexL L = bodyI L ++ bytesL sm 4 := by unfold indexL; rw [HSM.out]
      have hil : (indexL L).length = 256 := by rw [hix, List.length_append, HBL.out, bytesL_len]
      have ho := HR7.out.owned HBR.out
      rw [← hix, hil] at ho
      refine ⟨some ⟨r, 0, none⟩, 256, ?_, ?_, HB7.out⟩
      · rw [hil]; rfl
      · rw [hil]; exact ho
end Go.Proofs.YtbagocghlijleaaGreat.Ht
