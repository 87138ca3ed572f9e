/- The fixed fact of layer 4's statements. -/
import Derived.Test.YtelnoibfamcnmaaGreatRcHeld
import Derived.Test.YtelnoibfamcnmaaGreatRcList
import Derived.Test.YtelnoibfamcnmaaGreatDkLow
import Derived.Deep.RegionHeld
import Derived.Test.YtelnoibfamcnmaaGreatLgWrite
import Derived.Test.YtelnoibfamcnmaaGreatLgLog
import Derived.Test.YtelnoibfamcnmaaGreatRcEnc
import Derived.Test.YtelnoibfamcnmaaGreatDkNil
namespace Go.Proofs.YtelnoibfamcnmaaGreat.Log
set_option maxRecDepth 20000
open Go.RowKit
open Go.Proofs.YtelnoibfamcnmaaGreat.Mem Go.Proofs.YtelnoibfamcnmaaGreat.Crc Go.Proofs.YtelnoibfamcnmaaGreat.Rec
open Go.Proofs.YtelnoibfamcnmaaGreat.Disk (Turns)

/-- An append's run taken as one step. -/
theorem wpList_apprun {w : World} {ops : Array Oper} {rest : List Oper} {o : Oper} {a : Act} {Q : Exit → Act → World → Prop} (hgd : o.guard = none) (d x : Operand) (dT sT : TypeId)
    (ho : o.op = .call { callee := .builtin .append, args := #[d, x], argTypes := #[dT, sT] }) (vd vx : Value) (hd : a.eval d = vd) (hx : a.eval x = vx) (v : Value) (w' : World) (hrun : (Builtin.append_ #[dT, sT] o.type #[vd, vx]).run Tryz.prog w = .ok v w')
    (h : wpList Tryz.prog ops Q rest (a.put o.dst v) w') : wpList Tryz.prog ops Q (o :: rest) a w := by
  refine wpList_plain hgd fun K hK => ?_
  unfold Oper.wp execOp
  simp only [ho, resolve, invoke, builtin, Sem.run_bind, Sem.run_pure, Result.andThen_ok, List.map_toArray, List.map_cons, List.map_nil, hd, hx, hrun]
  exact hK _ _ h

set_option maxRecDepth 100000 in
set_option maxHeartbeats 1000000 in
theorem iclone_any (A : Option Addr) (n c B : Nat) (rs : List Int) (w : World) (h : HoldsI w B A n rs) (hn : n ≤ 1048576) (hB : B ≤ w.heap.size) :
    Calls Tryz.prog 87 #[.slice A n c] w fun e w' => ∃ A' c', e = .returned (.slice A' n c') ∧ w'.ownsRow w.heap.size 3 1 (.slice A' n c') n (rs.map (Value.int .i64)) ∧ Below w.heap.size w w' := by
  obtain rfl : rs.length = n := h.1
  rcases A with _ | a
  · have h0 : rs.length = 0 := by
      rcases Nat.eq_zero_or_pos rs.length with e | e
      · exact e
      · obtain ⟨b, off, e, _⟩ := h.2 e; cases e
    obtain rfl : rs = [] := List.eq_nil_of_length_eq_zero h0
    have hq : ∀ W, (binOp .eql 61 (.slice none 0 c) (.slice none 0 0)).run Tryz.prog W = .ok (.bool true) W := fun W => Lib.run_eql_slice_nil W _ _ none 0 c 0 0 Tryz.underlying61
    clear h h0
    go_enter Tryz.func87, Tryz.ntmps87
    go_wp2
    go_ret
    exact ⟨none, 0, rfl, World.ownsRow_nil _ _ _ _, Below.refl _ _⟩
  · have hq : ∀ W, (binOp .eql 61 (.slice (some a) rs.length c) (.slice none 0 0)).run Tryz.prog W = .ok (.bool false) W := fun W => Lib.run_eql_slice_nil W _ _ (some a) rs.length c 0 0 Tryz.underlying61
    have ho : (w.alloc (.cells #[] 3)).ownsRow w.heap.size 3 1 (.slice (some ⟨w.heap.size, 0, none⟩) 0 0) 0 [] := World.ownsRow_made w #[] 0 (Nat.le_refl _) (Nat.zero_le _) (by simp)
    have hb : Below w.heap.size w (w.alloc (.cells #[] 3)) := (Below.refl w.heap.size w).alloc (Nat.le_refl _) _
    obtain ⟨A', c', w', hrun, h2, h3⟩ := run_addints (w.alloc (.cells #[] 3)) 61 w.heap.size _ ho B (some a) rs.length c rs (h.below (hb.mono hB)) (by omega) (by simp)
    have hb2 : Below w.heap.size w w' := hb.grown h3 hb.size (by intro k hk; simp [Value.ownBlock] at hk; omega)
    have H2 := Lib.hid h2; clear h2
    have HB2 := Lib.hid hb2; clear hb2
    clear h h3 ho hb
    generalize rs.length = N at *
    go_enter Tryz.func87, Tryz.ntmps87
    go_wp2_with (at_builtin; refine wpList_apprun rfl _ _ 61 61 rfl _ _ rfl rfl _ w' hrun ?_)
    clear hrun
    go_wp2
    go_ret
    exact ⟨A', c', rfl, H2.out, HB2.out⟩

/-- The values of the slices in which a record's data lie. -/
theorem holdsW_vals {w : World} {B : Nat} {A : Option Addr} {n : Nat} {ws : List Wt} (h : HoldsW w B A n ws) : ∃ vs : List Value, vs.length = ws.length ∧
    (∀ (k : Nat) (x : Wt) (v : Value), ws[k]? = some x → vs[k]? = some v → ∃ A' c', v = .slice A' x.2.length c' ∧ Holds w B A' x.2.length x.2 ∧ x.2.length ≤ c' ∧ c' ≤ maxLen) ∧
    (0 < n → ∃ b off, A = some ⟨b, off, none⟩ ∧ b < B ∧ ∀ j u, (wcells ws vs)[j]? = some u → w.cell? ⟨b, off + j, none⟩ = some u) := by
  rcases Nat.eq_zero_or_pos n with h0 | h0
  · have hl := h.1
    rw [h0] at hl
    obtain rfl : ws = [] := List.eq_nil_of_length_eq_zero hl
    exact ⟨[], rfl, fun k x v hx _ => by simp at hx, fun hn => by omega⟩
  obtain ⟨b, off, e, hb, hc⟩ := h.2 h0
  obtain ⟨vs, hvl, hvs⟩ := exists_list (p := fun i (v : Value) => ∀ x, ws[i]? = some x → w.cell? ⟨b, off + i * 2 + 1, none⟩ = some v ∧ ∃ A' c', v = .slice A' x.2.length c' ∧ Holds w B A' x.2.length x.2 ∧ x.2.length ≤ c' ∧ c' ≤ maxLen) ws.length (fun i hi => by
    obtain ⟨h1, A', c', h2, h3, h4, h5⟩ := hc i ws[i] (List.getElem?_eq_getElem hi)
    refine ⟨.slice A' ws[i].2.length c', fun x hx => ?_⟩
    rw [List.getElem?_eq_getElem hi] at hx
    injection hx with hx
    subst hx
    exact ⟨h2, A', c', rfl, h3, h4, h5⟩)
  refine ⟨vs, hvl, fun k x v hx hv => ?_, fun _ => ⟨b, off, e, hb, fun j u hu => ?_⟩⟩
  · obtain ⟨hk, rfl⟩ := List.getElem?_eq_some_iff.1 hv
    exact (hvs k hk x hx).2
  · have hj : j < ws.length * 2 := by
      have := (List.getElem?_eq_some_iff.1 hu).1
      rwa [wcells_len ws vs hvl] at this
    have hk : j / 2 < ws.length := by omega
    have hk' : j / 2 < vs.length := by omega
    obtain ⟨g1, g2⟩ := wcells_get ws vs (j / 2) _ _ (List.getElem?_eq_getElem hk) (List.getElem?_eq_getElem hk')
    rcases Nat.mod_two_eq_zero_or_one j with hm | hm
    · have ej : j = j / 2 * 2 := by omega
      rw [ej, g1] at hu
      injection hu with hu
      rw [ej, ← hu]
      exact (hc (j / 2) _ (List.getElem?_eq_getElem hk)).1
    · have ej : j = j / 2 * 2 + 1 := by omega
      rw [ej, g2] at hu
      injection hu with hu
      rw [ej, ← hu, ← Nat.add_assoc]
      exact (hvs (j / 2) hk' _ (List.getElem?_eq_getElem hk)).1

theorem wcells_one {ws : List Wt} {vs : List Value} (hv : ∀ v ∈ vs, v.oneCell' = true) : ∀ u ∈ wcells ws vs, u.oneCell' = true := by
  induction ws generalizing vs with
  | nil => intro u hu; cases vs <;> simp [wcells] at hu
  | cons x r ih =>
    cases vs with
    | nil => intro u hu; simp [wcells] at hu
    | cons v vs =>
      intro u hu
      simp only [wcells, List.mem_cons] at hu
      rcases hu with rfl | rfl | hu
      · rfl
      · exact hv _ (by simp)
      · exact ih (fun v' h' => hv v' (by simp [h'])) u hu

set_option maxRecDepth 100000 in
set_option maxHeartbeats 1000000 in
theorem wclone_any (A : Option Addr) (n c B : Nat) (ws : List Wt) (w : World) (h : HoldsW w B A n ws) (hn : n ≤ 1048576) (hB : B ≤ w.heap.size) :
    Calls Tryz.prog 85 #[.slice A n c] w fun e w' => ∃ A' c' vs, e = .returned (.slice A' n c') ∧ vs.length = n ∧
      (∀ (k : Nat) (x : Wt) (v : Value), ws[k]? = some x → vs[k]? = some v → ∃ A' c', v = .slice A' x.2.length c' ∧ Holds w B A' x.2.length x.2 ∧ x.2.length ≤ c' ∧ c' ≤ maxLen) ∧ w'.ownsRow w.heap.size 56 2 (.slice A' n c') n (wcells ws vs) ∧ Below w.heap.size w w' := by
  obtain ⟨vs, hvl, hvs, hcell⟩ := holdsW_vals h
  obtain rfl : ws.length = n := h.1
  rcases A with _ | a
  · have h0 : ws.length = 0 := by
      rcases Nat.eq_zero_or_pos ws.length with e | e
      · exact e
      · obtain ⟨b, off, e, _⟩ := h.2 e; cases e
    obtain rfl : ws = [] := List.eq_nil_of_length_eq_zero h0
    have hq : ∀ W, (binOp .eql 57 (.slice none 0 c) (.slice none 0 0)).run Tryz.prog W = .ok (.bool true) W := fun W => Lib.run_eql_slice_nil W _ _ none 0 c 0 0 Tryz.underlying57
    clear h h0 hvs hcell
    go_enter Tryz.func85, Tryz.ntmps85
    go_wp2
    go_ret
    exact ⟨none, 0, [], rfl, rfl, fun k x v hx _ => by simp at hx, World.ownsRow_nil _ _ _ _, Below.refl _ _⟩
  · have hq : ∀ W, (binOp .eql 57 (.slice (some a) ws.length c) (.slice none 0 0)).run Tryz.prog W = .ok (.bool false) W := fun W => Lib.run_eql_slice_nil W _ _ (some a) ws.length c 0 0 Tryz.underlying57
    have ho : (w.alloc (.cells #[] 56)).ownsRow w.heap.size 56 2 (.slice (some ⟨w.heap.size, 0, none⟩) 0 0) 0 [] := World.ownsRow_made w #[] 0 (Nat.le_refl _) (Nat.zero_le _) (by simp)
    have hb : Below w.heap.size w (w.alloc (.cells #[] 56)) := (Below.refl w.heap.size w).alloc (Nat.le_refl _) _
    have hone : ∀ v ∈ vs, v.oneCell' = true := fun v hv => by
      obtain ⟨k, hk, rfl⟩ := List.getElem_of_mem hv
      obtain ⟨A', c', e, _⟩ := hvs k ws[k] vs[k] (List.getElem?_eq_getElem (by omega)) (List.getElem?_eq_getElem hk)
      rw [e]; rfl
    obtain ⟨i0, hi, hz0, hz1, hz2⟩ := info_parts info_wt
    obtain ⟨v', w', hrun, h2, h3, _⟩ := run_append_own_at (P := Tryz.prog) (w.alloc (.cells #[] 56)) w.heap.size 57 57 56 i0 (.agg #[.int .i64 0, .slice none 0 0]) 2 32 Tryz.underlying57 hi hz0 hz1 hz2 rfl (by decide) _ 0 [] ho a ws.length c (wcells ws vs) (by rw [wcells_len ws vs hvl]) (fun j u hu => by
      have hj : j < ws.length * 2 := by
        have := (List.getElem?_eq_some_iff.1 hu).1
        rwa [wcells_len ws vs hvl] at this
      obtain ⟨b, off, e, hbB, hc⟩ := hcell (by omega)
      injection e with e
      subst e
      have hadd : (⟨b, off, none⟩ : Addr).add j = ⟨b, off + j, none⟩ := by unfold Addr.add; split <;> simp_all
      rw [hadd]
      exact (hb.cell (p := ⟨b, off + j, none⟩) (by show b < _; omega)).trans (hc j u hu)) (wcells_one hone) (by unfold maxLen; omega) (by omega) (by simp)
    rw [Nat.zero_add, List.nil_append] at h2
    have hb2 : Below w.heap.size w w' := hb.grown h3 hb.size (by intro k hk; simp [Value.ownBlock] at hk; omega)
    obtain ⟨A', c', rfl⟩ : ∃ A' c', v' = .slice A' ws.length c' := by
      rcases h2.2 with ⟨rfl, h0⟩ | ⟨g, cap, cur, rfl, _⟩
      · exact ⟨none, 0, by rw [h0]⟩
      · exact ⟨_, _, rfl⟩
    have H2 := Lib.hid h2; clear h2
    have HB2 := Lib.hid hb2; clear hb2
    clear h h3 ho hb hcell hi hz0 hz1 hz2 hone
    have HVS := Lib.hid hvs; clear hvs
    generalize ws.length = N at *
    go_enter Tryz.func85, Tryz.ntmps85
    go_wp2_with (at_builtin; refine wpList_apprun rfl _ _ 57 57 rfl _ _ rfl rfl _ w' hrun ?_)
    clear hrun
    go_wp2
    go_ret
    exact ⟨A', c', vs, rfl, hvl, HVS.out, H2.out, HB2.out⟩

end Go.Proofs.YtelnoibfamcnmaaGreat.Log

namespace Go.Proofs.YtelnoibfamcnmaaGreat.Log
set_option maxRecDepth 20000
open Go.RowKit
open Go.Proofs.YtelnoibfamcnmaaGreat.Mem Go.Proofs.YtelnoibfamcnmaaGreat.Crc Go.Proofs.YtelnoibfamcnmaaGreat.Disk Go.Proofs.YtelnoibfamcnmaaGreat.Reg
open Go.Proofs.YtelnoibfamcnmaaGreat.Rec (Tx Wt TxAt HoldsW HoldsI IsInt enc_any Told enc_len mayB_iff)

theorem info_txn : (Tryz.prog.info? 63).map (fun i => (i.zero, i.size, i.bytes)) = some (some (.agg #[.int .u64 0, .slice none 0 0, .slice none 0 0]), 3, 56) := by kernel_rfl

/-- A log in memory with its disk: the disk's blocks are F, the table's m; the slice of the live records has a row of its own. -/
structure LogOn (w : World) (lp p s r seq pl used : Nat) (v : Value) (nl : Nat) (d : Dk.Dk) (c : Nat) (F : Nat → Prop) (m : Nat) : Prop where
  disk : DiskM w p d c F m
  log : LogAt w lp p (s : Int) (r : Int) seq pl used v
  live : ∃ cs, Row w 63 3 v nl cs ∧ ∀ u ∈ cs, u.oneCell' = true
  apartL : ¬ F lp
  apartV : ∀ k, v.ownBlock = some k → ¬ F k ∧ k ≠ lp
  ring : 7 ≤ r ∧ r ≤ 1023 ∧ pl < r ∧ s + 1 + r ≤ d.stable.length ∧ used ≤ r

def chunksOf (bs : List UInt8) (k : Nat) : List (List UInt8) := (List.finRange k).map (cutB bs k)

/-- An append's run taken as one step of a region that draws its order. -/
theorem step_apprun {w : World} {ops : Array Oper} {o : Oper} {a : Act} {K : Act → World → Prop} {Q : Exit → Act → World → Prop} {E : Prop} (hgd : o.guard = none) (d x : Operand) (dT sT : TypeId)
    (ho : o.op = .call { callee := .builtin .append, args := #[d, x], argTypes := #[dT, sT] }) (vd vx : Value) (hd : a.eval d = vd) (hx : a.eval x = vx) (v : Value) (w' : World) (hrun : (Builtin.append_ #[dT, sT] o.type #[vd, vx]).run Tryz.prog w = .ok v w')
    (h : K (a.put o.dst v) w') : if Region.wanted o (yielded ops a.tmps) = true then Oper.wp Tryz.prog o a w K Q else E := by
  have hw : Region.wanted o (yielded ops a.tmps) = true := by simp [Region.wanted, hgd]
  rw [if_pos hw]
  unfold Oper.wp execOp
  simp only [ho, resolve, invoke, builtin, Sem.run_bind, Sem.run_pure, Result.andThen_ok, List.map_toArray, List.map_cons, List.map_nil, hd, hx, hrun]
  exact h

theorem LogOn.later {w w' : World} {lp p s r seq pl used nl c m : Nat} {v : Value} {d : Dk.Dk} {F : Nat → Prop} (h : LogOn w lp p s r seq pl used v nl d c F m) (hb : Below w.heap.size w w') : LogOn w' lp p s r seq pl used v nl d c F m := by
  obtain ⟨cs, hr, h1⟩ := h.live
  exact ⟨h.disk.turns (Turns.of_below (F := fun _ => False) hb) (fun _ _ e => e), (hb.block lp (Array.getElem?_eq_some_iff.1 h.log).1).trans h.log, ⟨cs, hr.turns (Turns.of_below (F := fun _ => False) hb) (fun _ _ e => e), h1⟩, h.apartL, h.apartV, h.ring⟩

end Go.Proofs.YtelnoibfamcnmaaGreat.Log

namespace Go.Proofs.YtelnoibfamcnmaaGreat.Log
set_option maxRecDepth 20000
open Go.RowKit
open Go.Proofs.YtelnoibfamcnmaaGreat.Mem Go.Proofs.YtelnoibfamcnmaaGreat.Crc Go.Proofs.YtelnoibfamcnmaaGreat.Disk
open Go.Proofs.YtelnoibfamcnmaaGreat.Rec (Tx Wt TxAt HoldsW HoldsI IsInt enc_any Told enc_len mayB_iff numFrom eqB)

theorem bytesL_getD (v L k : Nat) (hk : k < L) : (bytesL v L).getD k 0 = byteN v k := by
  simp [bytesL, List.getD, hk]
theorem num_bytesL (v L : Nat) : ∀ k, k ≤ L → numAt (bytesL v L) k = v % 2 ^ (8 * k)
  | 0, _ => by simp [numAt, Nat.mod_one]
  | k + 1, hk => by
    have ih := num_bytesL v L k (by omega)
    show numAt (bytesL v L) k ||| ((bytesL v L).getD k 0).toNat * 2 ^ (8 * k) = _
    rw [ih, bytesL_getD v L k (by omega)]
    have e : (byteN v k).toNat = v / 2 ^ (8 * k) % 256 := by simp [byteN]
    have hlt : v % 2 ^ (8 * k) < 2 ^ (8 * k) := Nat.mod_lt _ (Nat.pow_pos (by omega))
    rw [e, Nat.or_comm, Nat.mul_comm, ← Nat.two_pow_add_eq_or_of_lt hlt, show 8 * (k + 1) = 8 * k + 8 by omega, Nat.pow_add, Nat.mod_mul, show (2 : Nat) ^ 8 = 256 from rfl]
    omega
theorem numFrom_at (a c : List UInt8) (v n k : Nat) (hk : k = a.length) (hv : v < 2 ^ (8 * n)) : numFrom (a ++ (bytesL v n ++ c)) k n = v := by
  subst hk
  unfold numFrom
  rw [List.drop_left, List.take_left' (bytesL_len v n), num_bytesL v n n (Nat.le_refl _), Nat.mod_eq_of_lt hv]

/-- What a head tells is read. -/
theorem seqH_head (sq pl : Nat) (h : sq < 18446744073709551616) : seqH (headH sq pl) = sq := by
  unfold seqH
  rw [headH_eq, List.append_assoc, List.append_assoc]
  exact numFrom_at markH _ sq 8 8 rfl h
theorem plH_head (sq pl : Nat) (h : pl < 4294967296) : plH (headH sq pl) = pl := by
  unfold plH
  rw [headH_eq, List.append_assoc (markH ++ bytesL sq 8)]
  exact numFrom_at (markH ++ bytesL sq 8) _ pl 4 16 (by rw [List.length_append, bytesL_len]; rfl) h
theorem okH_head (sq pl ring : Nat) (h : sq < 18446744073709551616) (hp : pl < ring) (hr : ring ≤ 1024) : okH (headH sq pl) ring = true := by
  unfold okH
  rw [seqH_head sq pl h, plH_head sq pl (by omega)]
  simp [eqB, hp]

/-- A new log on a new disk. -/
def freshD (n s : Nat) : Dk.Dk := ((Dk.Dk.new n).write s (headH 1 0)).flush
theorem freshD_read (n s : Nat) (hs : s < n) : (freshD n s).read s = headH 1 0 := by
  have h0 := Dk.new_ok n
  have h1 := Dk.write_ok _ h0 s (headH 1 0) (by simpa [Dk.Dk.new] using hs) (headH_len 1 0)
  unfold freshD
  rw [Dk.read_flush _ h1, Dk.read_write _ h0, if_pos rfl]
theorem freshD_size (n s : Nat) : (freshD n s).stable.length = n := by
  unfold freshD
  rw [Dk.size_flush, write_size]
  simp [Dk.Dk.new]

/-- The record of the fixed fact. -/
def tA : Tx := ⟨1, [(9, List.replicate 256 0)], []⟩
end Go.Proofs.YtelnoibfamcnmaaGreat.Log

