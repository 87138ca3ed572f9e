/- What Home leaves on the disk, block by block, in plain words; the document's Revoked; a list of records that a law keeps beside a log. -/
import Derived.Test.YtelnoibfamcnmaaGreatLgKnown
namespace Go.Proofs.YtelnoibfamcnmaaGreat.Log
set_option maxRecDepth 20000
open Go.RowKit
open Go.Proofs.YtelnoibfamcnmaaGreat.Mem Go.Proofs.YtelnoibfamcnmaaGreat.Crc Go.Proofs.YtelnoibfamcnmaaGreat.Disk
open Go.Proofs.YtelnoibfamcnmaaGreat.Rec (Tx Wt TxAt HoldsW HoldsI IsInt enc_any Told enc_len mayB_iff OwnsT)

/-! ### A calm log -/
theorem write_free (d : Dk.Dk) (h : d.fuse = none) (i : Nat) (b : List UInt8) : (d.write i b).fuse = none := Dk.deed_free d h (some (i, b))
theorem homeT_free (ps : List (Int × Nat)) (t : Tx) (d : Dk.Dk) (h : d.fuse = none) : (homeT ps d t).fuse = none := by
  unfold homeT
  generalize t.ws = l
  induction l generalizing d with
  | nil => exact h
  | cons x r ih =>
    rw [List.foldl_cons]
    refine ih _ ?_
    unfold homeW; split
    · exact write_free d h _ _
    · exact h
theorem homeL_free (ps : List (Int × Nat)) (ts : List Tx) (d : Dk.Dk) (h : d.fuse = none) : (homeL ps d ts).fuse = none := by
  unfold homeL
  induction ts generalizing d with
  | nil => exact h
  | cons x r ih => rw [List.foldl_cons]; exact ih _ (homeT_free ps x d h)
def Lg.calm (g : Lg) : Prop := g.d.fuse = none ∧ (g.ts = [] → g.d.pend = [])
theorem Known.roomy {W0 wr : World} {lp p s r n nb cb : Nat} {F0 X : Nat → Prop} {g : Lg} (h : Known W0 wr lp p s r n F0 X g nb cb) : g.ts = [] → g.used = 0 := by
  obtain ⟨v, c, F, m, L, a1, a2, a3, aX, a4, a5, -⟩ := h
  exact a5
/-- The numbers of the live records rise by one up to the next. -/
def Lg.rising (g : Lg) : Prop := ∀ i t, g.ts[i]? = some t → t.seq + (g.ts.length - i) = g.seq
/-! ### Block by block -/
theorem greatest_le (ps : List (Int × Nat)) (b : Int) (m : Nat) (h : ∀ x ∈ ps, x.1 = b → x.2 ≤ m) : greatest ps b ≤ m := by
  unfold greatest
  have : ∀ (ps : List (Int × Nat)) (o : Nat), o ≤ m → (∀ x ∈ ps, x.1 = b → x.2 ≤ m) → ps.foldl (fun o x => if x.1 = b then max o x.2 else o) o ≤ m := by
    intro ps
    induction ps with
    | nil => intro o ho _; exact ho
    | cons y r ih =>
      intro o ho hh
      rw [List.foldl_cons]
      refine ih _ ?_ (fun x hx => hh x (List.mem_cons_of_mem _ hx))
      split
      · rename_i e
        have := hh y (by simp) e
        omega
      · exact ho
  exact this ps 0 (Nat.zero_le _) h
def revokesB (b : Int) (t : Tx) : Bool := t.rs.any (fun x => x == b)
def writesB (b : Int) (t : Tx) : Bool := t.ws.any (fun x => x.1 == b)
/-- Does a record behind number i revoke a block? Does one write it? -/
def revokedB (ts : List Tx) (i : Nat) (b : Int) : Bool := (ts.drop (i + 1)).any (revokesB b)
def laterB (ts : List Tx) (i : Nat) (b : Int) : Bool := (ts.drop (i + 1)).any (writesB b)

/-! ### The document's Revoked -/
set_option maxRecDepth 100000 in
set_option maxHeartbeats 2000000 in
theorem revokedr_any (w : World) (A : Option Addr) (nl c n s r : Nat) (G : Nat → Prop) (L : List LiveRec) (h : Live w G n s r (.slice A nl c) nl L) (i : Nat) (b : Int) (hi : i < nl) (hnl : nl ≤ 1048576) :
    Calls Tryz.prog 70 #[.slice A nl c, .int .i64 (i : Int), .int .i64 b] w fun e w' => e = .returned (.bool (revokedB (L.map (·.t)) i b)) ∧ Below w.heap.size w w' := by
  have hcnt := h.cnt
  have H := Lib.hid h; clear h
  have HCNT := Lib.hid hcnt; clear hcnt
  go_enter Tryz.func70, Tryz.ntmps70
  go_wp2
  go_loopw [7, 8] (fun kv _ wr => ∃ k : Nat, i + 1 ≤ k ∧ k ≤ nl ∧ kv = .int .i64 (k : Int) ∧ revokedB (L.map (·.t)) i b = ((L.map (·.t)).drop k).any (revokesB b) ∧ Below w.heap.size w wr) (fun kv _ _ => nl - (intOf kv).toNat)
  case atStart => exact ⟨i + 1, Nat.le_refl _, hi, by go_num, rfl, Below.refl _ _⟩
  case round =>
    obtain ⟨k, hk1, hk, rfl, hall, hb⟩ := hrel
    have HALL := Lib.hid hall; clear hall
    by_cases hlt : k < nl
    · obtain ⟨x, hx⟩ : ∃ x, L[k]? = some x := ⟨_, List.getElem?_eq_getElem (by have := HCNT.out; omega)⟩
      have hrow := H.out.row.turns (Turns.of_below (F := fun _ => False) hb) (fun _ _ e => e)
      obtain ⟨g, cap, hv, hgl, e0, e1, e2⟩ := Row.cells3 hrow hx
      injection hv with hv1 _ hv3
      subst hv1 hv3
      have hxm := List.mem_of_getElem? hx
      have hat := H.out.stays x hxm wr (Turns.of_below hb)
      have hmay := (mayB_iff x.t).1 (H.out.fair x hxm).1
      have hr58 : x.t.rs.length ≤ 58 := by have := hmay.hi; omega
      have hk0 : (0 : Int) ≤ (k : Int) := by omega
      have hkn : (k : Int) < (nl : Int) := by omega
      have hdrop : ((L.map (·.t)).drop k).any (revokesB b) = (revokesB b x.t || ((L.map (·.t)).drop (k + 1)).any (revokesB b)) := by
        have hl : k < (L.map (·.t)).length := by rw [List.length_map]; exact (List.getElem?_eq_some_iff.1 hx).1
        have e : (L.map (·.t))[k] = x.t := by rw [List.getElem_map, (List.getElem?_eq_some_iff.1 hx).2]
        rw [List.drop_eq_getElem_cons hl, List.any_cons, e]
      have HDROP := Lib.hid hdrop; clear hdrop
      have hj : ∀ j y, x.t.rs[j]? = some y → (∃ bb off, x.Ar = some ⟨bb, off, none⟩ ∧ ∀ V, Below w.heap.size w V → V.cell? ⟨bb, off + j, none⟩ = some (.int .i64 y)) := fun j y hy => by
        have hat0 := H.out.stays x hxm w (Turns.refl _ _)
        obtain ⟨bb, off, hA, hbl, hc⟩ := hat0.rs.2 (by have := (List.getElem?_eq_some_iff.1 hy).1; omega)
        exact ⟨bb, off, hA, fun V hV => (hV.cell (p := ⟨bb, off + j, none⟩) hbl).trans (hc j y hy)⟩
      have hrow2 : ∀ V, Below w.heap.size w V → V.cell? ⟨g, k * 3 + 2, none⟩ = some (.slice x.Ar x.t.rs.length x.cr) := fun V hV => by
        have hr2 := H.out.row.turns (Turns.of_below (F := fun _ => False) hV) (fun _ _ e => e)
        obtain ⟨g2, cap2, hv2, -, -, -, e2⟩ := Row.cells3 hr2 hx
        injection hv2 with hv1 _ _
        injection hv1 with hv1
        injection hv1 with hv1
        subst hv1
        exact e2
      have HJ := Lib.hid hj; clear hj
      have HR2 := Lib.hid hrow2; clear hrow2
      have hrv : revokesB b x.t = x.t.rs.any (fun y => y == b) := rfl
      have HRV := Lib.hid hrv; clear hrv
      clear hrow hat hmay e0 e1 e2 hx hxm
      generalize hNR : x.t.rs.length = nr at HR2 hr58
      have HNR := Lib.hid hNR; clear hNR
      generalize hAR : x.Ar = Ar at HR2 HJ
      clear hAR
      generalize hCR : x.cr = cr at HR2
      clear hCR
      have HB := Lib.hid hb; clear hb
      go_wp2
      go_loopw [8] (fun jv wr => ∃ j : Nat, j ≤ nr ∧ jv = .int .i64 (j : Int) ∧ revokesB b x.t = (x.t.rs.drop j).any (fun y => y == b) ∧ Below w.heap.size w wr) (fun jv _ => nr - (intOf jv).toNat)
      case atStart => exact ⟨0, Nat.zero_le _, rfl, by rw [List.drop_zero]; exact HRV.out, HB.out⟩
      case round =>
        obtain ⟨j, hj, rfl, hany, hb⟩ := hrel
        have r2 := HR2.out _ hb
        by_cases hlj : j < nr
        · obtain ⟨y, hy⟩ : ∃ y, x.t.rs[j]? = some y := ⟨_, List.getElem?_eq_getElem (by rw [HNR.out]; exact hlj)⟩
          obtain ⟨bb, off, rfl, hc⟩ := HJ.out j y hy
          have c2 := hc _ hb
          have hd : (x.t.rs.drop j).any (fun y => y == b) = ((y == b) || (x.t.rs.drop (j + 1)).any (fun y => y == b)) := by
            have hl := (List.getElem?_eq_some_iff.1 hy).1
            rw [List.drop_eq_getElem_cons hl, List.any_cons, (List.getElem?_eq_some_iff.1 hy).2]
          rw [hd] at hany
          have HBJ := Lib.hid hb; clear hb
          have hj0 : (0 : Int) ≤ (j : Int) := by omega
          have hjn : (j : Int) < (nr : Int) := by omega
          clear hd hc hy
          by_cases hyb : y = b
          · subst hyb
            have hfin : revokedB (L.map (·.t)) i y = true := by
              rw [HALL.out, HDROP.out, hany]; simp
            have HFIN := Lib.hid hfin; clear hfin hany
            go_wp2
            go_ret
            exact ⟨by rw [HFIN.out]; rfl, HBJ.out⟩
          · have hf : (y == b) = false := by simpa using hyb
            rw [hf, Bool.false_or] at hany
            have HANY := Lib.hid hany; clear hany hf
            go_wp2
            go_roundw
            case rel => exact ⟨j + 1, by omega, by go_num, HANY.out, HBJ.out⟩
            case measure => simp [intOf]; omega
        · obtain rfl : j = nr := by omega
          have hz : revokesB b x.t = false := by rw [hany, List.drop_of_length_le (by rw [HNR.out]; exact Nat.le_refl _)]; rfl
          have hnext : revokedB (L.map (·.t)) i b = ((L.map (·.t)).drop (k + 1)).any (revokesB b) := by rw [HALL.out, HDROP.out, hz, Bool.false_or]
          have HNEXT := Lib.hid hnext; clear hnext hz hany
          have HBJ := Lib.hid hb; clear hb
          go_wp2
          go_roundw
          case rel => exact ⟨k + 1, by omega, by omega, by go_num, HNEXT.out, HBJ.out⟩
          case measure => simp [intOf]; omega
    · obtain rfl : k = nl := by omega
      have hfin : revokedB (L.map (·.t)) i b = false := by rw [HALL.out, List.drop_of_length_le (by rw [List.length_map, HCNT.out]; exact Nat.le_refl _)]; rfl
      have HFIN := Lib.hid hfin; clear hfin
      have HB := Lib.hid hb; clear hb
      go_wp2
      go_ret
      exact ⟨by rw [HFIN.out]; rfl, HB.out⟩
end Go.Proofs.YtelnoibfamcnmaaGreat.Log
