/- What Home leaves on the disk, block by block, in plain words; the document's Revoked; a list of records that a law keeps beside a log. -/
import Derived.Test.YtgffcjceeiokfaaLgKnown
namespace Go.Proofs.Ytgffcjceeiokfaa.Log
set_option maxRecDepth 20000
open Go.RowKit
open Go.Proofs.Ytgffcjceeiokfaa.Mem Go.Proofs.Ytgffcjceeiokfaa.Crc Go.Proofs.Ytgffcjceeiokfaa.Disk
open Go.Proofs.Ytgffcjceeiokfaa.Rec (Tx Wt TxAt HoldsW HoldsI IsInt enc_any Told enc_len mayB_iff OwnsT)

/-! ### A calm log -/
theorem write_free (d : Dk.Dk) (h : d.fuse = none) (i : Nat) (b : List UInt8) : (d.write i b).fuse = none := Dk.deed_free d h (some (i, b))
theorem flush_free (d : Dk.Dk) (h : d.fuse = none) : d.flush.fuse = none := Dk.deed_free d h none
theorem homeT_free (ps : List (Int × Nat)) (t : Tx) (d : Dk.Dk) (h : d.fuse = none) : (homeT ps d t).fuse = none := by
  unfold homeT
  generalize t.ws = l
  induction l generalizing d with
  | nil => exact h
  | cons x r ih =>
    rw [List.foldl_cons]
    refine ih _ ?_
    unfold homeW; split
    · exact write_free d h _ _
    · exact h
theorem homeL_free (ps : List (Int × Nat)) (ts : List Tx) (d : Dk.Dk) (h : d.fuse = none) : (homeL ps d ts).fuse = none := by
  unfold homeL
  induction ts generalizing d with
  | nil => exact h
  | cons x r ih => rw [List.foldl_cons]; exact ih _ (homeT_free ps x d h)
theorem putL_free (s r : Nat) : ∀ (bs : List (List UInt8)) (d : Dk.Dk) (pl : Nat), d.fuse = none → (putL s r d pl bs).1.fuse = none
  | [], _, _, h => h
  | b :: bs, d, _, h => putL_free s r bs _ _ (write_free d h _ b)
def Lg.calm (g : Lg) : Prop := g.d.fuse = none ∧ (g.ts = [] → g.d.pend = [])
theorem fresh_calm (n s : Nat) : (Lg.fresh n s).calm := by
  have hf1 : ((Dk.Dk.new n).write s (headH 1 0)).fuse = none := Dk.deed_free _ rfl (some (s, headH 1 0))
  refine ⟨Dk.deed_free _ hf1 none, fun _ => Dk.pend_flush _ ?_⟩
  unfold Dk.Dk.blown; rw [hf1]; rfl
theorem Lg.calm_app {n s r : Nat} {g : Lg} (t : Tx) (h : g.calm) : (g.app n s r t).2.2.calm := by
  unfold Lg.app
  split
  · split
    · exact ⟨putL_free s r _ _ _ h.1, fun e => by simp [Lg.add] at e⟩
    · exact h
  · exact h
theorem Lg.calm_home {s : Nat} {g : Lg} (h : g.calm) : (g.home s).calm ∧ (g.home s).d.pend = [] := by
  unfold Lg.home
  split
  · rename_i e; exact ⟨h, h.2 e⟩
  · have h1 : ((homeL (revsOf g.ts) g.d.flush g.ts).flush.write s (headH g.seq g.pl)).fuse = none := write_free _ (flush_free _ (homeL_free _ _ _ (flush_free _ h.1))) _ _
    have h2 : (homeD s g.seq g.pl g.d g.ts).pend = [] := Dk.pend_flush _ (by unfold Dk.Dk.blown; rw [h1]; rfl)
    exact ⟨⟨flush_free _ h1, fun _ => h2⟩, h2⟩
theorem Lg.home_room (s : Nat) (g : Lg) (h : g.ts = [] → g.used = 0) : (g.home s).used = 0 := by
  unfold Lg.home; split
  · rename_i e; exact h e
  · rfl
theorem Known.roomy {W0 wr : World} {lp p s r n nb cb : Nat} {F0 X : Nat → Prop} {g : Lg} (h : Known W0 wr lp p s r n F0 X g nb cb) : g.ts = [] → g.used = 0 := by
  obtain ⟨v, c, F, m, L, a1, a2, a3, aX, a4, a5, -⟩ := h
  exact a5
/-- The numbers of the live records rise by one up to the next. -/
def Lg.rising (g : Lg) : Prop := ∀ i t, g.ts[i]? = some t → t.seq + (g.ts.length - i) = g.seq
theorem Lg.rising_app {n s r : Nat} {g : Lg} (t : Tx) (h : g.rising) : (g.app n s r t).2.2.rising := by
  unfold Lg.app
  split
  · split
    · intro i u hu
      have hu' : (g.ts ++ [g.txn t])[i]? = some u := hu
      show u.seq + ((g.ts ++ [g.txn t]).length - i) = g.seq + 1
      rw [List.length_append, List.length_singleton]
      rcases Nat.lt_or_ge i g.ts.length with hl | hl
      · rw [List.getElem?_append_left hl] at hu'
        have := h i u hu'
        omega
      · rw [List.getElem?_append_right hl] at hu'
        have hi := (List.getElem?_eq_some_iff.1 hu').1
        simp at hi
        have e : i - g.ts.length = 0 := by omega
        rw [e] at hu'
        simp at hu'
        subst hu'
        show g.seq + _ = _
        omega
    · exact h
  · exact h

/-! ### Block by block -/
theorem greatest_le (ps : List (Int × Nat)) (b : Int) (m : Nat) (h : ∀ x ∈ ps, x.1 = b → x.2 ≤ m) : greatest ps b ≤ m := by
  unfold greatest
  have : ∀ (ps : List (Int × Nat)) (o : Nat), o ≤ m → (∀ x ∈ ps, x.1 = b → x.2 ≤ m) → ps.foldl (fun o x => if x.1 = b then max o x.2 else o) o ≤ m := by
    intro ps
    induction ps with
    | nil => intro o ho _; exact ho
    | cons y r ih =>
      intro o ho hh
      rw [List.foldl_cons]
      refine ih _ ?_ (fun x hx => hh x (List.mem_cons_of_mem _ hx))
      split
      · rename_i e
        have := hh y (by simp) e
        omega
      · exact ho
  exact this ps 0 (Nat.zero_le _) h
theorem homeW_other (ps : List (Int × Nat)) (sq : Nat) (d : Dk.Dk) (x : Wt) (i : Nat) (h : d.Ok) (hx : x.1.toNat ≠ i) : (homeW ps sq d x).read i = d.read i := by
  unfold homeW; split
  · rw [Dk.read_write d h, if_neg hx]
  · rfl
theorem homeF_other (ps : List (Int × Nat)) (sq : Nat) (i : Nat) : ∀ (l : List Wt) (d : Dk.Dk), d.Ok → (∀ x ∈ l, x.1.toNat < d.stable.length ∧ x.2.length = 256) → (∀ x ∈ l, x.1.toNat ≠ i) → (l.foldl (homeW ps sq) d).read i = d.read i
  | [], _, _, _, _ => rfl
  | x :: l, d, h, hf, hn => by
    rw [List.foldl_cons, homeF_other ps sq i l _ (homeW_ok ps sq d x h (hf x (by simp)).1 (hf x (by simp)).2) (fun y hy => by rw [homeW_size]; exact hf y (List.mem_cons_of_mem _ hy)) (fun y hy => hn y (List.mem_cons_of_mem _ hy)), homeW_other ps sq d x i h (hn x (by simp))]
theorem homeL_other (ps : List (Int × Nat)) (i : Nat) : ∀ (ts : List Tx) (d : Dk.Dk), d.Ok → (∀ t ∈ ts, FitT d.stable.length t) → (∀ t ∈ ts, ∀ x ∈ t.ws, x.1.toNat ≠ i) → (homeL ps d ts).read i = d.read i
  | [], _, _, _, _ => rfl
  | t :: ts, d, h, hf, hn => by
    show (homeL ps (homeT ps d t) ts).read i = d.read i
    rw [homeL_other ps i ts _ (homeT_ok ps t d h (hf t (by simp))) (fun y hy => by rw [homeT_size]; exact hf y (List.mem_cons_of_mem _ hy)) (fun y hy => hn y (List.mem_cons_of_mem _ hy))]
    exact homeF_other ps t.seq i t.ws d h (hf t (by simp)) (hn t (by simp))
def revokesB (b : Int) (t : Tx) : Bool := t.rs.any (fun x => x == b)
def writesB (b : Int) (t : Tx) : Bool := t.ws.any (fun x => x.1 == b)
/-- Does a record behind number i revoke a block? Does one write it? -/
def revokedB (ts : List Tx) (i : Nat) (b : Int) : Bool := (ts.drop (i + 1)).any (revokesB b)
def laterB (ts : List Tx) (i : Nat) (b : Int) : Bool := (ts.drop (i + 1)).any (writesB b)

theorem home_block (g : Lg) (s n r : Nat) (hok : g.d.Ok) (hn : g.d.stable.length = n) (hfair : ∀ t ∈ g.ts, t.mayB = true ∧ takesB n s r t = true) (hs : s < n) (hr : g.rising) (i k : Nat) (t : Tx) (x : Wt) (ht : g.ts[i]? = some t) (hx : t.ws[k]? = some x)
    (h1 : revokedB g.ts i x.1 = false) (h2 : laterB g.ts i x.1 = false) : (g.home s).d.read x.1.toNat = x.2 := by
  have hne : ¬ g.ts = [] := by intro e; rw [e] at ht; simp at ht
  have hfit : ∀ t ∈ g.ts, FitT g.d.stable.length t := fun t ht => by rw [hn]; exact fit_fair (hfair t ht)
  have htm := List.mem_of_getElem? ht
  have hxm := List.mem_of_getElem? hx
  have hmay := (mayB_iff t).1 (hfair t htm).1
  have hin : ∀ t ∈ g.ts, ∀ x ∈ t.ws, 0 ≤ x.1 := fun t ht x hx => (outB_in (hfair t ht).2 hx).1
  have hxs : s ≠ x.1.toNat := by
    have h := (hfair t htm).2
    unfold takesB at h
    rw [Bool.and_eq_true] at h
    have h1 := List.all_eq_true.1 h.1 x hxm
    unfold outB at h1
    simp only [Bool.and_eq_true, Bool.not_eq_true', Bool.and_eq_false_iff, decide_eq_true_eq, decide_eq_false_iff_not] at h1
    omega
  have hL : (g.home s).d = homeD s g.seq g.pl g.d g.ts := by unfold Lg.home; rw [if_neg hne]
  rw [hL, homeD_read s g.seq g.pl g.d g.ts hok hfit (by omega), if_neg hxs]
  have hil := (List.getElem?_eq_some_iff.1 ht).1
  have hsplit : g.ts = g.ts.take i ++ (t :: g.ts.drop (i + 1)) := by
    rw [← (List.getElem?_eq_some_iff.1 ht).2, List.getElem_cons_drop, List.take_append_drop]
  generalize hps : revsOf g.ts = ps
  have hgr : greatest ps x.1 ≤ t.seq := by
    refine greatest_le ps x.1 t.seq (fun y hy hyb => ?_)
    rw [← hps] at hy
    unfold revsOf at hy
    obtain ⟨u, hu, hy2⟩ := List.mem_flatMap.1 hy
    obtain ⟨z, hz, rfl⟩ := List.mem_map.1 hy2
    obtain ⟨j, hj⟩ := List.getElem?_of_mem hu
    have hs1 := hr i t ht
    have hs2 := hr j u hj
    have hjl := (List.getElem?_eq_some_iff.1 hj).1
    show u.seq ≤ t.seq
    rcases Nat.lt_or_ge i j with hlt | hge
    · exfalso
      have hmem : u ∈ g.ts.drop (i + 1) := by
        refine List.mem_of_getElem? (i := j - (i + 1)) ?_
        rw [List.getElem?_drop, show i + 1 + (j - (i + 1)) = j by omega]; exact hj
      unfold revokedB at h1
      have h3 := List.any_eq_false.1 h1 u hmem
      unfold revokesB at h3
      apply h3
      rw [List.any_eq_true]
      exact ⟨z, hz, by simpa using hyb⟩
    · omega
  have h0 : g.d.flush.Ok := Dk.flush_ok _ hok
  have hsz : g.d.flush.stable.length = g.d.stable.length := Dk.size_flush _
  have hA : (homeL ps g.d.flush (g.ts.take i)).Ok := homeL_ok ps _ _ h0 (fun u hu => by rw [hsz]; exact hfit u (List.mem_of_mem_take hu))
  have e1 : homeL ps g.d.flush g.ts = homeL ps (homeT ps (homeL ps g.d.flush (g.ts.take i)) t) (g.ts.drop (i + 1)) := by
    conv => lhs; rw [hsplit]
    unfold homeL
    rw [List.foldl_append, List.foldl_cons]
  rw [e1]
  generalize hD : homeL ps g.d.flush (g.ts.take i) = D at hA
  have hDs : D.stable.length = g.d.stable.length := by rw [← hD, homeL_size, hsz]
  rw [homeL_other ps x.1.toNat (g.ts.drop (i + 1)) _ (homeT_ok ps t D hA (by rw [hDs]; exact hfit t htm)) (fun u hu => by rw [homeT_size, hDs]; exact hfit u (List.mem_of_mem_drop hu)) (fun u hu y hy e => by
    have h3 := List.any_eq_false.1 h2 u hu
    apply h3
    unfold writesB
    rw [List.any_eq_true]
    have := hin u (List.mem_of_mem_drop hu) y hy
    have := hin t htm x hxm
    exact ⟨y, hy, by simp; omega⟩)]
  -- within the record
  have hkl := (List.getElem?_eq_some_iff.1 hx).1
  have hwsplit : t.ws = t.ws.take k ++ (x :: t.ws.drop (k + 1)) := by
    rw [← (List.getElem?_eq_some_iff.1 hx).2, List.getElem_cons_drop, List.take_append_drop]
  have hnd : (t.ws.map (·.1)).Nodup := by
    have := hmay.once
    unfold Tx.nums at this
    exact (List.nodup_append.1 this).1
  have hfT := hfit t htm
  unfold FitT at hfT
  rw [← hDs] at hfT
  have e2 : homeT ps D t = (t.ws.drop (k + 1)).foldl (homeW ps t.seq) (homeW ps t.seq ((t.ws.take k).foldl (homeW ps t.seq) D) x) := by
    unfold homeT
    conv => lhs; rw [hwsplit]
    rw [List.foldl_append, List.foldl_cons]
  have hE : ∀ (l : List Wt) (d : Dk.Dk), d.Ok → (∀ y ∈ l, y.1.toNat < d.stable.length ∧ y.2.length = 256) → (l.foldl (homeW ps t.seq) d).Ok := by
    intro l
    induction l with
    | nil => intro d h _; exact h
    | cons y r ih =>
      intro d h hf
      rw [List.foldl_cons]
      exact ih _ (homeW_ok ps _ d y h (hf y (by simp)).1 (hf y (by simp)).2) (fun z hz => by rw [homeW_size]; exact hf z (List.mem_cons_of_mem _ hz))
  have hEk := hE (t.ws.take k) D hA (fun y hy => hfT y (List.mem_of_mem_take hy))
  have hEs : ((t.ws.take k).foldl (homeW ps t.seq) D).stable.length = D.stable.length := homeW_take_size ps t.seq _ D
  rw [e2]
  generalize (t.ws.take k).foldl (homeW ps t.seq) D = E at hEk hEs
  have hfx := hfT x hxm
  rw [homeF_other ps t.seq x.1.toNat (t.ws.drop (k + 1)) _ (homeW_ok ps t.seq E x hEk (by rw [hEs]; exact hfx.1) hfx.2) (fun y hy => by rw [homeW_size, hEs]; exact hfT y (List.mem_of_mem_drop hy)) (fun y hy e => by
    have h4 := hin t htm y (List.mem_of_mem_drop hy)
    have h5 := hin t htm x hxm
    have h6 : y.1 = x.1 := by omega
    rw [hwsplit, List.map_append, List.map_cons] at hnd
    have h7 := (List.nodup_append.1 hnd).2.1
    rw [List.nodup_cons] at h7
    exact h7.1 (List.mem_map.2 ⟨y, hy, h6⟩))]
  unfold homeW
  rw [if_pos hgr, Dk.read_write E hEk, if_pos rfl]

/-! ### The document's Revoked -/
set_option maxRecDepth 100000 in
set_option maxHeartbeats 2000000 in
theorem revokedr_any (w : World) (A : Option Addr) (nl c n s r : Nat) (G : Nat → Prop) (L : List LiveRec) (h : Live w G n s r (.slice A nl c) nl L) (i : Nat) (b : Int) (hi : i < nl) (hnl : nl ≤ 1048576) :
    Calls Try.prog 46 #[.slice A nl c, .int .i64 (i : Int), .int .i64 b] w fun e w' => e = .returned (.bool (revokedB (L.map (·.t)) i b)) ∧ Below w.heap.size w w' := by
  have hcnt := h.cnt
  have H := Lib.hid h; clear h
  have HCNT := Lib.hid hcnt; clear hcnt
  go_enter Try.func46, Try.ntmps46
  go_wp2
  go_loopw [7, 8] (fun kv _ wr => ∃ k : Nat, i + 1 ≤ k ∧ k ≤ nl ∧ kv = .int .i64 (k : Int) ∧ revokedB (L.map (·.t)) i b = ((L.map (·.t)).drop k).any (revokesB b) ∧ Below w.heap.size w wr) (fun kv _ _ => nl - (intOf kv).toNat)
  case atStart => exact ⟨i + 1, Nat.le_refl _, hi, by go_num, rfl, Below.refl _ _⟩
  case round =>
    obtain ⟨k, hk1, hk, rfl, hall, hb⟩ := hrel
    have HALL := Lib.hid hall; clear hall
    by_cases hlt : k < nl
    · obtain ⟨x, hx⟩ : ∃ x, L[k]? = some x := ⟨_, List.getElem?_eq_getElem (by have := HCNT.out; omega)⟩
      have hrow := H.out.row.turns (Turns.of_below (F := fun _ => False) hb) (fun _ _ e => e)
      obtain ⟨g, cap, hv, hgl, e0, e1, e2⟩ := Row.cells3 hrow hx
      injection hv with hv1 _ hv3
      subst hv1 hv3
      have hxm := List.mem_of_getElem? hx
      have hat := H.out.stays x hxm wr (Turns.of_below hb)
      have hmay := (mayB_iff x.t).1 (H.out.fair x hxm).1
      have hr58 : x.t.rs.length ≤ 58 := by have := hmay.hi; omega
      have hk0 : (0 : Int) ≤ (k : Int) := by omega
      have hkn : (k : Int) < (nl : Int) := by omega
      have hdrop : ((L.map (·.t)).drop k).any (revokesB b) = (revokesB b x.t || ((L.map (·.t)).drop (k + 1)).any (revokesB b)) := by
        have hl : k < (L.map (·.t)).length := by rw [List.length_map]; exact (List.getElem?_eq_some_iff.1 hx).1
        have e : (L.map (·.t))[k] = x.t := by rw [List.getElem_map, (List.getElem?_eq_some_iff.1 hx).2]
        rw [List.drop_eq_getElem_cons hl, List.any_cons, e]
      have HDROP := Lib.hid hdrop; clear hdrop
      have hj : ∀ j y, x.t.rs[j]? = some y → (∃ bb off, x.Ar = some ⟨bb, off, none⟩ ∧ ∀ V, Below w.heap.size w V → V.cell? ⟨bb, off + j, none⟩ = some (.int .i64 y)) := fun j y hy => by
        have hat0 := H.out.stays x hxm w (Turns.refl _ _)
        obtain ⟨bb, off, hA, hbl, hc⟩ := hat0.rs.2 (by have := (List.getElem?_eq_some_iff.1 hy).1; omega)
        exact ⟨bb, off, hA, fun V hV => (hV.cell (p := ⟨bb, off + j, none⟩) hbl).trans (hc j y hy)⟩
      have hrow2 : ∀ V, Below w.heap.size w V → V.cell? ⟨g, k * 3 + 2, none⟩ = some (.slice x.Ar x.t.rs.length x.cr) := fun V hV => by
        have hr2 := H.out.row.turns (Turns.of_below (F := fun _ => False) hV) (fun _ _ e => e)
        obtain ⟨g2, cap2, hv2, -, -, -, e2⟩ := Row.cells3 hr2 hx
        injection hv2 with hv1 _ _
        injection hv1 with hv1
        injection hv1 with hv1
        subst hv1
        exact e2
      have HJ := Lib.hid hj; clear hj
      have HR2 := Lib.hid hrow2; clear hrow2
      have hrv : revokesB b x.t = x.t.rs.any (fun y => y == b) := rfl
      have HRV := Lib.hid hrv; clear hrv
      clear hrow hat hmay e0 e1 e2 hx hxm
      generalize hNR : x.t.rs.length = nr at HR2 hr58
      have HNR := Lib.hid hNR; clear hNR
      generalize hAR : x.Ar = Ar at HR2 HJ
      clear hAR
      generalize hCR : x.cr = cr at HR2
      clear hCR
      have HB := Lib.hid hb; clear hb
      go_wp2
      go_loopw [8] (fun jv wr => ∃ j : Nat, j ≤ nr ∧ jv = .int .i64 (j : Int) ∧ revokesB b x.t = (x.t.rs.drop j).any (fun y => y == b) ∧ Below w.heap.size w wr) (fun jv _ => nr - (intOf jv).toNat)
      case atStart => exact ⟨0, Nat.zero_le _, rfl, by rw [List.drop_zero]; exact HRV.out, HB.out⟩
      case round =>
        obtain ⟨j, hj, rfl, hany, hb⟩ := hrel
        have r2 := HR2.out _ hb
        by_cases hlj : j < nr
        · obtain ⟨y, hy⟩ : ∃ y, x.t.rs[j]? = some y := ⟨_, List.getElem?_eq_getElem (by rw [HNR.out]; exact hlj)⟩
          obtain ⟨bb, off, rfl, hc⟩ := HJ.out j y hy
          have c2 := hc _ hb
          have hd : (x.t.rs.drop j).any (fun y => y == b) = ((y == b) || (x.t.rs.drop (j + 1)).any (fun y => y == b)) := by
            have hl := (List.getElem?_eq_some_iff.1 hy).1
            rw [List.drop_eq_getElem_cons hl, List.any_cons, (List.getElem?_eq_some_iff.1 hy).2]
          rw [hd] at hany
          have HBJ := Lib.hid hb; clear hb
          have hj0 : (0 : Int) ≤ (j : Int) := by omega
          have hjn : (j : Int) < (nr : Int) := by omega
          clear hd hc hy
          by_cases hyb : y = b
          · subst hyb
            have hfin : revokedB (L.map (·.t)) i y = true := by
              rw [HALL.out, HDROP.out, hany]; simp
            have HFIN := Lib.hid hfin; clear hfin hany
            go_wp2
            go_ret
            exact ⟨by rw [HFIN.out]; rfl, HBJ.out⟩
          · have hf : (y == b) = false := by simpa using hyb
            rw [hf, Bool.false_or] at hany
            have HANY := Lib.hid hany; clear hany hf
            go_wp2
            go_roundw
            case rel => exact ⟨j + 1, by omega, by go_num, HANY.out, HBJ.out⟩
            case measure => simp [intOf]; omega
        · obtain rfl : j = nr := by omega
          have hz : revokesB b x.t = false := by rw [hany, List.drop_of_length_le (by rw [HNR.out]; exact Nat.le_refl _)]; rfl
          have hnext : revokedB (L.map (·.t)) i b = ((L.map (·.t)).drop (k + 1)).any (revokesB b) := by rw [HALL.out, HDROP.out, hz, Bool.false_or]
          have HNEXT := Lib.hid hnext; clear hnext hz hany
          have HBJ := Lib.hid hb; clear hb
          go_wp2
          go_roundw
          case rel => exact ⟨k + 1, by omega, by omega, by go_num, HNEXT.out, HBJ.out⟩
          case measure => simp [intOf]; omega
    · obtain rfl : k = nl := by omega
      have hfin : revokedB (L.map (·.t)) i b = false := by rw [HALL.out, List.drop_of_length_le (by rw [List.length_map, HCNT.out]; exact Nat.le_refl _)]; rfl
      have HFIN := Lib.hid hfin; clear hfin
      have HB := Lib.hid hb; clear hb
      go_wp2
      go_ret
      exact ⟨by rw [HFIN.out]; rfl, HB.out⟩
end Go.Proofs.Ytgffcjceeiokfaa.Log
