/- The calls of the program's disk, each against the plain model: what it answers, what the disk is behind it, and that no other block turns. -/
import Derived.Test.YtelnoibfamcnmaaGreatDkFlush
import Derived.Maps.RangeWalk
namespace Go.Proofs.YtelnoibfamcnmaaGreat.Disk
set_option maxRecDepth 20000
open Go.RowKit
open Go.Proofs.YtelnoibfamcnmaaGreat.Mem
attribute [local go_sem ↓] Go.wp_at_zero Go.wp_at_succ ldW_eq stW_eq newW_eq mkW_eq oneW_eq

/-- An entry of the table is a block's last write. -/
theorem lastD_entry (x c : Int) : ∀ bs : List Nat, (∀ zd, (lastD bs).atKey (.int .i64 x) zd = .lit (.int .i64 c)) → ∃ i k : Nat, x = (i : Int) ∧ c = (k : Int) ∧ lastAt bs i = some k := by
  intro bs
  induction bs using rev_ind with
  | h0 =>
    intro h
    have := h .nil
    cases this
  | h1 l b ih =>
    intro h
    rw [lastD_snoc] at h
    by_cases e : (Lit.int .i64 x) = keyL b
    · have hx : x = (b : Int) := by unfold keyL at e; injection e
      have h1 := h .nil
      rw [e, Maps.atKey_put_same (lastD_isMap l) (by unfold keyL; trivial)] at h1
      unfold placeD at h1
      injection h1 with h1
      injection h1 with _ h1
      exact ⟨b, l.length, hx, h1.symm, by rw [lastAt_snoc, if_pos rfl]⟩
    · obtain ⟨i, k, hi, hk, hl⟩ := ih (fun zd => by have := h zd; rwa [Maps.atKey_put_other e] at this)
      refine ⟨i, k, hi, hk, ?_⟩
      rw [lastAt_snoc, if_neg (fun e' => e (by rw [hi, e']; rfl))]
      exact hl

/-- Byte j, those blocks being laid whose entries are no longer to come. -/
def imgByte (L : Low) (left : Lit → Bool) (j : Nat) : UInt8 := match lastAt (nums L.ws) (j / 256) with
  | some k => if left (keyL (j / 256)) then L.st.getD j 0 else (L.ws.getD k (0, [])).2.getD (j % 256) 0
  | none => L.st.getD j 0
def imgL (L : Low) (left : Lit → Bool) : List UInt8 := (List.range L.st.length).map (imgByte L left)
theorem imgL_len (L : Low) (left : Lit → Bool) : (imgL L left).length = L.st.length := by simp [imgL]
theorem imgL_start (L : Low) : imgL L (Maps.has (lastD (nums L.ws))) = L.st := by
  apply List.ext_getElem?
  intro j
  by_cases hj : j < L.st.length
  · simp only [imgL, List.getElem?_map, List.getElem?_range hj, Option.map_some]
    rw [List.getElem?_eq_getElem hj]
    congr 1
    unfold imgByte
    have hg : L.st.getD j 0 = L.st[j] := by rw [List.getD_eq_getElem?_getD, List.getElem?_eq_getElem hj]; rfl
    rw [lastD_has]
    cases lastAt (nums L.ws) (j / 256) with
    | none => exact hg
    | some k => simpa using hg
  · rw [List.getElem?_eq_none (by rw [imgL_len]; omega), List.getElem?_eq_none (by omega)]
theorem keyL_same (a b : Nat) : (keyL a).sameKey (keyL b) = decide (a = b) := by
  by_cases h : a = b
  · subst h; simp; exact WideAt.sameKey_self (by unfold keyL; trivial)
  · rw [Maps.sameKey_ne (by rw [Ne, key_inj]; exact h)]; simp [h]
theorem imgL_step (L : Low) (left : Lit → Bool) (i k n : Nat) (hn : L.st.length = 256 * n) (hi : i < n) (hl : lastAt (nums L.ws) i = some k) (hx : (L.ws.getD k (0, [])).2.length = 256) :
    splice (imgL L left) (i * 256) (L.ws.getD k (0, [])).2 = imgL L (fun z => left z && !z.sameKey (keyL i)) := by
  apply List.ext_getElem?
  intro j
  rw [splice_get _ _ _ (by rw [imgL_len]; omega), hx]
  by_cases hj : j < L.st.length
  · have e1 : ∀ left, (imgL L left)[j]? = some (imgByte L left j) := fun left => by
      simp only [imgL, List.getElem?_map, List.getElem?_range hj, Option.map_some]
    rw [e1, e1]
    by_cases h1 : j < i * 256
    · rw [if_pos h1]
      have hne : j / 256 ≠ i := by omega
      simp [imgByte, keyL_same, hne]
    · rw [if_neg h1]
      by_cases h2 : j < i * 256 + 256
      · rw [if_pos h2]
        have he : j / 256 = i := by omega
        have hm : j - i * 256 = j % 256 := by omega
        have hlt : j % 256 < (L.ws.getD k (0, [])).2.length := by omega
        simp only [imgByte, he, hl, keyL_same, hm]
        generalize (L.ws.getD k (0, [])).2 = y at hlt ⊢
        simp [List.getElem?_eq_getElem hlt]
      · rw [if_neg h2]
        have hne : j / 256 ≠ i := by omega
        simp [imgByte, keyL_same, hne]
  · rw [if_neg (by omega), if_neg (by omega), List.getElem?_eq_none (by rw [imgL_len]; omega), List.getElem?_eq_none (by rw [imgL_len]; omega)]
set_option maxRecDepth 100000 in
set_option maxHeartbeats 2000000 in
theorem image_any (L : Low) (p m n : Nat) (vs vw : Value) (w : World) (h : LowAt w p L vs vw m) (hn : L.st.length = 256 * n) (h1 : 1 ≤ n) (hm : n ≤ 1024) (hx : ∀ x ∈ L.ws, x.1 < n ∧ x.2.length = 256) (hw : L.ws.length ≤ 1048576) :
    Calls Tryz.prog 15 #[.pointer (some ⟨p, 0, none⟩)] w (Made w (imgL L (fun _ => false))) := by
  have c0 := h.f0
  obtain ⟨A, c, hvs, hh⟩ := h.st.holds
  rcases A with _ | a
  · obtain ⟨b, off, e, _⟩ := hh.2 (by omega)
    cases e
  subst hvs
  have HN := Lib.hid hn; clear hn
  have H := Lib.hid h; clear h
  go_enter Tryz.func15, Tryz.ntmps15
  go_wp2_with fail
  refine (clone_any a L.st.length c w.heap.size L.st w hh (by have := HN.out; omega) (Nat.le_refl _)).mono ?_
  rintro e w1 ⟨A', c', rfl, ho, hb1⟩
  obtain ⟨g, cap, cur, hv, hg, hc1, hc2, hc3, hc4⟩ := Row.cut (w := w1) (e := 5) (size := 1) (v := .slice A' L.st.length c') (n := L.st.length) (xs := L.st.map byteV) ⟨ho.1, by
    rcases ho.2 with e | ⟨g, cap, cur, e1, e2, r⟩
    · exact .inl e
    · exact .inr ⟨g, cap, cur, e1, Nat.zero_le _, r⟩⟩ (by have := HN.out; omega)
  have hgw : w.heap.size ≤ g := Owned.base_le ho g (by rw [hv]; rfl)
  injection hv with e1 _ e2
  subst e1 e2
  clear ho
  have hL1 : LowAt w1 p L (.slice (some a) L.st.length c) vw m := H.out.turns (F := fun _ => False) (Turns.of_below hb1) (fun _ _ e => e)
  have d3 := hL1.f3
  have hM := hL1.last
  have HL1 := Lib.hid hL1; clear hL1
  have HB1 := Lib.hid hb1; clear hb1
  have HG := Lib.hid hg; clear hg
  have HC4 := Lib.hid hc4; clear hc4
  have HC3 := Lib.hid hc3; clear hc3
  clear hh
  go_wp2_with (first
    | (at_range; refine wpList_range_own _ rfl _ 78 rfl 3 3 intKey Tryz.underlying78 _ m _ _ rfl hM ?_; intro w2 hrg0 hg0 hs0)
    | fail)
  go_frame
  have hgl : g < w1.heap.size := (Array.getElem?_eq_some_iff.1 HG.out).1
  have hfl := H.out.foot_lt
  have HFL := Lib.hid hfl; clear hfl
  have HX := Lib.hid hx; clear hx
  clear c0 d3 hM
  go_loopw [4, 5] (fun _ _ wr => ∃ (left : Lit → Bool) (cnt : Nat) (cu : Array Value), wr.ranges Tryz.prog 3 (plainElem Tryz.prog 3) m w1.heap.size L.ws.length (lastD (nums L.ws)) left cnt ∧ wr.heap[g]? = some (.cells cu 5 (0, 0)) ∧
      cu.size = c' * 1 ∧ cu.toList.take (L.st.length * 1) = (imgL L left).map byteV ∧ Turns (fun k => k = g ∨ k = w1.heap.size) w1 wr) (fun _ _ wr => wr.rangeLeft m w1.heap.size)
  case atStart =>
    exact ⟨_, _, cur, hrg0, (hg0.block g hgl (by simp)).trans HG.out, HC3.out, by rw [HC4.out, imgL_start], (Turns.refl _ w1).grown hg0 (fun k hk => by cases hk)⟩
  case round =>
    obtain ⟨left, cnt, cu, hrg, hgc, hcs, hct, hT⟩ := hrel
    have HGC := Lib.hid hgc; clear hgc
    have HCS := Lib.hid hcs; clear hcs
    have HCT := Lib.hid hct; clear hct
    have HT := Lib.hid hT; clear hT
    go_wp2_with (first
      | (at_next; refine wpList_next_ranges_ii _ rfl _ rfl 3 3 .i64 .i64 intKey Tryz.underlying3 Tryz.underlying3 m w1.heap.size _ _ _ _ rfl hrg ?_ ?_)
      | fail)
    · intro hc0 hl0
      have HL0 := Lib.hid hl0; clear hl0
      clear hrg hc0
      go_wp2
      go_ret
      have el : left = fun _ => false := funext HL0.out
      have hct := HCT.out
      rw [el] at hct
      refine ⟨some ⟨g, 0, none⟩, c', by rw [imgL_len]; rfl, ?_, ?_⟩
      · rw [imgL_len]
        refine ⟨by rw [imgL_len, List.length_map, imgL_len]; omega, .inr ⟨g, c', cu, by rw [imgL_len], hgw, HGC.out, by rw [imgL_len]; exact hc1, hc2, HCS.out, by rw [imgL_len]; exact hct⟩⟩
      · exact HB1.out.trans (HT.out.below (B := w.heap.size) (fun k e => by
          rcases e with e | e
          · omega
          · have := HB1.out.size; omega) HB1.out.size)
    · intro x c w3 cnt1 hwx hwc hlx hat hrg1 hlt hg1 hs1 hen
      obtain ⟨i, k, rfl, rfl, hla⟩ := lastD_entry x c _ hat
      have HAT := Lib.hid hat; clear hat
      obtain ⟨hkl, hki⟩ := lastAt_lt _ _ _ hla
      rw [nums, List.length_map] at hkl
      have hwi : (L.ws[k]).1 = i := by
        rw [nums, List.getElem?_map, List.getElem?_eq_getElem hkl] at hki
        exact Option.some.inj hki
      have hxk := HX.out _ (List.getElem_mem hkl)
      have hin : i < n := by rw [← hwi]; exact hxk.1
      have hgd : L.ws.getD k (0, []) = L.ws[k] := by rw [List.getD_eq_getElem?_getD, List.getElem?_eq_getElem hkl]; rfl
      have hT3 : Turns (fun k => k = g ∨ k = w1.heap.size) w1 w3 := HT.out.grown hg1 (fun k hk _ => .inr (by injection hk with hk; exact hk.symm))
      have hL3 := HL1.out.turns hT3 (fun k hk e => by
        have := HFL.out k hk
        have := HB1.out.size
        rcases e with e | e <;> omega)
      have d1 := hL3.f1
      obtain ⟨g2, cap2, cur2, hv2, hgg, -, -, e3, e4⟩ := hL3.ws.cut (show 0 < L.ws.length by omega)
      subst hv2
      have hr0 := writes_range hgg e4 e3 (fun x hx => (HX.out x hx).2) k hkl
      have hgc3 : w3.heap[g]? = some (.cells cu 5 (0, 0)) := by
        rw [hg1.block g (by have := HT.out.size; omega) (fun e => by injection e with e; omega)]; exact HGC.out
      have hlen : (L.ws[k]).2.length = 256 := hxk.2
      obtain ⟨cs, hcsd⟩ : ∃ cs, cs = (L.ws[k]).2.map byteV := ⟨_, rfl⟩
      have hcl : cs.length = 256 := by rw [hcsd, List.length_map, hlen]
      have hsrc : ∀ j v, cs[j]? = some v → w3.drew.cell? ((⟨g2, k * 257 + 1, none⟩ : Addr).add j) = some v := by
        intro j v hv
        rw [Addr.add_mid]
        have := hr0 (j + 1) v (by rw [wcells, List.getElem?_cons_succ, ← hcsd]; exact hv)
        rw [show k * 257 + 1 + j = k * 257 + (j + 1) by omega]
        exact this
      have hone : ∀ v ∈ cs, v.oneCell' = true := by
        intro v hv; rw [hcsd] at hv; obtain ⟨u, _, rfl⟩ := List.mem_map.1 hv; rfl
      have q1 := fun W => run_slice_from W g L.st.length c' (i * 256) ((i : Int) * 256) (by omega) (by have := HN.out; omega) hc1
      have q2 := fun W => run_sliceAt_from W g L.st.length c' (i * 256) ((i : Int) * 256) (by omega) (by have := HN.out; omega) hc1
      have hk1 : (0 : Int) ≤ (k : Int) := by omega
      have hk2 : (k : Int) < (L.ws.length : Int) := by omega
      have ei : IntKind.i64.wrap ((i : Int) * 256) = (i : Int) * 256 := IntWalk.i64_in _ (by omega)
      have hmin : cs.length = Nat.min 256 (L.st.length - i * 256) := by rw [hcl]; exact (Nat.min_eq_left (by have := HN.out; omega)).symm
      have hfit : i * 256 + cs.length ≤ cu.size := by have := HCS.out; have := HN.out; omega
      have hpg : p ≠ g := fun e => by
        have := HFL.out p (.inl rfl); omega
      have HD : Hid (w3.drew.heap[g]? = some (.cells cu 5 (0, 0))) := Lib.hid hgc3
      have HK1 : Hid ((w3.drew.setRow g (splice cu.toList (i * 256) cs).toArray).cell? ⟨p, 1, none⟩ = some (.slice (some ⟨g2, 0, none⟩) L.ws.length cap2)) := Lib.hid ((World.cell?_of_block (w := w3) (setRow_other w3.drew g p _ hpg)).trans d1)
      have HMI := Lib.hid hmin; clear hmin
      have HSR := Lib.hid hsrc; clear hsrc
      have HON := Lib.hid hone; clear hone
      have HCD := Lib.hid hcsd; clear hcsd
      have HCL := Lib.hid hcl; clear hcl
      have HLA := Lib.hid hla; clear hla
      have HT3 := Lib.hid hT3; clear hT3
      have HL3 := Lib.hid hL3; clear hL3
      have HLEN := Lib.hid hlen; clear hlen
      have HGD := Lib.hid hgd; clear hgd
      have HRG := Lib.hid hrg1; clear hrg1
      have HRG0 := Lib.hid hrg; clear hrg
      have HG1 := Lib.hid hg1; clear hg1
      have HS1 := Lib.hid hs1; clear hs1
      clear hr0 hgg e3 e4 hgc3 hxk hki hwi
      go_wp2
      go_region_held3 (fun w' => w'.cell? ⟨p, 1, none⟩ = some (.slice (some ⟨g2, 0, none⟩) L.ws.length cap2)) (first | go_keep | exact HK1.out)
        ((refine step_copy_row rfl (.tmp 26) (.tmp 34) 25 25 rfl 5 Tryz.underlying25 info_byte g (i * 256) _ _ ⟨g2, k * 257 + 1, none⟩ _ _ rfl rfl cu 5 HD.out cs HMI.out HSR.out hfit HON.out ?_))
      go_wp2
      have hcg : (w3.drew.setRow g (splice cu.toList (i * 256) cs).toArray).heap[g]? = some (.cells (splice cu.toList (i * 256) cs).toArray 5 (0, 0)) := setRow_heap _ _ _ _ _ _ HD.out
      have hgt : w3.grownBy (w3.drew.setRow g (splice cu.toList (i * 256) cs).toArray) (some g) := ⟨rfl, rfl, rfl, by simp, fun k _ hk => setRow_other w3.drew _ _ _ (fun e => hk (by rw [e]))⟩
      have hmg : m ≠ g := fun e => by
        have := HFL.out m (.inr (.inl rfl)); omega
      have hrn := World.ranges.kept HRG.out hgt (fun e => by injection e with e; exact hmg e) (fun e => by injection e with e; omega)
      have hTn : Turns (fun k => k = g ∨ k = w1.heap.size) w1 (w3.drew.setRow g (splice cu.toList (i * 256) cs).toArray) := HT3.out.drew.setRow g _ (fun _ => .inl rfl)
      go_roundw
      case rel =>
        refine ⟨_, cnt1, _, hrn, hcg, ?_, ?_, hTn⟩
        · rw [List.size_toArray, length_splice _ _ _ (by simpa using hfit)]; simpa using HCS.out
        · have hst := imgL_step L left i k n HN.out hin HLA.out (by rw [HGD.out]; exact HLEN.out)
          rw [List.toList_toArray, splice_take _ _ _ _ (by have := HCL.out; have := HN.out; omega) (by have := HCS.out; simp; omega), HCT.out, HCD.out]
          have e : imgL L (fun z => left z && !z.sameKey (Lit.int .i64 (i : Int))) = splice (imgL L left) (i * 256) (L.ws[k]).2 := by
            rw [← HGD.out]; exact hst.symm
          rw [e]
          simp [splice, List.map_take, List.map_drop]
      case measure =>
        rw [hrn.left_eq, HRG0.out.left_eq]; exact hlt
end Go.Proofs.YtelnoibfamcnmaaGreat.Disk

namespace Go.Proofs.YtelnoibfamcnmaaGreat.Disk
set_option maxRecDepth 20000
open Go.Proofs.YtelnoibfamcnmaaGreat.Mem

theorem flat_idx (l : List (List UInt8)) (h : ∀ b ∈ l, b.length = 256) (j : Nat) : l.flatten[j]? = (l[j / 256]?).bind (fun b => b[j % 256]?) := by
  induction l generalizing j with
  | nil => simp
  | cons b r ih =>
    have hb := h b (by simp)
    rw [List.flatten_cons]
    by_cases hj : j < 256
    · rw [List.getElem?_append_left (by omega), show j / 256 = 0 by omega, show j % 256 = j by omega]; simp
    · rw [List.getElem?_append_right (by omega), hb, ih (fun x hx => h x (by simp [hx])), show j / 256 = (j - 256) / 256 + 1 by omega, show (j - 256) % 256 = j % 256 by omega, List.getElem?_cons_succ]
theorem flat_size (l : List (List UInt8)) (h : ∀ b ∈ l, b.length = 256) : l.flatten.length = 256 * l.length := by
  induction l with
  | nil => rfl
  | cons b r ih =>
    have := ih (fun x hx => h x (by simp [hx]))
    have hb := h b (by simp)
    simp only [List.flatten_cons, List.length_append, List.length_cons]
    omega
theorem flat_block (l : List (List UInt8)) (h : ∀ b ∈ l, b.length = 256) (i : Nat) (hi : i < l.length) : (l.flatten.drop (i * 256)).take 256 = l.getD i [] := by
  have hg : l.getD i [] = l[i] := by rw [List.getD_eq_getElem?_getD, List.getElem?_eq_getElem hi]; rfl
  have hl := h _ (List.getElem_mem hi)
  rw [hg]
  apply List.ext_getElem?
  intro j
  rw [List.getElem?_take]
  by_cases hj : j < 256
  · rw [if_pos hj, List.getElem?_drop, flat_idx l h, show (i * 256 + j) / 256 = i by omega, show (i * 256 + j) % 256 = j by omega, List.getElem?_eq_getElem hi]; rfl
  · rw [if_neg hj, List.getElem?_eq_none (by omega)]

set_option maxRecDepth 20000 in
theorem splice_flat (l : List (List UInt8)) (h : ∀ b ∈ l, b.length = 256) (i off : Nat) (cs : List UInt8) (hi : i < l.length) (ho : off + cs.length ≤ 256) :
    splice l.flatten (i * 256 + off) cs = (l.set i (splice (l.getD i []) off cs)).flatten := by
  have hg : l.getD i [] = l[i] := by rw [List.getD_eq_getElem?_getD, List.getElem?_eq_getElem hi]; rfl
  have hl := h _ (List.getElem_mem hi)
  rw [hg]
  have hs : (splice l[i] off cs).length = 256 := by rw [length_splice _ _ _ (by omega), hl]
  have hf := flat_size l h
  have h' : ∀ b ∈ l.set i (splice l[i] off cs), b.length = 256 := by
    intro b hb
    rcases List.mem_or_eq_of_mem_set hb with hb | hb
    · exact h b hb
    · rw [hb]; exact hs
  apply List.ext_getElem?
  intro j
  rw [splice_get _ _ _ (by omega), flat_idx l h, flat_idx _ h', List.getElem?_set]
  by_cases hj : j / 256 = i
  · subst hj
    rw [if_pos (show j / 256 = j / 256 from rfl), if_pos hi, List.getElem?_eq_getElem hi, Option.bind_some, Option.bind_some]
    rw [splice_get _ _ _ (by omega)]
    by_cases h1 : j < j / 256 * 256 + off
    · rw [if_pos h1, if_pos (show j % 256 < off by omega)]
    · rw [if_neg h1, if_neg (show ¬ j % 256 < off by omega)]
      by_cases h2 : j < j / 256 * 256 + off + cs.length
      · rw [if_pos h2, if_pos (show j % 256 < off + cs.length by omega)]; congr 1; omega
      · rw [if_neg h2, if_neg (show ¬ j % 256 < off + cs.length by omega)]
  · rw [if_neg (show ¬ i = j / 256 from fun e => hj e.symm)]
    by_cases h1 : j < i * 256 + off
    · rw [if_pos h1]
    · have h2 : ¬ j < i * 256 + off + cs.length := by
        clear h h' hl hs hf hg
        have hq := Nat.div_add_mod j 256
        have hr := Nat.mod_lt j (show 0 < 256 by omega)
        generalize j / 256 = q at hj hq
        generalize j % 256 = r at hq hr
        rcases Nat.lt_or_gt_of_ne hj with h3 | h3 <;> omega
      rw [if_neg h1, if_neg h2]

theorem laid_whole (l : List (List UInt8)) (h : ∀ b ∈ l, b.length = 256) (x : Wr) (hx : x.1 < l.length) (hl : x.2.length = 256) : laid l.flatten x 0 4 = (l.set x.1 x.2).flatten := by
  have e := splice_flat l h x.1 0 x.2 hx (by omega)
  unfold laid
  have e0 : (x.2.drop (0 * 64)).take (4 * 64 - 0 * 64) = x.2 := by rw [Nat.zero_mul, List.drop_zero]; exact List.take_of_length_le (by omega)
  rw [e0, Nat.zero_mul, e]
  congr 2
  unfold splice
  have hg : (l.getD x.1 []).length = 256 := by
    rw [List.getD_eq_getElem?_getD, List.getElem?_eq_getElem hx]; exact h _ (List.getElem_mem hx)
  rw [List.drop_eq_nil_of_le (by omega)]
  simp
theorem laid_sect (l : List (List UInt8)) (h : ∀ b ∈ l, b.length = 256) (x : Wr) (hx : x.1 < l.length) (hl : x.2.length = 256) (s : Nat) (hs : s < 4) :
    laid l.flatten x s (s + 1) = (l.set x.1 (Dk.sect (l.getD x.1 []) x.2 s)).flatten := by
  have hcl : ((x.2.drop (s * 64)).take 64).length = 64 := by simp; omega
  have e := splice_flat l h x.1 (s * 64) ((x.2.drop (s * 64)).take 64) hx (by omega)
  unfold laid
  rw [show (s + 1) * 64 - s * 64 = 64 by omega, e]
  congr 2
  unfold splice Dk.sect
  rw [hcl, Nat.mul_comm 64 s, List.append_assoc]

/-- The sectors of one write, one by one. -/
theorem tearL_flat (bits : List UInt8) (k : Nat) (x : Wr) (l : List (List UInt8)) (h : ∀ b ∈ l, b.length = 256) (hx : x.1 < l.length) (hl : x.2.length = 256) : ∀ s, s ≤ 4 →
    tearL bits k x l.flatten s = (l.set x.1 (Dk.tear bits k x.2 s (l.getD x.1 []))).flatten
  | 0, _ => by
    show l.flatten = (l.set x.1 (l.getD x.1 [])).flatten
    rw [List.getD_eq_getElem?_getD, List.getElem?_eq_getElem hx]
    show _ = (l.set x.1 l[x.1]).flatten
    rw [List.set_getElem_self]
  | s + 1, hs => by
    have hg : (l.getD x.1 []).length = 256 := by
      rw [List.getD_eq_getElem?_getD, List.getElem?_eq_getElem hx]; exact h _ (List.getElem_mem hx)
    have ih := tearL_flat bits k x l h hx hl s (by omega)
    show (if Dk.bit bits (4 * k + s) = true then laid (tearL bits k x l.flatten s) x s (s + 1) else tearL bits k x l.flatten s) = (l.set x.1 (if Dk.bit bits (4 * k + s) = true then Dk.sect (Dk.tear bits k x.2 s (l.getD x.1 [])) x.2 s else Dk.tear bits k x.2 s (l.getD x.1 []))).flatten
    rw [ih]
    split
    · have ht := Dk.tear_len bits k x.2 hl s (l.getD x.1 []) (by omega) hg
      have h' := Dk.set_len l x.1 _ h ht
      rw [laid_sect _ h' x (by simpa using hx) hl s (by omega)]
      rw [List.set_set]
      congr 3
      rw [List.getD_eq_getElem?_getD, List.getElem?_set_self hx]; rfl
    · rfl

theorem take_snoc {α : Type} (l : List α) (k : Nat) (hk : k < l.length) : l.take (k + 1) = l.take k ++ [l[k]] := by
  rw [List.take_succ_eq_append_getElem hk]
theorem getD_at {l : List Wr} {k : Nat} (hk : k < l.length) : l.getD k (0, []) = l[k] := by rw [List.getD_eq_getElem?_getD, List.getElem?_eq_getElem hk]; rfl

theorem apply_snoc (st : List Dk.Blk) (ws : List Wr) (x : Wr) : Dk.applyAll st (ws ++ [x]) = (Dk.applyAll st ws).set x.1 x.2 := by
  unfold Dk.applyAll; rw [List.foldl_append]; rfl
theorem crash_snoc (bits : List UInt8) (x : Wr) : ∀ (ws : List Wr) (k : Nat) (st : List Dk.Blk), Dk.crashFrom bits k st (ws ++ [x]) =
    (Dk.crashFrom bits k st ws).set x.1 (Dk.tear bits (k + ws.length) x.2 4 ((Dk.crashFrom bits k st ws).getD x.1 []))
  | [], _, _ => rfl
  | w :: r, k, st => by
    show Dk.crashFrom bits (k + 1) _ (r ++ [x]) = _
    rw [crash_snoc bits x r (k + 1), List.length_cons, show k + 1 + r.length = k + (r.length + 1) by omega]
    rfl
theorem flushL_flat (ws : List Wr) (st : List Dk.Blk) (h : ∀ b ∈ st, b.length = 256) (hw : ∀ w ∈ ws, w.1 < st.length ∧ w.2.length = 256) : ∀ k, k ≤ ws.length → flushL ws st.flatten k = (Dk.applyAll st (ws.take k)).flatten
  | 0, _ => rfl
  | k + 1, hk => by
    have hx := hw _ (List.getElem_mem (show k < ws.length by omega))
    unfold flushL
    rw [flushL_flat ws st h hw k (by omega), getD_at (by omega), take_snoc ws k (by omega), apply_snoc]
    exact laid_whole _ (Dk.apply_ok _ _ h (fun w hw' => (hw w (List.mem_of_mem_take hw')).2)) _ (by rw [Dk.apply_len]; exact hx.1) hx.2
theorem crashL_flat (bits : List UInt8) (ws : List Wr) (st : List Dk.Blk) (h : ∀ b ∈ st, b.length = 256) (hw : ∀ w ∈ ws, w.1 < st.length ∧ w.2.length = 256) : ∀ k, k ≤ ws.length →
    crashL bits ws st.flatten k = (Dk.crashFrom bits 0 st (ws.take k)).flatten
  | 0, _ => rfl
  | k + 1, hk => by
    have hx := hw _ (List.getElem_mem (show k < ws.length by omega))
    unfold crashL
    rw [crashL_flat bits ws st h hw k (by omega), getD_at (by omega), take_snoc ws k (by omega), crash_snoc, List.length_take, Nat.min_eq_left (by omega), Nat.zero_add]
    exact tearL_flat bits k _ _ (Dk.crash_all bits _ _ _ h (fun w hw' => hw w (List.mem_of_mem_take hw'))) (by rw [Dk.crash_len]; exact hx.1) hx.2 4 (by omega)

/-! ### Which writes stay pending -/
/-! ### What is read -/
theorem last_at (b : List UInt8) (i : Nat) (ws : List Wr) : Dk.last b ws i = match lastAt (nums ws) i with
    | some k => match ws[k]? with
      | some x => x.2
      | none => []
    | none => b := by
  induction ws using rev_ind with
  | h0 => rfl
  | h1 l x ih =>
    rw [Dk.last_snoc]
    simp only [nums, List.map_append, List.map_cons, List.map_nil]
    rw [lastAt_snoc, List.length_map]
    by_cases h : x.1 = i
    · rw [if_pos h, if_pos h]; simp
    · rw [if_neg h, if_neg h, ih]
      cases hl : lastAt (List.map (fun x => x.1) l) i with
      | none => simp [nums, hl]
      | some k =>
        have := (lastAt_lt _ _ _ hl).1
        rw [List.length_map] at this
        simp [nums, hl, List.getElem?_append_left this]

/-- The program's blocks hold this disk; so many writes at most. -/
structure Rep (L : Low) (d : Dk.Dk) (c : Nat) : Prop where
  st : L.st = d.stable.flatten
  pend : L.pend = d.pend.length
  pre : L.ws.take L.pend = d.pend
  post : ∀ b i, Dk.last b (L.ws.drop L.pend) i = Dk.last b d.ghosts i
  fused : L.fused = d.fuse.isSome
  left : L.left = d.fuse.getD 0
  ok : d.Ok
  big : 1 ≤ d.stable.length ∧ d.stable.length ≤ 1024
  each : ∀ x ∈ L.ws, x.1 < d.stable.length ∧ x.2.length = 256
  few : L.ws.length ≤ c
  fits : L.left ≤ 9223372036854775807

theorem Rep.size {L : Low} {d : Dk.Dk} {c : Nat} (h : Rep L d c) : L.st.length = 256 * d.stable.length := by rw [h.st]; exact flat_size _ h.ok.len
theorem Rep.blown {L : Low} {d : Dk.Dk} {c : Nat} (h : Rep L d c) : L.blown = d.blown := by
  unfold Low.blown Dk.Dk.blown
  rw [h.fused, h.left]
  cases d.fuse with
  | none => rfl
  | some k =>
    simp
    rw [Bool.eq_iff_iff]; simp
theorem Rep.le {L : Low} {d : Dk.Dk} {c : Nat} (h : Rep L d c) : L.pend ≤ L.ws.length := by
  have := congrArg List.length h.pre
  rw [List.length_take, ← h.pend] at this
  omega
theorem Rep.all {L : Low} {d : Dk.Dk} {c : Nat} (h : Rep L d c) (hb : d.blown = false) : L.ws = d.pend := by
  have hg := h.ok.none d hb
  have hd : L.ws.drop L.pend = [] := by
    cases he : L.ws.drop L.pend with
    | nil => rfl
    | cons x r =>
      have h1 := h.post [] x.1
      have h2 := h.post [0] x.1
      rw [he, hg] at h1 h2
      rw [Dk.last_cons, if_pos rfl] at h1 h2
      rw [h1] at h2
      cases h2
  have := List.take_append_drop L.pend L.ws
  rw [hd, List.append_nil, h.pre] at this
  exact this.symm
theorem Rep.last_all {L : Low} {d : Dk.Dk} {c : Nat} (h : Rep L d c) (b : List UInt8) (i : Nat) : Dk.last b L.ws i = Dk.last (Dk.last b d.pend i) d.ghosts i := by
  rw [← h.post, ← Dk.last_append]
  have := List.take_append_drop L.pend L.ws
  rw [h.pre] at this
  rw [this]
theorem Rep.read {L : Low} {d : Dk.Dk} {c : Nat} (h : Rep L d c) (i : Nat) (hi : i < d.stable.length) : readL L i = d.read i := by
  unfold Dk.Dk.read
  rw [← h.last_all, last_at]
  unfold readL
  rw [h.st, flat_block _ h.ok.len i hi]
  cases lastAt (nums L.ws) i <;> rfl
theorem Rep.image {L : Low} {d : Dk.Dk} {c : Nat} (h : Rep L d c) : imgL L (fun _ => false) = d.image.flatten := by
  have hl : ∀ b ∈ d.image, b.length = 256 := by
    intro b hb
    obtain ⟨i, hi, rfl⟩ := List.mem_map.1 hb
    exact Dk.read_len d h.ok i (List.mem_range.1 hi)
  have hs := h.size
  apply List.ext_getElem?
  intro j
  rw [flat_idx _ hl]
  by_cases hj : j < L.st.length
  · have hb : j / 256 < d.stable.length := by omega
    have e1 : (imgL L fun _ => false)[j]? = some (imgByte L (fun _ => false) j) := by
      simp only [imgL, List.getElem?_map, List.getElem?_range hj, Option.map_some]
    have e2 : d.image[j / 256]? = some (d.read (j / 256)) := by
      simp only [Dk.Dk.image, List.getElem?_map, List.getElem?_range hb, Option.map_some]
    rw [e1, e2, Option.bind_some, ← h.read _ hb]
    have hlen : (readL L (j / 256)).length = 256 := by rw [h.read _ hb]; exact Dk.read_len d h.ok _ hb
    rw [List.getElem?_eq_getElem (by omega)]
    congr 1
    have e3 : (readL L (j / 256)).getD (j % 256) 0 = (readL L (j / 256))[j % 256]'(by omega) := by
      rw [List.getD_eq_getElem?_getD, List.getElem?_eq_getElem (by omega)]; rfl
    rw [← e3]
    unfold imgByte readL
    cases hla : lastAt (nums L.ws) (j / 256) with
    | none =>
      simp only [List.getD_eq_getElem?_getD, List.getElem?_take, List.getElem?_drop]
      rw [if_pos (show j % 256 < 256 by omega), show j / 256 * 256 + j % 256 = j by omega]
    | some k =>
      have hk := (lastAt_lt _ _ _ hla).1
      rw [nums, List.length_map] at hk
      simp only [getD_at hk, List.getElem?_eq_getElem hk]
      simp
  · rw [List.getElem?_eq_none (by rw [imgL_len]; omega), List.getElem?_eq_none (by simp [Dk.Dk.image]; omega)]; rfl
end Go.Proofs.YtelnoibfamcnmaaGreat.Disk

namespace Go.Proofs.YtelnoibfamcnmaaGreat.Disk
set_option maxRecDepth 20000
open Go.RowKit
open Go.Proofs.YtelnoibfamcnmaaGreat.Mem

/-- The program's disk, at block p: it is this disk of the plain model; so many writes at most; it owns the blocks F. -/
def DiskAt (w : World) (p : Nat) (d : Dk.Dk) (c : Nat) (F : Nat → Prop) : Prop := ∃ L vs vw m, LowAt w p L vs vw m ∧ Rep L d c ∧ ∀ k, F k ↔ Foot p m vs vw k
def ptr (p : Nat) : Value := .pointer (some ⟨p, 0, none⟩)

theorem DiskAt.lt {w : World} {p c : Nat} {d : Dk.Dk} {F : Nat → Prop} (h : DiskAt w p d c F) (k : Nat) (hk : F k) : k < w.heap.size := by
  obtain ⟨L, vs, vw, m, hL, _, hF⟩ := h
  exact hL.foot_lt k ((hF k).1 hk)
theorem DiskAt.turns {w w' : World} {p c : Nat} {d : Dk.Dk} {F G : Nat → Prop} (h : DiskAt w p d c F) (ht : Turns G w w') (hn : ∀ k, F k → ¬ G k) : DiskAt w' p d c F := by
  obtain ⟨L, vs, vw, m, hL, hR, hF⟩ := h
  exact ⟨L, vs, vw, m, hL.turns ht (fun k hk => hn k ((hF k).2 hk)), hR, hF⟩
theorem DiskAt.more {w : World} {p c c' : Nat} {d : Dk.Dk} {F : Nat → Prop} (h : DiskAt w p d c F) (hc : c ≤ c') : DiskAt w p d c' F := by
  obtain ⟨L, vs, vw, m, hL, hR, hF⟩ := h
  exact ⟨L, vs, vw, m, hL, { hR with few := Nat.le_trans hR.few hc }, hF⟩
theorem DiskAt.ok {w : World} {p c : Nat} {d : Dk.Dk} {F : Nat → Prop} (h : DiskAt w p d c F) : d.Ok ∧ 1 ≤ d.stable.length ∧ d.stable.length ≤ 1024 := by
  obtain ⟨L, vs, vw, m, hL, hR, hF⟩ := h
  exact ⟨hR.ok, hR.big⟩

/-- The disk behind a call: what the call answered, and that only its own blocks turned. -/
def Now (w : World) (p : Nat) (d : Dk.Dk) (c : Nat) (F : Nat → Prop) (r : Value) (e : Ending) (w' : World) : Prop :=
  ∃ F', e = .returned r ∧ DiskAt w' p d c F' ∧ (∀ k, F' k → F k ∨ w.heap.size ≤ k) ∧ Turns F w w'

theorem rep_fresh (n c : Nat) (h1 : 1 ≤ n) (h2 : n ≤ 1024) : Rep (freshL n) (Dk.Dk.new n) c := by
  refine ⟨?_, rfl, rfl, fun _ _ => rfl, rfl, rfl, Dk.new_ok n, ?_, (fun x hx => by cases hx), Nat.zero_le _, by simp [freshL]⟩
  · have hz : ∀ b ∈ (Dk.Dk.new n).stable, b.length = 256 := (Dk.new_ok n).len
    apply List.ext_getElem?
    intro j
    rw [flat_idx _ hz]
    simp only [freshL, Dk.Dk.new, List.getElem?_replicate]
    by_cases hj : j < 256 * n
    · rw [if_pos hj, if_pos (by omega)]
      rw [Option.bind_some]
      unfold Dk.zeros
      rw [List.getElem?_replicate, if_pos (by omega)]
    · rw [if_neg hj, if_neg (by omega)]; rfl
  · simp [Dk.Dk.new]; omega

/-- A disk and OK, its blocks being new. -/
def NewAt (w : World) (d : Dk.Dk) (c : Nat) (e : Ending) (w' : World) : Prop := ∃ p F, e = .returned (.tuple #[ptr p, .int .i64 0]) ∧ DiskAt w' p d c F ∧ (∀ k, F k → w.heap.size ≤ k) ∧ Below w.heap.size w w'
theorem new_d (i : Int) (n c : Nat) (w : World) (hi : i = (n : Int)) (h1 : 1 ≤ n) (h2 : n ≤ 1024) : Calls Tryz.prog 17 #[.int .i64 i] w (NewAt w (Dk.Dk.new n) c) :=
  (new_ok i n w hi h1 h2).mono fun _ _ ⟨p, m, vs, vw, he, hL, hF, hB⟩ => ⟨p, Foot p m vs vw, he, ⟨freshL n, vs, vw, m, hL, rep_fresh n c h1 h2, fun _ => Iff.rfl⟩, hF, hB⟩

theorem rep_write {L : Low} {d : Dk.Dk} {c : Nat} (h : Rep L d c) (hb : d.blown = false) (i : Nat) (data : List UInt8) (hi : i < d.stable.length) (hl : data.length = 256) :
    Rep (Low.burnt { L with ws := L.ws ++ [(i, data)], pend := L.pend + 1 }) (d.write i data) (c + 1) := by
  have hall := h.all hb
  have hg := h.ok.none d hb
  have hok := Dk.write_ok d h.ok i data hi hl
  have hsz := Dk.size_write d i data
  have e : d.write i data = { d with pend := d.pend ++ [(i, data)], fuse := d.fuse.map (· - 1) } := by unfold Dk.Dk.write; rw [if_neg (by simp [hb])]
  rw [e] at hok hsz ⊢
  have hf := h.fused
  have hlf := h.left
  have hfi := h.fits
  have hfw := h.few
  have hpd := h.pend
  have hbl : (Low.burnt { L with ws := L.ws ++ [(i, data)], pend := L.pend + 1 }).ws = L.ws ++ [(i, data)] ∧ (Low.burnt { L with ws := L.ws ++ [(i, data)], pend := L.pend + 1 }).pend = L.pend + 1 ∧
      (Low.burnt { L with ws := L.ws ++ [(i, data)], pend := L.pend + 1 }).st = L.st ∧ (Low.burnt { L with ws := L.ws ++ [(i, data)], pend := L.pend + 1 }).fused = L.fused ∧
      (Low.burnt { L with ws := L.ws ++ [(i, data)], pend := L.pend + 1 }).left = if L.fused then L.left - 1 else L.left := by
    unfold Low.burnt
    cases L.fused <;> simp
  obtain ⟨b1, b2, b3, b4, b5⟩ := hbl
  have hpl : L.pend = L.ws.length := by rw [hall, hpd]
  refine ⟨by rw [b3]; exact h.st, by rw [b2, hpd]; simp, ?_, fun b j => ?_, ?_, ?_, hok, by rw [hsz]; exact h.big, ?_, ?_, ?_⟩
  · rw [b1, b2, hpl, List.take_of_length_le (by simp), hall]
  · rw [b1, b2, hpl, List.drop_eq_nil_of_le (by simp)]
    show _ = Dk.last b d.ghosts j
    rw [hg]
  · rw [b4, hf]; cases d.fuse <;> rfl
  · rw [b5, hf, hlf]; cases d.fuse <;> rfl
  · rw [b1, hsz]
    intro x hx
    rcases List.mem_append.1 hx with hx | hx
    · exact h.each x hx
    · simp at hx; subst hx; exact ⟨hi, hl⟩
  · rw [b1]; simp; omega
  · rw [b5]; split <;> omega

theorem write_d (ii : Int) (i : Nat) (hii : ii = (i : Int)) (b o cb : Nat) (data : List UInt8) (d : Dk.Dk) (p c : Nat) (F : Nat → Prop) (w : World) (h : DiskAt w p d c F) (hb : d.blown = false) (hi : i < d.stable.length) (hl : data.length = 256)
    (hd : w.rangeAt b o (data.map byteV)) (hc : c ≤ 1048576) :
    Calls Tryz.prog 62 #[ptr p, .int .i64 ii, .slice (some ⟨b, o, none⟩) 256 cb] w (Now w p (d.write i data) (c + 1) F (.int .i64 0)) := by
  obtain ⟨L, vs, vw, m, hL, hR, hF⟩ := h
  refine (write_int ii i hii b o cb data L p m d.stable.length vs vw w hL hR.size hR.big.2 hi hl hd (by have := hR.few; omega) (by have := hR.few; have := hR.le; omega) (by rw [hR.blown]; exact hb) hR.fits).mono ?_
  rintro e w' ⟨vw', he, hL', hfr, ht⟩
  refine ⟨Foot p m vs vw', he, ⟨_, vs, vw', m, hL', rep_write hR hb i data hi hl, fun _ => Iff.rfl⟩, fun k hk => ?_, ht.mono (fun k _ hk => (hF k).2 hk)⟩
  rcases hk with hk | hk | hk | hk
  · exact .inl ((hF k).2 (.inl hk))
  · exact .inl ((hF k).2 (.inr (.inl hk)))
  · exact .inl ((hF k).2 (.inr (.inr (.inl hk))))
  · rcases hfr k hk with e | e
    · exact .inl ((hF k).2 (.inr (.inr (.inr e))))
    · exact .inr e
theorem read_d (ii : Int) (i : Nat) (hii : ii = (i : Int)) (d : Dk.Dk) (p c : Nat) (F : Nat → Prop) (w : World) (h : DiskAt w p d c F) (hi : i < d.stable.length) (hc : c ≤ 1048576) :
    Calls Tryz.prog 23 #[ptr p, .int .i64 ii] w (Reads w (d.read i)) := by
  obtain ⟨L, vs, vw, m, hL, hR, hF⟩ := h
  have := read_int ii i hii L p m d.stable.length vs vw w hL hR.size hR.big.2 hi (fun x hx => (hR.each x hx).2) (by have := hR.few; omega)
  rwa [hR.read i hi] at this
theorem stable_d (d : Dk.Dk) (p c : Nat) (F : Nat → Prop) (w : World) (h : DiskAt w p d c F) : Calls Tryz.prog 10 #[ptr p] w (Made w d.stable.flatten) := by
  obtain ⟨L, vs, vw, m, hL, hR, hF⟩ := h
  have := stable_any L p m d.stable.length vs vw w hL hR.size hR.big.1 hR.big.2
  rwa [hR.st] at this
theorem image_d (d : Dk.Dk) (p c : Nat) (F : Nat → Prop) (w : World) (h : DiskAt w p d c F) (hc : c ≤ 1048576) : Calls Tryz.prog 15 #[ptr p] w (Made w d.image.flatten) := by
  obtain ⟨L, vs, vw, m, hL, hR, hF⟩ := h
  have := image_any L p m d.stable.length vs vw w hL hR.size hR.big.1 hR.big.2 hR.each (by have := hR.few; omega)
  rwa [hR.image] at this
theorem pending_d (d : Dk.Dk) (p c : Nat) (F : Nat → Prop) (w : World) (h : DiskAt w p d c F) : Calls Tryz.prog 13 #[ptr p] w fun e w' => e = .returned (.int .i64 (d.pend.length : Int)) ∧ w = w' := by
  obtain ⟨L, vs, vw, m, hL, hR, hF⟩ := h
  have := pending_any L p m vs vw w hL
  rwa [hR.pend] at this
theorem size_d (d : Dk.Dk) (p c : Nat) (F : Nat → Prop) (w : World) (h : DiskAt w p d c F) : Calls Tryz.prog 74 #[ptr p] w fun e w' => e = .returned (.int .i64 (d.stable.length : Int)) ∧ w = w' := by
  obtain ⟨L, vs, vw, m, hL, hR, hF⟩ := h
  exact size_any L p m d.stable.length vs vw w hL hR.size hR.big.2

theorem crash_d (A : Option Addr) (nb cb B : Nat) (bits : List UInt8) (d : Dk.Dk) (p c : Nat) (F : Nat → Prop) (w : World) (h : DiskAt w p d c F) (hc : c ≤ 1048576) (hbits : ∀ w', Turns F w w' → Holds w' B A nb bits) (hnb : nb ≤ maxLen) :
    Calls Tryz.prog 8 #[ptr p, .slice A nb cb] w (Now w p (d.crash bits) 0 F (.tuple #[])) := by
  obtain ⟨L, vs, vw, m, hL, hR, hF⟩ := h
  refine (crash_any A nb cb B bits L p m d.stable.length vs vw w hL hR.size hR.big.2 hR.each hR.le (by have := hR.few; omega) (fun w' ht => hbits w' (ht.mono (fun k _ hk => (hF k).2 hk))) hnb).mono ?_
  rintro e w' ⟨he, hL', ht⟩
  have hst : crashL bits L.ws L.st L.pend = (d.crash bits).stable.flatten := by
    rw [hR.st, crashL_flat bits L.ws d.stable hR.ok.len hR.each L.pend hR.le, hR.pre]; rfl
  refine ⟨Foot p m vs (.slice none 0 0), he, ⟨_, vs, _, m, hL', ?_, fun _ => Iff.rfl⟩, fun k hk => .inl ((hF k).2 ?_), ht.mono (fun k _ hk => (hF k).2 ?_)⟩
  · refine ⟨hst, rfl, rfl, fun _ _ => rfl, rfl, rfl, Dk.crash_ok d hR.ok bits, by rw [Dk.size_crash]; exact hR.big, fun x hx => (by cases hx), Nat.le_refl _, by simp⟩
  · rcases hk with hk | hk | hk | hk
    · exact .inl hk
    · exact .inr (.inl hk)
    · exact .inr (.inr (.inl hk))
    · cases hk
  · rcases hk with hk | hk | hk
    · exact .inl hk
    · exact .inr (.inl hk)
    · exact .inr (.inr (.inl hk))

theorem burnt_parts (L : Low) : (Low.burnt L).ws = L.ws ∧ (Low.burnt L).pend = L.pend ∧ (Low.burnt L).st = L.st ∧ (Low.burnt L).fused = L.fused ∧ (Low.burnt L).left = if L.fused then L.left - 1 else L.left := by
  unfold Low.burnt
  cases h : L.fused <;> simp [h]
theorem flush_d (d : Dk.Dk) (p c : Nat) (F : Nat → Prop) (w : World) (h : DiskAt w p d c F) (hc : c ≤ 1048576) : Calls Tryz.prog 22 #[ptr p] w (Now w p d.flush c F (.tuple #[])) := by
  obtain ⟨L, vs, vw, m, hL, hR, hF⟩ := h
  cases hb : d.blown
  · refine (flush_some L p m d.stable.length vs vw w hL hR.size hR.big.2 hR.each (by have := hR.few; omega) (by rw [hR.blown]; exact hb) hR.fits).mono ?_
    rintro e w' ⟨he, hL', ht⟩
    have hall := hR.all hb
    have hst : flushL L.ws L.st L.ws.length = d.flush.stable.flatten := by
      rw [hR.st, flushL_flat L.ws d.stable hR.ok.len hR.each L.ws.length (Nat.le_refl _), List.take_length, hall]
      unfold Dk.Dk.flush; rw [if_neg (by simp [hb])]
    obtain ⟨b1, b2, b3, b4, b5⟩ := burnt_parts { L with st := flushL L.ws L.st L.ws.length, ws := [], pend := 0 }
    refine ⟨Foot p m vs (.slice none 0 0), he, ⟨_, vs, _, m, hL', ?_, fun _ => Iff.rfl⟩, fun k hk => .inl ((hF k).2 ?_), ht.mono (fun k _ hk => (hF k).2 ?_)⟩
    · have e : d.flush = { d with stable := Dk.applyAll d.stable d.pend, pend := [], fuse := d.fuse.map (· - 1) } := by unfold Dk.Dk.flush; rw [if_neg (by simp [hb])]
      refine ⟨by rw [b3]; exact hst, by rw [b2, e]; rfl, by rw [b1, b2, e]; rfl, fun b j => by rw [b1, b2, e]; show _ = Dk.last b d.ghosts j; rw [hR.ok.none d hb]; rfl, ?_, ?_, Dk.flush_ok d hR.ok, by rw [Dk.size_flush]; exact hR.big, fun x hx => (by rw [b1] at hx; cases hx), by rw [b1]; exact Nat.zero_le _, ?_⟩
      · rw [b4, e]; show L.fused = _; rw [hR.fused]; cases d.fuse <;> rfl
      · rw [b5, e]; show (if L.fused = true then L.left - 1 else L.left) = _; rw [hR.fused, hR.left]; cases d.fuse <;> rfl
      · rw [b5]; show (if L.fused = true then L.left - 1 else L.left) ≤ _; have := hR.fits; split <;> omega
    · rcases hk with hk | hk | hk | hk
      · exact .inl hk
      · exact .inr (.inl hk)
      · exact .inr (.inr (.inl hk))
      · cases hk
    · rcases hk with hk | hk | hk
      · exact .inl hk
      · exact .inr (.inl hk)
      · exact .inr (.inr (.inl hk))
  · refine (flush_blown L p m vs vw w hL (by rw [hR.blown]; exact hb)).mono ?_
    rintro e w' ⟨he, rfl⟩
    have e : d.flush = d := by unfold Dk.Dk.flush; rw [if_pos hb]
    rw [e]
    exact ⟨F, he, ⟨L, vs, vw, m, hL, hR, hF⟩, fun k hk => .inl hk, Turns.refl _ _⟩
end Go.Proofs.YtelnoibfamcnmaaGreat.Disk
