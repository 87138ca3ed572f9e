/- Contract of the program's telling what is read of all blocks: the table is gone through in whatever order. -/
import Derived.Test.YtbmbolgmeehloaaDkFlush
import Derived.Maps.RangeWalk
namespace Go.Proofs.Ytbmbolgmeehloaa.Disk
set_option maxRecDepth 20000
open Go.RowKit
open Go.Proofs.Ytbmbolgmeehloaa.Mem
attribute [local go_sem ↓] Go.wp_at_zero Go.wp_at_succ ldW_eq stW_eq newW_eq mkW_eq oneW_eq

/-- An entry of the table is a block's last write. -/
theorem lastD_entry (x c : Int) : ∀ bs : List Nat, (∀ zd, (lastD bs).atKey (.int .i64 x) zd = .lit (.int .i64 c)) → ∃ i k : Nat, x = (i : Int) ∧ c = (k : Int) ∧ lastAt bs i = some k := by
  intro bs
  induction bs using rev_ind with
  | h0 =>
    intro h
    have := h .nil
    cases this
  | h1 l b ih =>
    intro h
    rw [lastD_snoc] at h
    by_cases e : (Lit.int .i64 x) = keyL b
    · have hx : x = (b : Int) := by unfold keyL at e; injection e
      have h1 := h .nil
      rw [e, Maps.atKey_put_same (lastD_isMap l) (by unfold keyL; trivial)] at h1
      unfold placeD at h1
      injection h1 with h1
      injection h1 with _ h1
      exact ⟨b, l.length, hx, h1.symm, by rw [lastAt_snoc, if_pos rfl]⟩
    · obtain ⟨i, k, hi, hk, hl⟩ := ih (fun zd => by have := h zd; rwa [Maps.atKey_put_other e] at this)
      refine ⟨i, k, hi, hk, ?_⟩
      rw [lastAt_snoc, if_neg (fun e' => e (by rw [hi, e']; rfl))]
      exact hl

/-- Byte j, those blocks being laid whose entries are no longer to come. -/
def imgByte (L : Low) (left : Lit → Bool) (j : Nat) : UInt8 := match lastAt (nums L.ws) (j / 256) with
  | some k => if left (keyL (j / 256)) then L.st.getD j 0 else (L.ws.getD k (0, [])).2.getD (j % 256) 0
  | none => L.st.getD j 0
def imgL (L : Low) (left : Lit → Bool) : List UInt8 := (List.range L.st.length).map (imgByte L left)
theorem imgL_len (L : Low) (left : Lit → Bool) : (imgL L left).length = L.st.length := by simp [imgL]
theorem imgL_start (L : Low) : imgL L (Maps.has (lastD (nums L.ws))) = L.st := by
  apply List.ext_getElem?
  intro j
  by_cases hj : j < L.st.length
  · simp only [imgL, List.getElem?_map, List.getElem?_range hj, Option.map_some]
    rw [List.getElem?_eq_getElem hj]
    congr 1
    unfold imgByte
    have hg : L.st.getD j 0 = L.st[j] := by rw [List.getD_eq_getElem?_getD, List.getElem?_eq_getElem hj]; rfl
    rw [lastD_has]
    cases lastAt (nums L.ws) (j / 256) with
    | none => exact hg
    | some k => simpa using hg
  · rw [List.getElem?_eq_none (by rw [imgL_len]; omega), List.getElem?_eq_none (by omega)]
theorem keyL_same (a b : Nat) : (keyL a).sameKey (keyL b) = decide (a = b) := by
  by_cases h : a = b
  · subst h; simp; exact WideAt.sameKey_self (by unfold keyL; trivial)
  · rw [Maps.sameKey_ne (by rw [Ne, key_inj]; exact h)]; simp [h]
theorem imgL_step (L : Low) (left : Lit → Bool) (i k n : Nat) (hn : L.st.length = 256 * n) (hi : i < n) (hl : lastAt (nums L.ws) i = some k) (hx : (L.ws.getD k (0, [])).2.length = 256) :
    splice (imgL L left) (i * 256) (L.ws.getD k (0, [])).2 = imgL L (fun z => left z && !z.sameKey (keyL i)) := by
  apply List.ext_getElem?
  intro j
  rw [splice_get _ _ _ (by rw [imgL_len]; omega), hx]
  by_cases hj : j < L.st.length
  · have e1 : ∀ left, (imgL L left)[j]? = some (imgByte L left j) := fun left => by
      simp only [imgL, List.getElem?_map, List.getElem?_range hj, Option.map_some]
    rw [e1, e1]
    by_cases h1 : j < i * 256
    · rw [if_pos h1]
      have hne : j / 256 ≠ i := by omega
      simp [imgByte, keyL_same, hne]
    · rw [if_neg h1]
      by_cases h2 : j < i * 256 + 256
      · rw [if_pos h2]
        have he : j / 256 = i := by omega
        have hm : j - i * 256 = j % 256 := by omega
        have hlt : j % 256 < (L.ws.getD k (0, [])).2.length := by omega
        simp only [imgByte, he, hl, keyL_same, hm]
        generalize (L.ws.getD k (0, [])).2 = y at hlt ⊢
        simp [List.getElem?_eq_getElem hlt]
      · rw [if_neg h2]
        have hne : j / 256 ≠ i := by omega
        simp [imgByte, keyL_same, hne]
  · rw [if_neg (by omega), if_neg (by omega), List.getElem?_eq_none (by rw [imgL_len]; omega), List.getElem?_eq_none (by rw [imgL_len]; omega)]
set_option maxRecDepth 100000 in
set_option maxHeartbeats 2000000 in
theorem image_any (L : Low) (p m n : Nat) (vs vw : Value) (w : World) (h : LowAt w p L vs vw m) (hn : L.st.length = 256 * n) (h1 : 1 ≤ n) (hm : n ≤ 1024) (hx : ∀ x ∈ L.ws, x.1 < n ∧ x.2.length = 256) (hw : L.ws.length ≤ 1048576) :
    Calls Try.prog 21 #[.pointer (some ⟨p, 0, none⟩)] w (Made w (imgL L (fun _ => false))) := by
  have c0 := h.f0
  obtain ⟨A, c, hvs, hh⟩ := h.st.holds
  rcases A with _ | a
  · obtain ⟨b, off, e, _⟩ := hh.2 (by omega)
    cases e
  subst hvs
  have HN := Lib.hid hn; clear hn
  have H := Lib.hid h; clear h
  go_enter Try.func21, Try.ntmps21
  go_wp2_with fail
  refine (clone_any a L.st.length c w.heap.size L.st w hh (by have := HN.out; omega) (Nat.le_refl _)).mono ?_
  rintro e w1 ⟨A', c', rfl, ho, hb1⟩
  obtain ⟨g, cap, cur, hv, hg, hc1, hc2, hc3, hc4⟩ := Row.cut (w := w1) (e := 5) (size := 1) (v := .slice A' L.st.length c') (n := L.st.length) (xs := L.st.map byteV) ⟨ho.1, by
    rcases ho.2 with e | ⟨g, cap, cur, e1, e2, r⟩
    · exact .inl e
    · exact .inr ⟨g, cap, cur, e1, Nat.zero_le _, r⟩⟩ (by have := HN.out; omega)
  have hgw : w.heap.size ≤ g := Owned.base_le ho g (by rw [hv]; rfl)
  injection hv with e1 _ e2
  subst e1 e2
  clear ho
  have hL1 : LowAt w1 p L (.slice (some a) L.st.length c) vw m := H.out.turns (F := fun _ => False) (Turns.of_below hb1) (fun _ _ e => e)
  have d3 := hL1.f3
  have hM := hL1.last
  have HL1 := Lib.hid hL1; clear hL1
  have HB1 := Lib.hid hb1; clear hb1
  have HG := Lib.hid hg; clear hg
  have HC4 := Lib.hid hc4; clear hc4
  have HC3 := Lib.hid hc3; clear hc3
  clear hh
  go_wp2_with (first
    | (at_range; refine wpList_range_own _ rfl _ 90 rfl 3 3 intKey Try.underlying90 _ m _ _ rfl hM ?_; intro w2 hrg0 hg0 hs0)
    | fail)
  go_frame
  have hgl : g < w1.heap.size := (Array.getElem?_eq_some_iff.1 HG.out).1
  have hfl := H.out.foot_lt
  have HFL := Lib.hid hfl; clear hfl
  have HX := Lib.hid hx; clear hx
  clear c0 d3 hM
  go_loopw [4, 5] (fun _ _ wr => ∃ (left : Lit → Bool) (cnt : Nat) (cu : Array Value), wr.ranges Try.prog 3 (plainElem Try.prog 3) m w1.heap.size L.ws.length (lastD (nums L.ws)) left cnt ∧ wr.heap[g]? = some (.cells cu 5 (0, 0)) ∧
      cu.size = c' * 1 ∧ cu.toList.take (L.st.length * 1) = (imgL L left).map byteV ∧ Turns (fun k => k = g ∨ k = w1.heap.size) w1 wr) (fun _ _ wr => wr.rangeLeft m w1.heap.size)
  case atStart =>
    exact ⟨_, _, cur, hrg0, (hg0.block g hgl (by simp)).trans HG.out, HC3.out, by rw [HC4.out, imgL_start], (Turns.refl _ w1).grown hg0 (fun k hk => by cases hk)⟩
  case round =>
    obtain ⟨left, cnt, cu, hrg, hgc, hcs, hct, hT⟩ := hrel
    have HGC := Lib.hid hgc; clear hgc
    have HCS := Lib.hid hcs; clear hcs
    have HCT := Lib.hid hct; clear hct
    have HT := Lib.hid hT; clear hT
    go_wp2_with (first
      | (at_next; refine wpList_next_ranges_ii _ rfl _ rfl 3 3 .i64 .i64 intKey Try.underlying3 Try.underlying3 m w1.heap.size _ _ _ _ rfl hrg ?_ ?_)
      | fail)
    · intro hc0 hl0
      have HL0 := Lib.hid hl0; clear hl0
      clear hrg hc0
      go_wp2
      go_ret
      have el : left = fun _ => false := funext HL0.out
      have hct := HCT.out
      rw [el] at hct
      refine ⟨some ⟨g, 0, none⟩, c', by rw [imgL_len]; rfl, ?_, ?_⟩
      · rw [imgL_len]
        refine ⟨by rw [imgL_len, List.length_map, imgL_len]; omega, .inr ⟨g, c', cu, by rw [imgL_len], hgw, HGC.out, by rw [imgL_len]; exact hc1, hc2, HCS.out, by rw [imgL_len]; exact hct⟩⟩
      · exact HB1.out.trans (HT.out.below (B := w.heap.size) (fun k e => by
          rcases e with e | e
          · omega
          · have := HB1.out.size; omega) HB1.out.size)
    · intro x c w3 cnt1 hwx hwc hlx hat hrg1 hlt hg1 hs1 hen
      obtain ⟨i, k, rfl, rfl, hla⟩ := lastD_entry x c _ hat
      have HAT := Lib.hid hat; clear hat
      obtain ⟨hkl, hki⟩ := lastAt_lt _ _ _ hla
      rw [nums, List.length_map] at hkl
      have hwi : (L.ws[k]).1 = i := by
        rw [nums, List.getElem?_map, List.getElem?_eq_getElem hkl] at hki
        exact Option.some.inj hki
      have hxk := HX.out _ (List.getElem_mem hkl)
      have hin : i < n := by rw [← hwi]; exact hxk.1
      have hgd : L.ws.getD k (0, []) = L.ws[k] := by rw [List.getD_eq_getElem?_getD, List.getElem?_eq_getElem hkl]; rfl
      have hT3 : Turns (fun k => k = g ∨ k = w1.heap.size) w1 w3 := HT.out.grown hg1 (fun k hk _ => .inr (by injection hk with hk; exact hk.symm))
      have hL3 := HL1.out.turns hT3 (fun k hk e => by
        have := HFL.out k hk
        have := HB1.out.size
        rcases e with e | e <;> omega)
      have d1 := hL3.f1
      obtain ⟨g2, cap2, cur2, hv2, hgg, -, -, e3, e4⟩ := hL3.ws.cut (show 0 < L.ws.length by omega)
      subst hv2
      have hr0 := writes_range hgg e4 e3 (fun x hx => (HX.out x hx).2) k hkl
      have hgc3 : w3.heap[g]? = some (.cells cu 5 (0, 0)) := by
        rw [hg1.block g (by have := HT.out.size; omega) (fun e => by injection e with e; omega)]; exact HGC.out
      have hlen : (L.ws[k]).2.length = 256 := hxk.2
      obtain ⟨cs, hcsd⟩ : ∃ cs, cs = (L.ws[k]).2.map byteV := ⟨_, rfl⟩
      have hcl : cs.length = 256 := by rw [hcsd, List.length_map, hlen]
      have hsrc : ∀ j v, cs[j]? = some v → w3.drew.cell? ((⟨g2, k * 257 + 1, none⟩ : Addr).add j) = some v := by
        intro j v hv
        rw [Addr.add_mid]
        have := hr0 (j + 1) v (by rw [wcells, List.getElem?_cons_succ, ← hcsd]; exact hv)
        rw [show k * 257 + 1 + j = k * 257 + (j + 1) by omega]
        exact this
      have hone : ∀ v ∈ cs, v.oneCell' = true := by
        intro v hv; rw [hcsd] at hv; obtain ⟨u, _, rfl⟩ := List.mem_map.1 hv; rfl
      have q1 := fun W => run_slice_from W g L.st.length c' (i * 256) ((i : Int) * 256) (by omega) (by have := HN.out; omega) hc1
      have q2 := fun W => run_sliceAt_from W g L.st.length c' (i * 256) ((i : Int) * 256) (by omega) (by have := HN.out; omega) hc1
      have hk1 : (0 : Int) ≤ (k : Int) := by omega
      have hk2 : (k : Int) < (L.ws.length : Int) := by omega
      have ei : IntKind.i64.wrap ((i : Int) * 256) = (i : Int) * 256 := IntWalk.i64_in _ (by omega)
      have hmin : cs.length = Nat.min 256 (L.st.length - i * 256) := by rw [hcl]; exact (Nat.min_eq_left (by have := HN.out; omega)).symm
      have hfit : i * 256 + cs.length ≤ cu.size := by have := HCS.out; have := HN.out; omega
      have hpg : p ≠ g := fun e => by
        have := HFL.out p (.inl rfl); omega
      have HD : Hid (w3.drew.heap[g]? = some (.cells cu 5 (0, 0))) := Lib.hid hgc3
      have HK1 : Hid ((w3.drew.setRow g (splice cu.toList (i * 256) cs).toArray).cell? ⟨p, 1, none⟩ = some (.slice (some ⟨g2, 0, none⟩) L.ws.length cap2)) := Lib.hid ((World.cell?_of_block (w := w3) (setRow_other w3.drew g p _ hpg)).trans d1)
      have HMI := Lib.hid hmin; clear hmin
      have HSR := Lib.hid hsrc; clear hsrc
      have HON := Lib.hid hone; clear hone
      have HCD := Lib.hid hcsd; clear hcsd
      have HCL := Lib.hid hcl; clear hcl
      have HLA := Lib.hid hla; clear hla
      have HT3 := Lib.hid hT3; clear hT3
      have HL3 := Lib.hid hL3; clear hL3
      have HLEN := Lib.hid hlen; clear hlen
      have HGD := Lib.hid hgd; clear hgd
      have HRG := Lib.hid hrg1; clear hrg1
      have HRG0 := Lib.hid hrg; clear hrg
      have HG1 := Lib.hid hg1; clear hg1
      have HS1 := Lib.hid hs1; clear hs1
      clear hr0 hgg e3 e4 hgc3 hxk hki hwi
      go_wp2
      go_region_held3 (fun w' => w'.cell? ⟨p, 1, none⟩ = some (.slice (some ⟨g2, 0, none⟩) L.ws.length cap2)) (first | go_keep | exact HK1.out)
        ((refine step_copy_row rfl (.tmp 26) (.tmp 34) 33 33 rfl 5 Try.underlying33 info_byte g (i * 256) _ _ ⟨g2, k * 257 + 1, none⟩ _ _ rfl rfl cu 5 HD.out cs HMI.out HSR.out hfit HON.out ?_))
      go_wp2
      have hcg : (w3.drew.setRow g (splice cu.toList (i * 256) cs).toArray).heap[g]? = some (.cells (splice cu.toList (i * 256) cs).toArray 5 (0, 0)) := setRow_heap _ _ _ _ _ _ HD.out
      have hgt : w3.grownBy (w3.drew.setRow g (splice cu.toList (i * 256) cs).toArray) (some g) := ⟨rfl, rfl, rfl, by simp, fun k _ hk => setRow_other w3.drew _ _ _ (fun e => hk (by rw [e]))⟩
      have hmg : m ≠ g := fun e => by
        have := HFL.out m (.inr (.inl rfl)); omega
      have hrn := World.ranges.kept HRG.out hgt (fun e => by injection e with e; exact hmg e) (fun e => by injection e with e; omega)
      have hTn : Turns (fun k => k = g ∨ k = w1.heap.size) w1 (w3.drew.setRow g (splice cu.toList (i * 256) cs).toArray) := HT3.out.drew.setRow g _ (fun _ => .inl rfl)
      go_roundw
      case rel =>
        refine ⟨_, cnt1, _, hrn, hcg, ?_, ?_, hTn⟩
        · rw [List.size_toArray, length_splice _ _ _ (by simpa using hfit)]; simpa using HCS.out
        · have hst := imgL_step L left i k n HN.out hin HLA.out (by rw [HGD.out]; exact HLEN.out)
          rw [List.toList_toArray, splice_take _ _ _ _ (by have := HCL.out; have := HN.out; omega) (by have := HCS.out; simp; omega), HCT.out, HCD.out]
          have e : imgL L (fun z => left z && !z.sameKey (Lit.int .i64 (i : Int))) = splice (imgL L left) (i * 256) (L.ws[k]).2 := by
            rw [← HGD.out]; exact hst.symm
          rw [e]
          simp [splice, List.map_take, List.map_drop]
      case measure =>
        rw [hrn.left_eq, HRG0.out.left_eq]; exact hlt
end Go.Proofs.Ytbmbolgmeehloaa.Disk
