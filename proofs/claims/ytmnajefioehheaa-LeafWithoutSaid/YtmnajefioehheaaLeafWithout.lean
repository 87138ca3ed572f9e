/- LeafWithout: for every list of names, the list without one of them is right where the list was, its size is smaller by just that, a list has a block just where its size is at most 248, and the list without one has one where the list has. -/
import Derived.Test.YtmnajefioehheaaLfAlive
import Derived.Deep.RegionHeldLaw
namespace Go.Proofs.Ytmnajefioehheaa.LeafWithout
set_option maxRecDepth 20000
open Go.ChangeShapes Go.WideShapes Go.ChangeAt Go.RowKit
open Go.Proofs.Ytmnajefioehheaa.Mem Go.Proofs.Ytmnajefioehheaa.Crc Go.Proofs.Ytmnajefioehheaa.Rec Go.Proofs.Ytmnajefioehheaa.Lf Go.Proofs.Ytmnajefioehheaa.Lift Go.Proofs.Ytmnajefioehheaa.Reg
attribute [local go_sem ↓] ldX_eq stX_eq eqX_eq neqX_eq

theorem slice_upto (W : World) (A : Option Addr) (N c m : Nat) (h0 : 0 < c) (hm : m ≤ c) :
    (Instr.slice 22 (.slice A N c) none (some (.int .i64 (m : Int))) none).run Try.prog W = .ok (.slice A m c) W := by
  have h := run_slice_h (P := Try.prog) W 22 A N c (by rw [Try.underlying22]; rfl) .i64 (m : Int) (by omega) (by omega)
  rw [h]
  have hs : (sizeOf (Try.prog.elem 22)).run Try.prog W = .ok 2 W := by rfl
  rw [hs]
  simp only [Result.andThen, sliced, Int.toNat_natCast]
  rw [if_neg (by omega)]
  cases A with
  | none => rfl
  | some a =>
    obtain ⟨b, off, spot⟩ := a
    cases spot <;> simp [Addr.add]
/-- A list's end: the address is the list's own where nothing is left of its room. -/
theorem slice_from (b off N c l : Nat) (i : Int) (hi : i = (l : Int)) (hl : l ≤ N) (hc : N ≤ c) :
    ∃ A, (∀ W, (Instr.slice 22 (.slice (some ⟨b, off, none⟩) N c) (some (.int .i64 i)) none none).run Try.prog W = .ok (.slice A (N - l) (c - l)) W) ∧ (l < c → A = some ⟨b, off + l * 2, none⟩) := by
  subst hi
  have hs : ∀ W, (sizeOf (Try.prog.elem 22)).run Try.prog W = .ok 2 W := fun W => by rfl
  have hr := fun W => run_slice_l (P := Try.prog) W 22 (some ⟨b, off, none⟩) N c (by rw [Try.underlying22]; rfl) .i64 (l : Int) (by omega) (by omega)
  by_cases h : l < c
  · refine ⟨some ⟨b, off + l * 2, none⟩, fun W => ?_, fun _ => rfl⟩
    rw [hr W, hs W]
    simp only [Result.andThen, sliced, Int.toNat_natCast]
    rw [if_neg (by omega)]
    simp [Addr.add_mid]
  · refine ⟨some ⟨b, off, none⟩, fun W => ?_, fun k => absurd k h⟩
    rw [hr W, hs W]
    simp only [Result.andThen, sliced, Int.toNat_natCast]
    rw [if_pos (by omega)]

set_option maxRecDepth 100000 in
set_option maxHeartbeats 4000000 in
theorem walk (A : Option Addr) (n c : Nat) (l : List Nm) (a : Int) (w : World) (h : HoldsX w w.heap.size A n l) (hr : ∀ x ∈ l, x.rep) (hnc : n ≤ c) (hn : n ≤ 5864062014634) :
    Calls Try.prog 6 #[.slice A n c, .int .i64 a] w fun E w' => E = .returned (.bool true) ∧ Below w.heap.size w w' := by
  have hh : ∀ V, Below w.heap.size w V → HoldsX V w.heap.size A n l ∧ w.heap.size ≤ V.heap.size := fun V hV => ⟨h.below hV, hV.size⟩
  have hln := h.1
  have hsz := fun V (hV : Below w.heap.size w V) => size_any A n c w.heap.size l V (hh V hV).1 (hh V hV).2 hr (by omega)
  have henc := fun V (hV : Below w.heap.size w V) => encode_any A n c w.heap.size l V (hh V hV).1 (hh V hV).2 hr (by omega)
  have HH := Lib.hid hh; clear hh
  have HENC := Lib.hid henc; clear henc
  have HSZ := Lib.hid hsz; clear hsz
  have HREP := Lib.hid hr; clear hr
  have HLN := Lib.hid hln; clear hln
  clear h
  go_enter Try.func6, Try.ntmps6
  go_wp2_with fail
  with_reducible refine (alive_any w).mono ?_
  rintro E w1 ⟨rfl, hb1⟩
  have HB1 := Lib.hid hb1; clear hb1
  go_wp2_with fail
  with_reducible refine (HSZ.out w1 HB1.out).mono ?_
  rintro E w2 ⟨rfl, hb2⟩
  have HB2 : Hid (Below w.heap.size w w2) := Lib.hid (HB1.out.trans (hb2.mono HB1.out.size))
  clear hb2 HSZ
  cases hq : right l with
  | false =>
    rw [size_not hq]
    dsimp only
    clear hq
    go_wp2
    go_ret
    exact ⟨rfl, HB2.out⟩
  | true =>
    rw [size_yes hq]
    dsimp only
    rcases Nat.eq_zero_or_pos n with h0 | h0
    · have hl0 : l = [] := List.eq_nil_of_length_eq_zero (by have := HLN.out; omega)
      subst hl0
      have hs0 : sizeL ([] : List Nm) = 0 := rfl
      rw [hs0]
      clear hq hs0
      subst h0
      go_wp2
      go_ret
      exact ⟨rfl, HB2.out⟩
    obtain ⟨b, off, rfl, hbB⟩ := (HH.out w (Below.refl _ _)).1.addr h0
    obtain ⟨k, hk, hK⟩ := Bst.place a (n : Int) (by omega) (by omega)
    have hkn : k < n := by omega
    have hkl : k < l.length := by have := HLN.out; omega
    have hwn : IntKind.u64.wrap (n : Int) = (n : Int) := by rw [IntKind.wrap_u64]; omega
    have hn0 : ((n : Int) == 0) = false := beq_false_of_ne (by omega)
    -- the list without one
    obtain ⟨M, hM⟩ : ∃ M, M = l.take k ++ l.drop (k + 1) := ⟨_, rfl⟩
    have hMr : right M = true := hM ▸ right_without l k hq
    have hMs : sizeL M + (5 + (l[k]).t.length) = sizeL l := by rw [hM]; exact size_without l k hkl
    have hMl : M.length = n - 1 := by rw [hM, List.length_append, List.length_take, List.length_drop]; have := HLN.out; omega
    have hMrep : ∀ x ∈ M, x.rep := fun x hx => HREP.out x (by
      rw [hM] at hx
      rcases List.mem_append.1 hx with hx | hx
      · exact List.mem_of_mem_take hx
      · exact List.mem_of_mem_drop hx)
    have hfar := sizeL_far hq l.length
    rw [List.take_length, HLN.out] at hfar
    -- its parts, and the two appends
    obtain ⟨A3, hs3, hA3⟩ := slice_from b off n c (k + 1) ((k : Int) + 1) (by omega) (by omega) hnc
    have hs1 := fun V => slice_upto V (some ⟨b, off, none⟩) n c k (by omega) (by omega)
    have hwk : IntKind.i64.wrap ((k : Int) + 1) = (k : Int) + 1 := by rw [IntKind.wrap_i64]; omega
    have hpart1 : ∀ V, Below w.heap.size w V → HoldsX V w.heap.size (some ⟨b, off, none⟩) k (l.take k) := fun V hV => (HH.out V hV).1.take (by omega)
    have hpart2 : ∀ V, Below w.heap.size w V → HoldsX V w.heap.size A3 (n - (k + 1)) (l.drop (k + 1)) := fun V hV => by
      have e : (l.drop (k + 1)).take (n - (k + 1)) = l.drop (k + 1) := List.take_of_length_le (by rw [List.length_drop]; have := HLN.out; omega)
      by_cases hz : n - (k + 1) = 0
      · have h1 : l.drop (k + 1) = [] := List.drop_eq_nil_of_le (by have := HLN.out; omega)
        rw [hz, h1]
        exact HoldsX.nil _ _ _
      · have h1 := (HH.out V hV).1.sub (i := k + 1) (m := n - (k + 1)) (by omega)
        rw [e] at h1
        rwa [hA3 (by omega)]
    have hwd : w2.drew.heap.size = w2.heap.size := rfl
    have hb0 : Below w2.heap.size w2 (w2.drew.alloc (.cells #[] 40)) := (Below.refl _ w2).drew.alloc (Nat.le_refl _) _
    obtain ⟨v4, w4, hrun4, ho4, hg4⟩ := run_addX (w2.drew.alloc (.cells #[] 40)) 22 w2.heap.size _ [] (ownX_empty w2.drew) w.heap.size (some ⟨b, off, none⟩) k c (l.take k) (hpart1 _ (HB2.out.trans (hb0.mono HB2.out.size))) (by simpa using by omega) (by simp [hwd])
    rw [List.nil_append] at ho4
    obtain ⟨A4, c4, rfl⟩ := ho4.shape
    have htk : (l.take k).length = k := by rw [List.length_take]; omega
    rw [htk] at ho4 hrun4 hg4
    have hb4 : Below w2.heap.size w2 w4 := hb0.trans (hg4.below (by simp [hwd]) (fun q hq => by injection hq with hq; simp [hwd] at hq; omega))
    have hbw4 : Below w.heap.size w w4 := HB2.out.trans (hb4.mono HB2.out.size)
    obtain ⟨v9, w9, hrun9, ho9, hg9⟩ := run_addX w4 22 w2.heap.size _ _ ho4 w.heap.size A3 (n - (k + 1)) (c - (k + 1)) (l.drop (k + 1)) (hpart2 _ hbw4) (by rw [htk]; omega) hb4.size
    rw [← hM] at ho9
    obtain ⟨A9, c9, rfl⟩ := ho9.shape
    rw [hMl] at ho9 hrun9
    have hb9 : Below w2.heap.size w2 w9 := hb4.trans (hg9.below hb4.size (fun q hq => (ho4.lt q hq).1))
    have hbw9 : Below w.heap.size w w9 := HB2.out.trans (hb9.mono HB2.out.size)
    have hgiv : ∀ V, Below w9.heap.size w9 V → HoldsX V w9.heap.size A9 (n - 1) M ∧ w9.heap.size ≤ V.heap.size := fun V hV => ⟨ho9.reads.below hV, hV.size⟩
    have hszM := fun V (hV : Below w9.heap.size w9 V) => size_any A9 (n - 1) c9 w9.heap.size M V (hgiv V hV).1 (hgiv V hV).2 hMrep (by omega)
    have hencM := fun V (hV : Below w9.heap.size w9 V) => encode_any A9 (n - 1) c9 w9.heap.size M V (hgiv V hV).1 (hgiv V hV).2 hMrep (by omega)
    rw [size_yes hMr] at hszM
    have HB4 := Lib.hid hbw4; clear hbw4 hb4 hg4 ho4
    have HB9 := Lib.hid hbw9; clear hbw9 hb9 hg9 ho9 hb0
    have HSZM := Lib.hid hszM; clear hszM
    have HENCM := Lib.hid hencM; clear hencM hgiv
    have hcell : ∀ V, Below w.heap.size w V → V.cell? ⟨b, off + k * 2, none⟩ = some (.string ⟨(l[k]).t.toArray⟩) := fun V hV => ((HH.out V hV).1.cell k hkl).1
    obtain ⟨S, hS⟩ : ∃ S : ByteArray, S = ⟨(l[k]).t.toArray⟩ := ⟨_, rfl⟩
    have hSs : S.size = (l[k]).t.length := by rw [hS, text_size]
    rw [← hS] at hcell
    rw [← hSs] at hMs
    have hlen := may_len (okN_may (right_may hq hkl)).1
    rw [← hSs] at hlen
    have HCELL := Lib.hid hcell; clear hcell hS hSs
    obtain ⟨Z, hZ⟩ : ∃ Z, Z = sizeL l := ⟨_, rfl⟩
    obtain ⟨z, hz⟩ : ∃ z, z = sizeL M := ⟨_, rfl⟩
    have hyes : Z ≤ 248 → (enc l).2 = 0 ∧ (enc M).2 = 0 := fun hZ2 => ⟨by rw [enc_yes hq (by omega)], by rw [enc_yes hMr (by omega)]⟩
    have hno : 248 < Z → (enc l).2 = 9 := fun hZ2 => by rw [enc_far hq (by omega)]
    rw [← hZ] at hMs hfar ⊢
    rw [← hz] at hMs HSZM
    have HYES := Lib.hid hyes; clear hyes
    have HNO := Lib.hid hno; clear hno
    have hzI : ((z : Int) == (Z : Int) - 5 - (S.size : Int)) = true := beq_iff_eq.2 (by omega)
    have hw5 : wrap64 ((Z : Int) - 5) = (Z : Int) - 5 := by unfold wrap64; omega
    have hwS : wrap64 ((Z : Int) - 5 - (S.size : Int)) = (Z : Int) - 5 - (S.size : Int) := by unfold wrap64; omega
    clear hpart1 hpart2 hM hMr hMl hMrep htk hA3 hZ hz hq
    go_wp2_with fail
    clear hK
    refine wp_region_E (fun V => Below w.heap.size w V) 99 rfl ?_
    have hS := (show Below w.heap.size w w2.drew from HB2.out.drew)
    refine wpE_takeF 1 ⟨some 39, _, _, _, _, _⟩ (v := ?_) (by decide) rfl (by kernel_rfl) (by kernel_rfl) (by kernel_rfl) (fun _ _ _ h => h) hS (Or.inl ⟨by kernel_rfl, ?_⟩) ?_
    rotate_left
    · (intro V hSw; go_simp; try with_reducible rfl)
    try simp only [Act.put]
    refine wpE_takeF 2 ⟨some 40, _, _, _, _, _⟩ (v := ?_) (by decide) rfl (by kernel_rfl) (by kernel_rfl) (by kernel_rfl) (fun _ _ _ h => h) hS (Or.inl ⟨by kernel_rfl, ?_⟩) ?_
    rotate_left
    · (intro V hSw; go_simp; try with_reducible rfl)
    try simp only [Act.put]
    refine wpE_takeF 3 ⟨some 41, _, _, _, _, _⟩ (v := ?_) (by decide) rfl (by kernel_rfl) (by kernel_rfl) (by kernel_rfl) (fun _ _ _ h => h) hS (Or.inl ⟨by kernel_rfl, ?_⟩) ?_
    rotate_left
    · (intro V hSw; go_simp; try with_reducible rfl)
    try simp only [Act.put]
    refine wpE_takeF 5 ⟨some 43, _, _, _, _, _⟩ (v := ?_) (by decide) rfl (by kernel_rfl) (by kernel_rfl) (by kernel_rfl) (fun _ _ _ h => h) hS (Or.inl ⟨by kernel_rfl, ?_⟩) ?_
    rotate_left
    · (intro V hSw; go_simp; try with_reducible rfl)
    try simp only [Act.put]
    refine wpE_takeF 6 ⟨some 44, _, _, _, _, _⟩ (v := ?_) (by decide) rfl (by kernel_rfl) (by kernel_rfl) (by kernel_rfl) (fun _ _ _ h => h) hS (Or.inl ⟨by kernel_rfl, ?_⟩) ?_
    rotate_left
    · (intro V hSw; go_simp; try with_reducible rfl)
    try simp only [Act.put]
    refine wpE_takeF 7 ⟨some 45, _, _, _, _, _⟩ (v := ?_) (by decide) rfl (by kernel_rfl) (by kernel_rfl) (by kernel_rfl) (fun _ _ _ h => h) hS (Or.inl ⟨by kernel_rfl, ?_⟩) ?_
    rotate_left
    · (intro V hSw; go_simp; try with_reducible rfl)
    try simp only [Act.put]
    refine wpE_takeF 8 ⟨some 46, _, _, _, _, _⟩ (v := ?_) (by decide) rfl (by kernel_rfl) (by kernel_rfl) (by kernel_rfl) (fun _ _ _ h => h) hS (Or.inl ⟨by kernel_rfl, ?_⟩) ?_
    rotate_left
    · (intro V hSw; go_simp; try with_reducible rfl)
    try simp only [Act.put]
    refine wpE_one 0 (by kernel_rfl) rfl (fun K' hK' => ?_)
    go_simp
    refine hK'.out _ _ (show Below w.heap.size w _ from HB2.out.drew.alloc (by exact HB2.out.size) _) (fun hS => ?_)
    clear hK' K'
    try simp only [Act.put]
    refine wpE_one 4 (o := ⟨some 42, _, _, _, _, _⟩) (by kernel_rfl) rfl (fun K' hK' => ?_)
    refine step_builtin (by kernel_rfl) (.tmp 38) (.tmp 41) #[22, 22] rfl (.slice (some ⟨w2.heap.size, 0, none⟩) 0 0) _ _ _ ?hva ?hvb hrun4 ?_
    case hva => go_simp; try with_reducible rfl
    case hvb => go_simp; try with_reducible rfl
    refine hK'.out _ _ HB4.out (fun hS => ?_)
    clear hK' K'
    try simp only [Act.put]
    refine wpE_one 9 (o := ⟨some 47, _, _, _, _, _⟩) (by kernel_rfl) rfl (fun K' hK' => ?_)
    refine step_builtin (by kernel_rfl) (.tmp 42) (.tmp 46) #[22, 22] rfl (.slice A4 k c4) _ _ _ ?hva ?hvb hrun9 ?_
    case hva => go_simp; try with_reducible rfl
    case hvb => go_simp; try with_reducible rfl
    refine hK'.out _ _ HB9.out (fun hS => ?_)
    clear hK' K'
    try simp only [Act.put]
    refine wpE_takeF 10 ⟨some 8, _, _, _, _, _⟩ (v := ?_) (by decide) rfl (by kernel_rfl) (by kernel_rfl) (by kernel_rfl) (fun _ _ _ h => h) hS (Or.inl ⟨by kernel_rfl, ?_⟩) ?_
    rotate_left
    · (intro V hSw; go_simp; try with_reducible rfl)
    try simp only [Act.put]
    refine wpE_done (by kernel_rfl) ?_ _
    try simp only [List.setIfInBounds_toArray, List.set_cons_succ, List.set_cons_zero]
    go_wp2_with fail
    with_reducible refine (HSZM.out w9 (Below.refl _ _)).mono ?_
    rintro E w10 ⟨rfl, hb10⟩
    have hbw10 : Below w.heap.size w w10 := HB9.out.trans (hb10.mono HB9.out.size)
    have HB10 := Lib.hid hbw10; clear hbw10
    have HBB10 := Lib.hid hb10; clear hb10 HSZM
    dsimp only
    go_wp2_with fail
    with_reducible refine (HENC.out w10 HB10.out).mono ?_
    rintro E w11 ⟨A11, c11, rfl, ho11, hb11⟩
    have HB11 : Hid (Below w.heap.size w w11) := Lib.hid (HB10.out.trans (hb11.mono HB10.out.size))
    have HBB11 : Hid (Below w9.heap.size w9 w11) := Lib.hid (HBB10.out.trans (hb11.mono HBB10.out.size))
    clear ho11 hb11 HENC HB10 HBB10
    generalize (enc l).1.length = n11
    go_wp2_with fail
    with_reducible refine (HENCM.out w11 HBB11.out).mono ?_
    rintro E w12 ⟨A12, c12, rfl, ho12, hb12⟩
    have hbw12 : Below w.heap.size w w12 := HB11.out.trans (hb12.mono HB11.out.size)
    have q0 := HCELL.out w12 hbw12
    have HB12 := Lib.hid hbw12; clear hbw12 ho12 hb12 HENCM HB11 HBB11
    generalize (enc M).1.length = n12
    have hk0 : (0 : Int) ≤ (k : Int) := by omega
    have hknI : (k : Int) < (n : Int) := by omega
    rcases Nat.lt_or_ge 248 Z with hZ2 | hZ2
    · rw [HNO.out hZ2]
      have hZd : decide ((Z : Int) ≤ 248) = false := decide_eq_false (by omega)
      clear HNO HYES hlen hMs hfar
      go_wp2
      go_ret
      exact ⟨rfl, HB12.out⟩
    · obtain ⟨e1, e2⟩ := HYES.out hZ2
      rw [e1, e2]
      have hZd : decide ((Z : Int) ≤ 248) = true := decide_eq_true (by omega)
      clear e1 e2 HNO HYES hlen hMs hfar
      go_wp2
      go_ret
      exact ⟨rfl, HB12.out⟩

theorem walks : Walks 6 Try.f6 All := by
  intro H enc W base args ds p hval hA hsz _
  rw [Try.params6] at hA hval hsz
  obtain ⟨v0, vs0, d0, ds0, p0, q0, hargs, rfl, rfl, h0, r0⟩ := trodAll_cons hA
  obtain ⟨v1, vs1, d1, ds1, p1, q1, rfl, rfl, rfl, h1, r1⟩ := trodAll_cons r0
  obtain ⟨rfl, rfl, rfl⟩ := trodAll_nil r1
  obtain rfl : args = #[v0, v1] := by cases args; simp_all
  obtain ⟨A0, n0, c0, l0, rfl, hl0, hr0, hn0, hc0⟩ := exts_open (hval 0 _ v0 rfl rfl) h0 _ (reach_exts hsz (j := 0) rfl rfl)
  obtain ⟨x1, rfl, rfl, rfl, hx1⟩ := open_int Try.underlying3 (hval 1 _ v1 rfl rfl) h1
  have bx1 := bounds_i64 hx1
  exact walk A0 n0 c0 l0 x1 W hl0 hr0 hn0 (by omega)

set_option maxRecDepth 100000 in
theorem proved : Rows.LeafWithoutSaid :=
  OpenClaim.holds_of_wide 6 Try.f6 rfl rfl rfl rfl rfl rfl rfl ⟨rfl, rfl, rfl, rfl, rfl⟩ rfl rfl rfl rfl rfl (by kernel_rfl) Try.func6 (by kernel_rfl)
    (of_decide_eq_true (by kernel_rfl)) (by unfold Func.isWrapper; first | (rw [if_pos (by decide +kernel)]; kernel_rfl) | (rw [if_neg (by decide +kernel)]; exact ⟨rfl, rfl⟩))
    (fun os started H enc _ => lifted (s := Rows.leafWithoutSpec) walks (by kernel_rfl) rfl rfl (fun H ds hl => by match ds, hl with | [d1, d2], _ => rfl) (by kernel_rfl) Try.func6 os started H enc
      (ChangeSpec.witness6 (enc := enc) (C := Try.checked) false ⟨#[], #[.slice none 0 0, .int .i64 0], []⟩ 8 (by kernel_rfl) (by kernel_rfl) (by kernel_rfl) (by kernel_rfl)))
#print axioms proved
end Go.Proofs.Ytmnajefioehheaa.LeafWithout
