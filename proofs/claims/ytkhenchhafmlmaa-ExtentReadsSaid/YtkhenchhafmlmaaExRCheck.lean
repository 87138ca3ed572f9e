/- Whether a list is right: the document's call; and how many nodes it needs. -/
import Derived.Test.YtkhenchhafmlmaaExRight
import Derived.Test.YtkhenchhafmlmaaExCalls
import Derived.Test.YtkhenchhafmlmaaRegF
namespace Go.Proofs.Ytkhenchhafmlmaa.Ex
set_option maxRecDepth 20000
open Go.RowKit
open Go.Proofs.Ytkhenchhafmlmaa.Mem Go.Proofs.Ytkhenchhafmlmaa.Crc Go.Proofs.Ytkhenchhafmlmaa.Rec Go.Proofs.Ytkhenchhafmlmaa.Reg
attribute [local go_sem ↓] ldX_eq stX_eq

set_option maxRecDepth 100000 in
set_option maxHeartbeats 4000000 in
theorem rcheck_any (A : Option Addr) (n c B : Nat) (l : List X) (w : World) (h : HoldsX w B A n l) (hB : B ≤ w.heap.size) (hr : ∀ x ∈ l, x.rep) (hn : n ≤ 4398046511104) :
    Calls Try.prog 17 #[.slice A n c] w fun e w' => e = .returned (.int .i64 (chkX l)) ∧ Below w.heap.size w w' := by
  have hln := h.1
  by_cases h60 : n ≤ 60
  rotate_left
  · have hd : (60 : Int) < (n : Int) := by omega
    have hf : right l = false := by unfold right; rw [decide_eq_false (by omega)]; rfl
    have hch : chkX l = 1 := by unfold chkX; rw [hf]; rfl
    rw [hch]
    clear h hln hf hch
    go_enter Try.func17, Try.ntmps17
    go_wp2
    go_ret
    exact ⟨rfl, Below.refl _ _⟩
  · have hd : ¬ (60 < (n : Int)) := by omega
    obtain ⟨ch, hch⟩ : ∃ ch, ch = chkX l := ⟨_, rfl⟩
    rw [← hch]
    have hbad : right l = false → ch = 1 := fun h => by rw [hch]; unfold chkX; rw [h]; rfl
    have hgood : right l = true → ch = 0 := fun h => by rw [hch]; unfold chkX; rw [h]; rfl
    have HBAD := Lib.hid hbad; clear hbad
    have HGOOD := Lib.hid hgood; clear hgood hch
    have H := Lib.hid h; clear h
    have HLN := Lib.hid hln; clear hln
    have HR := Lib.hid hr; clear hr
    go_enter Try.func17, Try.ntmps17
    go_wp2
    go_loopw [3] (fun i wr => ∃ k : Nat, k ≤ n ∧ i = .int .i64 (k : Int) ∧ (∀ j, (hj : j < l.length) → j < k → okB (l.take j) l[j] = true) ∧ Below w.heap.size w wr) (fun i _ => n - (intOf i).toNat)
    case atStart => exact ⟨0, Nat.zero_le _, rfl, fun j _ h => absurd h (by omega), Below.refl _ _⟩
    case round =>
      obtain ⟨k, hk, rfl, hok, hbr⟩ := hrel
      have HOK := Lib.hid hok; clear hok
      rcases Nat.lt_or_ge k n with hlt | hge
      rotate_left
      · have hkn : k = n := by omega
        have hf : right l = true := (right_at l).2 ⟨by have := HLN.out; omega, fun j hj => HOK.out j hj (by have := HLN.out; omega)⟩
        have HC := Lib.hid (HGOOD.out hf)
        have HBR := Lib.hid hbr; clear hbr
        have HKN := Lib.hid hkn; clear hkn hf
        have hge' : ¬ (k : Int) < (n : Int) := by omega
        go_wp2
        go_ret
        exact ⟨by rw [HC.out]; rfl, HBR.out⟩
      · obtain ⟨b, off, rfl, hbB⟩ := H.out.addr (by omega)
        have hkl : k < l.length := by have := HLN.out; omega
        obtain ⟨e, he⟩ : ∃ e, e = l[k] := ⟨_, rfl⟩
        have hrep : e.rep := HR.out e (he ▸ List.getElem_mem hkl)
        have hh : ∀ V, Below wr.heap.size wr V → HoldsX V B (some ⟨b, off, none⟩) n l := fun V hV => H.out.below ((hbr.trans (hV.mono hbr.size)).mono hB)
        have hld := run_ldX_at (hh wr (Below.refl _ _)) k hkl (off + k * 4) rfl
        rw [← he] at hld
        have hmay : ∀ V, Calls Try.prog 39 #[.agg e.c] V fun E w' => E = .returned (.bool e.may) ∧ Below V.heap.size V w' := fun V => rmay_any e hrep V
        have hk0 : (0 : Int) ≤ (k : Int) := by omega
        have hkn : (k : Int) < (n : Int) := by omega
        have HHH := Lib.hid hh; clear hh
        have HBR := Lib.hid hbr; clear hbr
        have HE := Lib.hid he; clear he
        have HC := Lib.hid (show e.c = e.c from rfl)
        obtain ⟨C, hC⟩ : ∃ C, C = e.c := ⟨_, rfl⟩
        rw [← hC] at hld hmay
        have HCE := Lib.hid hC; clear hC HC
        cases hm : e.may with
        | false =>
          have hf : right l = false := right_noE hkl HE.out (okB_may hm)
          have HC := Lib.hid (HBAD.out hf)
          rw [hm] at hmay
          have HM := Lib.hid hmay; clear hmay hf hm
          go_wp2_with fail
          with_reducible refine (HM.out wr).mono ?_
          rintro E V1 ⟨rfl, hb1⟩
          have HW1 := Lib.hid hb1; clear hb1 hld
          go_wp2
          go_ret
          exact ⟨by rw [HC.out]; rfl, HBR.out.trans (HW1.out.mono HBR.out.size)⟩
        | true =>
          rw [hm] at hmay
          have HM := Lib.hid hmay; clear hmay
          have hem := may_iff.1 hm
          have HEM := Lib.hid hm; clear hm
          obtain ⟨ea, hea⟩ : ∃ ea, ea = e.a := ⟨_, rfl⟩
          obtain ⟨es, hes⟩ : ∃ es, es = e.s := ⟨_, rfl⟩
          obtain ⟨en, hen⟩ : ∃ en, en = e.n := ⟨_, rfl⟩
          have her : 0 ≤ ea ∧ 1 ≤ es ∧ 1 ≤ en ∧ ea + en ≤ 256 ∧ es + en ≤ 1024 := by omega
          obtain ⟨er1, er2, er3, er4, er5⟩ := her
          have HEA := Lib.hid hea; clear hea
          have HES := Lib.hid hes; clear hes
          have HEN := Lib.hid hen; clear hen hem
          go_wp2_with fail
          with_reducible refine (HM.out wr).mono ?_
          rintro E V1 ⟨rfl, hb1⟩
          have HW1 := Lib.hid hb1; clear hb1 hld HM
          have HUP : Hid (∀ V, Below V1.heap.size V1 V → Below w.heap.size w V ∧ HoldsX V B (some ⟨b, off, none⟩) n l) := Lib.hid fun V hV => by
            have hb : Below wr.heap.size wr V := HW1.out.trans (hV.mono HW1.out.size)
            exact ⟨HBR.out.trans (hb.mono HBR.out.size), HHH.out V hb⟩
          go_wp2
          go_loopw [4] (fun i wr2 => ∃ j : Nat, j ≤ k ∧ i = .int .i64 (j : Int) ∧ (∀ q, (hq : q < l.length) → q < j → meet (l[q]).s (l[q]).n e.s e.n = false) ∧ Below V1.heap.size V1 wr2) (fun i _ => k - (intOf i).toNat)
          case atStart => exact ⟨0, Nat.zero_le _, rfl, fun q _ h => absurd h (by omega), Below.refl _ _⟩
          case round =>
            obtain ⟨j, hj, rfl, hno, hb2⟩ := hrel
            have HNO := Lib.hid hno; clear hno
            have hbase : Below w.heap.size w wr := (HUP.out wr hb2).1
            have HBASE := Lib.hid hbase; clear hbase
            have HB2 := Lib.hid hb2; clear hb2
            rcases Nat.lt_or_ge j k with hjk | hjk
            · have hjl : j < l.length := by omega
              obtain ⟨x, hx⟩ : ∃ x, x = l[j] := ⟨_, rfl⟩
              have hxm : x.may = true := by
                have := HOK.out j hjl hjk
                unfold okB at this
                rw [Bool.and_eq_true, Bool.and_eq_true] at this
                rw [hx]; exact this.1.1
              have hxm' := may_iff.1 hxm
              obtain ⟨xs, hxs⟩ : ∃ xs, xs = x.s := ⟨_, rfl⟩
              obtain ⟨xn, hxn⟩ : ∃ xn, xn = x.n := ⟨_, rfl⟩
              have hxr : 1 ≤ xs ∧ 1 ≤ xn ∧ xs + xn ≤ 1024 := by omega
              obtain ⟨xr1, xr2, xr3⟩ := hxr
              have hs11 : ∀ V, Below wr.heap.size wr V → V.cell? ⟨b, off + j * 4 + 1, none⟩ = some (.int .i64 xs) ∧ V.cell? ⟨b, off + j * 4 + 2, none⟩ = some (.int .i64 xn) ∧ V.cell? ⟨b, off + k * 4 + 1, none⟩ = some (.int .i64 es) ∧ V.cell? ⟨b, off + k * 4 + 2, none⟩ = some (.int .i64 en) := fun V hV => by
                have hh := (HUP.out V (HB2.out.trans (hV.mono HB2.out.size))).2
                have c1 := hh.cell j hjl
                have c2 := hh.cell k hkl
                rw [← hx] at c1
                rw [← HE.out] at c2
                rw [hxs, hxn, HES.out, HEN.out]
                exact ⟨c1.2.1, c1.2.2.1, c2.2.1, c2.2.2.1⟩
              have HS11 := Lib.hid hs11; clear hs11
              have HX : Hid (meet (l[j]).s (l[j]).n e.s e.n = meet xs xn es en) := Lib.hid (by rw [hxs, hxn, hx, HES.out, HEN.out])
              have hj1 : (0 : Int) ≤ (j : Int) := by omega
              have hj2 : (j : Int) < (k : Int) := by omega
              have hj3 : (j : Int) < (n : Int) := by omega
              have hw1 : IntKind.i64.wrap (es + en) = es + en := by rw [IntKind.wrap_i64]; omega
              have hw2 : IntKind.i64.wrap (xs + xn) = xs + xn := by rw [IntKind.wrap_i64]; omega
              clear hx hxs hxn hxm hxm'
              have hnext : meet xs xn es en = false → ∀ q, (hq : q < l.length) → q < j + 1 → meet (l[q]).s (l[q]).n e.s e.n = false := fun hn q hq hlt => by
                rcases Nat.lt_or_ge q j with h' | h'
                · exact HNO.out q hq h'
                · have hqj : q = j := by omega
                  subst hqj
                  rw [HX.out]; exact hn
              have HNEXT := Lib.hid hnext; clear hnext
              rcases Decidable.em (xs < es + en) with g1 | g1
              · have hd1 : decide (xs < es + en) = true := decide_eq_true g1
                rcases Decidable.em (es < xs + xn) with g2 | g2
                · have hok : okB (l.take k) e = false := okB_apart (j := j) (by rw [List.length_take]; omega) (by rw [List.getElem_take, HX.out]; exact decide_eq_true ⟨g1, g2⟩)
                  have hf : right l = false := right_noE hkl HE.out hok
                  have HC := Lib.hid (HBAD.out hf); clear hf hok
                  have hd2 : decide (es < xs + xn) = true := decide_eq_true g2
                  clear g1 g2
                  go_wp2_with fail
                  refine wp_region_E (fun V => Below wr.heap.size wr V) 99 rfl ?_
                  have hS := (show Below wr.heap.size wr wr.drew from (Below.refl _ wr).drew)
                  refine wpE_takeF 0 ⟨some 25, _, _, _, _, _⟩ (v := ?_) (by decide) rfl (by kernel_rfl) (by kernel_rfl) (by kernel_rfl) (fun _ _ _ h => h) hS (Or.inl ⟨by kernel_rfl, ?_⟩) ?_
                  rotate_left
                  · (intro V hSw; obtain ⟨hq1, hq2, hq3, hq4⟩ := HS11.out V hSw; go_simp; try with_reducible rfl)
                  try simp only [Act.put]
                  refine wpE_takeF 1 ⟨some 26, _, _, _, _, _⟩ (v := ?_) (by decide) rfl (by kernel_rfl) (by kernel_rfl) (by kernel_rfl) (fun _ _ _ h => h) hS (Or.inl ⟨by kernel_rfl, ?_⟩) ?_
                  rotate_left
                  · (intro V hSw; obtain ⟨hq1, hq2, hq3, hq4⟩ := HS11.out V hSw; go_simp; try with_reducible rfl)
                  try simp only [Act.put]
                  refine wpE_takeF 2 ⟨some 27, _, _, _, _, _⟩ (v := ?_) (by decide) rfl (by kernel_rfl) (by kernel_rfl) (by kernel_rfl) (fun _ _ _ h => h) hS (Or.inl ⟨by kernel_rfl, ?_⟩) ?_
                  rotate_left
                  · (intro V hSw; obtain ⟨hq1, hq2, hq3, hq4⟩ := HS11.out V hSw; go_simp; try with_reducible rfl)
                  try simp only [Act.put]
                  refine wpE_takeF 3 ⟨some 28, _, _, _, _, _⟩ (v := ?_) (by decide) rfl (by kernel_rfl) (by kernel_rfl) (by kernel_rfl) (fun _ _ _ h => h) hS (Or.inl ⟨by kernel_rfl, ?_⟩) ?_
                  rotate_left
                  · (intro V hSw; obtain ⟨hq1, hq2, hq3, hq4⟩ := HS11.out V hSw; go_simp; try with_reducible rfl)
                  try simp only [Act.put]
                  refine wpE_takeF 4 ⟨some 29, _, _, _, _, _⟩ (v := ?_) (by decide) rfl (by kernel_rfl) (by kernel_rfl) (by kernel_rfl) (fun _ _ _ h => h) hS (Or.inl ⟨by kernel_rfl, ?_⟩) ?_
                  rotate_left
                  · (intro V hSw; obtain ⟨hq1, hq2, hq3, hq4⟩ := HS11.out V hSw; go_simp; try with_reducible rfl)
                  try simp only [Act.put]
                  refine wpE_takeF 5 ⟨some 30, _, _, _, _, _⟩ (v := ?_) (by decide) rfl (by kernel_rfl) (by kernel_rfl) (by kernel_rfl) (fun _ _ _ h => h) hS (Or.inl ⟨by kernel_rfl, ?_⟩) ?_
                  rotate_left
                  · (intro V hSw; obtain ⟨hq1, hq2, hq3, hq4⟩ := HS11.out V hSw; go_simp; try with_reducible rfl)
                  try simp only [Act.put]
                  refine wpE_takeF 6 ⟨some 31, _, _, _, _, _⟩ (v := ?_) (by decide) rfl (by kernel_rfl) (by kernel_rfl) (by kernel_rfl) (fun _ _ _ h => h) hS (Or.inl ⟨by kernel_rfl, ?_⟩) ?_
                  rotate_left
                  · (intro V hSw; obtain ⟨hq1, hq2, hq3, hq4⟩ := HS11.out V hSw; go_simp; try with_reducible rfl)
                  try simp only [Act.put]
                  refine wpE_takeF 7 ⟨some 32, _, _, _, _, _⟩ (v := ?_) (by decide) rfl (by kernel_rfl) (by kernel_rfl) (by kernel_rfl) (fun _ _ _ h => h) hS (Or.inl ⟨by kernel_rfl, ?_⟩) ?_
                  rotate_left
                  · (intro V hSw; obtain ⟨hq1, hq2, hq3, hq4⟩ := HS11.out V hSw; go_simp; try with_reducible rfl)
                  try simp only [Act.put]
                  refine wpE_takeF 8 ⟨some 33, _, _, _, _, _⟩ (v := ?_) (by decide) rfl (by kernel_rfl) (by kernel_rfl) (by kernel_rfl) (fun _ _ _ h => h) hS (Or.inl ⟨by kernel_rfl, ?_⟩) ?_
                  rotate_left
                  · (intro V hSw; obtain ⟨hq1, hq2, hq3, hq4⟩ := HS11.out V hSw; go_simp; try with_reducible rfl)
                  try simp only [Act.put]
                  refine wpE_takeF 9 ⟨some 34, _, _, _, _, _⟩ (v := ?_) (by decide) rfl (by kernel_rfl) (by kernel_rfl) (by kernel_rfl) (fun _ _ _ h => h) hS (Or.inl ⟨by kernel_rfl, ?_⟩) ?_
                  rotate_left
                  · (intro V hSw; obtain ⟨hq1, hq2, hq3, hq4⟩ := HS11.out V hSw; go_simp; try with_reducible rfl)
                  try simp only [Act.put]
                  refine wpE_takeF 10 ⟨some 35, _, _, _, _, _⟩ (v := ?_) (by decide) rfl (by kernel_rfl) (by kernel_rfl) (by kernel_rfl) (fun _ _ _ h => h) hS (Or.inl ⟨by kernel_rfl, ?_⟩) ?_
                  rotate_left
                  · (intro V hSw; obtain ⟨hq1, hq2, hq3, hq4⟩ := HS11.out V hSw; go_simp; try with_reducible rfl)
                  try simp only [Act.put]
                  refine wpE_takeF 11 ⟨some 36, _, _, _, _, _⟩ (v := ?_) (by decide) rfl (by kernel_rfl) (by kernel_rfl) (by kernel_rfl) (fun _ _ _ h => h) hS (Or.inl ⟨by kernel_rfl, ?_⟩) ?_
                  rotate_left
                  · (intro V hSw; obtain ⟨hq1, hq2, hq3, hq4⟩ := HS11.out V hSw; go_simp; try with_reducible rfl)
                  try simp only [Act.put]
                  refine wpE_takeF 12 ⟨some 37, _, _, _, _, _⟩ (v := ?_) (by decide) rfl (by kernel_rfl) (by kernel_rfl) (by kernel_rfl) (fun _ _ _ h => h) hS (Or.inl ⟨by kernel_rfl, ?_⟩) ?_
                  rotate_left
                  · (intro V hSw; obtain ⟨hq1, hq2, hq3, hq4⟩ := HS11.out V hSw; go_simp; try with_reducible rfl)
                  try simp only [Act.put]
                  refine wpE_takeF 13 ⟨some 38, _, _, _, _, _⟩ (v := ?_) (by decide) rfl (by kernel_rfl) (by kernel_rfl) (by kernel_rfl) (fun _ _ _ h => h) hS (Or.inl ⟨by kernel_rfl, ?_⟩) ?_
                  rotate_left
                  · (intro V hSw; obtain ⟨hq1, hq2, hq3, hq4⟩ := HS11.out V hSw; go_simp; try with_reducible rfl)
                  try simp only [Act.put]
                  refine wpE_takeF 14 ⟨some 39, _, _, _, _, _⟩ (v := ?_) (by decide) rfl (by kernel_rfl) (by kernel_rfl) (by kernel_rfl) (fun _ _ _ h => h) hS (Or.inl ⟨by kernel_rfl, ?_⟩) ?_
                  rotate_left
                  · (intro V hSw; obtain ⟨hq1, hq2, hq3, hq4⟩ := HS11.out V hSw; go_simp; try with_reducible rfl)
                  try simp only [Act.put]
                  refine wpE_takeF 15 ⟨some 40, _, _, _, _, _⟩ (v := ?_) (by decide) rfl (by kernel_rfl) (by kernel_rfl) (by kernel_rfl) (fun _ _ _ h => h) hS (Or.inl ⟨by kernel_rfl, ?_⟩) ?_
                  rotate_left
                  · (intro V hSw; obtain ⟨hq1, hq2, hq3, hq4⟩ := HS11.out V hSw; go_simp; try with_reducible rfl)
                  try simp only [Act.put]
                  refine wpE_takeF 16 ⟨some 41, _, _, _, _, _⟩ (v := ?_) (by decide) rfl (by kernel_rfl) (by kernel_rfl) (by kernel_rfl) (fun _ _ _ h => h) hS (Or.inl ⟨by kernel_rfl, ?_⟩) ?_
                  rotate_left
                  · (intro V hSw; obtain ⟨hq1, hq2, hq3, hq4⟩ := HS11.out V hSw; go_simp; try with_reducible rfl)
                  try simp only [Act.put]
                  refine wpE_takeF 17 ⟨some 42, _, _, _, _, _⟩ (v := ?_) (by decide) rfl (by kernel_rfl) (by kernel_rfl) (by kernel_rfl) (fun _ _ _ h => h) hS (Or.inl ⟨by kernel_rfl, ?_⟩) ?_
                  rotate_left
                  · (intro V hSw; obtain ⟨hq1, hq2, hq3, hq4⟩ := HS11.out V hSw; go_simp; try with_reducible rfl)
                  try simp only [Act.put]
                  refine wpE_takeF 18 ⟨some 43, _, _, _, _, _⟩ (v := ?_) (by decide) rfl (by kernel_rfl) (by kernel_rfl) (by kernel_rfl) (fun _ _ _ h => h) hS (Or.inl ⟨by kernel_rfl, ?_⟩) ?_
                  rotate_left
                  · (intro V hSw; obtain ⟨hq1, hq2, hq3, hq4⟩ := HS11.out V hSw; go_simp; try with_reducible rfl)
                  try simp only [Act.put]
                  refine wpE_takeF 19 ⟨some 44, _, _, _, _, _⟩ (v := ?_) (by decide) rfl (by kernel_rfl) (by kernel_rfl) (by kernel_rfl) (fun _ _ _ h => h) hS (Or.inl ⟨by kernel_rfl, ?_⟩) ?_
                  rotate_left
                  · (intro V hSw; obtain ⟨hq1, hq2, hq3, hq4⟩ := HS11.out V hSw; go_simp; try with_reducible rfl)
                  try simp only [Act.put]
                  refine wpE_takeF 20 ⟨some 45, _, _, _, _, _⟩ (v := ?_) (by decide) rfl (by kernel_rfl) (by kernel_rfl) (by kernel_rfl) (fun _ _ _ h => h) hS (Or.inl ⟨by kernel_rfl, ?_⟩) ?_
                  rotate_left
                  · (intro V hSw; obtain ⟨hq1, hq2, hq3, hq4⟩ := HS11.out V hSw; go_simp; try with_reducible rfl)
                  try simp only [Act.put]
                  refine wpE_takeF 21 ⟨some 46, _, _, _, _, _⟩ (v := ?_) (by decide) rfl (by kernel_rfl) (by kernel_rfl) (by kernel_rfl) (fun _ _ _ h => h) hS (Or.inl ⟨by kernel_rfl, ?_⟩) ?_
                  rotate_left
                  · (intro V hSw; obtain ⟨hq1, hq2, hq3, hq4⟩ := HS11.out V hSw; go_simp; try with_reducible rfl)
                  try simp only [Act.put]
                  refine wpE_takeF 22 ⟨some 47, _, _, _, _, _⟩ (v := ?_) (by decide) rfl (by kernel_rfl) (by kernel_rfl) (by kernel_rfl) (fun _ _ _ h => h) hS (Or.inl ⟨by kernel_rfl, ?_⟩) ?_
                  rotate_left
                  · (intro V hSw; obtain ⟨hq1, hq2, hq3, hq4⟩ := HS11.out V hSw; go_simp; try with_reducible rfl)
                  try simp only [Act.put]
                  refine wpE_takeF 23 ⟨some 48, _, _, _, _, _⟩ (v := ?_) (by decide) rfl (by kernel_rfl) (by kernel_rfl) (by kernel_rfl) (fun _ _ _ h => h) hS (Or.inl ⟨by kernel_rfl, ?_⟩) ?_
                  rotate_left
                  · (intro V hSw; obtain ⟨hq1, hq2, hq3, hq4⟩ := HS11.out V hSw; go_simp; try with_reducible rfl)
                  try simp only [Act.put]
                  refine wpE_takeF 24 ⟨some 49, _, _, _, _, _⟩ (v := ?_) (by decide) rfl (by kernel_rfl) (by kernel_rfl) (by kernel_rfl) (fun _ _ _ h => h) hS (Or.inl ⟨by kernel_rfl, ?_⟩) ?_
                  rotate_left
                  · (intro V hSw; obtain ⟨hq1, hq2, hq3, hq4⟩ := HS11.out V hSw; go_simp; try with_reducible rfl)
                  try simp only [Act.put]
                  refine wpE_takeF 25 ⟨some 50, _, _, _, _, _⟩ (v := ?_) (by decide) rfl (by kernel_rfl) (by kernel_rfl) (by kernel_rfl) (fun _ _ _ h => h) hS (Or.inl ⟨by kernel_rfl, ?_⟩) ?_
                  rotate_left
                  · (intro V hSw; obtain ⟨hq1, hq2, hq3, hq4⟩ := HS11.out V hSw; go_simp; try with_reducible rfl)
                  try simp only [Act.put]
                  refine wpE_takeF 26 ⟨some 51, _, _, _, _, _⟩ (v := ?_) (by decide) rfl (by kernel_rfl) (by kernel_rfl) (by kernel_rfl) (fun _ _ _ h => h) hS (Or.inl ⟨by kernel_rfl, ?_⟩) ?_
                  rotate_left
                  · (intro V hSw; obtain ⟨hq1, hq2, hq3, hq4⟩ := HS11.out V hSw; go_simp; try with_reducible rfl)
                  try simp only [Act.put]
                  refine wpE_takeF 27 ⟨some 52, _, _, _, _, _⟩ (v := ?_) (by decide) rfl (by kernel_rfl) (by kernel_rfl) (by kernel_rfl) (fun _ _ _ h => h) hS (Or.inl ⟨by kernel_rfl, ?_⟩) ?_
                  rotate_left
                  · (intro V hSw; obtain ⟨hq1, hq2, hq3, hq4⟩ := HS11.out V hSw; go_simp; try with_reducible rfl)
                  try simp only [Act.put]
                  refine wpE_takeF 28 ⟨some 53, _, _, _, _, _⟩ (v := ?_) (by decide) rfl (by kernel_rfl) (by kernel_rfl) (by kernel_rfl) (fun _ _ _ h => h) hS (Or.inl ⟨by kernel_rfl, ?_⟩) ?_
                  rotate_left
                  · (intro V hSw; obtain ⟨hq1, hq2, hq3, hq4⟩ := HS11.out V hSw; go_simp; try with_reducible rfl)
                  try simp only [Act.put]
                  refine wpE_takeF 29 ⟨some 54, _, _, _, _, _⟩ (v := ?_) (by decide) rfl (by kernel_rfl) (by kernel_rfl) (by kernel_rfl) (fun _ _ _ h => h) hS (Or.inl ⟨by kernel_rfl, ?_⟩) ?_
                  rotate_left
                  · (intro V hSw; obtain ⟨hq1, hq2, hq3, hq4⟩ := HS11.out V hSw; go_simp; try with_reducible rfl)
                  try simp only [Act.put]
                  refine wpE_takeF 30 ⟨some 55, _, _, _, _, _⟩ (v := ?_) (by decide) rfl (by kernel_rfl) (by kernel_rfl) (by kernel_rfl) (fun _ _ _ h => h) hS (Or.inl ⟨by kernel_rfl, ?_⟩) ?_
                  rotate_left
                  · (intro V hSw; obtain ⟨hq1, hq2, hq3, hq4⟩ := HS11.out V hSw; go_simp; try with_reducible rfl)
                  try simp only [Act.put]
                  refine wpE_takeF 31 ⟨some 56, _, _, _, _, _⟩ (v := ?_) (by decide) rfl (by kernel_rfl) (by kernel_rfl) (by kernel_rfl) (fun _ _ _ h => h) hS (Or.inl ⟨by kernel_rfl, ?_⟩) ?_
                  rotate_left
                  · (intro V hSw; obtain ⟨hq1, hq2, hq3, hq4⟩ := HS11.out V hSw; go_simp; try with_reducible rfl)
                  try simp only [Act.put]
                  refine wpE_takeF 32 ⟨some 57, _, _, _, _, _⟩ (v := ?_) (by decide) rfl (by kernel_rfl) (by kernel_rfl) (by kernel_rfl) (fun _ _ _ h => h) hS (Or.inl ⟨by kernel_rfl, ?_⟩) ?_
                  rotate_left
                  · (intro V hSw; obtain ⟨hq1, hq2, hq3, hq4⟩ := HS11.out V hSw; go_simp; try with_reducible rfl)
                  try simp only [Act.put]
                  refine wpE_takeF 33 ⟨some 58, _, _, _, _, _⟩ (v := ?_) (by decide) rfl (by kernel_rfl) (by kernel_rfl) (by kernel_rfl) (fun _ _ _ h => h) hS (Or.inl ⟨by kernel_rfl, ?_⟩) ?_
                  rotate_left
                  · (intro V hSw; obtain ⟨hq1, hq2, hq3, hq4⟩ := HS11.out V hSw; go_simp; try with_reducible rfl)
                  try simp only [Act.put]
                  refine wpE_takeF 34 ⟨some 59, _, _, _, _, _⟩ (v := ?_) (by decide) rfl (by kernel_rfl) (by kernel_rfl) (by kernel_rfl) (fun _ _ _ h => h) hS (Or.inl ⟨by kernel_rfl, ?_⟩) ?_
                  rotate_left
                  · (intro V hSw; obtain ⟨hq1, hq2, hq3, hq4⟩ := HS11.out V hSw; go_simp; try with_reducible rfl)
                  try simp only [Act.put]
                  refine wpE_takeF 35 ⟨some 60, _, _, _, _, _⟩ (v := ?_) (by decide) rfl (by kernel_rfl) (by kernel_rfl) (by kernel_rfl) (fun _ _ _ h => h) hS (Or.inl ⟨by kernel_rfl, ?_⟩) ?_
                  rotate_left
                  · (intro V hSw; obtain ⟨hq1, hq2, hq3, hq4⟩ := HS11.out V hSw; go_simp; try with_reducible rfl)
                  try simp only [Act.put]
                  refine wpE_done (by kernel_rfl) ?_ _
                  try simp only [List.setIfInBounds_toArray, List.set_cons_succ, List.set_cons_zero]
                  go_wp2
                  go_ret
                  exact ⟨by rw [HC.out]; rfl, HBASE.out.drew⟩
                · have HNX := Lib.hid (HNEXT.out (decide_eq_false (fun h => g2 h.2)))
                  have hd2 : decide (es < xs + xn) = false := decide_eq_false g2
                  clear g1 g2
                  go_wp2_with fail
                  refine wp_region_E (fun V => Below wr.heap.size wr V) 99 rfl ?_
                  have hS := (show Below wr.heap.size wr wr.drew from (Below.refl _ wr).drew)
                  refine wpE_takeF 0 ⟨some 25, _, _, _, _, _⟩ (v := ?_) (by decide) rfl (by kernel_rfl) (by kernel_rfl) (by kernel_rfl) (fun _ _ _ h => h) hS (Or.inl ⟨by kernel_rfl, ?_⟩) ?_
                  rotate_left
                  · (intro V hSw; obtain ⟨hq1, hq2, hq3, hq4⟩ := HS11.out V hSw; go_simp; try with_reducible rfl)
                  try simp only [Act.put]
                  refine wpE_takeF 1 ⟨some 26, _, _, _, _, _⟩ (v := ?_) (by decide) rfl (by kernel_rfl) (by kernel_rfl) (by kernel_rfl) (fun _ _ _ h => h) hS (Or.inl ⟨by kernel_rfl, ?_⟩) ?_
                  rotate_left
                  · (intro V hSw; obtain ⟨hq1, hq2, hq3, hq4⟩ := HS11.out V hSw; go_simp; try with_reducible rfl)
                  try simp only [Act.put]
                  refine wpE_takeF 2 ⟨some 27, _, _, _, _, _⟩ (v := ?_) (by decide) rfl (by kernel_rfl) (by kernel_rfl) (by kernel_rfl) (fun _ _ _ h => h) hS (Or.inl ⟨by kernel_rfl, ?_⟩) ?_
                  rotate_left
                  · (intro V hSw; obtain ⟨hq1, hq2, hq3, hq4⟩ := HS11.out V hSw; go_simp; try with_reducible rfl)
                  try simp only [Act.put]
                  refine wpE_takeF 3 ⟨some 28, _, _, _, _, _⟩ (v := ?_) (by decide) rfl (by kernel_rfl) (by kernel_rfl) (by kernel_rfl) (fun _ _ _ h => h) hS (Or.inl ⟨by kernel_rfl, ?_⟩) ?_
                  rotate_left
                  · (intro V hSw; obtain ⟨hq1, hq2, hq3, hq4⟩ := HS11.out V hSw; go_simp; try with_reducible rfl)
                  try simp only [Act.put]
                  refine wpE_takeF 4 ⟨some 29, _, _, _, _, _⟩ (v := ?_) (by decide) rfl (by kernel_rfl) (by kernel_rfl) (by kernel_rfl) (fun _ _ _ h => h) hS (Or.inl ⟨by kernel_rfl, ?_⟩) ?_
                  rotate_left
                  · (intro V hSw; obtain ⟨hq1, hq2, hq3, hq4⟩ := HS11.out V hSw; go_simp; try with_reducible rfl)
                  try simp only [Act.put]
                  refine wpE_takeF 5 ⟨some 30, _, _, _, _, _⟩ (v := ?_) (by decide) rfl (by kernel_rfl) (by kernel_rfl) (by kernel_rfl) (fun _ _ _ h => h) hS (Or.inl ⟨by kernel_rfl, ?_⟩) ?_
                  rotate_left
                  · (intro V hSw; obtain ⟨hq1, hq2, hq3, hq4⟩ := HS11.out V hSw; go_simp; try with_reducible rfl)
                  try simp only [Act.put]
                  refine wpE_takeF 6 ⟨some 31, _, _, _, _, _⟩ (v := ?_) (by decide) rfl (by kernel_rfl) (by kernel_rfl) (by kernel_rfl) (fun _ _ _ h => h) hS (Or.inl ⟨by kernel_rfl, ?_⟩) ?_
                  rotate_left
                  · (intro V hSw; obtain ⟨hq1, hq2, hq3, hq4⟩ := HS11.out V hSw; go_simp; try with_reducible rfl)
                  try simp only [Act.put]
                  refine wpE_takeF 7 ⟨some 32, _, _, _, _, _⟩ (v := ?_) (by decide) rfl (by kernel_rfl) (by kernel_rfl) (by kernel_rfl) (fun _ _ _ h => h) hS (Or.inl ⟨by kernel_rfl, ?_⟩) ?_
                  rotate_left
                  · (intro V hSw; obtain ⟨hq1, hq2, hq3, hq4⟩ := HS11.out V hSw; go_simp; try with_reducible rfl)
                  try simp only [Act.put]
                  refine wpE_takeF 8 ⟨some 33, _, _, _, _, _⟩ (v := ?_) (by decide) rfl (by kernel_rfl) (by kernel_rfl) (by kernel_rfl) (fun _ _ _ h => h) hS (Or.inl ⟨by kernel_rfl, ?_⟩) ?_
                  rotate_left
                  · (intro V hSw; obtain ⟨hq1, hq2, hq3, hq4⟩ := HS11.out V hSw; go_simp; try with_reducible rfl)
                  try simp only [Act.put]
                  refine wpE_takeF 9 ⟨some 34, _, _, _, _, _⟩ (v := ?_) (by decide) rfl (by kernel_rfl) (by kernel_rfl) (by kernel_rfl) (fun _ _ _ h => h) hS (Or.inl ⟨by kernel_rfl, ?_⟩) ?_
                  rotate_left
                  · (intro V hSw; obtain ⟨hq1, hq2, hq3, hq4⟩ := HS11.out V hSw; go_simp; try with_reducible rfl)
                  try simp only [Act.put]
                  refine wpE_takeF 10 ⟨some 35, _, _, _, _, _⟩ (v := ?_) (by decide) rfl (by kernel_rfl) (by kernel_rfl) (by kernel_rfl) (fun _ _ _ h => h) hS (Or.inl ⟨by kernel_rfl, ?_⟩) ?_
                  rotate_left
                  · (intro V hSw; obtain ⟨hq1, hq2, hq3, hq4⟩ := HS11.out V hSw; go_simp; try with_reducible rfl)
                  try simp only [Act.put]
                  refine wpE_takeF 11 ⟨some 36, _, _, _, _, _⟩ (v := ?_) (by decide) rfl (by kernel_rfl) (by kernel_rfl) (by kernel_rfl) (fun _ _ _ h => h) hS (Or.inl ⟨by kernel_rfl, ?_⟩) ?_
                  rotate_left
                  · (intro V hSw; obtain ⟨hq1, hq2, hq3, hq4⟩ := HS11.out V hSw; go_simp; try with_reducible rfl)
                  try simp only [Act.put]
                  refine wpE_takeF 12 ⟨some 37, _, _, _, _, _⟩ (v := ?_) (by decide) rfl (by kernel_rfl) (by kernel_rfl) (by kernel_rfl) (fun _ _ _ h => h) hS (Or.inl ⟨by kernel_rfl, ?_⟩) ?_
                  rotate_left
                  · (intro V hSw; obtain ⟨hq1, hq2, hq3, hq4⟩ := HS11.out V hSw; go_simp; try with_reducible rfl)
                  try simp only [Act.put]
                  refine wpE_takeF 13 ⟨some 38, _, _, _, _, _⟩ (v := ?_) (by decide) rfl (by kernel_rfl) (by kernel_rfl) (by kernel_rfl) (fun _ _ _ h => h) hS (Or.inl ⟨by kernel_rfl, ?_⟩) ?_
                  rotate_left
                  · (intro V hSw; obtain ⟨hq1, hq2, hq3, hq4⟩ := HS11.out V hSw; go_simp; try with_reducible rfl)
                  try simp only [Act.put]
                  refine wpE_takeF 14 ⟨some 39, _, _, _, _, _⟩ (v := ?_) (by decide) rfl (by kernel_rfl) (by kernel_rfl) (by kernel_rfl) (fun _ _ _ h => h) hS (Or.inl ⟨by kernel_rfl, ?_⟩) ?_
                  rotate_left
                  · (intro V hSw; obtain ⟨hq1, hq2, hq3, hq4⟩ := HS11.out V hSw; go_simp; try with_reducible rfl)
                  try simp only [Act.put]
                  refine wpE_takeF 15 ⟨some 40, _, _, _, _, _⟩ (v := ?_) (by decide) rfl (by kernel_rfl) (by kernel_rfl) (by kernel_rfl) (fun _ _ _ h => h) hS (Or.inl ⟨by kernel_rfl, ?_⟩) ?_
                  rotate_left
                  · (intro V hSw; obtain ⟨hq1, hq2, hq3, hq4⟩ := HS11.out V hSw; go_simp; try with_reducible rfl)
                  try simp only [Act.put]
                  refine wpE_takeF 16 ⟨some 41, _, _, _, _, _⟩ (v := ?_) (by decide) rfl (by kernel_rfl) (by kernel_rfl) (by kernel_rfl) (fun _ _ _ h => h) hS (Or.inl ⟨by kernel_rfl, ?_⟩) ?_
                  rotate_left
                  · (intro V hSw; obtain ⟨hq1, hq2, hq3, hq4⟩ := HS11.out V hSw; go_simp; try with_reducible rfl)
                  try simp only [Act.put]
                  refine wpE_takeF 17 ⟨some 42, _, _, _, _, _⟩ (v := ?_) (by decide) rfl (by kernel_rfl) (by kernel_rfl) (by kernel_rfl) (fun _ _ _ h => h) hS (Or.inl ⟨by kernel_rfl, ?_⟩) ?_
                  rotate_left
                  · (intro V hSw; obtain ⟨hq1, hq2, hq3, hq4⟩ := HS11.out V hSw; go_simp; try with_reducible rfl)
                  try simp only [Act.put]
                  refine wpE_takeF 18 ⟨some 43, _, _, _, _, _⟩ (v := ?_) (by decide) rfl (by kernel_rfl) (by kernel_rfl) (by kernel_rfl) (fun _ _ _ h => h) hS (Or.inl ⟨by kernel_rfl, ?_⟩) ?_
                  rotate_left
                  · (intro V hSw; obtain ⟨hq1, hq2, hq3, hq4⟩ := HS11.out V hSw; go_simp; try with_reducible rfl)
                  try simp only [Act.put]
                  refine wpE_takeF 19 ⟨some 44, _, _, _, _, _⟩ (v := ?_) (by decide) rfl (by kernel_rfl) (by kernel_rfl) (by kernel_rfl) (fun _ _ _ h => h) hS (Or.inl ⟨by kernel_rfl, ?_⟩) ?_
                  rotate_left
                  · (intro V hSw; obtain ⟨hq1, hq2, hq3, hq4⟩ := HS11.out V hSw; go_simp; try with_reducible rfl)
                  try simp only [Act.put]
                  refine wpE_takeF 20 ⟨some 45, _, _, _, _, _⟩ (v := ?_) (by decide) rfl (by kernel_rfl) (by kernel_rfl) (by kernel_rfl) (fun _ _ _ h => h) hS (Or.inl ⟨by kernel_rfl, ?_⟩) ?_
                  rotate_left
                  · (intro V hSw; obtain ⟨hq1, hq2, hq3, hq4⟩ := HS11.out V hSw; go_simp; try with_reducible rfl)
                  try simp only [Act.put]
                  refine wpE_takeF 21 ⟨some 46, _, _, _, _, _⟩ (v := ?_) (by decide) rfl (by kernel_rfl) (by kernel_rfl) (by kernel_rfl) (fun _ _ _ h => h) hS (Or.inl ⟨by kernel_rfl, ?_⟩) ?_
                  rotate_left
                  · (intro V hSw; obtain ⟨hq1, hq2, hq3, hq4⟩ := HS11.out V hSw; go_simp; try with_reducible rfl)
                  try simp only [Act.put]
                  refine wpE_takeF 22 ⟨some 47, _, _, _, _, _⟩ (v := ?_) (by decide) rfl (by kernel_rfl) (by kernel_rfl) (by kernel_rfl) (fun _ _ _ h => h) hS (Or.inl ⟨by kernel_rfl, ?_⟩) ?_
                  rotate_left
                  · (intro V hSw; obtain ⟨hq1, hq2, hq3, hq4⟩ := HS11.out V hSw; go_simp; try with_reducible rfl)
                  try simp only [Act.put]
                  refine wpE_takeF 23 ⟨some 48, _, _, _, _, _⟩ (v := ?_) (by decide) rfl (by kernel_rfl) (by kernel_rfl) (by kernel_rfl) (fun _ _ _ h => h) hS (Or.inl ⟨by kernel_rfl, ?_⟩) ?_
                  rotate_left
                  · (intro V hSw; obtain ⟨hq1, hq2, hq3, hq4⟩ := HS11.out V hSw; go_simp; try with_reducible rfl)
                  try simp only [Act.put]
                  refine wpE_takeF 24 ⟨some 49, _, _, _, _, _⟩ (v := ?_) (by decide) rfl (by kernel_rfl) (by kernel_rfl) (by kernel_rfl) (fun _ _ _ h => h) hS (Or.inl ⟨by kernel_rfl, ?_⟩) ?_
                  rotate_left
                  · (intro V hSw; obtain ⟨hq1, hq2, hq3, hq4⟩ := HS11.out V hSw; go_simp; try with_reducible rfl)
                  try simp only [Act.put]
                  refine wpE_takeF 25 ⟨some 50, _, _, _, _, _⟩ (v := ?_) (by decide) rfl (by kernel_rfl) (by kernel_rfl) (by kernel_rfl) (fun _ _ _ h => h) hS (Or.inl ⟨by kernel_rfl, ?_⟩) ?_
                  rotate_left
                  · (intro V hSw; obtain ⟨hq1, hq2, hq3, hq4⟩ := HS11.out V hSw; go_simp; try with_reducible rfl)
                  try simp only [Act.put]
                  refine wpE_takeF 26 ⟨some 51, _, _, _, _, _⟩ (v := ?_) (by decide) rfl (by kernel_rfl) (by kernel_rfl) (by kernel_rfl) (fun _ _ _ h => h) hS (Or.inl ⟨by kernel_rfl, ?_⟩) ?_
                  rotate_left
                  · (intro V hSw; obtain ⟨hq1, hq2, hq3, hq4⟩ := HS11.out V hSw; go_simp; try with_reducible rfl)
                  try simp only [Act.put]
                  refine wpE_takeF 27 ⟨some 52, _, _, _, _, _⟩ (v := ?_) (by decide) rfl (by kernel_rfl) (by kernel_rfl) (by kernel_rfl) (fun _ _ _ h => h) hS (Or.inl ⟨by kernel_rfl, ?_⟩) ?_
                  rotate_left
                  · (intro V hSw; obtain ⟨hq1, hq2, hq3, hq4⟩ := HS11.out V hSw; go_simp; try with_reducible rfl)
                  try simp only [Act.put]
                  refine wpE_takeF 28 ⟨some 53, _, _, _, _, _⟩ (v := ?_) (by decide) rfl (by kernel_rfl) (by kernel_rfl) (by kernel_rfl) (fun _ _ _ h => h) hS (Or.inl ⟨by kernel_rfl, ?_⟩) ?_
                  rotate_left
                  · (intro V hSw; obtain ⟨hq1, hq2, hq3, hq4⟩ := HS11.out V hSw; go_simp; try with_reducible rfl)
                  try simp only [Act.put]
                  refine wpE_takeF 29 ⟨some 54, _, _, _, _, _⟩ (v := ?_) (by decide) rfl (by kernel_rfl) (by kernel_rfl) (by kernel_rfl) (fun _ _ _ h => h) hS (Or.inl ⟨by kernel_rfl, ?_⟩) ?_
                  rotate_left
                  · (intro V hSw; obtain ⟨hq1, hq2, hq3, hq4⟩ := HS11.out V hSw; go_simp; try with_reducible rfl)
                  try simp only [Act.put]
                  refine wpE_takeF 30 ⟨some 55, _, _, _, _, _⟩ (v := ?_) (by decide) rfl (by kernel_rfl) (by kernel_rfl) (by kernel_rfl) (fun _ _ _ h => h) hS (Or.inl ⟨by kernel_rfl, ?_⟩) ?_
                  rotate_left
                  · (intro V hSw; obtain ⟨hq1, hq2, hq3, hq4⟩ := HS11.out V hSw; go_simp; try with_reducible rfl)
                  try simp only [Act.put]
                  refine wpE_takeF 31 ⟨some 56, _, _, _, _, _⟩ (v := ?_) (by decide) rfl (by kernel_rfl) (by kernel_rfl) (by kernel_rfl) (fun _ _ _ h => h) hS (Or.inl ⟨by kernel_rfl, ?_⟩) ?_
                  rotate_left
                  · (intro V hSw; obtain ⟨hq1, hq2, hq3, hq4⟩ := HS11.out V hSw; go_simp; try with_reducible rfl)
                  try simp only [Act.put]
                  refine wpE_takeF 32 ⟨some 57, _, _, _, _, _⟩ (v := ?_) (by decide) rfl (by kernel_rfl) (by kernel_rfl) (by kernel_rfl) (fun _ _ _ h => h) hS (Or.inl ⟨by kernel_rfl, ?_⟩) ?_
                  rotate_left
                  · (intro V hSw; obtain ⟨hq1, hq2, hq3, hq4⟩ := HS11.out V hSw; go_simp; try with_reducible rfl)
                  try simp only [Act.put]
                  refine wpE_takeF 33 ⟨some 58, _, _, _, _, _⟩ (v := ?_) (by decide) rfl (by kernel_rfl) (by kernel_rfl) (by kernel_rfl) (fun _ _ _ h => h) hS (Or.inl ⟨by kernel_rfl, ?_⟩) ?_
                  rotate_left
                  · (intro V hSw; obtain ⟨hq1, hq2, hq3, hq4⟩ := HS11.out V hSw; go_simp; try with_reducible rfl)
                  try simp only [Act.put]
                  refine wpE_takeF 34 ⟨some 59, _, _, _, _, _⟩ (v := ?_) (by decide) rfl (by kernel_rfl) (by kernel_rfl) (by kernel_rfl) (fun _ _ _ h => h) hS (Or.inl ⟨by kernel_rfl, ?_⟩) ?_
                  rotate_left
                  · (intro V hSw; obtain ⟨hq1, hq2, hq3, hq4⟩ := HS11.out V hSw; go_simp; try with_reducible rfl)
                  try simp only [Act.put]
                  refine wpE_takeF 35 ⟨some 60, _, _, _, _, _⟩ (v := ?_) (by decide) rfl (by kernel_rfl) (by kernel_rfl) (by kernel_rfl) (fun _ _ _ h => h) hS (Or.inl ⟨by kernel_rfl, ?_⟩) ?_
                  rotate_left
                  · (intro V hSw; obtain ⟨hq1, hq2, hq3, hq4⟩ := HS11.out V hSw; go_simp; try with_reducible rfl)
                  try simp only [Act.put]
                  refine wpE_done (by kernel_rfl) ?_ _
                  try simp only [List.setIfInBounds_toArray, List.set_cons_succ, List.set_cons_zero]
                  go_wp2
                  go_roundw
                  case rel => exact ⟨j + 1, by omega, by go_num, HNX.out, HB2.out.drew⟩
                  case measure => simp [intOf]; omega
              · have HNX := Lib.hid (HNEXT.out (decide_eq_false (fun h => g1 h.1)))
                have hd1 : decide (xs < es + en) = false := decide_eq_false g1
                clear g1
                go_wp2_with fail
                refine wp_region_E (fun V => Below wr.heap.size wr V) 99 rfl ?_
                have hS := (show Below wr.heap.size wr wr.drew from (Below.refl _ wr).drew)
                refine wpE_takeF 0 ⟨some 25, _, _, _, _, _⟩ (v := ?_) (by decide) rfl (by kernel_rfl) (by kernel_rfl) (by kernel_rfl) (fun _ _ _ h => h) hS (Or.inl ⟨by kernel_rfl, ?_⟩) ?_
                rotate_left
                · (intro V hSw; obtain ⟨hq1, hq2, hq3, hq4⟩ := HS11.out V hSw; go_simp; try with_reducible rfl)
                try simp only [Act.put]
                refine wpE_takeF 1 ⟨some 26, _, _, _, _, _⟩ (v := ?_) (by decide) rfl (by kernel_rfl) (by kernel_rfl) (by kernel_rfl) (fun _ _ _ h => h) hS (Or.inl ⟨by kernel_rfl, ?_⟩) ?_
                rotate_left
                · (intro V hSw; obtain ⟨hq1, hq2, hq3, hq4⟩ := HS11.out V hSw; go_simp; try with_reducible rfl)
                try simp only [Act.put]
                refine wpE_takeF 2 ⟨some 27, _, _, _, _, _⟩ (v := ?_) (by decide) rfl (by kernel_rfl) (by kernel_rfl) (by kernel_rfl) (fun _ _ _ h => h) hS (Or.inl ⟨by kernel_rfl, ?_⟩) ?_
                rotate_left
                · (intro V hSw; obtain ⟨hq1, hq2, hq3, hq4⟩ := HS11.out V hSw; go_simp; try with_reducible rfl)
                try simp only [Act.put]
                refine wpE_takeF 3 ⟨some 28, _, _, _, _, _⟩ (v := ?_) (by decide) rfl (by kernel_rfl) (by kernel_rfl) (by kernel_rfl) (fun _ _ _ h => h) hS (Or.inl ⟨by kernel_rfl, ?_⟩) ?_
                rotate_left
                · (intro V hSw; obtain ⟨hq1, hq2, hq3, hq4⟩ := HS11.out V hSw; go_simp; try with_reducible rfl)
                try simp only [Act.put]
                refine wpE_takeF 4 ⟨some 29, _, _, _, _, _⟩ (v := ?_) (by decide) rfl (by kernel_rfl) (by kernel_rfl) (by kernel_rfl) (fun _ _ _ h => h) hS (Or.inl ⟨by kernel_rfl, ?_⟩) ?_
                rotate_left
                · (intro V hSw; obtain ⟨hq1, hq2, hq3, hq4⟩ := HS11.out V hSw; go_simp; try with_reducible rfl)
                try simp only [Act.put]
                refine wpE_takeF 5 ⟨some 30, _, _, _, _, _⟩ (v := ?_) (by decide) rfl (by kernel_rfl) (by kernel_rfl) (by kernel_rfl) (fun _ _ _ h => h) hS (Or.inl ⟨by kernel_rfl, ?_⟩) ?_
                rotate_left
                · (intro V hSw; obtain ⟨hq1, hq2, hq3, hq4⟩ := HS11.out V hSw; go_simp; try with_reducible rfl)
                try simp only [Act.put]
                refine wpE_takeF 6 ⟨some 31, _, _, _, _, _⟩ (v := ?_) (by decide) rfl (by kernel_rfl) (by kernel_rfl) (by kernel_rfl) (fun _ _ _ h => h) hS (Or.inl ⟨by kernel_rfl, ?_⟩) ?_
                rotate_left
                · (intro V hSw; obtain ⟨hq1, hq2, hq3, hq4⟩ := HS11.out V hSw; go_simp; try with_reducible rfl)
                try simp only [Act.put]
                refine wpE_takeF 7 ⟨some 32, _, _, _, _, _⟩ (v := ?_) (by decide) rfl (by kernel_rfl) (by kernel_rfl) (by kernel_rfl) (fun _ _ _ h => h) hS (Or.inl ⟨by kernel_rfl, ?_⟩) ?_
                rotate_left
                · (intro V hSw; obtain ⟨hq1, hq2, hq3, hq4⟩ := HS11.out V hSw; go_simp; try with_reducible rfl)
                try simp only [Act.put]
                refine wpE_takeF 8 ⟨some 33, _, _, _, _, _⟩ (v := ?_) (by decide) rfl (by kernel_rfl) (by kernel_rfl) (by kernel_rfl) (fun _ _ _ h => h) hS (Or.inl ⟨by kernel_rfl, ?_⟩) ?_
                rotate_left
                · (intro V hSw; obtain ⟨hq1, hq2, hq3, hq4⟩ := HS11.out V hSw; go_simp; try with_reducible rfl)
                try simp only [Act.put]
                refine wpE_takeF 9 ⟨some 34, _, _, _, _, _⟩ (v := ?_) (by decide) rfl (by kernel_rfl) (by kernel_rfl) (by kernel_rfl) (fun _ _ _ h => h) hS (Or.inl ⟨by kernel_rfl, ?_⟩) ?_
                rotate_left
                · (intro V hSw; obtain ⟨hq1, hq2, hq3, hq4⟩ := HS11.out V hSw; go_simp; try with_reducible rfl)
                try simp only [Act.put]
                refine wpE_takeF 10 ⟨some 35, _, _, _, _, _⟩ (v := ?_) (by decide) rfl (by kernel_rfl) (by kernel_rfl) (by kernel_rfl) (fun _ _ _ h => h) hS (Or.inl ⟨by kernel_rfl, ?_⟩) ?_
                rotate_left
                · (intro V hSw; obtain ⟨hq1, hq2, hq3, hq4⟩ := HS11.out V hSw; go_simp; try with_reducible rfl)
                try simp only [Act.put]
                refine wpE_takeF 11 ⟨some 36, _, _, _, _, _⟩ (v := ?_) (by decide) rfl (by kernel_rfl) (by kernel_rfl) (by kernel_rfl) (fun _ _ _ h => h) hS (Or.inl ⟨by kernel_rfl, ?_⟩) ?_
                rotate_left
                · (intro V hSw; obtain ⟨hq1, hq2, hq3, hq4⟩ := HS11.out V hSw; go_simp; try with_reducible rfl)
                try simp only [Act.put]
                refine wpE_takeF 12 ⟨some 37, _, _, _, _, _⟩ (v := ?_) (by decide) rfl (by kernel_rfl) (by kernel_rfl) (by kernel_rfl) (fun _ _ _ h => h) hS (Or.inl ⟨by kernel_rfl, ?_⟩) ?_
                rotate_left
                · (intro V hSw; obtain ⟨hq1, hq2, hq3, hq4⟩ := HS11.out V hSw; go_simp; try with_reducible rfl)
                try simp only [Act.put]
                refine wpE_takeF 13 ⟨some 38, _, _, _, _, _⟩ (v := ?_) (by decide) rfl (by kernel_rfl) (by kernel_rfl) (by kernel_rfl) (fun _ _ _ h => h) hS (Or.inl ⟨by kernel_rfl, ?_⟩) ?_
                rotate_left
                · (intro V hSw; obtain ⟨hq1, hq2, hq3, hq4⟩ := HS11.out V hSw; go_simp; try with_reducible rfl)
                try simp only [Act.put]
                refine wpE_takeF 14 ⟨some 39, _, _, _, _, _⟩ (v := ?_) (by decide) rfl (by kernel_rfl) (by kernel_rfl) (by kernel_rfl) (fun _ _ _ h => h) hS (Or.inl ⟨by kernel_rfl, ?_⟩) ?_
                rotate_left
                · (intro V hSw; obtain ⟨hq1, hq2, hq3, hq4⟩ := HS11.out V hSw; go_simp; try with_reducible rfl)
                try simp only [Act.put]
                refine wpE_takeF 15 ⟨some 40, _, _, _, _, _⟩ (v := ?_) (by decide) rfl (by kernel_rfl) (by kernel_rfl) (by kernel_rfl) (fun _ _ _ h => h) hS (Or.inl ⟨by kernel_rfl, ?_⟩) ?_
                rotate_left
                · (intro V hSw; obtain ⟨hq1, hq2, hq3, hq4⟩ := HS11.out V hSw; go_simp; try with_reducible rfl)
                try simp only [Act.put]
                refine wpE_takeF 16 ⟨some 41, _, _, _, _, _⟩ (v := ?_) (by decide) rfl (by kernel_rfl) (by kernel_rfl) (by kernel_rfl) (fun _ _ _ h => h) hS (Or.inl ⟨by kernel_rfl, ?_⟩) ?_
                rotate_left
                · (intro V hSw; obtain ⟨hq1, hq2, hq3, hq4⟩ := HS11.out V hSw; go_simp; try with_reducible rfl)
                try simp only [Act.put]
                refine wpE_takeF 17 ⟨some 42, _, _, _, _, _⟩ (v := ?_) (by decide) rfl (by kernel_rfl) (by kernel_rfl) (by kernel_rfl) (fun _ _ _ h => h) hS (Or.inl ⟨by kernel_rfl, ?_⟩) ?_
                rotate_left
                · (intro V hSw; obtain ⟨hq1, hq2, hq3, hq4⟩ := HS11.out V hSw; go_simp; try with_reducible rfl)
                try simp only [Act.put]
                refine wpE_takeF 18 ⟨some 43, _, _, _, _, _⟩ (v := undef) (by decide) rfl (by kernel_rfl) (by kernel_rfl) (by kernel_rfl) (fun _ _ _ h => h) hS (Or.inr ⟨by kernel_rfl, rfl⟩) ?_
                try simp only [Act.put]
                refine wpE_takeF 19 ⟨some 44, _, _, _, _, _⟩ (v := undef) (by decide) rfl (by kernel_rfl) (by kernel_rfl) (by kernel_rfl) (fun _ _ _ h => h) hS (Or.inr ⟨by kernel_rfl, rfl⟩) ?_
                try simp only [Act.put]
                refine wpE_takeF 20 ⟨some 45, _, _, _, _, _⟩ (v := undef) (by decide) rfl (by kernel_rfl) (by kernel_rfl) (by kernel_rfl) (fun _ _ _ h => h) hS (Or.inr ⟨by kernel_rfl, rfl⟩) ?_
                try simp only [Act.put]
                refine wpE_takeF 21 ⟨some 46, _, _, _, _, _⟩ (v := undef) (by decide) rfl (by kernel_rfl) (by kernel_rfl) (by kernel_rfl) (fun _ _ _ h => h) hS (Or.inr ⟨by kernel_rfl, rfl⟩) ?_
                try simp only [Act.put]
                refine wpE_takeF 22 ⟨some 47, _, _, _, _, _⟩ (v := undef) (by decide) rfl (by kernel_rfl) (by kernel_rfl) (by kernel_rfl) (fun _ _ _ h => h) hS (Or.inr ⟨by kernel_rfl, rfl⟩) ?_
                try simp only [Act.put]
                refine wpE_takeF 23 ⟨some 48, _, _, _, _, _⟩ (v := undef) (by decide) rfl (by kernel_rfl) (by kernel_rfl) (by kernel_rfl) (fun _ _ _ h => h) hS (Or.inr ⟨by kernel_rfl, rfl⟩) ?_
                try simp only [Act.put]
                refine wpE_takeF 24 ⟨some 49, _, _, _, _, _⟩ (v := undef) (by decide) rfl (by kernel_rfl) (by kernel_rfl) (by kernel_rfl) (fun _ _ _ h => h) hS (Or.inr ⟨by kernel_rfl, rfl⟩) ?_
                try simp only [Act.put]
                refine wpE_takeF 25 ⟨some 50, _, _, _, _, _⟩ (v := undef) (by decide) rfl (by kernel_rfl) (by kernel_rfl) (by kernel_rfl) (fun _ _ _ h => h) hS (Or.inr ⟨by kernel_rfl, rfl⟩) ?_
                try simp only [Act.put]
                refine wpE_takeF 26 ⟨some 51, _, _, _, _, _⟩ (v := undef) (by decide) rfl (by kernel_rfl) (by kernel_rfl) (by kernel_rfl) (fun _ _ _ h => h) hS (Or.inr ⟨by kernel_rfl, rfl⟩) ?_
                try simp only [Act.put]
                refine wpE_takeF 27 ⟨some 52, _, _, _, _, _⟩ (v := undef) (by decide) rfl (by kernel_rfl) (by kernel_rfl) (by kernel_rfl) (fun _ _ _ h => h) hS (Or.inr ⟨by kernel_rfl, rfl⟩) ?_
                try simp only [Act.put]
                refine wpE_takeF 28 ⟨some 53, _, _, _, _, _⟩ (v := undef) (by decide) rfl (by kernel_rfl) (by kernel_rfl) (by kernel_rfl) (fun _ _ _ h => h) hS (Or.inr ⟨by kernel_rfl, rfl⟩) ?_
                try simp only [Act.put]
                refine wpE_takeF 29 ⟨some 54, _, _, _, _, _⟩ (v := undef) (by decide) rfl (by kernel_rfl) (by kernel_rfl) (by kernel_rfl) (fun _ _ _ h => h) hS (Or.inr ⟨by kernel_rfl, rfl⟩) ?_
                try simp only [Act.put]
                refine wpE_takeF 30 ⟨some 55, _, _, _, _, _⟩ (v := undef) (by decide) rfl (by kernel_rfl) (by kernel_rfl) (by kernel_rfl) (fun _ _ _ h => h) hS (Or.inr ⟨by kernel_rfl, rfl⟩) ?_
                try simp only [Act.put]
                refine wpE_takeF 31 ⟨some 56, _, _, _, _, _⟩ (v := undef) (by decide) rfl (by kernel_rfl) (by kernel_rfl) (by kernel_rfl) (fun _ _ _ h => h) hS (Or.inr ⟨by kernel_rfl, rfl⟩) ?_
                try simp only [Act.put]
                refine wpE_takeF 32 ⟨some 57, _, _, _, _, _⟩ (v := undef) (by decide) rfl (by kernel_rfl) (by kernel_rfl) (by kernel_rfl) (fun _ _ _ h => h) hS (Or.inr ⟨by kernel_rfl, rfl⟩) ?_
                try simp only [Act.put]
                refine wpE_takeF 33 ⟨some 58, _, _, _, _, _⟩ (v := undef) (by decide) rfl (by kernel_rfl) (by kernel_rfl) (by kernel_rfl) (fun _ _ _ h => h) hS (Or.inr ⟨by kernel_rfl, rfl⟩) ?_
                try simp only [Act.put]
                refine wpE_takeF 34 ⟨some 59, _, _, _, _, _⟩ (v := undef) (by decide) rfl (by kernel_rfl) (by kernel_rfl) (by kernel_rfl) (fun _ _ _ h => h) hS (Or.inr ⟨by kernel_rfl, rfl⟩) ?_
                try simp only [Act.put]
                refine wpE_takeF 35 ⟨some 60, _, _, _, _, _⟩ (v := ?_) (by decide) rfl (by kernel_rfl) (by kernel_rfl) (by kernel_rfl) (fun _ _ _ h => h) hS (Or.inl ⟨by kernel_rfl, ?_⟩) ?_
                rotate_left
                · (intro V hSw; obtain ⟨hq1, hq2, hq3, hq4⟩ := HS11.out V hSw; go_simp; try with_reducible rfl)
                try simp only [Act.put]
                refine wpE_done (by kernel_rfl) ?_ _
                try simp only [List.setIfInBounds_toArray, List.set_cons_succ, List.set_cons_zero]
                go_wp2
                go_roundw
                case rel => exact ⟨j + 1, by omega, by go_num, HNX.out, HB2.out.drew⟩
                case measure => simp [intOf]; omega
            · have hjk2 : ¬ (j : Int) < (k : Int) := by omega
              have hap : ∀ q, (hq : q < (l.take k).length) → meet ((l.take k)[q]).s ((l.take k)[q]).n e.s e.n = false := fun q hq => by
                rw [List.length_take] at hq
                rw [List.getElem_take]
                exact HNO.out q (by omega) (by omega)
              have HAP := Lib.hid hap; clear hap
              have hnext : folB (l.take k) e = true → ∀ q, (hq : q < l.length) → q < k + 1 → okB (l.take q) l[q] = true := fun hfb q hq hlt => by
                rcases Nat.lt_or_ge q k with h' | h'
                · exact HOK.out q hq h'
                · have hqk : q = k := by omega
                  subst hqk
                  rw [← HE.out]
                  exact okB_yes HEM.out hfb HAP.out
              have HNEXT := Lib.hid hnext; clear hnext
              rcases Nat.eq_zero_or_pos k with hkz | hkp
              · have HNX := Lib.hid (HNEXT.out (by rw [hkz]; rfl))
                have hd0 : ¬ 0 < k := by omega
                have HKZ := Lib.hid hkz; clear hkz
                go_wp2_with fail
                refine wp_region_E (fun V => Below wr.heap.size wr V) 99 rfl ?_
                have hS := (show Below wr.heap.size wr wr.drew from (Below.refl _ wr).drew)
                refine wpE_takeF 0 ⟨some 61, _, _, _, _, _⟩ (v := ?_) (by decide) rfl (by kernel_rfl) (by kernel_rfl) (by kernel_rfl) (fun _ _ _ h => h) hS (Or.inl ⟨by kernel_rfl, ?_⟩) ?_
                rotate_left
                · (intro V hSw; skip; go_simp; try with_reducible rfl)
                try simp only [Act.put]
                refine wpE_takeF 1 ⟨some 62, _, _, _, _, _⟩ (v := ?_) (by decide) rfl (by kernel_rfl) (by kernel_rfl) (by kernel_rfl) (fun _ _ _ h => h) hS (Or.inl ⟨by kernel_rfl, ?_⟩) ?_
                rotate_left
                · (intro V hSw; skip; go_simp; try with_reducible rfl)
                try simp only [Act.put]
                refine wpE_takeF 2 ⟨some 63, _, _, _, _, _⟩ (v := ?_) (by decide) rfl (by kernel_rfl) (by kernel_rfl) (by kernel_rfl) (fun _ _ _ h => h) hS (Or.inl ⟨by kernel_rfl, ?_⟩) ?_
                rotate_left
                · (intro V hSw; skip; go_simp; try with_reducible rfl)
                try simp only [Act.put]
                refine wpE_takeF 3 ⟨some 64, _, _, _, _, _⟩ (v := undef) (by decide) rfl (by kernel_rfl) (by kernel_rfl) (by kernel_rfl) (fun _ _ _ h => h) hS (Or.inr ⟨by kernel_rfl, rfl⟩) ?_
                try simp only [Act.put]
                refine wpE_takeF 4 ⟨some 65, _, _, _, _, _⟩ (v := undef) (by decide) rfl (by kernel_rfl) (by kernel_rfl) (by kernel_rfl) (fun _ _ _ h => h) hS (Or.inr ⟨by kernel_rfl, rfl⟩) ?_
                try simp only [Act.put]
                refine wpE_takeF 5 ⟨some 66, _, _, _, _, _⟩ (v := undef) (by decide) rfl (by kernel_rfl) (by kernel_rfl) (by kernel_rfl) (fun _ _ _ h => h) hS (Or.inr ⟨by kernel_rfl, rfl⟩) ?_
                try simp only [Act.put]
                try simp (config := { maxSteps := 2000000 }) only [List.setIfInBounds_toArray, List.set_cons_succ, List.set_cons_zero]
                refine wpE_takeF 6 ⟨some 67, _, _, _, _, _⟩ (v := undef) (by decide) rfl (by kernel_rfl) (by kernel_rfl) (by kernel_rfl) (fun _ _ _ h => h) hS (Or.inr ⟨by kernel_rfl, rfl⟩) ?_
                try simp only [Act.put]
                refine wpE_takeF 7 ⟨some 68, _, _, _, _, _⟩ (v := undef) (by decide) rfl (by kernel_rfl) (by kernel_rfl) (by kernel_rfl) (fun _ _ _ h => h) hS (Or.inr ⟨by kernel_rfl, rfl⟩) ?_
                try simp only [Act.put]
                refine wpE_takeF 8 ⟨some 69, _, _, _, _, _⟩ (v := undef) (by decide) rfl (by kernel_rfl) (by kernel_rfl) (by kernel_rfl) (fun _ _ _ h => h) hS (Or.inr ⟨by kernel_rfl, rfl⟩) ?_
                try simp only [Act.put]
                refine wpE_takeF 9 ⟨some 70, _, _, _, _, _⟩ (v := undef) (by decide) rfl (by kernel_rfl) (by kernel_rfl) (by kernel_rfl) (fun _ _ _ h => h) hS (Or.inr ⟨by kernel_rfl, rfl⟩) ?_
                try simp only [Act.put]
                refine wpE_takeF 10 ⟨some 71, _, _, _, _, _⟩ (v := undef) (by decide) rfl (by kernel_rfl) (by kernel_rfl) (by kernel_rfl) (fun _ _ _ h => h) hS (Or.inr ⟨by kernel_rfl, rfl⟩) ?_
                try simp only [Act.put]
                refine wpE_takeF 11 ⟨some 72, _, _, _, _, _⟩ (v := undef) (by decide) rfl (by kernel_rfl) (by kernel_rfl) (by kernel_rfl) (fun _ _ _ h => h) hS (Or.inr ⟨by kernel_rfl, rfl⟩) ?_
                try simp only [Act.put]
                try simp (config := { maxSteps := 2000000 }) only [List.setIfInBounds_toArray, List.set_cons_succ, List.set_cons_zero]
                refine wpE_takeF 12 ⟨some 73, _, _, _, _, _⟩ (v := undef) (by decide) rfl (by kernel_rfl) (by kernel_rfl) (by kernel_rfl) (fun _ _ _ h => h) hS (Or.inr ⟨by kernel_rfl, rfl⟩) ?_
                try simp only [Act.put]
                refine wpE_takeF 13 ⟨some 74, _, _, _, _, _⟩ (v := undef) (by decide) rfl (by kernel_rfl) (by kernel_rfl) (by kernel_rfl) (fun _ _ _ h => h) hS (Or.inr ⟨by kernel_rfl, rfl⟩) ?_
                try simp only [Act.put]
                refine wpE_takeF 14 ⟨some 75, _, _, _, _, _⟩ (v := undef) (by decide) rfl (by kernel_rfl) (by kernel_rfl) (by kernel_rfl) (fun _ _ _ h => h) hS (Or.inr ⟨by kernel_rfl, rfl⟩) ?_
                try simp only [Act.put]
                refine wpE_takeF 15 ⟨some 76, _, _, _, _, _⟩ (v := undef) (by decide) rfl (by kernel_rfl) (by kernel_rfl) (by kernel_rfl) (fun _ _ _ h => h) hS (Or.inr ⟨by kernel_rfl, rfl⟩) ?_
                try simp only [Act.put]
                refine wpE_takeF 16 ⟨some 77, _, _, _, _, _⟩ (v := undef) (by decide) rfl (by kernel_rfl) (by kernel_rfl) (by kernel_rfl) (fun _ _ _ h => h) hS (Or.inr ⟨by kernel_rfl, rfl⟩) ?_
                try simp only [Act.put]
                refine wpE_takeF 17 ⟨some 78, _, _, _, _, _⟩ (v := undef) (by decide) rfl (by kernel_rfl) (by kernel_rfl) (by kernel_rfl) (fun _ _ _ h => h) hS (Or.inr ⟨by kernel_rfl, rfl⟩) ?_
                try simp only [Act.put]
                try simp (config := { maxSteps := 2000000 }) only [List.setIfInBounds_toArray, List.set_cons_succ, List.set_cons_zero]
                refine wpE_takeF 18 ⟨some 79, _, _, _, _, _⟩ (v := undef) (by decide) rfl (by kernel_rfl) (by kernel_rfl) (by kernel_rfl) (fun _ _ _ h => h) hS (Or.inr ⟨by kernel_rfl, rfl⟩) ?_
                try simp only [Act.put]
                refine wpE_takeF 19 ⟨some 80, _, _, _, _, _⟩ (v := undef) (by decide) rfl (by kernel_rfl) (by kernel_rfl) (by kernel_rfl) (fun _ _ _ h => h) hS (Or.inr ⟨by kernel_rfl, rfl⟩) ?_
                try simp only [Act.put]
                refine wpE_takeF 20 ⟨some 81, _, _, _, _, _⟩ (v := undef) (by decide) rfl (by kernel_rfl) (by kernel_rfl) (by kernel_rfl) (fun _ _ _ h => h) hS (Or.inr ⟨by kernel_rfl, rfl⟩) ?_
                try simp only [Act.put]
                refine wpE_takeF 21 ⟨some 82, _, _, _, _, _⟩ (v := undef) (by decide) rfl (by kernel_rfl) (by kernel_rfl) (by kernel_rfl) (fun _ _ _ h => h) hS (Or.inr ⟨by kernel_rfl, rfl⟩) ?_
                try simp only [Act.put]
                refine wpE_takeF 22 ⟨some 83, _, _, _, _, _⟩ (v := undef) (by decide) rfl (by kernel_rfl) (by kernel_rfl) (by kernel_rfl) (fun _ _ _ h => h) hS (Or.inr ⟨by kernel_rfl, rfl⟩) ?_
                try simp only [Act.put]
                refine wpE_takeF 23 ⟨some 84, _, _, _, _, _⟩ (v := undef) (by decide) rfl (by kernel_rfl) (by kernel_rfl) (by kernel_rfl) (fun _ _ _ h => h) hS (Or.inr ⟨by kernel_rfl, rfl⟩) ?_
                try simp only [Act.put]
                try simp (config := { maxSteps := 2000000 }) only [List.setIfInBounds_toArray, List.set_cons_succ, List.set_cons_zero]
                refine wpE_takeF 24 ⟨some 85, _, _, _, _, _⟩ (v := undef) (by decide) rfl (by kernel_rfl) (by kernel_rfl) (by kernel_rfl) (fun _ _ _ h => h) hS (Or.inr ⟨by kernel_rfl, rfl⟩) ?_
                try simp only [Act.put]
                refine wpE_takeF 25 ⟨some 86, _, _, _, _, _⟩ (v := undef) (by decide) rfl (by kernel_rfl) (by kernel_rfl) (by kernel_rfl) (fun _ _ _ h => h) hS (Or.inr ⟨by kernel_rfl, rfl⟩) ?_
                try simp only [Act.put]
                refine wpE_takeF 26 ⟨some 87, _, _, _, _, _⟩ (v := undef) (by decide) rfl (by kernel_rfl) (by kernel_rfl) (by kernel_rfl) (fun _ _ _ h => h) hS (Or.inr ⟨by kernel_rfl, rfl⟩) ?_
                try simp only [Act.put]
                refine wpE_takeF 27 ⟨some 88, _, _, _, _, _⟩ (v := undef) (by decide) rfl (by kernel_rfl) (by kernel_rfl) (by kernel_rfl) (fun _ _ _ h => h) hS (Or.inr ⟨by kernel_rfl, rfl⟩) ?_
                try simp only [Act.put]
                refine wpE_takeF 28 ⟨some 89, _, _, _, _, _⟩ (v := undef) (by decide) rfl (by kernel_rfl) (by kernel_rfl) (by kernel_rfl) (fun _ _ _ h => h) hS (Or.inr ⟨by kernel_rfl, rfl⟩) ?_
                try simp only [Act.put]
                refine wpE_takeF 29 ⟨some 90, _, _, _, _, _⟩ (v := undef) (by decide) rfl (by kernel_rfl) (by kernel_rfl) (by kernel_rfl) (fun _ _ _ h => h) hS (Or.inr ⟨by kernel_rfl, rfl⟩) ?_
                try simp only [Act.put]
                try simp (config := { maxSteps := 2000000 }) only [List.setIfInBounds_toArray, List.set_cons_succ, List.set_cons_zero]
                refine wpE_takeF 30 ⟨some 91, _, _, _, _, _⟩ (v := undef) (by decide) rfl (by kernel_rfl) (by kernel_rfl) (by kernel_rfl) (fun _ _ _ h => h) hS (Or.inr ⟨by kernel_rfl, rfl⟩) ?_
                try simp only [Act.put]
                refine wpE_takeF 31 ⟨some 92, _, _, _, _, _⟩ (v := undef) (by decide) rfl (by kernel_rfl) (by kernel_rfl) (by kernel_rfl) (fun _ _ _ h => h) hS (Or.inr ⟨by kernel_rfl, rfl⟩) ?_
                try simp only [Act.put]
                refine wpE_takeF 32 ⟨some 93, _, _, _, _, _⟩ (v := undef) (by decide) rfl (by kernel_rfl) (by kernel_rfl) (by kernel_rfl) (fun _ _ _ h => h) hS (Or.inr ⟨by kernel_rfl, rfl⟩) ?_
                try simp only [Act.put]
                refine wpE_takeF 33 ⟨some 94, _, _, _, _, _⟩ (v := undef) (by decide) rfl (by kernel_rfl) (by kernel_rfl) (by kernel_rfl) (fun _ _ _ h => h) hS (Or.inr ⟨by kernel_rfl, rfl⟩) ?_
                try simp only [Act.put]
                refine wpE_takeF 34 ⟨some 95, _, _, _, _, _⟩ (v := ?_) (by decide) rfl (by kernel_rfl) (by kernel_rfl) (by kernel_rfl) (fun _ _ _ h => h) hS (Or.inl ⟨by kernel_rfl, ?_⟩) ?_
                rotate_left
                · (intro V hSw; skip; go_simp; try with_reducible rfl)
                try simp only [Act.put]
                refine wpE_done (by kernel_rfl) ?_ _
                try simp (config := { maxSteps := 2000000 }) only [List.setIfInBounds_toArray, List.set_cons_succ, List.set_cons_zero]
                go_wp2
                go_roundw
                case rel => exact ⟨k + 1, by omega, by go_num, HNX.out, HBASE.out.drew⟩
                case measure => simp [intOf]; omega
              · obtain ⟨j0, hj0⟩ : ∃ j0, k = j0 + 1 := ⟨k - 1, by omega⟩
                have hd0 : decide ((0 : Int) < (k : Int)) = true := decide_eq_true (by omega)
                have hjl : j0 < l.length := by omega
                have hkj : (k : Int) - 1 = (j0 : Int) := by omega
                have hwj : IntKind.i64.wrap (j0 : Int) = (j0 : Int) := by rw [IntKind.wrap_i64]; omega
                have hj1 : (0 : Int) ≤ (j0 : Int) := by omega
                have hj2 : (j0 : Int) < (n : Int) := by omega
                obtain ⟨x, hx⟩ : ∃ x, x = l[j0] := ⟨_, rfl⟩
                have hxm : x.may = true := by
                  have := HOK.out j0 hjl (by omega)
                  unfold okB at this
                  rw [Bool.and_eq_true, Bool.and_eq_true] at this
                  rw [hx]; exact this.1.1
                have hxm' := may_iff.1 hxm
                obtain ⟨xa, hxa⟩ : ∃ xa, xa = x.a := ⟨_, rfl⟩
                obtain ⟨xn, hxn⟩ : ∃ xn, xn = x.n := ⟨_, rfl⟩
                have hxr : 0 ≤ xa ∧ 1 ≤ xn ∧ xa + xn ≤ 256 := by omega
                obtain ⟨xr1, xr2, xr3⟩ := hxr
                obtain ⟨P, hP⟩ : ∃ P, P = x.c := ⟨_, rfl⟩
                have hgo : ∀ V, Calls Try.prog 42 #[.agg P, .agg C] V fun E w' => E = .returned (.bool (goes x e)) ∧ Below V.heap.size V w' := fun V => by rw [hP, HCE.out]; exact rgoes_any _ _ (sm_of_may hxm) V
                have hs13 : ∀ V, Below wr.heap.size wr V → V.cell? ⟨b, off + k * 4, none⟩ = some (.int .i64 ea) ∧ V.cell? ⟨b, off + j0 * 4, none⟩ = some (.int .i64 xa) ∧ V.cell? ⟨b, off + j0 * 4 + 2, none⟩ = some (.int .i64 xn) ∧ (ldX (.pointer (some ⟨b, off + j0 * 4, none⟩))).run Try.prog V = .ok (.agg P) V ∧ (ldX (.pointer (some ⟨b, off + k * 4, none⟩))).run Try.prog V = .ok (.agg C) V := fun V hV => by
                  have hh := (HUP.out V (HB2.out.trans (hV.mono HB2.out.size))).2
                  have c1 := hh.cell j0 hjl
                  have c2 := hh.cell k hkl
                  have d1 := run_ldX_at hh j0 hjl (off + j0 * 4) rfl
                  have d2 := run_ldX_at hh k hkl (off + k * 4) rfl
                  rw [← hx] at c1 d1
                  rw [← HE.out] at c2 d2
                  rw [hxa, hxn, HEA.out, hP, HCE.out]
                  exact ⟨c2.1, c1.1, c1.2.2.1, d1, d2⟩
                have HS13 := Lib.hid hs13; clear hs13
                have hw1 : IntKind.i64.wrap (xa + xn) = xa + xn := by rw [IntKind.wrap_i64]; omega
                have hfb : folB (l.take k) e = (decide (xa + xn ≤ ea) && !goes x e) := by rw [hj0, folB_take hjl e, ← hx]; unfold fol; rw [hxa, hxn, HEA.out]
                have HFB := Lib.hid hfb; clear hfb
                have HGO := Lib.hid hgo; clear hgo
                clear hx hxm hxm' hxa hxn hP hj0
                rcases Decidable.em (ea < xa + xn) with g1 | g1
                · have hok : okB (l.take k) e = false := okB_fol (by rw [HFB.out, decide_eq_false (by omega)]; rfl)
                  have hf : right l = false := right_noE hkl HE.out hok
                  have HC := Lib.hid (HBAD.out hf); clear hf hok
                  have hd1 : decide (ea < xa + xn) = true := decide_eq_true g1
                  clear g1
                  go_wp2_with fail
                  refine wp_region_E (fun V => Below wr.heap.size wr V) 99 rfl ?_
                  have hS := (show Below wr.heap.size wr wr.drew from (Below.refl _ wr).drew)
                  refine wpE_takeF 0 ⟨some 61, _, _, _, _, _⟩ (v := ?_) (by decide) rfl (by kernel_rfl) (by kernel_rfl) (by kernel_rfl) (fun _ _ _ h => h) hS (Or.inl ⟨by kernel_rfl, ?_⟩) ?_
                  rotate_left
                  · (intro V hSw; obtain ⟨hq1, hq2, hq3, hq4, hq5⟩ := HS13.out V hSw; go_simp; try with_reducible rfl)
                  try simp only [Act.put]
                  refine wpE_takeF 1 ⟨some 62, _, _, _, _, _⟩ (v := ?_) (by decide) rfl (by kernel_rfl) (by kernel_rfl) (by kernel_rfl) (fun _ _ _ h => h) hS (Or.inl ⟨by kernel_rfl, ?_⟩) ?_
                  rotate_left
                  · (intro V hSw; obtain ⟨hq1, hq2, hq3, hq4, hq5⟩ := HS13.out V hSw; go_simp; try with_reducible rfl)
                  try simp only [Act.put]
                  refine wpE_takeF 2 ⟨some 63, _, _, _, _, _⟩ (v := ?_) (by decide) rfl (by kernel_rfl) (by kernel_rfl) (by kernel_rfl) (fun _ _ _ h => h) hS (Or.inl ⟨by kernel_rfl, ?_⟩) ?_
                  rotate_left
                  · (intro V hSw; obtain ⟨hq1, hq2, hq3, hq4, hq5⟩ := HS13.out V hSw; go_simp; try with_reducible rfl)
                  try simp only [Act.put]
                  refine wpE_takeF 3 ⟨some 64, _, _, _, _, _⟩ (v := ?_) (by decide) rfl (by kernel_rfl) (by kernel_rfl) (by kernel_rfl) (fun _ _ _ h => h) hS (Or.inl ⟨by kernel_rfl, ?_⟩) ?_
                  rotate_left
                  · (intro V hSw; obtain ⟨hq1, hq2, hq3, hq4, hq5⟩ := HS13.out V hSw; go_simp; try with_reducible rfl)
                  try simp only [Act.put]
                  refine wpE_takeF 4 ⟨some 65, _, _, _, _, _⟩ (v := ?_) (by decide) rfl (by kernel_rfl) (by kernel_rfl) (by kernel_rfl) (fun _ _ _ h => h) hS (Or.inl ⟨by kernel_rfl, ?_⟩) ?_
                  rotate_left
                  · (intro V hSw; obtain ⟨hq1, hq2, hq3, hq4, hq5⟩ := HS13.out V hSw; go_simp; try with_reducible rfl)
                  try simp only [Act.put]
                  refine wpE_takeF 5 ⟨some 66, _, _, _, _, _⟩ (v := ?_) (by decide) rfl (by kernel_rfl) (by kernel_rfl) (by kernel_rfl) (fun _ _ _ h => h) hS (Or.inl ⟨by kernel_rfl, ?_⟩) ?_
                  rotate_left
                  · (intro V hSw; obtain ⟨hq1, hq2, hq3, hq4, hq5⟩ := HS13.out V hSw; go_simp; try with_reducible rfl)
                  try simp only [Act.put]
                  try simp (config := { maxSteps := 2000000 }) only [List.setIfInBounds_toArray, List.set_cons_succ, List.set_cons_zero]
                  refine wpE_takeF 6 ⟨some 67, _, _, _, _, _⟩ (v := ?_) (by decide) rfl (by kernel_rfl) (by kernel_rfl) (by kernel_rfl) (fun _ _ _ h => h) hS (Or.inl ⟨by kernel_rfl, ?_⟩) ?_
                  rotate_left
                  · (intro V hSw; obtain ⟨hq1, hq2, hq3, hq4, hq5⟩ := HS13.out V hSw; go_simp; try with_reducible rfl)
                  try simp only [Act.put]
                  refine wpE_takeF 7 ⟨some 68, _, _, _, _, _⟩ (v := ?_) (by decide) rfl (by kernel_rfl) (by kernel_rfl) (by kernel_rfl) (fun _ _ _ h => h) hS (Or.inl ⟨by kernel_rfl, ?_⟩) ?_
                  rotate_left
                  · (intro V hSw; obtain ⟨hq1, hq2, hq3, hq4, hq5⟩ := HS13.out V hSw; go_simp; try with_reducible rfl)
                  try simp only [Act.put]
                  refine wpE_takeF 8 ⟨some 69, _, _, _, _, _⟩ (v := ?_) (by decide) rfl (by kernel_rfl) (by kernel_rfl) (by kernel_rfl) (fun _ _ _ h => h) hS (Or.inl ⟨by kernel_rfl, ?_⟩) ?_
                  rotate_left
                  · (intro V hSw; obtain ⟨hq1, hq2, hq3, hq4, hq5⟩ := HS13.out V hSw; go_simp; try with_reducible rfl)
                  try simp only [Act.put]
                  refine wpE_takeF 9 ⟨some 70, _, _, _, _, _⟩ (v := ?_) (by decide) rfl (by kernel_rfl) (by kernel_rfl) (by kernel_rfl) (fun _ _ _ h => h) hS (Or.inl ⟨by kernel_rfl, ?_⟩) ?_
                  rotate_left
                  · (intro V hSw; obtain ⟨hq1, hq2, hq3, hq4, hq5⟩ := HS13.out V hSw; go_simp; try with_reducible rfl)
                  try simp only [Act.put]
                  refine wpE_takeF 10 ⟨some 71, _, _, _, _, _⟩ (v := ?_) (by decide) rfl (by kernel_rfl) (by kernel_rfl) (by kernel_rfl) (fun _ _ _ h => h) hS (Or.inl ⟨by kernel_rfl, ?_⟩) ?_
                  rotate_left
                  · (intro V hSw; obtain ⟨hq1, hq2, hq3, hq4, hq5⟩ := HS13.out V hSw; go_simp; try with_reducible rfl)
                  try simp only [Act.put]
                  refine wpE_takeF 11 ⟨some 72, _, _, _, _, _⟩ (v := ?_) (by decide) rfl (by kernel_rfl) (by kernel_rfl) (by kernel_rfl) (fun _ _ _ h => h) hS (Or.inl ⟨by kernel_rfl, ?_⟩) ?_
                  rotate_left
                  · (intro V hSw; obtain ⟨hq1, hq2, hq3, hq4, hq5⟩ := HS13.out V hSw; go_simp; try with_reducible rfl)
                  try simp only [Act.put]
                  try simp (config := { maxSteps := 2000000 }) only [List.setIfInBounds_toArray, List.set_cons_succ, List.set_cons_zero]
                  refine wpE_takeF 12 ⟨some 73, _, _, _, _, _⟩ (v := ?_) (by decide) rfl (by kernel_rfl) (by kernel_rfl) (by kernel_rfl) (fun _ _ _ h => h) hS (Or.inl ⟨by kernel_rfl, ?_⟩) ?_
                  rotate_left
                  · (intro V hSw; obtain ⟨hq1, hq2, hq3, hq4, hq5⟩ := HS13.out V hSw; go_simp; try with_reducible rfl)
                  try simp only [Act.put]
                  refine wpE_takeF 13 ⟨some 74, _, _, _, _, _⟩ (v := ?_) (by decide) rfl (by kernel_rfl) (by kernel_rfl) (by kernel_rfl) (fun _ _ _ h => h) hS (Or.inl ⟨by kernel_rfl, ?_⟩) ?_
                  rotate_left
                  · (intro V hSw; obtain ⟨hq1, hq2, hq3, hq4, hq5⟩ := HS13.out V hSw; go_simp; try with_reducible rfl)
                  try simp only [Act.put]
                  refine wpE_takeF 14 ⟨some 75, _, _, _, _, _⟩ (v := ?_) (by decide) rfl (by kernel_rfl) (by kernel_rfl) (by kernel_rfl) (fun _ _ _ h => h) hS (Or.inl ⟨by kernel_rfl, ?_⟩) ?_
                  rotate_left
                  · (intro V hSw; obtain ⟨hq1, hq2, hq3, hq4, hq5⟩ := HS13.out V hSw; go_simp; try with_reducible rfl)
                  try simp only [Act.put]
                  refine wpE_takeF 15 ⟨some 76, _, _, _, _, _⟩ (v := ?_) (by decide) rfl (by kernel_rfl) (by kernel_rfl) (by kernel_rfl) (fun _ _ _ h => h) hS (Or.inl ⟨by kernel_rfl, ?_⟩) ?_
                  rotate_left
                  · (intro V hSw; obtain ⟨hq1, hq2, hq3, hq4, hq5⟩ := HS13.out V hSw; go_simp; try with_reducible rfl)
                  try simp only [Act.put]
                  refine wpE_takeF 16 ⟨some 77, _, _, _, _, _⟩ (v := ?_) (by decide) rfl (by kernel_rfl) (by kernel_rfl) (by kernel_rfl) (fun _ _ _ h => h) hS (Or.inl ⟨by kernel_rfl, ?_⟩) ?_
                  rotate_left
                  · (intro V hSw; obtain ⟨hq1, hq2, hq3, hq4, hq5⟩ := HS13.out V hSw; go_simp; try with_reducible rfl)
                  try simp only [Act.put]
                  refine wpE_takeF 17 ⟨some 78, _, _, _, _, _⟩ (v := ?_) (by decide) rfl (by kernel_rfl) (by kernel_rfl) (by kernel_rfl) (fun _ _ _ h => h) hS (Or.inl ⟨by kernel_rfl, ?_⟩) ?_
                  rotate_left
                  · (intro V hSw; obtain ⟨hq1, hq2, hq3, hq4, hq5⟩ := HS13.out V hSw; go_simp; try with_reducible rfl)
                  try simp only [Act.put]
                  try simp (config := { maxSteps := 2000000 }) only [List.setIfInBounds_toArray, List.set_cons_succ, List.set_cons_zero]
                  refine wpE_takeF 18 ⟨some 79, _, _, _, _, _⟩ (v := ?_) (by decide) rfl (by kernel_rfl) (by kernel_rfl) (by kernel_rfl) (fun _ _ _ h => h) hS (Or.inl ⟨by kernel_rfl, ?_⟩) ?_
                  rotate_left
                  · (intro V hSw; obtain ⟨hq1, hq2, hq3, hq4, hq5⟩ := HS13.out V hSw; go_simp; try with_reducible rfl)
                  try simp only [Act.put]
                  refine wpE_takeF 19 ⟨some 80, _, _, _, _, _⟩ (v := ?_) (by decide) rfl (by kernel_rfl) (by kernel_rfl) (by kernel_rfl) (fun _ _ _ h => h) hS (Or.inl ⟨by kernel_rfl, ?_⟩) ?_
                  rotate_left
                  · (intro V hSw; obtain ⟨hq1, hq2, hq3, hq4, hq5⟩ := HS13.out V hSw; go_simp; try with_reducible rfl)
                  try simp only [Act.put]
                  refine wpE_takeF 20 ⟨some 81, _, _, _, _, _⟩ (v := ?_) (by decide) rfl (by kernel_rfl) (by kernel_rfl) (by kernel_rfl) (fun _ _ _ h => h) hS (Or.inl ⟨by kernel_rfl, ?_⟩) ?_
                  rotate_left
                  · (intro V hSw; obtain ⟨hq1, hq2, hq3, hq4, hq5⟩ := HS13.out V hSw; go_simp; try with_reducible rfl)
                  try simp only [Act.put]
                  refine wpE_takeF 21 ⟨some 82, _, _, _, _, _⟩ (v := ?_) (by decide) rfl (by kernel_rfl) (by kernel_rfl) (by kernel_rfl) (fun _ _ _ h => h) hS (Or.inl ⟨by kernel_rfl, ?_⟩) ?_
                  rotate_left
                  · (intro V hSw; obtain ⟨hq1, hq2, hq3, hq4, hq5⟩ := HS13.out V hSw; go_simp; try with_reducible rfl)
                  try simp only [Act.put]
                  refine wpE_takeF 22 ⟨some 83, _, _, _, _, _⟩ (v := ?_) (by decide) rfl (by kernel_rfl) (by kernel_rfl) (by kernel_rfl) (fun _ _ _ h => h) hS (Or.inl ⟨by kernel_rfl, ?_⟩) ?_
                  rotate_left
                  · (intro V hSw; obtain ⟨hq1, hq2, hq3, hq4, hq5⟩ := HS13.out V hSw; go_simp; try with_reducible rfl)
                  try simp only [Act.put]
                  refine wpE_takeF 23 ⟨some 84, _, _, _, _, _⟩ (v := undef) (by decide) rfl (by kernel_rfl) (by kernel_rfl) (by kernel_rfl) (fun _ _ _ h => h) hS (Or.inr ⟨by kernel_rfl, rfl⟩) ?_
                  try simp only [Act.put]
                  try simp (config := { maxSteps := 2000000 }) only [List.setIfInBounds_toArray, List.set_cons_succ, List.set_cons_zero]
                  refine wpE_takeF 24 ⟨some 85, _, _, _, _, _⟩ (v := undef) (by decide) rfl (by kernel_rfl) (by kernel_rfl) (by kernel_rfl) (fun _ _ _ h => h) hS (Or.inr ⟨by kernel_rfl, rfl⟩) ?_
                  try simp only [Act.put]
                  refine wpE_takeF 25 ⟨some 86, _, _, _, _, _⟩ (v := undef) (by decide) rfl (by kernel_rfl) (by kernel_rfl) (by kernel_rfl) (fun _ _ _ h => h) hS (Or.inr ⟨by kernel_rfl, rfl⟩) ?_
                  try simp only [Act.put]
                  refine wpE_takeF 26 ⟨some 87, _, _, _, _, _⟩ (v := undef) (by decide) rfl (by kernel_rfl) (by kernel_rfl) (by kernel_rfl) (fun _ _ _ h => h) hS (Or.inr ⟨by kernel_rfl, rfl⟩) ?_
                  try simp only [Act.put]
                  refine wpE_takeF 27 ⟨some 88, _, _, _, _, _⟩ (v := undef) (by decide) rfl (by kernel_rfl) (by kernel_rfl) (by kernel_rfl) (fun _ _ _ h => h) hS (Or.inr ⟨by kernel_rfl, rfl⟩) ?_
                  try simp only [Act.put]
                  refine wpE_takeF 28 ⟨some 89, _, _, _, _, _⟩ (v := undef) (by decide) rfl (by kernel_rfl) (by kernel_rfl) (by kernel_rfl) (fun _ _ _ h => h) hS (Or.inr ⟨by kernel_rfl, rfl⟩) ?_
                  try simp only [Act.put]
                  refine wpE_takeF 29 ⟨some 90, _, _, _, _, _⟩ (v := undef) (by decide) rfl (by kernel_rfl) (by kernel_rfl) (by kernel_rfl) (fun _ _ _ h => h) hS (Or.inr ⟨by kernel_rfl, rfl⟩) ?_
                  try simp only [Act.put]
                  try simp (config := { maxSteps := 2000000 }) only [List.setIfInBounds_toArray, List.set_cons_succ, List.set_cons_zero]
                  refine wpE_takeF 30 ⟨some 91, _, _, _, _, _⟩ (v := undef) (by decide) rfl (by kernel_rfl) (by kernel_rfl) (by kernel_rfl) (fun _ _ _ h => h) hS (Or.inr ⟨by kernel_rfl, rfl⟩) ?_
                  try simp only [Act.put]
                  refine wpE_takeF 31 ⟨some 92, _, _, _, _, _⟩ (v := undef) (by decide) rfl (by kernel_rfl) (by kernel_rfl) (by kernel_rfl) (fun _ _ _ h => h) hS (Or.inr ⟨by kernel_rfl, rfl⟩) ?_
                  try simp only [Act.put]
                  refine wpE_takeF 32 ⟨some 93, _, _, _, _, _⟩ (v := undef) (by decide) rfl (by kernel_rfl) (by kernel_rfl) (by kernel_rfl) (fun _ _ _ h => h) hS (Or.inr ⟨by kernel_rfl, rfl⟩) ?_
                  try simp only [Act.put]
                  refine wpE_takeF 33 ⟨some 94, _, _, _, _, _⟩ (v := ?_) (by decide) rfl (by kernel_rfl) (by kernel_rfl) (by kernel_rfl) (fun _ _ _ h => h) hS (Or.inl ⟨by kernel_rfl, ?_⟩) ?_
                  rotate_left
                  · (intro V hSw; obtain ⟨hq1, hq2, hq3, hq4, hq5⟩ := HS13.out V hSw; go_simp; try with_reducible rfl)
                  try simp only [Act.put]
                  refine wpE_takeF 34 ⟨some 95, _, _, _, _, _⟩ (v := ?_) (by decide) rfl (by kernel_rfl) (by kernel_rfl) (by kernel_rfl) (fun _ _ _ h => h) hS (Or.inl ⟨by kernel_rfl, ?_⟩) ?_
                  rotate_left
                  · (intro V hSw; obtain ⟨hq1, hq2, hq3, hq4, hq5⟩ := HS13.out V hSw; go_simp; try with_reducible rfl)
                  try simp only [Act.put]
                  refine wpE_done (by kernel_rfl) ?_ _
                  try simp (config := { maxSteps := 2000000 }) only [List.setIfInBounds_toArray, List.set_cons_succ, List.set_cons_zero]
                  go_wp2
                  go_ret
                  exact ⟨by rw [HC.out]; rfl, HBASE.out.drew⟩
                · have hd1 : decide (ea < xa + xn) = false := decide_eq_false g1
                  have hd3 : decide (xa + xn ≤ ea) = true := decide_eq_true (by omega)
                  rw [hd3, Bool.true_and] at HFB
                  generalize goes x e = gr at HGO HFB
                  clear g1 hd3
                  cases gr with
                  | true =>
                    have hf : right l = false := right_noE hkl HE.out (okB_fol HFB.out)
                    have HC := Lib.hid (HBAD.out hf); clear hf
                    go_wp2_with fail
                    refine wp_region_E (fun V => Below wr.heap.size wr V) 99 rfl ?_
                    have hS := (show Below wr.heap.size wr wr.drew from (Below.refl _ wr).drew)
                    refine wpE_takeF 0 ⟨some 61, _, _, _, _, _⟩ (v := ?_) (by decide) rfl (by kernel_rfl) (by kernel_rfl) (by kernel_rfl) (fun _ _ _ h => h) hS (Or.inl ⟨by kernel_rfl, ?_⟩) ?_
                    rotate_left
                    · (intro V hSw; obtain ⟨hq1, hq2, hq3, hq4, hq5⟩ := HS13.out V hSw; go_simp; try with_reducible rfl)
                    try simp only [Act.put]
                    refine wpE_takeF 1 ⟨some 62, _, _, _, _, _⟩ (v := ?_) (by decide) rfl (by kernel_rfl) (by kernel_rfl) (by kernel_rfl) (fun _ _ _ h => h) hS (Or.inl ⟨by kernel_rfl, ?_⟩) ?_
                    rotate_left
                    · (intro V hSw; obtain ⟨hq1, hq2, hq3, hq4, hq5⟩ := HS13.out V hSw; go_simp; try with_reducible rfl)
                    try simp only [Act.put]
                    refine wpE_takeF 2 ⟨some 63, _, _, _, _, _⟩ (v := ?_) (by decide) rfl (by kernel_rfl) (by kernel_rfl) (by kernel_rfl) (fun _ _ _ h => h) hS (Or.inl ⟨by kernel_rfl, ?_⟩) ?_
                    rotate_left
                    · (intro V hSw; obtain ⟨hq1, hq2, hq3, hq4, hq5⟩ := HS13.out V hSw; go_simp; try with_reducible rfl)
                    try simp only [Act.put]
                    refine wpE_takeF 3 ⟨some 64, _, _, _, _, _⟩ (v := ?_) (by decide) rfl (by kernel_rfl) (by kernel_rfl) (by kernel_rfl) (fun _ _ _ h => h) hS (Or.inl ⟨by kernel_rfl, ?_⟩) ?_
                    rotate_left
                    · (intro V hSw; obtain ⟨hq1, hq2, hq3, hq4, hq5⟩ := HS13.out V hSw; go_simp; try with_reducible rfl)
                    try simp only [Act.put]
                    refine wpE_takeF 4 ⟨some 65, _, _, _, _, _⟩ (v := ?_) (by decide) rfl (by kernel_rfl) (by kernel_rfl) (by kernel_rfl) (fun _ _ _ h => h) hS (Or.inl ⟨by kernel_rfl, ?_⟩) ?_
                    rotate_left
                    · (intro V hSw; obtain ⟨hq1, hq2, hq3, hq4, hq5⟩ := HS13.out V hSw; go_simp; try with_reducible rfl)
                    try simp only [Act.put]
                    refine wpE_takeF 5 ⟨some 66, _, _, _, _, _⟩ (v := ?_) (by decide) rfl (by kernel_rfl) (by kernel_rfl) (by kernel_rfl) (fun _ _ _ h => h) hS (Or.inl ⟨by kernel_rfl, ?_⟩) ?_
                    rotate_left
                    · (intro V hSw; obtain ⟨hq1, hq2, hq3, hq4, hq5⟩ := HS13.out V hSw; go_simp; try with_reducible rfl)
                    try simp only [Act.put]
                    refine wpE_takeF 6 ⟨some 67, _, _, _, _, _⟩ (v := ?_) (by decide) rfl (by kernel_rfl) (by kernel_rfl) (by kernel_rfl) (fun _ _ _ h => h) hS (Or.inl ⟨by kernel_rfl, ?_⟩) ?_
                    rotate_left
                    · (intro V hSw; obtain ⟨hq1, hq2, hq3, hq4, hq5⟩ := HS13.out V hSw; go_simp; try with_reducible rfl)
                    try simp only [Act.put]
                    refine wpE_takeF 7 ⟨some 68, _, _, _, _, _⟩ (v := ?_) (by decide) rfl (by kernel_rfl) (by kernel_rfl) (by kernel_rfl) (fun _ _ _ h => h) hS (Or.inl ⟨by kernel_rfl, ?_⟩) ?_
                    rotate_left
                    · (intro V hSw; obtain ⟨hq1, hq2, hq3, hq4, hq5⟩ := HS13.out V hSw; go_simp; try with_reducible rfl)
                    try simp only [Act.put]
                    refine wpE_takeF 8 ⟨some 69, _, _, _, _, _⟩ (v := ?_) (by decide) rfl (by kernel_rfl) (by kernel_rfl) (by kernel_rfl) (fun _ _ _ h => h) hS (Or.inl ⟨by kernel_rfl, ?_⟩) ?_
                    rotate_left
                    · (intro V hSw; obtain ⟨hq1, hq2, hq3, hq4, hq5⟩ := HS13.out V hSw; go_simp; try with_reducible rfl)
                    try simp only [Act.put]
                    refine wpE_takeF 9 ⟨some 70, _, _, _, _, _⟩ (v := ?_) (by decide) rfl (by kernel_rfl) (by kernel_rfl) (by kernel_rfl) (fun _ _ _ h => h) hS (Or.inl ⟨by kernel_rfl, ?_⟩) ?_
                    rotate_left
                    · (intro V hSw; obtain ⟨hq1, hq2, hq3, hq4, hq5⟩ := HS13.out V hSw; go_simp; try with_reducible rfl)
                    try simp only [Act.put]
                    refine wpE_takeF 10 ⟨some 71, _, _, _, _, _⟩ (v := ?_) (by decide) rfl (by kernel_rfl) (by kernel_rfl) (by kernel_rfl) (fun _ _ _ h => h) hS (Or.inl ⟨by kernel_rfl, ?_⟩) ?_
                    rotate_left
                    · (intro V hSw; obtain ⟨hq1, hq2, hq3, hq4, hq5⟩ := HS13.out V hSw; go_simp; try with_reducible rfl)
                    try simp only [Act.put]
                    refine wpE_takeF 11 ⟨some 72, _, _, _, _, _⟩ (v := ?_) (by decide) rfl (by kernel_rfl) (by kernel_rfl) (by kernel_rfl) (fun _ _ _ h => h) hS (Or.inl ⟨by kernel_rfl, ?_⟩) ?_
                    rotate_left
                    · (intro V hSw; obtain ⟨hq1, hq2, hq3, hq4, hq5⟩ := HS13.out V hSw; go_simp; try with_reducible rfl)
                    try simp only [Act.put]
                    refine wpE_takeF 12 ⟨some 73, _, _, _, _, _⟩ (v := ?_) (by decide) rfl (by kernel_rfl) (by kernel_rfl) (by kernel_rfl) (fun _ _ _ h => h) hS (Or.inl ⟨by kernel_rfl, ?_⟩) ?_
                    rotate_left
                    · (intro V hSw; obtain ⟨hq1, hq2, hq3, hq4, hq5⟩ := HS13.out V hSw; go_simp; try with_reducible rfl)
                    try simp only [Act.put]
                    refine wpE_takeF 13 ⟨some 74, _, _, _, _, _⟩ (v := ?_) (by decide) rfl (by kernel_rfl) (by kernel_rfl) (by kernel_rfl) (fun _ _ _ h => h) hS (Or.inl ⟨by kernel_rfl, ?_⟩) ?_
                    rotate_left
                    · (intro V hSw; obtain ⟨hq1, hq2, hq3, hq4, hq5⟩ := HS13.out V hSw; go_simp; try with_reducible rfl)
                    try simp only [Act.put]
                    refine wpE_takeF 14 ⟨some 75, _, _, _, _, _⟩ (v := ?_) (by decide) rfl (by kernel_rfl) (by kernel_rfl) (by kernel_rfl) (fun _ _ _ h => h) hS (Or.inl ⟨by kernel_rfl, ?_⟩) ?_
                    rotate_left
                    · (intro V hSw; obtain ⟨hq1, hq2, hq3, hq4, hq5⟩ := HS13.out V hSw; go_simp; try with_reducible rfl)
                    try simp only [Act.put]
                    refine wpE_takeF 15 ⟨some 76, _, _, _, _, _⟩ (v := ?_) (by decide) rfl (by kernel_rfl) (by kernel_rfl) (by kernel_rfl) (fun _ _ _ h => h) hS (Or.inl ⟨by kernel_rfl, ?_⟩) ?_
                    rotate_left
                    · (intro V hSw; obtain ⟨hq1, hq2, hq3, hq4, hq5⟩ := HS13.out V hSw; go_simp; try with_reducible rfl)
                    try simp only [Act.put]
                    refine wpE_takeF 16 ⟨some 77, _, _, _, _, _⟩ (v := ?_) (by decide) rfl (by kernel_rfl) (by kernel_rfl) (by kernel_rfl) (fun _ _ _ h => h) hS (Or.inl ⟨by kernel_rfl, ?_⟩) ?_
                    rotate_left
                    · (intro V hSw; obtain ⟨hq1, hq2, hq3, hq4, hq5⟩ := HS13.out V hSw; go_simp; try with_reducible rfl)
                    try simp only [Act.put]
                    refine wpE_takeF 17 ⟨some 78, _, _, _, _, _⟩ (v := ?_) (by decide) rfl (by kernel_rfl) (by kernel_rfl) (by kernel_rfl) (fun _ _ _ h => h) hS (Or.inl ⟨by kernel_rfl, ?_⟩) ?_
                    rotate_left
                    · (intro V hSw; obtain ⟨hq1, hq2, hq3, hq4, hq5⟩ := HS13.out V hSw; go_simp; try with_reducible rfl)
                    try simp only [Act.put]
                    refine wpE_takeF 18 ⟨some 79, _, _, _, _, _⟩ (v := ?_) (by decide) rfl (by kernel_rfl) (by kernel_rfl) (by kernel_rfl) (fun _ _ _ h => h) hS (Or.inl ⟨by kernel_rfl, ?_⟩) ?_
                    rotate_left
                    · (intro V hSw; obtain ⟨hq1, hq2, hq3, hq4, hq5⟩ := HS13.out V hSw; go_simp; try with_reducible rfl)
                    try simp only [Act.put]
                    refine wpE_takeF 19 ⟨some 80, _, _, _, _, _⟩ (v := ?_) (by decide) rfl (by kernel_rfl) (by kernel_rfl) (by kernel_rfl) (fun _ _ _ h => h) hS (Or.inl ⟨by kernel_rfl, ?_⟩) ?_
                    rotate_left
                    · (intro V hSw; obtain ⟨hq1, hq2, hq3, hq4, hq5⟩ := HS13.out V hSw; go_simp; try with_reducible rfl)
                    try simp only [Act.put]
                    refine wpE_takeF 20 ⟨some 81, _, _, _, _, _⟩ (v := ?_) (by decide) rfl (by kernel_rfl) (by kernel_rfl) (by kernel_rfl) (fun _ _ _ h => h) hS (Or.inl ⟨by kernel_rfl, ?_⟩) ?_
                    rotate_left
                    · (intro V hSw; obtain ⟨hq1, hq2, hq3, hq4, hq5⟩ := HS13.out V hSw; go_simp; try with_reducible rfl)
                    try simp only [Act.put]
                    refine wpE_takeF 21 ⟨some 82, _, _, _, _, _⟩ (v := ?_) (by decide) rfl (by kernel_rfl) (by kernel_rfl) (by kernel_rfl) (fun _ _ _ h => h) hS (Or.inl ⟨by kernel_rfl, ?_⟩) ?_
                    rotate_left
                    · (intro V hSw; obtain ⟨hq1, hq2, hq3, hq4, hq5⟩ := HS13.out V hSw; go_simp; try with_reducible rfl)
                    try simp only [Act.put]
                    refine wpE_takeF 22 ⟨some 83, _, _, _, _, _⟩ (v := ?_) (by decide) rfl (by kernel_rfl) (by kernel_rfl) (by kernel_rfl) (fun _ _ _ h => h) hS (Or.inl ⟨by kernel_rfl, ?_⟩) ?_
                    rotate_left
                    · (intro V hSw; obtain ⟨hq1, hq2, hq3, hq4, hq5⟩ := HS13.out V hSw; go_simp; try with_reducible rfl)
                    try simp only [Act.put]
                    refine wpE_takeF 23 ⟨some 84, _, _, _, _, _⟩ (v := ?_) (by decide) rfl (by kernel_rfl) (by kernel_rfl) (by kernel_rfl) (fun _ _ _ h => h) hS (Or.inl ⟨by kernel_rfl, ?_⟩) ?_
                    rotate_left
                    · (intro V hSw; obtain ⟨hq1, hq2, hq3, hq4, hq5⟩ := HS13.out V hSw; go_simp; try with_reducible rfl)
                    try simp only [Act.put]
                    refine wpE_takeF 24 ⟨some 85, _, _, _, _, _⟩ (v := ?_) (by decide) rfl (by kernel_rfl) (by kernel_rfl) (by kernel_rfl) (fun _ _ _ h => h) hS (Or.inl ⟨by kernel_rfl, ?_⟩) ?_
                    rotate_left
                    · (intro V hSw; obtain ⟨hq1, hq2, hq3, hq4, hq5⟩ := HS13.out V hSw; go_simp; try with_reducible rfl)
                    try simp only [Act.put]
                    refine wpE_takeF 25 ⟨some 86, _, _, _, _, _⟩ (v := ?_) (by decide) rfl (by kernel_rfl) (by kernel_rfl) (by kernel_rfl) (fun _ _ _ h => h) hS (Or.inl ⟨by kernel_rfl, ?_⟩) ?_
                    rotate_left
                    · (intro V hSw; obtain ⟨hq1, hq2, hq3, hq4, hq5⟩ := HS13.out V hSw; go_simp; try with_reducible rfl)
                    try simp only [Act.put]
                    refine wpE_takeF 26 ⟨some 87, _, _, _, _, _⟩ (v := ?_) (by decide) rfl (by kernel_rfl) (by kernel_rfl) (by kernel_rfl) (fun _ _ _ h => h) hS (Or.inl ⟨by kernel_rfl, ?_⟩) ?_
                    rotate_left
                    · (intro V hSw; obtain ⟨hq1, hq2, hq3, hq4, hq5⟩ := HS13.out V hSw; go_simp; try with_reducible rfl)
                    try simp only [Act.put]
                    refine wpE_takeF 27 ⟨some 88, _, _, _, _, _⟩ (v := ?_) (by decide) rfl (by kernel_rfl) (by kernel_rfl) (by kernel_rfl) (fun _ _ _ h => h) hS (Or.inl ⟨by kernel_rfl, ?_⟩) ?_
                    rotate_left
                    · (intro V hSw; obtain ⟨hq1, hq2, hq3, hq4, hq5⟩ := HS13.out V hSw; go_simp; try with_reducible rfl)
                    try simp only [Act.put]
                    refine wpE_takeF 28 ⟨some 89, _, _, _, _, _⟩ (v := ?_) (by decide) rfl (by kernel_rfl) (by kernel_rfl) (by kernel_rfl) (fun _ _ _ h => h) hS (Or.inl ⟨by kernel_rfl, ?_⟩) ?_
                    rotate_left
                    · (intro V hSw; obtain ⟨hq1, hq2, hq3, hq4, hq5⟩ := HS13.out V hSw; go_simp; try with_reducible rfl)
                    try simp only [Act.put]
                    refine wpE_takeF 29 ⟨some 90, _, _, _, _, _⟩ (v := ?_) (by decide) rfl (by kernel_rfl) (by kernel_rfl) (by kernel_rfl) (fun _ _ _ h => h) hS (Or.inl ⟨by kernel_rfl, ?_⟩) ?_
                    rotate_left
                    · (intro V hSw; obtain ⟨hq1, hq2, hq3, hq4, hq5⟩ := HS13.out V hSw; go_simp; try with_reducible rfl)
                    try simp only [Act.put]
                    refine wpE_takeF 30 ⟨some 91, _, _, _, _, _⟩ (v := ?_) (by decide) rfl (by kernel_rfl) (by kernel_rfl) (by kernel_rfl) (fun _ _ _ h => h) hS (Or.inl ⟨by kernel_rfl, ?_⟩) ?_
                    rotate_left
                    · (intro V hSw; obtain ⟨hq1, hq2, hq3, hq4, hq5⟩ := HS13.out V hSw; go_simp; try with_reducible rfl)
                    try simp only [Act.put]
                    refine wpE_takeF 31 ⟨some 92, _, _, _, _, _⟩ (v := ?_) (by decide) rfl (by kernel_rfl) (by kernel_rfl) (by kernel_rfl) (fun _ _ _ h => h) hS (Or.inl ⟨by kernel_rfl, ?_⟩) ?_
                    rotate_left
                    · (intro V hSw; obtain ⟨hq1, hq2, hq3, hq4, hq5⟩ := HS13.out V hSw; go_simp; try with_reducible rfl)
                    try simp only [Act.put]
                    refine wpE_one 32 (o := ⟨some 93, _, _, _, _, _⟩) (by kernel_rfl) rfl (fun K' hK' => ?_)
                    rw [if_pos (by kernel_rfl)]
                    refine call_wp 42 _ _ _ _ rfl Try.func42 (by kernel_rfl) rfl _ ?hv _ (HGO.out _) ?_
                    case hv => simp only [List.map_toArray, List.map_cons, List.map_nil]; go_simp
                    rintro E V6 ⟨rfl, hb6⟩
                    have HG1 := Lib.hid (hS.trans (hb6.mono hS.size))
                    clear hb6
                    refine ⟨_, rfl, ?_⟩
                    refine hK'.out _ _ HG1.out (fun hS => ?_)
                    clear hK' K'
                    try simp only [Act.put]
                    refine wpE_takeF 33 ⟨some 94, _, _, _, _, _⟩ (v := ?_) (by decide) rfl (by kernel_rfl) (by kernel_rfl) (by kernel_rfl) (fun _ _ _ h => h) hS (Or.inl ⟨by kernel_rfl, ?_⟩) ?_
                    rotate_left
                    · (intro V hSw; obtain ⟨hq1, hq2, hq3, hq4, hq5⟩ := HS13.out V hSw; go_simp; try with_reducible rfl)
                    try simp only [Act.put]
                    refine wpE_takeF 34 ⟨some 95, _, _, _, _, _⟩ (v := ?_) (by decide) rfl (by kernel_rfl) (by kernel_rfl) (by kernel_rfl) (fun _ _ _ h => h) hS (Or.inl ⟨by kernel_rfl, ?_⟩) ?_
                    rotate_left
                    · (intro V hSw; obtain ⟨hq1, hq2, hq3, hq4, hq5⟩ := HS13.out V hSw; go_simp; try with_reducible rfl)
                    try simp only [Act.put]
                    refine wpE_done (by kernel_rfl) ?_ _
                    try simp only [List.setIfInBounds_toArray, List.set_cons_succ, List.set_cons_zero]
                    go_wp2
                    go_ret
                    exact ⟨by rw [HC.out]; rfl, HBASE.out.trans (HG1.out.mono HBASE.out.size)⟩
                  | false =>
                    have HNX := Lib.hid (HNEXT.out HFB.out)
                    go_wp2_with fail
                    refine wp_region_E (fun V => Below wr.heap.size wr V) 99 rfl ?_
                    have hS := (show Below wr.heap.size wr wr.drew from (Below.refl _ wr).drew)
                    refine wpE_takeF 0 ⟨some 61, _, _, _, _, _⟩ (v := ?_) (by decide) rfl (by kernel_rfl) (by kernel_rfl) (by kernel_rfl) (fun _ _ _ h => h) hS (Or.inl ⟨by kernel_rfl, ?_⟩) ?_
                    rotate_left
                    · (intro V hSw; obtain ⟨hq1, hq2, hq3, hq4, hq5⟩ := HS13.out V hSw; go_simp; try with_reducible rfl)
                    try simp only [Act.put]
                    refine wpE_takeF 1 ⟨some 62, _, _, _, _, _⟩ (v := ?_) (by decide) rfl (by kernel_rfl) (by kernel_rfl) (by kernel_rfl) (fun _ _ _ h => h) hS (Or.inl ⟨by kernel_rfl, ?_⟩) ?_
                    rotate_left
                    · (intro V hSw; obtain ⟨hq1, hq2, hq3, hq4, hq5⟩ := HS13.out V hSw; go_simp; try with_reducible rfl)
                    try simp only [Act.put]
                    refine wpE_takeF 2 ⟨some 63, _, _, _, _, _⟩ (v := ?_) (by decide) rfl (by kernel_rfl) (by kernel_rfl) (by kernel_rfl) (fun _ _ _ h => h) hS (Or.inl ⟨by kernel_rfl, ?_⟩) ?_
                    rotate_left
                    · (intro V hSw; obtain ⟨hq1, hq2, hq3, hq4, hq5⟩ := HS13.out V hSw; go_simp; try with_reducible rfl)
                    try simp only [Act.put]
                    refine wpE_takeF 3 ⟨some 64, _, _, _, _, _⟩ (v := ?_) (by decide) rfl (by kernel_rfl) (by kernel_rfl) (by kernel_rfl) (fun _ _ _ h => h) hS (Or.inl ⟨by kernel_rfl, ?_⟩) ?_
                    rotate_left
                    · (intro V hSw; obtain ⟨hq1, hq2, hq3, hq4, hq5⟩ := HS13.out V hSw; go_simp; try with_reducible rfl)
                    try simp only [Act.put]
                    refine wpE_takeF 4 ⟨some 65, _, _, _, _, _⟩ (v := ?_) (by decide) rfl (by kernel_rfl) (by kernel_rfl) (by kernel_rfl) (fun _ _ _ h => h) hS (Or.inl ⟨by kernel_rfl, ?_⟩) ?_
                    rotate_left
                    · (intro V hSw; obtain ⟨hq1, hq2, hq3, hq4, hq5⟩ := HS13.out V hSw; go_simp; try with_reducible rfl)
                    try simp only [Act.put]
                    refine wpE_takeF 5 ⟨some 66, _, _, _, _, _⟩ (v := ?_) (by decide) rfl (by kernel_rfl) (by kernel_rfl) (by kernel_rfl) (fun _ _ _ h => h) hS (Or.inl ⟨by kernel_rfl, ?_⟩) ?_
                    rotate_left
                    · (intro V hSw; obtain ⟨hq1, hq2, hq3, hq4, hq5⟩ := HS13.out V hSw; go_simp; try with_reducible rfl)
                    try simp only [Act.put]
                    refine wpE_takeF 6 ⟨some 67, _, _, _, _, _⟩ (v := ?_) (by decide) rfl (by kernel_rfl) (by kernel_rfl) (by kernel_rfl) (fun _ _ _ h => h) hS (Or.inl ⟨by kernel_rfl, ?_⟩) ?_
                    rotate_left
                    · (intro V hSw; obtain ⟨hq1, hq2, hq3, hq4, hq5⟩ := HS13.out V hSw; go_simp; try with_reducible rfl)
                    try simp only [Act.put]
                    refine wpE_takeF 7 ⟨some 68, _, _, _, _, _⟩ (v := ?_) (by decide) rfl (by kernel_rfl) (by kernel_rfl) (by kernel_rfl) (fun _ _ _ h => h) hS (Or.inl ⟨by kernel_rfl, ?_⟩) ?_
                    rotate_left
                    · (intro V hSw; obtain ⟨hq1, hq2, hq3, hq4, hq5⟩ := HS13.out V hSw; go_simp; try with_reducible rfl)
                    try simp only [Act.put]
                    refine wpE_takeF 8 ⟨some 69, _, _, _, _, _⟩ (v := ?_) (by decide) rfl (by kernel_rfl) (by kernel_rfl) (by kernel_rfl) (fun _ _ _ h => h) hS (Or.inl ⟨by kernel_rfl, ?_⟩) ?_
                    rotate_left
                    · (intro V hSw; obtain ⟨hq1, hq2, hq3, hq4, hq5⟩ := HS13.out V hSw; go_simp; try with_reducible rfl)
                    try simp only [Act.put]
                    refine wpE_takeF 9 ⟨some 70, _, _, _, _, _⟩ (v := ?_) (by decide) rfl (by kernel_rfl) (by kernel_rfl) (by kernel_rfl) (fun _ _ _ h => h) hS (Or.inl ⟨by kernel_rfl, ?_⟩) ?_
                    rotate_left
                    · (intro V hSw; obtain ⟨hq1, hq2, hq3, hq4, hq5⟩ := HS13.out V hSw; go_simp; try with_reducible rfl)
                    try simp only [Act.put]
                    refine wpE_takeF 10 ⟨some 71, _, _, _, _, _⟩ (v := ?_) (by decide) rfl (by kernel_rfl) (by kernel_rfl) (by kernel_rfl) (fun _ _ _ h => h) hS (Or.inl ⟨by kernel_rfl, ?_⟩) ?_
                    rotate_left
                    · (intro V hSw; obtain ⟨hq1, hq2, hq3, hq4, hq5⟩ := HS13.out V hSw; go_simp; try with_reducible rfl)
                    try simp only [Act.put]
                    refine wpE_takeF 11 ⟨some 72, _, _, _, _, _⟩ (v := ?_) (by decide) rfl (by kernel_rfl) (by kernel_rfl) (by kernel_rfl) (fun _ _ _ h => h) hS (Or.inl ⟨by kernel_rfl, ?_⟩) ?_
                    rotate_left
                    · (intro V hSw; obtain ⟨hq1, hq2, hq3, hq4, hq5⟩ := HS13.out V hSw; go_simp; try with_reducible rfl)
                    try simp only [Act.put]
                    refine wpE_takeF 12 ⟨some 73, _, _, _, _, _⟩ (v := ?_) (by decide) rfl (by kernel_rfl) (by kernel_rfl) (by kernel_rfl) (fun _ _ _ h => h) hS (Or.inl ⟨by kernel_rfl, ?_⟩) ?_
                    rotate_left
                    · (intro V hSw; obtain ⟨hq1, hq2, hq3, hq4, hq5⟩ := HS13.out V hSw; go_simp; try with_reducible rfl)
                    try simp only [Act.put]
                    refine wpE_takeF 13 ⟨some 74, _, _, _, _, _⟩ (v := ?_) (by decide) rfl (by kernel_rfl) (by kernel_rfl) (by kernel_rfl) (fun _ _ _ h => h) hS (Or.inl ⟨by kernel_rfl, ?_⟩) ?_
                    rotate_left
                    · (intro V hSw; obtain ⟨hq1, hq2, hq3, hq4, hq5⟩ := HS13.out V hSw; go_simp; try with_reducible rfl)
                    try simp only [Act.put]
                    refine wpE_takeF 14 ⟨some 75, _, _, _, _, _⟩ (v := ?_) (by decide) rfl (by kernel_rfl) (by kernel_rfl) (by kernel_rfl) (fun _ _ _ h => h) hS (Or.inl ⟨by kernel_rfl, ?_⟩) ?_
                    rotate_left
                    · (intro V hSw; obtain ⟨hq1, hq2, hq3, hq4, hq5⟩ := HS13.out V hSw; go_simp; try with_reducible rfl)
                    try simp only [Act.put]
                    refine wpE_takeF 15 ⟨some 76, _, _, _, _, _⟩ (v := ?_) (by decide) rfl (by kernel_rfl) (by kernel_rfl) (by kernel_rfl) (fun _ _ _ h => h) hS (Or.inl ⟨by kernel_rfl, ?_⟩) ?_
                    rotate_left
                    · (intro V hSw; obtain ⟨hq1, hq2, hq3, hq4, hq5⟩ := HS13.out V hSw; go_simp; try with_reducible rfl)
                    try simp only [Act.put]
                    refine wpE_takeF 16 ⟨some 77, _, _, _, _, _⟩ (v := ?_) (by decide) rfl (by kernel_rfl) (by kernel_rfl) (by kernel_rfl) (fun _ _ _ h => h) hS (Or.inl ⟨by kernel_rfl, ?_⟩) ?_
                    rotate_left
                    · (intro V hSw; obtain ⟨hq1, hq2, hq3, hq4, hq5⟩ := HS13.out V hSw; go_simp; try with_reducible rfl)
                    try simp only [Act.put]
                    refine wpE_takeF 17 ⟨some 78, _, _, _, _, _⟩ (v := ?_) (by decide) rfl (by kernel_rfl) (by kernel_rfl) (by kernel_rfl) (fun _ _ _ h => h) hS (Or.inl ⟨by kernel_rfl, ?_⟩) ?_
                    rotate_left
                    · (intro V hSw; obtain ⟨hq1, hq2, hq3, hq4, hq5⟩ := HS13.out V hSw; go_simp; try with_reducible rfl)
                    try simp only [Act.put]
                    refine wpE_takeF 18 ⟨some 79, _, _, _, _, _⟩ (v := ?_) (by decide) rfl (by kernel_rfl) (by kernel_rfl) (by kernel_rfl) (fun _ _ _ h => h) hS (Or.inl ⟨by kernel_rfl, ?_⟩) ?_
                    rotate_left
                    · (intro V hSw; obtain ⟨hq1, hq2, hq3, hq4, hq5⟩ := HS13.out V hSw; go_simp; try with_reducible rfl)
                    try simp only [Act.put]
                    refine wpE_takeF 19 ⟨some 80, _, _, _, _, _⟩ (v := ?_) (by decide) rfl (by kernel_rfl) (by kernel_rfl) (by kernel_rfl) (fun _ _ _ h => h) hS (Or.inl ⟨by kernel_rfl, ?_⟩) ?_
                    rotate_left
                    · (intro V hSw; obtain ⟨hq1, hq2, hq3, hq4, hq5⟩ := HS13.out V hSw; go_simp; try with_reducible rfl)
                    try simp only [Act.put]
                    refine wpE_takeF 20 ⟨some 81, _, _, _, _, _⟩ (v := ?_) (by decide) rfl (by kernel_rfl) (by kernel_rfl) (by kernel_rfl) (fun _ _ _ h => h) hS (Or.inl ⟨by kernel_rfl, ?_⟩) ?_
                    rotate_left
                    · (intro V hSw; obtain ⟨hq1, hq2, hq3, hq4, hq5⟩ := HS13.out V hSw; go_simp; try with_reducible rfl)
                    try simp only [Act.put]
                    refine wpE_takeF 21 ⟨some 82, _, _, _, _, _⟩ (v := ?_) (by decide) rfl (by kernel_rfl) (by kernel_rfl) (by kernel_rfl) (fun _ _ _ h => h) hS (Or.inl ⟨by kernel_rfl, ?_⟩) ?_
                    rotate_left
                    · (intro V hSw; obtain ⟨hq1, hq2, hq3, hq4, hq5⟩ := HS13.out V hSw; go_simp; try with_reducible rfl)
                    try simp only [Act.put]
                    refine wpE_takeF 22 ⟨some 83, _, _, _, _, _⟩ (v := ?_) (by decide) rfl (by kernel_rfl) (by kernel_rfl) (by kernel_rfl) (fun _ _ _ h => h) hS (Or.inl ⟨by kernel_rfl, ?_⟩) ?_
                    rotate_left
                    · (intro V hSw; obtain ⟨hq1, hq2, hq3, hq4, hq5⟩ := HS13.out V hSw; go_simp; try with_reducible rfl)
                    try simp only [Act.put]
                    refine wpE_takeF 23 ⟨some 84, _, _, _, _, _⟩ (v := ?_) (by decide) rfl (by kernel_rfl) (by kernel_rfl) (by kernel_rfl) (fun _ _ _ h => h) hS (Or.inl ⟨by kernel_rfl, ?_⟩) ?_
                    rotate_left
                    · (intro V hSw; obtain ⟨hq1, hq2, hq3, hq4, hq5⟩ := HS13.out V hSw; go_simp; try with_reducible rfl)
                    try simp only [Act.put]
                    refine wpE_takeF 24 ⟨some 85, _, _, _, _, _⟩ (v := ?_) (by decide) rfl (by kernel_rfl) (by kernel_rfl) (by kernel_rfl) (fun _ _ _ h => h) hS (Or.inl ⟨by kernel_rfl, ?_⟩) ?_
                    rotate_left
                    · (intro V hSw; obtain ⟨hq1, hq2, hq3, hq4, hq5⟩ := HS13.out V hSw; go_simp; try with_reducible rfl)
                    try simp only [Act.put]
                    refine wpE_takeF 25 ⟨some 86, _, _, _, _, _⟩ (v := ?_) (by decide) rfl (by kernel_rfl) (by kernel_rfl) (by kernel_rfl) (fun _ _ _ h => h) hS (Or.inl ⟨by kernel_rfl, ?_⟩) ?_
                    rotate_left
                    · (intro V hSw; obtain ⟨hq1, hq2, hq3, hq4, hq5⟩ := HS13.out V hSw; go_simp; try with_reducible rfl)
                    try simp only [Act.put]
                    refine wpE_takeF 26 ⟨some 87, _, _, _, _, _⟩ (v := ?_) (by decide) rfl (by kernel_rfl) (by kernel_rfl) (by kernel_rfl) (fun _ _ _ h => h) hS (Or.inl ⟨by kernel_rfl, ?_⟩) ?_
                    rotate_left
                    · (intro V hSw; obtain ⟨hq1, hq2, hq3, hq4, hq5⟩ := HS13.out V hSw; go_simp; try with_reducible rfl)
                    try simp only [Act.put]
                    refine wpE_takeF 27 ⟨some 88, _, _, _, _, _⟩ (v := ?_) (by decide) rfl (by kernel_rfl) (by kernel_rfl) (by kernel_rfl) (fun _ _ _ h => h) hS (Or.inl ⟨by kernel_rfl, ?_⟩) ?_
                    rotate_left
                    · (intro V hSw; obtain ⟨hq1, hq2, hq3, hq4, hq5⟩ := HS13.out V hSw; go_simp; try with_reducible rfl)
                    try simp only [Act.put]
                    refine wpE_takeF 28 ⟨some 89, _, _, _, _, _⟩ (v := ?_) (by decide) rfl (by kernel_rfl) (by kernel_rfl) (by kernel_rfl) (fun _ _ _ h => h) hS (Or.inl ⟨by kernel_rfl, ?_⟩) ?_
                    rotate_left
                    · (intro V hSw; obtain ⟨hq1, hq2, hq3, hq4, hq5⟩ := HS13.out V hSw; go_simp; try with_reducible rfl)
                    try simp only [Act.put]
                    refine wpE_takeF 29 ⟨some 90, _, _, _, _, _⟩ (v := ?_) (by decide) rfl (by kernel_rfl) (by kernel_rfl) (by kernel_rfl) (fun _ _ _ h => h) hS (Or.inl ⟨by kernel_rfl, ?_⟩) ?_
                    rotate_left
                    · (intro V hSw; obtain ⟨hq1, hq2, hq3, hq4, hq5⟩ := HS13.out V hSw; go_simp; try with_reducible rfl)
                    try simp only [Act.put]
                    refine wpE_takeF 30 ⟨some 91, _, _, _, _, _⟩ (v := ?_) (by decide) rfl (by kernel_rfl) (by kernel_rfl) (by kernel_rfl) (fun _ _ _ h => h) hS (Or.inl ⟨by kernel_rfl, ?_⟩) ?_
                    rotate_left
                    · (intro V hSw; obtain ⟨hq1, hq2, hq3, hq4, hq5⟩ := HS13.out V hSw; go_simp; try with_reducible rfl)
                    try simp only [Act.put]
                    refine wpE_takeF 31 ⟨some 92, _, _, _, _, _⟩ (v := ?_) (by decide) rfl (by kernel_rfl) (by kernel_rfl) (by kernel_rfl) (fun _ _ _ h => h) hS (Or.inl ⟨by kernel_rfl, ?_⟩) ?_
                    rotate_left
                    · (intro V hSw; obtain ⟨hq1, hq2, hq3, hq4, hq5⟩ := HS13.out V hSw; go_simp; try with_reducible rfl)
                    try simp only [Act.put]
                    refine wpE_one 32 (o := ⟨some 93, _, _, _, _, _⟩) (by kernel_rfl) rfl (fun K' hK' => ?_)
                    rw [if_pos (by kernel_rfl)]
                    refine call_wp 42 _ _ _ _ rfl Try.func42 (by kernel_rfl) rfl _ ?hv _ (HGO.out _) ?_
                    case hv => simp only [List.map_toArray, List.map_cons, List.map_nil]; go_simp
                    rintro E V6 ⟨rfl, hb6⟩
                    have HG1 := Lib.hid (hS.trans (hb6.mono hS.size))
                    clear hb6
                    refine ⟨_, rfl, ?_⟩
                    refine hK'.out _ _ HG1.out (fun hS => ?_)
                    clear hK' K'
                    try simp only [Act.put]
                    refine wpE_takeF 33 ⟨some 94, _, _, _, _, _⟩ (v := ?_) (by decide) rfl (by kernel_rfl) (by kernel_rfl) (by kernel_rfl) (fun _ _ _ h => h) hS (Or.inl ⟨by kernel_rfl, ?_⟩) ?_
                    rotate_left
                    · (intro V hSw; obtain ⟨hq1, hq2, hq3, hq4, hq5⟩ := HS13.out V hSw; go_simp; try with_reducible rfl)
                    try simp only [Act.put]
                    refine wpE_takeF 34 ⟨some 95, _, _, _, _, _⟩ (v := ?_) (by decide) rfl (by kernel_rfl) (by kernel_rfl) (by kernel_rfl) (fun _ _ _ h => h) hS (Or.inl ⟨by kernel_rfl, ?_⟩) ?_
                    rotate_left
                    · (intro V hSw; obtain ⟨hq1, hq2, hq3, hq4, hq5⟩ := HS13.out V hSw; go_simp; try with_reducible rfl)
                    try simp only [Act.put]
                    refine wpE_done (by kernel_rfl) ?_ _
                    try simp only [List.setIfInBounds_toArray, List.set_cons_succ, List.set_cons_zero]
                    go_wp2
                    go_roundw
                    case rel => exact ⟨k + 1, by omega, by go_num, HNX.out, HBASE.out.trans (HG1.out.mono HBASE.out.size)⟩
                    case measure => simp [intOf]; omega
end Go.Proofs.Ytkhenchhafmlmaa.Ex
