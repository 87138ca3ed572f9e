/- SparseHoles: for every list of runs and every two places: no run lies in the hole that was made there, making it again changes nothing, a hole everywhere leaves nothing, and neither more bytes nor a later end come of it; a call that is refused gives nothing. For every list of bulk at most 1048576; the tables that the row lists are laid, and no call reads one. -/
import Derived.Test.YtmbmjdogfjmlpaaDoorSpArg
import Derived.Test.YtmbmjdogfjmlpaaDoorSpLaws
import Derived.ChangeMaps5
namespace Go.Proofs.YtmbmjdogfjmlpaaDoor.SparseHoles
set_option maxRecDepth 20000
open Go.ChangeShapes Go.WideShapes Go.ChangeAt Go.RowKit Go.Deep
open Go.Proofs.YtmbmjdogfjmlpaaDoor.Mem Go.Proofs.YtmbmjdogfjmlpaaDoor.Rec Go.Proofs.YtmbmjdogfjmlpaaDoor.Sp Go.Proofs.YtmbmjdogfjmlpaaDoor.Lift Go.Proofs.YtmbmjdogfjmlpaaDoor.Reg
attribute [local go_sem ↓] ldX_eq stX_eq

theorem tot_take (l : List Rn) (k : Nat) (hk : k < l.length) : tot (l.take (k + 1)) = tot (l.take k) + (l[k]).t.length := by
  rw [List.take_succ_eq_append_getElem hk, tot_append]
  simp [tot]
theorem tot_take_le (l : List Rn) (k : Nat) : tot (l.take k) ≤ tot l := by
  conv => rhs; rw [← List.take_append_drop k l, tot_append]
  omega
theorem tot_le {l : List Rn} (h : right l = true) : tot l ≤ 65538 := by
  have := tot_right (f := 0) h (by omega)
  omega

set_option maxRecDepth 100000 in
set_option maxHeartbeats 16000000 in
theorem walk (A : Option Addr) (n c : Nat) (l : List Rn) (f t : Int) (w : World) (h : HoldsX w w.heap.size A n l) (hrep : ∀ x ∈ l, x.rep) (hn : n ≤ 5864062014634)  :
    Calls Tryd.prog 8 #[.slice A n c, .int .i64 f, .int .i64 t] w fun E w' => E = .returned (.bool true) ∧ Below w.heap.size w w' := by
  obtain ⟨post, hpost⟩ : ∃ post : Ending → World → Prop, post = fun E w' => E = .returned (.bool true) ∧ Below w.heap.size w w' := ⟨_, rfl⟩
  rw [← hpost]
  have HP := Lib.hid hpost; clear hpost
  have hln := h.1
  have hh : ∀ V, Below w.heap.size w V → HoldsX V w.heap.size A n l := fun V hV => h.below hV
  have HH := Lib.hid hh; clear hh
  have HREP := Lib.hid hrep; clear hrep
  have hze := fun (V : World) (hV : Below w.heap.size w V) => Zero_any A n c w.heap.size l f t V (HH.out V hV) hV.size (by omega) HREP.out
  have hall := fun (V : World) (hV : Below w.heap.size w V) => Zero_any A n c w.heap.size l 0 65536 V (HH.out V hV) hV.size (by omega) HREP.out
  have hend := fun (V : World) (hV : Below w.heap.size w V) => End_any A n c w.heap.size l V (HH.out V hV) hV.size (by omega) HREP.out
  have hMr := zeroA_right l f t
  have hok := @zeroA_ok l f t
  have hno := @zeroA_no l f t
  unfold Runs2 at hze hall
  obtain ⟨y, hy⟩ : ∃ y, y = zeroA l f t := ⟨_, rfl⟩
  simp only [← hy] at hze
  rw [← hy] at hMr hok hno
  obtain ⟨M, e⟩ := y
  dsimp only at hze hMr hok hno
  have hRl := right_len hMr
  have hag := fun (A : Option Addr) (c B : Nat) (V : World) (hV : HoldsX V B A M.length M) (hB : B ≤ V.heap.size) => Zero_any A M.length c B M f t V hV hB (by omega) (repL hMr)
  have haend := fun (A : Option Addr) (c B : Nat) (V : World) (hV : HoldsX V B A M.length M) (hB : B ≤ V.heap.size) => End_any A M.length c B M V hV hB (by omega) (repL hMr)
  unfold Runs2 at hag
  have HZE := Lib.hid hze; clear hze hy h
  go_enter Tryd.func8, Tryd.ntmps8
  go_wp2_with fail
  with_reducible refine (alive_any w).mono ?_
  rintro E1 w1 ⟨rfl, hb1⟩
  have HB1 := Lib.hid hb1; clear hb1
  go_wp2_with fail
  with_reducible refine (HZE.out w1 HB1.out).mono ?_
  rintro E2 w2 ⟨A2, c2, rfl, ho2, hb2⟩
  have HB2 : Hid (Below w.heap.size w w2) := Lib.hid (HB1.out.trans (hb2.mono HB1.out.size))
  clear hb2
  have HR := Lib.hid ho2; clear ho2
  dsimp only at HR ⊢
  rcases Decidable.em (e = 0) with h0 | h0
  rotate_left
  · have hl := hno h0
    subst hl
    have hz : (e == 0) = false := beq_false_of_ne h0
    have hz2 : (e != 0) = true := by unfold bne; rw [hz]; rfl
    clear hok hno hag haend
    dsimp only [List.length_nil] at *
    go_wp2
    rw [HP.out]
    exact ⟨rfl, HB2.out⟩
  subst h0
  obtain ⟨hr, hf0, hft, hM⟩ := hok rfl
  have hag2 : zeroA M f t = (M, 0) := by rw [zeroA_yes hMr hf0 hft, hM, zero_twice hr hf0 hft]
  have hall2 : zeroA l 0 65536 = ([], 0) := by rw [zeroA_yes hr (by omega) (by omega), zero_all hr]
  have hen1 : endA M ≤ endA l := by
    unfold endA
    rw [if_pos hMr, if_pos hr, hM]
    exact zero_end hr hf0 hft
  have htot : tot M ≤ tot l := by rw [hM]; exact tot_zero hf0 hft
  have hnot : f < t → ∀ x ∈ M, ¬ (x.a < t ∧ f < x.e) := fun hlt => by rw [hM]; exact zero_no hr hf0 hlt
  have htl := tot_le hr
  have htm := tot_le hMr
  have hokM := okE_right (Int.le_refl 0) hMr
  simp only [hag2] at hag
  simp only [hall2] at hall
  dsimp only [List.length_nil] at hag hall
  obtain ⟨m1, hm1⟩ : ∃ m1, m1 = M.length := ⟨_, rfl⟩
  rw [← hm1] at HR hRl ⊢
  simp only [← hm1] at hag haend
  obtain ⟨en1, hen1d⟩ : ∃ en1, en1 = endA M := ⟨_, rfl⟩
  obtain ⟨en2, hen2d⟩ : ∃ en2, en2 = endA l := ⟨_, rfl⟩
  rw [← hen1d, ← hen2d] at hen1
  simp only [← hen1d] at haend
  simp only [← hen2d] at hend
  have HM1 := Lib.hid hm1
  have HLN := Lib.hid hln
  have HAG := Lib.hid hag; clear hag
  have HALL := Lib.hid hall; clear hall
  have HEND := Lib.hid hend; clear hend
  have HAEND := Lib.hid haend; clear haend
  have HNOT := Lib.hid hnot; clear hnot
  have HOKM := Lib.hid hokM; clear hokM
  have HTL := Lib.hid htl
  have HTM := Lib.hid htm
  have HTT := Lib.hid htot
  clear hno hm1 hen1d hen2d hok hag2 hall2 hM hr hMr htot htl htm hln
  go_wp2_with fail
  with_reducible refine (HAG.out A2 c2 w2.heap.size w2 HR.out.reads (Nat.le_refl _)).mono ?_
  rintro E3 w3 ⟨A3, c3, rfl, ho3, hb3⟩
  have HB3 : Hid (Below w.heap.size w w3) := Lib.hid (HB2.out.trans (hb3.mono HB2.out.size))
  have HZ3 := Lib.hid hb3.size
  have hHR3 := HR.out.below hb3
  clear HR
  have HR := Lib.hid hHR3; clear hHR3
  clear hb3
  have HQ2 := Lib.hid ho3; clear ho3
  go_wp2_with fail
  with_reducible refine (HALL.out w3 HB3.out).mono ?_
  rintro E4 w4 ⟨A4, c4, rfl, ho4, hb4⟩
  have HB4 : Hid (Below w.heap.size w w4) := Lib.hid (HB3.out.trans (hb4.mono HB3.out.size))
  have HZ4 := Lib.hid hb4.size
  have hHR4 := HR.out.below hb4
  clear HR
  have HR := Lib.hid hHR4; clear hHR4
  have hHQ24 := HQ2.out.below hb4
  clear HQ2
  have HQ2 := Lib.hid hHQ24; clear hHQ24
  clear hb4
  have HX := Lib.hid ho4; clear ho4
  clear HX
  have HS4 : Hid (∀ V, Below w4.heap.size w4 V → OwnX V w1.heap.size (.slice A2 m1 c2) M ∧ OwnX V w2.heap.size (.slice A3 m1 c3) M) := Lib.hid fun V hV => ⟨HR.out.below hV, HQ2.out.below hV⟩
  go_wp2
  go_loopw [13, 15] (fun nv iv wr => ∃ k : Nat, k ≤ n ∧ nv = .int .i64 (tot (l.take k) : Int) ∧ iv = .int .i64 (k : Int) ∧ wr = w4) (fun _ iv _ => n - (intOf iv).toNat)
  case atStart => exact ⟨0, Nat.zero_le _, rfl, rfl, rfl⟩
  case round =>
    obtain ⟨k, hk, rfl, rfl, hwr⟩ := hrel
    subst hwr
    have htk := tot_take_le l k
    have htk6 : (tot (l.take k) : Int) ≤ 65538 := by have := HTL.out; omega
    rcases Nat.lt_or_ge k n with hlt | hge
    · have hkl : k < l.length := by have := HLN.out; omega
      have hhl := HH.out wr HB4.out
      obtain ⟨b, off, rfl, hbB⟩ := hhl.addr (by omega)
      obtain ⟨q0, q1⟩ := hhl.cell k hkl
      have htn := tot_take l k hkl
      have hts : (⟨(l[k]).t.toArray⟩ : ByteArray).size = (l[k]).t.length := text_size _
      have htn6 := tot_take_le l (k + 1)
      obtain ⟨S, hS⟩ : ∃ S : ByteArray, S = ⟨(l[k]).t.toArray⟩ := ⟨_, rfl⟩
      rw [← hS] at q1 hts
      rw [← hts] at htn
      have hsum : (tot (l.take k) : Int) + (S.size : Int) = (tot (l.take (k + 1)) : Int) := by omega
      have hk0 : (0 : Int) ≤ (k : Int) := by omega
      have hkn : (k : Int) < (n : Int) := by omega
      have hT6 : (tot (l.take (k + 1)) : Int) ≤ 65538 := by have := HTL.out; omega
      have hT0 : (0 : Int) ≤ (tot (l.take (k + 1)) : Int) := by omega
      clear htn hts hS q0 htn6 htk hhl
      obtain ⟨T1, hT1⟩ : ∃ T1, T1 = tot (l.take (k + 1)) := ⟨_, rfl⟩
      rw [← hT1] at hsum hT6 hT0
      have HT1 := Lib.hid hT1; clear hT1
      generalize tot (l.take k) = T0 at *
      go_wp2
      go_roundw
      case rel => exact ⟨k + 1, by omega, by rw [← HT1.out], by go_num, by trivial⟩
      case measure => simp [intOf]; omega
    · have hkn : ¬ (k : Int) < (n : Int) := by omega
      have hall : l.take k = l := List.take_of_length_le (by have := HLN.out; omega)
      rw [hall] at htk htk6 ⊢
      clear hall
      obtain ⟨N, hN⟩ : ∃ N, N = tot l := ⟨_, rfl⟩
      rw [← hN] at htk6 HTT ⊢
      have HN := Lib.hid hN; clear hN htk
      obtain ⟨W4, hW4⟩ : ∃ W4, W4 = wr := ⟨_, rfl⟩
      subst hW4
      go_wp2
      go_loopw [14, 16] (fun nv iv wi => ∃ j : Nat, j ≤ m1 ∧ nv = .int .i64 (tot (M.take j) : Int) ∧ iv = .int .i64 (j : Int) ∧ Below W4.heap.size W4 wi) (fun _ iv _ => m1 - (intOf iv).toNat)
      case atStart => exact ⟨0, Nat.zero_le _, rfl, rfl, Below.refl _ _⟩
      case round =>
        obtain ⟨j, hj, rfl, rfl, hbi⟩ := hrel
        obtain ⟨hoa, hob⟩ := HS4.out wr hbi
        have htk := tot_take_le M j
        have htk6 : (tot (M.take j) : Int) ≤ 65538 := by have := HTM.out; omega
        have HBI : Hid (Below w.heap.size w wr) := Lib.hid (HB4.out.trans (hbi.mono HB4.out.size))
        rcases Nat.lt_or_ge j m1 with hlt | hge2
        · have hjl : j < M.length := by rw [← HM1.out]; exact hlt
          obtain ⟨g, rfl, _, _, _⟩ := hoa.form (by omega)
          obtain ⟨q0, q1⟩ := hoa.reads.cell j hjl
          rw [Nat.zero_add] at q0 q1
          have htn := tot_take M j hjl
          have hxo := HOKM.out _ (List.getElem_mem hjl)
          have hxn : f < t → ¬ ((M[j]).a < t ∧ f < (M[j]).e) := fun h => HNOT.out h _ (List.getElem_mem hjl)
          have hxe : (M[j]).e = (M[j]).a + ((M[j]).t.length : Int) := rfl
          have hts : (⟨(M[j]).t.toArray⟩ : ByteArray).size = (M[j]).t.length := text_size _
          have htn6 := tot_take_le M (j + 1)
          obtain ⟨S, hS⟩ : ∃ S : ByteArray, S = ⟨(M[j]).t.toArray⟩ := ⟨_, rfl⟩
          obtain ⟨a, ha⟩ : ∃ a, a = (M[j]).a := ⟨_, rfl⟩
          rw [← hS] at q1 hts
          rw [← ha] at q0 hxe
          rw [← hts] at htn hxe
          have hx2 := hxo.2
          rw [hxe, ← ha] at hx2
          rw [hxe, ← ha] at hxn
          have hsum : (tot (M.take j) : Int) + (S.size : Int) = (tot (M.take (j + 1)) : Int) := by omega
          have hj0 : (0 : Int) ≤ (j : Int) := by omega
          have hjn : (j : Int) < (m1 : Int) := by omega
          have hT6 : (tot (M.take (j + 1)) : Int) ≤ 65538 := by have := HTM.out; omega
          have hT0 : (0 : Int) ≤ (tot (M.take (j + 1)) : Int) := by omega
          have hq : ∀ V : World, V = wr.drew → V.cell? ⟨g, j * 2, none⟩ = some (.int .i64 a) ∧ V.cell? ⟨g, j * 2 + 1, none⟩ = some (.string S) := fun V hV => by rw [hV]; exact ⟨q0, q1⟩
          have HQ := Lib.hid hq; clear hq
          have hs1 : -9223372036854775808 ≤ a + (S.size : Int) := by omega
          have hs2 : a + (S.size : Int) ≤ 9223372036854775807 := by omega
          have hwr2 : IntKind.i64.wrap (a + (S.size : Int)) = a + (S.size : Int) := by rw [IntKind.wrap_i64]; omega
          have HX2 := Lib.hid hx2; clear hx2
          have HXN := Lib.hid hxn; clear hxn
          have HBD := Lib.hid hbi.drew; clear hbi
          clear htn hts hS ha hxe hxo htn6 htk hoa hob
          obtain ⟨T1, hT1⟩ : ∃ T1, T1 = tot (M.take (j + 1)) := ⟨_, rfl⟩
          rw [← hT1] at hsum hT6 hT0
          have HT1 := Lib.hid hT1; clear hT1
          generalize tot (M.take j) = T0 at *
          rcases Int.lt_or_le f t with hft1 | hft1
          · have hD1 : decide (f < t) = true := decide_eq_true hft1
            rcases Int.lt_or_le a t with hat | hat
            · have hD2 : decide (a < t) = true := decide_eq_true hat
              have hn3 : ¬ f < a + (S.size : Int) := fun h => HXN.out hft1 ⟨hat, h⟩
              have hD3 : decide (f < a + (S.size : Int)) = false := decide_eq_false hn3
              go_wp2
              refine wp_region_E (fun V => V = wr.drew) 99 rfl ?_
              have hS : wr.drew = wr.drew := rfl
              refine wpE_takeF 0 ⟨some 71, _, _, _, _, _⟩ (v := ?_) (by decide) rfl (by kernel_rfl) (by kernel_rfl) (by kernel_rfl) (fun _ _ _ h => h) hS (Or.inl ⟨by kernel_rfl, ?_⟩) ?_
              rotate_left
              · (intro V hSw; obtain ⟨q0, q1⟩ := HQ.out V hSw; clear hSw; go_simp; try with_reducible rfl)
              try simp only [Act.put]
              refine wpE_takeF 1 ⟨some 72, _, _, _, _, _⟩ (v := ?_) (by decide) rfl (by kernel_rfl) (by kernel_rfl) (by kernel_rfl) (fun _ _ _ h => h) hS (Or.inl ⟨by kernel_rfl, ?_⟩) ?_
              rotate_left
              · (intro V hSw; obtain ⟨q0, q1⟩ := HQ.out V hSw; clear hSw; go_simp; try with_reducible rfl)
              try simp only [Act.put]
              refine wpE_takeF 2 ⟨some 73, _, _, _, _, _⟩ (v := ?_) (by decide) rfl (by kernel_rfl) (by kernel_rfl) (by kernel_rfl) (fun _ _ _ h => h) hS (Or.inl ⟨by kernel_rfl, ?_⟩) ?_
              rotate_left
              · (intro V hSw; obtain ⟨q0, q1⟩ := HQ.out V hSw; clear hSw; go_simp; try with_reducible rfl)
              try simp only [Act.put]
              refine wpE_takeF 3 ⟨some 74, _, _, _, _, _⟩ (v := ?_) (by decide) rfl (by kernel_rfl) (by kernel_rfl) (by kernel_rfl) (fun _ _ _ h => h) hS (Or.inl ⟨by kernel_rfl, ?_⟩) ?_
              rotate_left
              · (intro V hSw; obtain ⟨q0, q1⟩ := HQ.out V hSw; clear hSw; go_simp; try with_reducible rfl)
              try simp only [Act.put]
              refine wpE_takeF 4 ⟨some 75, _, _, _, _, _⟩ (v := ?_) (by decide) rfl (by kernel_rfl) (by kernel_rfl) (by kernel_rfl) (fun _ _ _ h => h) hS (Or.inl ⟨by kernel_rfl, ?_⟩) ?_
              rotate_left
              · (intro V hSw; obtain ⟨q0, q1⟩ := HQ.out V hSw; clear hSw; go_simp; try with_reducible rfl)
              try simp only [Act.put]
              refine wpE_takeF 5 ⟨some 76, _, _, _, _, _⟩ (v := ?_) (by decide) rfl (by kernel_rfl) (by kernel_rfl) (by kernel_rfl) (fun _ _ _ h => h) hS (Or.inl ⟨by kernel_rfl, ?_⟩) ?_
              rotate_left
              · (intro V hSw; obtain ⟨q0, q1⟩ := HQ.out V hSw; clear hSw; go_simp; try with_reducible rfl)
              try simp only [Act.put]
              refine wpE_takeF 6 ⟨some 77, _, _, _, _, _⟩ (v := ?_) (by decide) rfl (by kernel_rfl) (by kernel_rfl) (by kernel_rfl) (fun _ _ _ h => h) hS (Or.inl ⟨by kernel_rfl, ?_⟩) ?_
              rotate_left
              · (intro V hSw; obtain ⟨q0, q1⟩ := HQ.out V hSw; clear hSw; go_simp; try with_reducible rfl)
              try simp only [Act.put]
              refine wpE_takeF 7 ⟨some 78, _, _, _, _, _⟩ (v := ?_) (by decide) rfl (by kernel_rfl) (by kernel_rfl) (by kernel_rfl) (fun _ _ _ h => h) hS (Or.inl ⟨by kernel_rfl, ?_⟩) ?_
              rotate_left
              · (intro V hSw; obtain ⟨q0, q1⟩ := HQ.out V hSw; clear hSw; go_simp; try with_reducible rfl)
              try simp only [Act.put]
              refine wpE_takeF 8 ⟨some 79, _, _, _, _, _⟩ (v := ?_) (by decide) rfl (by kernel_rfl) (by kernel_rfl) (by kernel_rfl) (fun _ _ _ h => h) hS (Or.inl ⟨by kernel_rfl, ?_⟩) ?_
              rotate_left
              · (intro V hSw; obtain ⟨q0, q1⟩ := HQ.out V hSw; clear hSw; go_simp; try with_reducible rfl)
              try simp only [Act.put]
              refine wpE_takeF 9 ⟨some 80, _, _, _, _, _⟩ (v := ?_) (by decide) rfl (by kernel_rfl) (by kernel_rfl) (by kernel_rfl) (fun _ _ _ h => h) hS (Or.inl ⟨by kernel_rfl, ?_⟩) ?_
              rotate_left
              · (intro V hSw; obtain ⟨q0, q1⟩ := HQ.out V hSw; clear hSw; go_simp; try with_reducible rfl)
              try simp only [Act.put]
              refine wpE_takeF 10 ⟨some 81, _, _, _, _, _⟩ (v := ?_) (by decide) rfl (by kernel_rfl) (by kernel_rfl) (by kernel_rfl) (fun _ _ _ h => h) hS (Or.inl ⟨by kernel_rfl, ?_⟩) ?_
              rotate_left
              · (intro V hSw; obtain ⟨q0, q1⟩ := HQ.out V hSw; clear hSw; go_simp; try with_reducible rfl)
              try simp only [Act.put]
              refine wpE_takeF 11 ⟨some 82, _, _, _, _, _⟩ (v := ?_) (by decide) rfl (by kernel_rfl) (by kernel_rfl) (by kernel_rfl) (fun _ _ _ h => h) hS (Or.inl ⟨by kernel_rfl, ?_⟩) ?_
              rotate_left
              · (intro V hSw; obtain ⟨q0, q1⟩ := HQ.out V hSw; clear hSw; go_simp; try with_reducible rfl)
              try simp only [Act.put]
              refine wpE_takeF 12 ⟨some 83, _, _, _, _, _⟩ (v := ?_) (by decide) rfl (by kernel_rfl) (by kernel_rfl) (by kernel_rfl) (fun _ _ _ h => h) hS (Or.inl ⟨by kernel_rfl, ?_⟩) ?_
              rotate_left
              · (intro V hSw; obtain ⟨q0, q1⟩ := HQ.out V hSw; clear hSw; go_simp; try with_reducible rfl)
              try simp only [Act.put]
              refine wpE_takeF 13 ⟨some 84, _, _, _, _, _⟩ (v := ?_) (by decide) rfl (by kernel_rfl) (by kernel_rfl) (by kernel_rfl) (fun _ _ _ h => h) hS (Or.inl ⟨by kernel_rfl, ?_⟩) ?_
              rotate_left
              · (intro V hSw; obtain ⟨q0, q1⟩ := HQ.out V hSw; clear hSw; go_simp; try with_reducible rfl)
              try simp only [Act.put]
              refine wpE_takeF 14 ⟨some 85, _, _, _, _, _⟩ (v := ?_) (by decide) rfl (by kernel_rfl) (by kernel_rfl) (by kernel_rfl) (fun _ _ _ h => h) hS (Or.inl ⟨by kernel_rfl, ?_⟩) ?_
              rotate_left
              · (intro V hSw; obtain ⟨q0, q1⟩ := HQ.out V hSw; clear hSw; go_simp; try with_reducible rfl)
              try simp only [Act.put]
              refine wpE_takeF 15 ⟨some 86, _, _, _, _, _⟩ (v := ?_) (by decide) rfl (by kernel_rfl) (by kernel_rfl) (by kernel_rfl) (fun _ _ _ h => h) hS (Or.inl ⟨by kernel_rfl, ?_⟩) ?_
              rotate_left
              · (intro V hSw; obtain ⟨q0, q1⟩ := HQ.out V hSw; clear hSw; go_simp; try with_reducible rfl)
              try simp only [Act.put]
              refine wpE_takeF 16 ⟨some 87, _, _, _, _, _⟩ (v := ?_) (by decide) rfl (by kernel_rfl) (by kernel_rfl) (by kernel_rfl) (fun _ _ _ h => h) hS (Or.inl ⟨by kernel_rfl, ?_⟩) ?_
              rotate_left
              · (intro V hSw; obtain ⟨q0, q1⟩ := HQ.out V hSw; clear hSw; go_simp; try with_reducible rfl)
              try simp only [Act.put]
              refine wpE_takeF 17 ⟨some 88, _, _, _, _, _⟩ (v := ?_) (by decide) rfl (by kernel_rfl) (by kernel_rfl) (by kernel_rfl) (fun _ _ _ h => h) hS (Or.inl ⟨by kernel_rfl, ?_⟩) ?_
              rotate_left
              · (intro V hSw; obtain ⟨q0, q1⟩ := HQ.out V hSw; clear hSw; go_simp; try with_reducible rfl)
              try simp only [Act.put]
              refine wpE_takeF 18 ⟨some 89, _, _, _, _, _⟩ (v := ?_) (by decide) rfl (by kernel_rfl) (by kernel_rfl) (by kernel_rfl) (fun _ _ _ h => h) hS (Or.inl ⟨by kernel_rfl, ?_⟩) ?_
              rotate_left
              · (intro V hSw; obtain ⟨q0, q1⟩ := HQ.out V hSw; clear hSw; go_simp; try with_reducible rfl)
              try simp only [Act.put]
              refine wpE_takeF 19 ⟨some 90, _, _, _, _, _⟩ (v := ?_) (by decide) rfl (by kernel_rfl) (by kernel_rfl) (by kernel_rfl) (fun _ _ _ h => h) hS (Or.inl ⟨by kernel_rfl, ?_⟩) ?_
              rotate_left
              · (intro V hSw; obtain ⟨q0, q1⟩ := HQ.out V hSw; clear hSw; go_simp; try with_reducible rfl)
              try simp only [Act.put]
              refine wpE_takeF 20 ⟨some 91, _, _, _, _, _⟩ (v := ?_) (by decide) rfl (by kernel_rfl) (by kernel_rfl) (by kernel_rfl) (fun _ _ _ h => h) hS (Or.inl ⟨by kernel_rfl, ?_⟩) ?_
              rotate_left
              · (intro V hSw; obtain ⟨q0, q1⟩ := HQ.out V hSw; clear hSw; go_simp; try with_reducible rfl)
              try simp only [Act.put]
              refine wpE_takeF 21 ⟨some 92, _, _, _, _, _⟩ (v := ?_) (by decide) rfl (by kernel_rfl) (by kernel_rfl) (by kernel_rfl) (fun _ _ _ h => h) hS (Or.inl ⟨by kernel_rfl, ?_⟩) ?_
              rotate_left
              · (intro V hSw; obtain ⟨q0, q1⟩ := HQ.out V hSw; clear hSw; go_simp; try with_reducible rfl)
              try simp only [Act.put]
              refine wpE_takeF 22 ⟨some 93, _, _, _, _, _⟩ (v := ?_) (by decide) rfl (by kernel_rfl) (by kernel_rfl) (by kernel_rfl) (fun _ _ _ h => h) hS (Or.inl ⟨by kernel_rfl, ?_⟩) ?_
              rotate_left
              · (intro V hSw; obtain ⟨q0, q1⟩ := HQ.out V hSw; clear hSw; go_simp; try with_reducible rfl)
              try simp only [Act.put]
              refine wpE_takeF 23 ⟨some 94, _, _, _, _, _⟩ (v := ?_) (by decide) rfl (by kernel_rfl) (by kernel_rfl) (by kernel_rfl) (fun _ _ _ h => h) hS (Or.inl ⟨by kernel_rfl, ?_⟩) ?_
              rotate_left
              · (intro V hSw; obtain ⟨q0, q1⟩ := HQ.out V hSw; clear hSw; go_simp; try with_reducible rfl)
              try simp only [Act.put]
              refine wpE_takeF 24 ⟨some 95, _, _, _, _, _⟩ (v := ?_) (by decide) rfl (by kernel_rfl) (by kernel_rfl) (by kernel_rfl) (fun _ _ _ h => h) hS (Or.inl ⟨by kernel_rfl, ?_⟩) ?_
              rotate_left
              · (intro V hSw; obtain ⟨q0, q1⟩ := HQ.out V hSw; clear hSw; go_simp; try with_reducible rfl)
              try simp only [Act.put]
              refine wpE_takeF 25 ⟨some 96, _, _, _, _, _⟩ (v := ?_) (by decide) rfl (by kernel_rfl) (by kernel_rfl) (by kernel_rfl) (fun _ _ _ h => h) hS (Or.inl ⟨by kernel_rfl, ?_⟩) ?_
              rotate_left
              · (intro V hSw; obtain ⟨q0, q1⟩ := HQ.out V hSw; clear hSw; go_simp; try with_reducible rfl)
              try simp only [Act.put]
              refine wpE_takeF 26 ⟨some 97, _, _, _, _, _⟩ (v := ?_) (by decide) rfl (by kernel_rfl) (by kernel_rfl) (by kernel_rfl) (fun _ _ _ h => h) hS (Or.inl ⟨by kernel_rfl, ?_⟩) ?_
              rotate_left
              · (intro V hSw; obtain ⟨q0, q1⟩ := HQ.out V hSw; clear hSw; go_simp; try with_reducible rfl)
              try simp only [Act.put]
              refine wpE_takeF 27 ⟨some 98, _, _, _, _, _⟩ (v := ?_) (by decide) rfl (by kernel_rfl) (by kernel_rfl) (by kernel_rfl) (fun _ _ _ h => h) hS (Or.inl ⟨by kernel_rfl, ?_⟩) ?_
              rotate_left
              · (intro V hSw; obtain ⟨q0, q1⟩ := HQ.out V hSw; clear hSw; go_simp; try with_reducible rfl)
              try simp only [Act.put]
              refine wpE_done (by kernel_rfl) ?_ _
              try simp only [List.setIfInBounds_toArray, List.set_cons_succ, List.set_cons_zero]
              go_wp2
              go_roundw
              case rel => exact ⟨j + 1, by omega, by rw [← HT1.out], by go_num, HBD.out⟩
              case measure => simp [intOf]; omega
            · have hn2 : ¬ a < t := by omega
              have hD2 : decide (a < t) = false := decide_eq_false hn2
              go_wp2
              refine wp_region_E (fun V => V = wr.drew) 99 rfl ?_
              have hS : wr.drew = wr.drew := rfl
              refine wpE_takeF 0 ⟨some 71, _, _, _, _, _⟩ (v := ?_) (by decide) rfl (by kernel_rfl) (by kernel_rfl) (by kernel_rfl) (fun _ _ _ h => h) hS (Or.inl ⟨by kernel_rfl, ?_⟩) ?_
              rotate_left
              · (intro V hSw; obtain ⟨q0, q1⟩ := HQ.out V hSw; clear hSw; go_simp; try with_reducible rfl)
              try simp only [Act.put]
              refine wpE_takeF 1 ⟨some 72, _, _, _, _, _⟩ (v := ?_) (by decide) rfl (by kernel_rfl) (by kernel_rfl) (by kernel_rfl) (fun _ _ _ h => h) hS (Or.inl ⟨by kernel_rfl, ?_⟩) ?_
              rotate_left
              · (intro V hSw; obtain ⟨q0, q1⟩ := HQ.out V hSw; clear hSw; go_simp; try with_reducible rfl)
              try simp only [Act.put]
              refine wpE_takeF 2 ⟨some 73, _, _, _, _, _⟩ (v := ?_) (by decide) rfl (by kernel_rfl) (by kernel_rfl) (by kernel_rfl) (fun _ _ _ h => h) hS (Or.inl ⟨by kernel_rfl, ?_⟩) ?_
              rotate_left
              · (intro V hSw; obtain ⟨q0, q1⟩ := HQ.out V hSw; clear hSw; go_simp; try with_reducible rfl)
              try simp only [Act.put]
              refine wpE_takeF 3 ⟨some 74, _, _, _, _, _⟩ (v := ?_) (by decide) rfl (by kernel_rfl) (by kernel_rfl) (by kernel_rfl) (fun _ _ _ h => h) hS (Or.inl ⟨by kernel_rfl, ?_⟩) ?_
              rotate_left
              · (intro V hSw; obtain ⟨q0, q1⟩ := HQ.out V hSw; clear hSw; go_simp; try with_reducible rfl)
              try simp only [Act.put]
              refine wpE_takeF 4 ⟨some 75, _, _, _, _, _⟩ (v := ?_) (by decide) rfl (by kernel_rfl) (by kernel_rfl) (by kernel_rfl) (fun _ _ _ h => h) hS (Or.inl ⟨by kernel_rfl, ?_⟩) ?_
              rotate_left
              · (intro V hSw; obtain ⟨q0, q1⟩ := HQ.out V hSw; clear hSw; go_simp; try with_reducible rfl)
              try simp only [Act.put]
              refine wpE_takeF 5 ⟨some 76, _, _, _, _, _⟩ (v := ?_) (by decide) rfl (by kernel_rfl) (by kernel_rfl) (by kernel_rfl) (fun _ _ _ h => h) hS (Or.inl ⟨by kernel_rfl, ?_⟩) ?_
              rotate_left
              · (intro V hSw; obtain ⟨q0, q1⟩ := HQ.out V hSw; clear hSw; go_simp; try with_reducible rfl)
              try simp only [Act.put]
              refine wpE_takeF 6 ⟨some 77, _, _, _, _, _⟩ (v := ?_) (by decide) rfl (by kernel_rfl) (by kernel_rfl) (by kernel_rfl) (fun _ _ _ h => h) hS (Or.inl ⟨by kernel_rfl, ?_⟩) ?_
              rotate_left
              · (intro V hSw; obtain ⟨q0, q1⟩ := HQ.out V hSw; clear hSw; go_simp; try with_reducible rfl)
              try simp only [Act.put]
              refine wpE_takeF 7 ⟨some 78, _, _, _, _, _⟩ (v := ?_) (by decide) rfl (by kernel_rfl) (by kernel_rfl) (by kernel_rfl) (fun _ _ _ h => h) hS (Or.inl ⟨by kernel_rfl, ?_⟩) ?_
              rotate_left
              · (intro V hSw; obtain ⟨q0, q1⟩ := HQ.out V hSw; clear hSw; go_simp; try with_reducible rfl)
              try simp only [Act.put]
              refine wpE_takeF 8 ⟨some 79, _, _, _, _, _⟩ (v := ?_) (by decide) rfl (by kernel_rfl) (by kernel_rfl) (by kernel_rfl) (fun _ _ _ h => h) hS (Or.inl ⟨by kernel_rfl, ?_⟩) ?_
              rotate_left
              · (intro V hSw; obtain ⟨q0, q1⟩ := HQ.out V hSw; clear hSw; go_simp; try with_reducible rfl)
              try simp only [Act.put]
              refine wpE_takeF 9 ⟨some 80, _, _, _, _, _⟩ (v := ?_) (by decide) rfl (by kernel_rfl) (by kernel_rfl) (by kernel_rfl) (fun _ _ _ h => h) hS (Or.inl ⟨by kernel_rfl, ?_⟩) ?_
              rotate_left
              · (intro V hSw; obtain ⟨q0, q1⟩ := HQ.out V hSw; clear hSw; go_simp; try with_reducible rfl)
              try simp only [Act.put]
              refine wpE_takeF 10 ⟨some 81, _, _, _, _, _⟩ (v := ?_) (by decide) rfl (by kernel_rfl) (by kernel_rfl) (by kernel_rfl) (fun _ _ _ h => h) hS (Or.inl ⟨by kernel_rfl, ?_⟩) ?_
              rotate_left
              · (intro V hSw; obtain ⟨q0, q1⟩ := HQ.out V hSw; clear hSw; go_simp; try with_reducible rfl)
              try simp only [Act.put]
              refine wpE_takeF 11 ⟨some 82, _, _, _, _, _⟩ (v := ?_) (by decide) rfl (by kernel_rfl) (by kernel_rfl) (by kernel_rfl) (fun _ _ _ h => h) hS (Or.inl ⟨by kernel_rfl, ?_⟩) ?_
              rotate_left
              · (intro V hSw; obtain ⟨q0, q1⟩ := HQ.out V hSw; clear hSw; go_simp; try with_reducible rfl)
              try simp only [Act.put]
              refine wpE_takeF 12 ⟨some 83, _, _, _, _, _⟩ (v := ?_) (by decide) rfl (by kernel_rfl) (by kernel_rfl) (by kernel_rfl) (fun _ _ _ h => h) hS (Or.inl ⟨by kernel_rfl, ?_⟩) ?_
              rotate_left
              · (intro V hSw; obtain ⟨q0, q1⟩ := HQ.out V hSw; clear hSw; go_simp; try with_reducible rfl)
              try simp only [Act.put]
              refine wpE_takeF 13 ⟨some 84, _, _, _, _, _⟩ (v := undef) (by decide) rfl (by kernel_rfl) (by kernel_rfl) (by kernel_rfl) (fun _ _ _ h => h) hS (Or.inr ⟨by kernel_rfl, rfl⟩) ?_
              try simp only [Act.put]
              refine wpE_takeF 14 ⟨some 85, _, _, _, _, _⟩ (v := undef) (by decide) rfl (by kernel_rfl) (by kernel_rfl) (by kernel_rfl) (fun _ _ _ h => h) hS (Or.inr ⟨by kernel_rfl, rfl⟩) ?_
              try simp only [Act.put]
              refine wpE_takeF 15 ⟨some 86, _, _, _, _, _⟩ (v := undef) (by decide) rfl (by kernel_rfl) (by kernel_rfl) (by kernel_rfl) (fun _ _ _ h => h) hS (Or.inr ⟨by kernel_rfl, rfl⟩) ?_
              try simp only [Act.put]
              refine wpE_takeF 16 ⟨some 87, _, _, _, _, _⟩ (v := undef) (by decide) rfl (by kernel_rfl) (by kernel_rfl) (by kernel_rfl) (fun _ _ _ h => h) hS (Or.inr ⟨by kernel_rfl, rfl⟩) ?_
              try simp only [Act.put]
              refine wpE_takeF 17 ⟨some 88, _, _, _, _, _⟩ (v := undef) (by decide) rfl (by kernel_rfl) (by kernel_rfl) (by kernel_rfl) (fun _ _ _ h => h) hS (Or.inr ⟨by kernel_rfl, rfl⟩) ?_
              try simp only [Act.put]
              refine wpE_takeF 18 ⟨some 89, _, _, _, _, _⟩ (v := undef) (by decide) rfl (by kernel_rfl) (by kernel_rfl) (by kernel_rfl) (fun _ _ _ h => h) hS (Or.inr ⟨by kernel_rfl, rfl⟩) ?_
              try simp only [Act.put]
              refine wpE_takeF 19 ⟨some 90, _, _, _, _, _⟩ (v := undef) (by decide) rfl (by kernel_rfl) (by kernel_rfl) (by kernel_rfl) (fun _ _ _ h => h) hS (Or.inr ⟨by kernel_rfl, rfl⟩) ?_
              try simp only [Act.put]
              refine wpE_takeF 20 ⟨some 91, _, _, _, _, _⟩ (v := undef) (by decide) rfl (by kernel_rfl) (by kernel_rfl) (by kernel_rfl) (fun _ _ _ h => h) hS (Or.inr ⟨by kernel_rfl, rfl⟩) ?_
              try simp only [Act.put]
              refine wpE_takeF 21 ⟨some 92, _, _, _, _, _⟩ (v := undef) (by decide) rfl (by kernel_rfl) (by kernel_rfl) (by kernel_rfl) (fun _ _ _ h => h) hS (Or.inr ⟨by kernel_rfl, rfl⟩) ?_
              try simp only [Act.put]
              refine wpE_takeF 22 ⟨some 93, _, _, _, _, _⟩ (v := undef) (by decide) rfl (by kernel_rfl) (by kernel_rfl) (by kernel_rfl) (fun _ _ _ h => h) hS (Or.inr ⟨by kernel_rfl, rfl⟩) ?_
              try simp only [Act.put]
              refine wpE_takeF 23 ⟨some 94, _, _, _, _, _⟩ (v := undef) (by decide) rfl (by kernel_rfl) (by kernel_rfl) (by kernel_rfl) (fun _ _ _ h => h) hS (Or.inr ⟨by kernel_rfl, rfl⟩) ?_
              try simp only [Act.put]
              refine wpE_takeF 24 ⟨some 95, _, _, _, _, _⟩ (v := undef) (by decide) rfl (by kernel_rfl) (by kernel_rfl) (by kernel_rfl) (fun _ _ _ h => h) hS (Or.inr ⟨by kernel_rfl, rfl⟩) ?_
              try simp only [Act.put]
              refine wpE_takeF 25 ⟨some 96, _, _, _, _, _⟩ (v := undef) (by decide) rfl (by kernel_rfl) (by kernel_rfl) (by kernel_rfl) (fun _ _ _ h => h) hS (Or.inr ⟨by kernel_rfl, rfl⟩) ?_
              try simp only [Act.put]
              refine wpE_takeF 26 ⟨some 97, _, _, _, _, _⟩ (v := undef) (by decide) rfl (by kernel_rfl) (by kernel_rfl) (by kernel_rfl) (fun _ _ _ h => h) hS (Or.inr ⟨by kernel_rfl, rfl⟩) ?_
              try simp only [Act.put]
              refine wpE_takeF 27 ⟨some 98, _, _, _, _, _⟩ (v := ?_) (by decide) rfl (by kernel_rfl) (by kernel_rfl) (by kernel_rfl) (fun _ _ _ h => h) hS (Or.inl ⟨by kernel_rfl, ?_⟩) ?_
              rotate_left
              · (intro V hSw; obtain ⟨q0, q1⟩ := HQ.out V hSw; clear hSw; go_simp; try with_reducible rfl)
              try simp only [Act.put]
              refine wpE_done (by kernel_rfl) ?_ _
              try simp only [List.setIfInBounds_toArray, List.set_cons_succ, List.set_cons_zero]
              go_wp2
              go_roundw
              case rel => exact ⟨j + 1, by omega, by rw [← HT1.out], by go_num, HBD.out⟩
              case measure => simp [intOf]; omega
          · have hn1 : ¬ f < t := by omega
            have hD1 : decide (f < t) = false := decide_eq_false hn1
            go_wp2
            refine wp_region_E (fun V => V = wr.drew) 99 rfl ?_
            have hS : wr.drew = wr.drew := rfl
            refine wpE_takeF 0 ⟨some 71, _, _, _, _, _⟩ (v := ?_) (by decide) rfl (by kernel_rfl) (by kernel_rfl) (by kernel_rfl) (fun _ _ _ h => h) hS (Or.inl ⟨by kernel_rfl, ?_⟩) ?_
            rotate_left
            · (intro V hSw; obtain ⟨q0, q1⟩ := HQ.out V hSw; clear hSw; go_simp; try with_reducible rfl)
            try simp only [Act.put]
            refine wpE_takeF 1 ⟨some 72, _, _, _, _, _⟩ (v := ?_) (by decide) rfl (by kernel_rfl) (by kernel_rfl) (by kernel_rfl) (fun _ _ _ h => h) hS (Or.inl ⟨by kernel_rfl, ?_⟩) ?_
            rotate_left
            · (intro V hSw; obtain ⟨q0, q1⟩ := HQ.out V hSw; clear hSw; go_simp; try with_reducible rfl)
            try simp only [Act.put]
            refine wpE_takeF 2 ⟨some 73, _, _, _, _, _⟩ (v := ?_) (by decide) rfl (by kernel_rfl) (by kernel_rfl) (by kernel_rfl) (fun _ _ _ h => h) hS (Or.inl ⟨by kernel_rfl, ?_⟩) ?_
            rotate_left
            · (intro V hSw; obtain ⟨q0, q1⟩ := HQ.out V hSw; clear hSw; go_simp; try with_reducible rfl)
            try simp only [Act.put]
            refine wpE_takeF 3 ⟨some 74, _, _, _, _, _⟩ (v := ?_) (by decide) rfl (by kernel_rfl) (by kernel_rfl) (by kernel_rfl) (fun _ _ _ h => h) hS (Or.inl ⟨by kernel_rfl, ?_⟩) ?_
            rotate_left
            · (intro V hSw; obtain ⟨q0, q1⟩ := HQ.out V hSw; clear hSw; go_simp; try with_reducible rfl)
            try simp only [Act.put]
            refine wpE_takeF 4 ⟨some 75, _, _, _, _, _⟩ (v := undef) (by decide) rfl (by kernel_rfl) (by kernel_rfl) (by kernel_rfl) (fun _ _ _ h => h) hS (Or.inr ⟨by kernel_rfl, rfl⟩) ?_
            try simp only [Act.put]
            refine wpE_takeF 5 ⟨some 76, _, _, _, _, _⟩ (v := undef) (by decide) rfl (by kernel_rfl) (by kernel_rfl) (by kernel_rfl) (fun _ _ _ h => h) hS (Or.inr ⟨by kernel_rfl, rfl⟩) ?_
            try simp only [Act.put]
            refine wpE_takeF 6 ⟨some 77, _, _, _, _, _⟩ (v := undef) (by decide) rfl (by kernel_rfl) (by kernel_rfl) (by kernel_rfl) (fun _ _ _ h => h) hS (Or.inr ⟨by kernel_rfl, rfl⟩) ?_
            try simp only [Act.put]
            refine wpE_takeF 7 ⟨some 78, _, _, _, _, _⟩ (v := undef) (by decide) rfl (by kernel_rfl) (by kernel_rfl) (by kernel_rfl) (fun _ _ _ h => h) hS (Or.inr ⟨by kernel_rfl, rfl⟩) ?_
            try simp only [Act.put]
            refine wpE_takeF 8 ⟨some 79, _, _, _, _, _⟩ (v := undef) (by decide) rfl (by kernel_rfl) (by kernel_rfl) (by kernel_rfl) (fun _ _ _ h => h) hS (Or.inr ⟨by kernel_rfl, rfl⟩) ?_
            try simp only [Act.put]
            refine wpE_takeF 9 ⟨some 80, _, _, _, _, _⟩ (v := undef) (by decide) rfl (by kernel_rfl) (by kernel_rfl) (by kernel_rfl) (fun _ _ _ h => h) hS (Or.inr ⟨by kernel_rfl, rfl⟩) ?_
            try simp only [Act.put]
            refine wpE_takeF 10 ⟨some 81, _, _, _, _, _⟩ (v := undef) (by decide) rfl (by kernel_rfl) (by kernel_rfl) (by kernel_rfl) (fun _ _ _ h => h) hS (Or.inr ⟨by kernel_rfl, rfl⟩) ?_
            try simp only [Act.put]
            refine wpE_takeF 11 ⟨some 82, _, _, _, _, _⟩ (v := ?_) (by decide) rfl (by kernel_rfl) (by kernel_rfl) (by kernel_rfl) (fun _ _ _ h => h) hS (Or.inl ⟨by kernel_rfl, ?_⟩) ?_
            rotate_left
            · (intro V hSw; obtain ⟨q0, q1⟩ := HQ.out V hSw; clear hSw; go_simp; try with_reducible rfl)
            try simp only [Act.put]
            refine wpE_takeF 12 ⟨some 83, _, _, _, _, _⟩ (v := ?_) (by decide) rfl (by kernel_rfl) (by kernel_rfl) (by kernel_rfl) (fun _ _ _ h => h) hS (Or.inl ⟨by kernel_rfl, ?_⟩) ?_
            rotate_left
            · (intro V hSw; obtain ⟨q0, q1⟩ := HQ.out V hSw; clear hSw; go_simp; try with_reducible rfl)
            try simp only [Act.put]
            refine wpE_takeF 13 ⟨some 84, _, _, _, _, _⟩ (v := undef) (by decide) rfl (by kernel_rfl) (by kernel_rfl) (by kernel_rfl) (fun _ _ _ h => h) hS (Or.inr ⟨by kernel_rfl, rfl⟩) ?_
            try simp only [Act.put]
            refine wpE_takeF 14 ⟨some 85, _, _, _, _, _⟩ (v := undef) (by decide) rfl (by kernel_rfl) (by kernel_rfl) (by kernel_rfl) (fun _ _ _ h => h) hS (Or.inr ⟨by kernel_rfl, rfl⟩) ?_
            try simp only [Act.put]
            refine wpE_takeF 15 ⟨some 86, _, _, _, _, _⟩ (v := undef) (by decide) rfl (by kernel_rfl) (by kernel_rfl) (by kernel_rfl) (fun _ _ _ h => h) hS (Or.inr ⟨by kernel_rfl, rfl⟩) ?_
            try simp only [Act.put]
            refine wpE_takeF 16 ⟨some 87, _, _, _, _, _⟩ (v := undef) (by decide) rfl (by kernel_rfl) (by kernel_rfl) (by kernel_rfl) (fun _ _ _ h => h) hS (Or.inr ⟨by kernel_rfl, rfl⟩) ?_
            try simp only [Act.put]
            refine wpE_takeF 17 ⟨some 88, _, _, _, _, _⟩ (v := undef) (by decide) rfl (by kernel_rfl) (by kernel_rfl) (by kernel_rfl) (fun _ _ _ h => h) hS (Or.inr ⟨by kernel_rfl, rfl⟩) ?_
            try simp only [Act.put]
            refine wpE_takeF 18 ⟨some 89, _, _, _, _, _⟩ (v := undef) (by decide) rfl (by kernel_rfl) (by kernel_rfl) (by kernel_rfl) (fun _ _ _ h => h) hS (Or.inr ⟨by kernel_rfl, rfl⟩) ?_
            try simp only [Act.put]
            refine wpE_takeF 19 ⟨some 90, _, _, _, _, _⟩ (v := undef) (by decide) rfl (by kernel_rfl) (by kernel_rfl) (by kernel_rfl) (fun _ _ _ h => h) hS (Or.inr ⟨by kernel_rfl, rfl⟩) ?_
            try simp only [Act.put]
            refine wpE_takeF 20 ⟨some 91, _, _, _, _, _⟩ (v := undef) (by decide) rfl (by kernel_rfl) (by kernel_rfl) (by kernel_rfl) (fun _ _ _ h => h) hS (Or.inr ⟨by kernel_rfl, rfl⟩) ?_
            try simp only [Act.put]
            refine wpE_takeF 21 ⟨some 92, _, _, _, _, _⟩ (v := undef) (by decide) rfl (by kernel_rfl) (by kernel_rfl) (by kernel_rfl) (fun _ _ _ h => h) hS (Or.inr ⟨by kernel_rfl, rfl⟩) ?_
            try simp only [Act.put]
            refine wpE_takeF 22 ⟨some 93, _, _, _, _, _⟩ (v := undef) (by decide) rfl (by kernel_rfl) (by kernel_rfl) (by kernel_rfl) (fun _ _ _ h => h) hS (Or.inr ⟨by kernel_rfl, rfl⟩) ?_
            try simp only [Act.put]
            refine wpE_takeF 23 ⟨some 94, _, _, _, _, _⟩ (v := undef) (by decide) rfl (by kernel_rfl) (by kernel_rfl) (by kernel_rfl) (fun _ _ _ h => h) hS (Or.inr ⟨by kernel_rfl, rfl⟩) ?_
            try simp only [Act.put]
            refine wpE_takeF 24 ⟨some 95, _, _, _, _, _⟩ (v := undef) (by decide) rfl (by kernel_rfl) (by kernel_rfl) (by kernel_rfl) (fun _ _ _ h => h) hS (Or.inr ⟨by kernel_rfl, rfl⟩) ?_
            try simp only [Act.put]
            refine wpE_takeF 25 ⟨some 96, _, _, _, _, _⟩ (v := undef) (by decide) rfl (by kernel_rfl) (by kernel_rfl) (by kernel_rfl) (fun _ _ _ h => h) hS (Or.inr ⟨by kernel_rfl, rfl⟩) ?_
            try simp only [Act.put]
            refine wpE_takeF 26 ⟨some 97, _, _, _, _, _⟩ (v := undef) (by decide) rfl (by kernel_rfl) (by kernel_rfl) (by kernel_rfl) (fun _ _ _ h => h) hS (Or.inr ⟨by kernel_rfl, rfl⟩) ?_
            try simp only [Act.put]
            refine wpE_takeF 27 ⟨some 98, _, _, _, _, _⟩ (v := ?_) (by decide) rfl (by kernel_rfl) (by kernel_rfl) (by kernel_rfl) (fun _ _ _ h => h) hS (Or.inl ⟨by kernel_rfl, ?_⟩) ?_
            rotate_left
            · (intro V hSw; obtain ⟨q0, q1⟩ := HQ.out V hSw; clear hSw; go_simp; try with_reducible rfl)
            try simp only [Act.put]
            refine wpE_done (by kernel_rfl) ?_ _
            try simp only [List.setIfInBounds_toArray, List.set_cons_succ, List.set_cons_zero]
            go_wp2
            go_roundw
            case rel => exact ⟨j + 1, by omega, by rw [← HT1.out], by go_num, HBD.out⟩
            case measure => simp [intOf]; omega
        · have hjn : ¬ (j : Int) < (m1 : Int) := by omega
          have hall : M.take j = M := List.take_of_length_le (by rw [← HM1.out]; omega)
          rw [hall] at htk htk6 ⊢
          clear hall
          have hmn : (tot M : Int) ≤ (N : Int) := by have := HTT.out; omega
          have hs := same_any A2 A3 m1 m1 c2 c3 wr.heap.size wr.heap.size M M wr hoa.reads hob.reads (Nat.le_refl _) (Nat.le_refl _) (by omega)
          rw [decide_eq_true rfl] at hs
          have HSL := Lib.hid hs; clear hs
          have HOA := Lib.hid hoa; clear hoa
          clear hob htk
          generalize tot M = T at *
          clear hbi
          go_wp2_with fail
          with_reducible refine HSL.out.mono ?_
          rintro E5 w5 ⟨rfl, hb5⟩
          have HB5 : Hid (Below w.heap.size w w5) := Lib.hid (HBI.out.trans (hb5.mono HBI.out.size))
          have HOA5 := Lib.hid (HOA.out.below hb5); clear hb5
          go_wp2_with fail
          with_reducible refine (HAEND.out A2 c2 w5.heap.size w5 HOA5.out.reads (Nat.le_refl _)).mono ?_
          rintro E6 w6 ⟨rfl, hb6⟩
          have HB6 : Hid (Below w.heap.size w w6) := Lib.hid (HB5.out.trans (hb6.mono HB5.out.size))
          clear hb6
          go_wp2_with fail
          with_reducible refine (HEND.out w6 HB6.out).mono ?_
          rintro E7 w7 ⟨rfl, hb7⟩
          have HB7 : Hid (Below w.heap.size w w7) := Lib.hid (HB6.out.trans (hb7.mono HB6.out.size))
          clear hb7
          go_wp2
          rw [HP.out]
          exact ⟨rfl, HB7.out⟩

theorem walks : Walks 8 Tryd.f8 Rows.uptoSmall := by
  intro H enc W base args ds p hval hA hsz _
  rw [Tryd.params8] at hA hval hsz
  obtain ⟨v0, vs0, d0, ds0, p0, q0, hargs, rfl, rfl, h0, r0⟩ := trodAll_cons hA
  obtain ⟨v1, vs1, d1, ds1, p1, q1, rfl, rfl, rfl, h1, r1⟩ := trodAll_cons r0
  obtain ⟨v2, vs2, d2, ds2, p2, q2, rfl, rfl, rfl, h2, r2⟩ := trodAll_cons r1
  obtain ⟨rfl, rfl, rfl⟩ := trodAll_nil r2
  obtain rfl : args = #[v0, v1, v2] := by cases args; simp_all
  obtain ⟨A0, n0, c0, l0, rfl, hl0, hr0, hn0, hc0⟩ := exts_open (hval 0 _ v0 rfl rfl) h0 _ (reach_exts hsz (j := 0) rfl rfl)
  obtain ⟨x1, rfl, rfl, rfl, hx1⟩ := open_int Tryd.underlying3 (hval 1 _ v1 rfl rfl) h1
  have bx1 := bounds_i64 hx1
  obtain ⟨x2, rfl, rfl, rfl, hx2⟩ := open_int Tryd.underlying3 (hval 2 _ v2 rfl rfl) h2
  have bx2 := bounds_i64 hx2
  exact walk A0 n0 c0 l0 x1 x2 W hl0 hr0 (by omega)

theorem laid_ok (os : Os) : laidMetH Tryd.prog Rows.sparseHolesUptoRow.laid ((World.laidAll Tryd.prog os Rows.sparseHolesUptoRow.laid).forCall (fun _ _ => 0) ⟨#[], #[.slice none 0 0, .int .i64 0, .int .i64 0], []⟩).memory := by
  rw [MakeChecks.laidMetH_plain _ _ _ (by kernel_rfl)]
  exact laidMet_laidAll _ (by kernel_rfl) (by kernel_rfl)
theorem shaped_ok (os : Os) : ((World.laidAll Tryd.prog os Rows.sparseHolesUptoRow.laid).forCall (fun _ _ => 0) ⟨#[], #[.slice none 0 0, .int .i64 0, .int .i64 0], []⟩).Shaped Tryd.prog := World.shaped_of_ZipB (by kernel_rfl) (by kernel_rfl)
theorem reads (os : Os) {H : Type} (enc : TypeId × Value → H) : ∃ x, DataW.whole enc Tryd.prog ((World.laidAll Tryd.prog os Rows.sparseHolesUptoRow.laid).forCall (fun _ _ => 0) ⟨#[], #[.slice none 0 0, .int .i64 0, .int .i64 0], []⟩).memory Tryd.f8.params.toList Rows.sparseHolesSpec.vars false #[.slice none 0 0, .int .i64 0, .int .i64 0].toList 8 = some x ∧ Rows.uptoSmall H (x.1 ++ x.2.1) = true :=
  ⟨([.nil, .lit (.int .i64 0), .lit (.int .i64 0)], [], []), by kernel_rfl, by kernel_rfl⟩

set_option maxRecDepth 100000 in
theorem said : Rows.SparseHolesUptoSaid :=
  OpenClaim.holds_of_cond 8 Tryd.f8 rfl rfl rfl rfl rfl rfl rfl ⟨rfl, rfl, rfl, rfl, rfl⟩ rfl rfl rfl rfl rfl (by kernel_rfl) Tryd.func8 (by kernel_rfl)
    (of_decide_eq_true (by kernel_rfl)) (by unfold Func.isWrapper; first | (rw [if_pos (by decide +kernel)]; kernel_rfl) | (rw [if_neg (by decide +kernel)]; exact ⟨rfl, rfl⟩))
    (fun os started H enc _ F => by
      rw [OpenClaim.pre_eq_preRow]
      obtain ⟨x, hx, hxu⟩ := reads os enc
      exact lifted_row_upto (s := Rows.sparseHolesSpec) walks (by kernel_rfl) rfl rfl (fun H ds hl => by match ds, hl with | [d1, d2, d3], _ => rfl) (by kernel_rfl) Tryd.func8 os started H enc F
        (witness_laid (enc := enc) (C := Tryd.checked) #[.slice none 0 0, .int .i64 0, .int .i64 0] (shaped_ok os) (by kernel_rfl) (OpenSpec.preRow_of_cond 8 hx rfl (fun k hk => by cases hk; exact hxu) (by kernel_rfl) (laid_ok os))))
theorem plain (f : FuncId) (fn : Func) (hf : Tryd.pinned.checked.prog.funcNamed "undercroft/undercroftlaw15.SparseHoles" = some f) (hfn : Tryd.pinned.checked.prog.funcs[f]? = some fn) :
    false = Tryd.pinned.checked.prog.looks [] ∧ ∀ (j : Nat) t, fn.params[j]? = some t → Tryd.pinned.checked.prog.wantsStandIn t = false := by
  obtain rfl : f = 8 := Option.some.inj ((show Tryd.prog.funcNamed "undercroft/undercroftlaw15.SparseHoles" = some 8 by kernel_rfl).symm.trans hf) |>.symm
  obtain rfl : fn = Tryd.f8 := (Option.some.inj (Tryd.func8.symm.trans hfn)).symm
  refine ⟨by kernel_rfl, fun j t ht => ?_⟩
  rw [Tryd.params8] at ht
  have hall : (#[22, 3, 3].all fun u => !Tryd.prog.wantsStandIn u) = true := by kernel_rfl
  have hm := Array.all_eq_true'.1 hall t (Array.mem_of_getElem? ht)
  exact (show Tryd.prog.wantsStandIn t = false by simpa using hm)
theorem proved : Rows.SparseHolesUptoCardSaid :=
  Claim7.holds_tied_plain_at .later [] _ _ _ _ said (fun _ h => by cases h) (by kernel_rfl) (fun _ h => by cases h) sparseHolesUpto_row_tie rfl ⟨rfl, rfl⟩ (by kernel_rfl) rfl plain (by kernel_rfl)
#print axioms proved
end Go.Proofs.YtmbmjdogfjmlpaaDoor.SparseHoles
