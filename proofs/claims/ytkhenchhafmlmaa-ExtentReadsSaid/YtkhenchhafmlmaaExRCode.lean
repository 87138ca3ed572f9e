/- An extent's bytes, a list's, and zeros behind them: the document's calls. -/
import Derived.Test.YtkhenchhafmlmaaExCoded
import Derived.Test.YtkhenchhafmlmaaRegF
import Derived.Test.YtkhenchhafmlmaaRegC
namespace Go.Proofs.Ytkhenchhafmlmaa.Ex
set_option maxRecDepth 20000
open Go.RowKit
open Go.Proofs.Ytkhenchhafmlmaa.Mem Go.Proofs.Ytkhenchhafmlmaa.Crc Go.Proofs.Ytkhenchhafmlmaa.Rec Go.Proofs.Ytkhenchhafmlmaa.Reg
attribute [local go_sem ↓] ldX_eq stX_eq

def lenS : Value → Nat
  | .slice _ n _ => n
  | _ => 0
theorem rbN (v m : Nat) (w : World) (hm : m ≤ 8) : Calls Try.prog 52 #[.int .u64 (v : Int), .int .i64 (m : Int)] w fun e w' => ∃ A c, e = .returned (.slice A m c) ∧ Owned w' w.heap.size (.slice A m c) (bytesL v m) ∧ Below w.heap.size w w' := by
  refine (refbytes_any v (m : Int) w m (by omega) (by omega) (by omega)).mono ?_
  rintro e w1 ⟨sv, rfl, ho1, hb1⟩
  obtain ⟨A1, c1, rfl, -⟩ := Owned.holds ho1
  rw [bytesL_len] at ho1 ⊢
  exact ⟨A1, c1, rfl, ho1, hb1⟩
theorem rb4 (v : Nat) (w : World) : Calls Try.prog 52 #[.int .u64 (v : Int), .int .i64 4] w fun e w' => ∃ A c, e = .returned (.slice A 4 c) ∧ Owned w' w.heap.size (.slice A 4 c) (bytesL v 4) ∧ Below w.heap.size w w' := rbN v 4 w (by omega)
theorem rb2 (v : Nat) (w : World) : Calls Try.prog 52 #[.int .u64 (v : Int), .int .i64 2] w fun e w' => ∃ A c, e = .returned (.slice A 2 c) ∧ Owned w' w.heap.size (.slice A 2 c) (bytesL v 2) ∧ Below w.heap.size w w' := rbN v 2 w (by omega)

set_option maxRecDepth 100000 in
set_option maxHeartbeats 8000000 in
theorem rcode_any (e : X) (he : e.may = true) (w : World) :
    Calls Try.prog 71 #[.agg e.c] w fun E w' => ∃ A c, E = .returned (.slice A 12 c) ∧ Owned w' w.heap.size (.slice A 12 c) (encX e) ∧ Below w.heap.size w w' := by
  have hem := may_iff.1 he
  obtain ⟨na, hna⟩ : ∃ k : Nat, e.a = (k : Int) := ⟨e.a.toNat, by omega⟩
  obtain ⟨ns, hns⟩ : ∃ k : Nat, e.s = (k : Int) := ⟨e.s.toNat, by omega⟩
  obtain ⟨nn, hnn⟩ : ∃ k : Nat, e.n = (k : Int) := ⟨e.n.toNat, by omega⟩
  obtain ⟨eu, heu⟩ : ∃ eu, e.u = eu := ⟨_, rfl⟩
  obtain ⟨W, hW⟩ : ∃ W, W = w.alloc (.cells e.c 24) := ⟨_, rfl⟩
  have hbw : Below w.heap.size w W := by rw [hW]; exact (Below.refl _ _).alloc (Nat.le_refl _) _
  have hve : VarX W w.heap.size e := hW ▸ VarX.new w e
  have hvl := hve.lt
  have hcell : ∀ V, Below W.heap.size W V → V.cell? ⟨w.heap.size, 0, none⟩ = some (.int .i64 (na : Int)) ∧ V.cell? ⟨w.heap.size, 1, none⟩ = some (.int .i64 (ns : Int)) ∧ V.cell? ⟨w.heap.size, 2, none⟩ = some (.int .i64 (nn : Int)) ∧ V.cell? ⟨w.heap.size, 3, none⟩ = some (.bool eu) := fun V hV => by
    have := (hve.keep hV hvl).cells
    rw [hna, hns, hnn, heu] at this
    exact this
  have u1 : IntKind.u64.wrap (na : Int) = (na : Int) := by rw [IntKind.wrap_u64]; omega
  have u2 : IntKind.u64.wrap (ns : Int) = (ns : Int) := by rw [IntKind.wrap_u64]; omega
  have u3 : IntKind.u64.wrap (nn : Int) = (nn : Int) := by rw [IntKind.wrap_u64]; omega
  have henc : encX e = (bytesL na 4 ++ bytesL ns 4) ++ bytesL nn 2 ++ [flagB eu, 0] := by
    unfold encX
    rw [hna, hns, hnn, heu]; simp
  have HENC := Lib.hid henc; clear henc
  have HC := Lib.hid hcell; clear hcell
  have HBW := Lib.hid hbw; clear hbw
  have HWE := Lib.hid hW; clear hW
  have HWL := Lib.hid (Nat.le_of_lt hvl)
  generalize e.c = EC at HWE ⊢
  clear hem he hna hns hnn heu hve hvl
  go_enter Try.func71, Try.ntmps71
  go_wp2_with fail
  rw [← HWE.out]
  clear HWE
  refine wp_region_E (fun V => Below W.heap.size W V) 99 rfl ?_
  have hS := (show Below W.heap.size W W.drew from (Below.refl _ W).drew)
  refine wpE_takeF 0 ⟨some 4, _, _, _, _, _⟩ (v := ?_) (by decide) rfl (by kernel_rfl) (by kernel_rfl) (by kernel_rfl) (fun _ _ _ h => h) hS (Or.inl ⟨by kernel_rfl, ?_⟩) ?_
  rotate_left
  · (intro V hSw; obtain ⟨hq0, hq1, hq2, hq3⟩ := HC.out V hSw; go_simp; try with_reducible rfl)
  try simp only [Act.put]
  refine wpE_takeF 1 ⟨some 5, _, _, _, _, _⟩ (v := ?_) (by decide) rfl (by kernel_rfl) (by kernel_rfl) (by kernel_rfl) (fun _ _ _ h => h) hS (Or.inl ⟨by kernel_rfl, ?_⟩) ?_
  rotate_left
  · (intro V hSw; obtain ⟨hq0, hq1, hq2, hq3⟩ := HC.out V hSw; go_simp; try with_reducible rfl)
  try simp only [Act.put]
  refine wpE_takeF 2 ⟨some 6, _, _, _, _, _⟩ (v := ?_) (by decide) rfl (by kernel_rfl) (by kernel_rfl) (by kernel_rfl) (fun _ _ _ h => h) hS (Or.inl ⟨by kernel_rfl, ?_⟩) ?_
  rotate_left
  · (intro V hSw; obtain ⟨hq0, hq1, hq2, hq3⟩ := HC.out V hSw; go_simp; try with_reducible rfl)
  try simp only [Act.put]
  refine wpE_takeF 4 ⟨some 8, _, _, _, _, _⟩ (v := ?_) (by decide) rfl (by kernel_rfl) (by kernel_rfl) (by kernel_rfl) (fun _ _ _ h => h) hS (Or.inl ⟨by kernel_rfl, ?_⟩) ?_
  rotate_left
  · (intro V hSw; obtain ⟨hq0, hq1, hq2, hq3⟩ := HC.out V hSw; go_simp; try with_reducible rfl)
  try simp only [Act.put]
  refine wpE_takeF 5 ⟨some 9, _, _, _, _, _⟩ (v := ?_) (by decide) rfl (by kernel_rfl) (by kernel_rfl) (by kernel_rfl) (fun _ _ _ h => h) hS (Or.inl ⟨by kernel_rfl, ?_⟩) ?_
  rotate_left
  · (intro V hSw; obtain ⟨hq0, hq1, hq2, hq3⟩ := HC.out V hSw; go_simp; try with_reducible rfl)
  try simp only [Act.put]
  refine wpE_takeF 6 ⟨some 10, _, _, _, _, _⟩ (v := ?_) (by decide) rfl (by kernel_rfl) (by kernel_rfl) (by kernel_rfl) (fun _ _ _ h => h) hS (Or.inl ⟨by kernel_rfl, ?_⟩) ?_
  rotate_left
  · (intro V hSw; obtain ⟨hq0, hq1, hq2, hq3⟩ := HC.out V hSw; go_simp; try with_reducible rfl)
  try simp only [Act.put]
  refine wpE_one 3 (by kernel_rfl) rfl (fun K' hK' => ?_)
  rw [if_pos (by kernel_rfl)]
  refine call_wp 52 _ _ _ _ rfl Try.func52 (by kernel_rfl) rfl _ ?hv _ (rb4 na _) ?_
  case hv => simp only [List.map_toArray, List.map_cons, List.map_nil]; go_simp
  rintro E V1 ⟨A1, c1, rfl, ho1, hb1⟩
  have hS1 : Below W.heap.size W V1 := hS.trans (hb1.mono hS.size)
  refine ⟨_, rfl, ?_⟩
  refine hK'.out _ _ hS1 (fun _ => ?_)
  clear hK' K'
  try simp only [Act.put]
  refine wpE_one 7 (by kernel_rfl) rfl (fun K' hK' => ?_)
  rw [if_pos (by kernel_rfl)]
  refine call_wp 52 _ _ _ _ rfl Try.func52 (by kernel_rfl) rfl _ ?hv _ (rb4 ns _) ?_
  case hv => simp only [List.map_toArray, List.map_cons, List.map_nil]; go_simp
  rintro E V2 ⟨A2, c2, rfl, ho2, hb2⟩
  have hS2 : Below W.heap.size W V2 := hS1.trans (hb2.mono hS1.size)
  have HO1 : Hid (Owned V2 W.heap.size (.slice A1 4 c1) (bytesL na 4)) := Lib.hid (Owned.mono (Owned.keep ho1 hb2 (Nat.le_refl _)) hS.size)
  have HO2 := Lib.hid (Owned.reads ho2)
  refine ⟨_, rfl, ?_⟩
  refine hK'.out _ _ hS2 (fun _ => ?_)
  clear hK' K'
  try simp only [Act.put]
  refine wpE_one 8 (by kernel_rfl) rfl (fun K' hK' => ?_)
  refine step_addall rfl (.tmp 7) (.tmp 11) rfl W.heap.size (.slice A1 4 c1) (bytesL na 4) ?hva HO1.out _ A2 4 c2 (bytesL ns 4) ?hvb HO2.out (by rw [bytesL_len]; omega) hS2.size ?_
  case hva => go_simp; try with_reducible rfl
  case hvb => go_simp; try with_reducible rfl
  intro v3 V3 ho3 hb3
  have hS3 : Below W.heap.size W V3 := hS2.trans hb3
  refine hK'.out _ _ hS3 (fun hS => ?_)
  clear hK' K'
  try simp only [Act.put]
  refine wpE_takeF 9 ⟨some 3, _, _, _, _, _⟩ (v := ?_) (by decide) rfl (by kernel_rfl) (by kernel_rfl) (by kernel_rfl) (fun _ _ _ h => h) hS (Or.inl ⟨by kernel_rfl, ?_⟩) ?_
  rotate_left
  · (intro V hSw; obtain ⟨hq0, hq1, hq2, hq3⟩ := HC.out V hSw; go_simp; try with_reducible rfl)
  try simp only [Act.put]
  refine wpE_done (by kernel_rfl) ?_ _
  try simp only [List.setIfInBounds_toArray, List.set_cons_succ, List.set_cons_zero]
  obtain ⟨-, -, q2, q3⟩ := HC.out V3 hS3
  have HS3 := Lib.hid hS3
  have HO3 := Lib.hid ho3
  clear hb1 hb2 hb3 ho1 ho2 ho3 HO1 HO2 hS hS1 hS2 hS3
  go_wp2_with fail
  with_reducible refine (rb2 nn V3).mono ?_
  rintro E V4 ⟨A4, c4, rfl, ho4, hb4⟩
  have HS4 : Hid (Below W.heap.size W V4) := Lib.hid (HS3.out.trans (hb4.mono HS3.out.size))
  have HO4 : Hid (Owned V4 W.heap.size v3 (bytesL na 4 ++ bytesL ns 4)) := Lib.hid (Owned.keep HO3.out hb4 (Nat.le_refl _))
  have HR4 := Lib.hid (Owned.reads ho4)
  clear ho4 hb4 q2 HO3 HS3
  go_wp2_with (at_builtin; refine wpList_addall rfl (.tmp 13) (.tmp 17) rfl W.heap.size _ (bytesL na 4 ++ bytesL ns 4) rfl HO4.out _ A4 2 c4 (bytesL nn 2) rfl HR4.out (by simp [bytesL_len]) HS4.out.size ?_)
  intro v5 V5 ho5 hb5
  have HS5 : Hid (Below W.heap.size W V5) := Lib.hid (HS4.out.trans hb5)
  have HO5 := Lib.hid ho5
  have hZ5 : W.heap.size ≤ V5.heap.size := HS5.out.size
  obtain ⟨-, -, -, q4⟩ := HC.out V5 HS5.out
  clear ho5 hb5 HO4 HR4 HS4 q3
  obtain ⟨T, hT⟩ : ∃ T, T = (bytesL na 4 ++ bytesL ns 4) ++ bytesL nn 2 := ⟨_, rfl⟩
  have hl : T.length = 10 := by rw [hT]; simp [bytesL_len]
  have HO5 : Hid (Owned V5 W.heap.size v5 T) := Lib.hid (by rw [hT]; simpa using HO5.out)
  have HT := Lib.hid hT; clear hT
  cases eu with
  | true =>
    go_wp2_with (at_builtin; refine wpList_addall rfl (.tmp 21) (.tmp 22) rfl W.heap.size _ T rfl (World.ownsRow.alloc HO5.out _) (V5.heap.size + 1) _ 2 2 [1, 0] rfl (holds_lit V5 [1, 0] _ rfl) (by rw [hl]; omega) (by simp; omega) ?_)
    intro v6 V6 ho6 hb6
    have he6 : encX e = T ++ [1, 0] := by rw [HENC.out, HT.out]; rfl
    rw [← he6] at ho6
    obtain ⟨A6, c6, rfl⟩ := Owned.shape ho6
    rw [encX_len] at ho6 ⊢
    have HO6 : Hid (Owned V6 w.heap.size (.slice A6 12 c6) (encX e)) := Lib.hid (Owned.mono ho6 HWL.out)
    have HB6 : Hid (Below w.heap.size w V6) := Lib.hid (HBW.out.trans ((((HS5.out.alloc HS5.out.size _).trans hb6)).mono HBW.out.size))
    clear ho6 hb6 he6
    go_wp2
    go_ret
    exact ⟨A6, c6, rfl, HO6.out, HB6.out⟩
  | false =>
    go_wp2_with (at_builtin; refine wpList_addall rfl (.tmp 24) (.tmp 25) rfl W.heap.size _ T rfl (World.ownsRow.alloc HO5.out _) (V5.heap.size + 1) _ 2 2 [0, 0] rfl (holds_lit V5 [0, 0] _ rfl) (by rw [hl]; omega) (by simp; omega) ?_)
    intro v6 V6 ho6 hb6
    have he6 : encX e = T ++ [0, 0] := by rw [HENC.out, HT.out]; rfl
    rw [← he6] at ho6
    obtain ⟨A6, c6, rfl⟩ := Owned.shape ho6
    rw [encX_len] at ho6 ⊢
    have HO6 : Hid (Owned V6 w.heap.size (.slice A6 12 c6) (encX e)) := Lib.hid (Owned.mono ho6 HWL.out)
    have HB6 : Hid (Below w.heap.size w V6) := Lib.hid (HBW.out.trans ((((HS5.out.alloc HS5.out.size _).trans hb6)).mono HBW.out.size))
    clear ho6 hb6 he6
    go_wp2
    go_ret
    exact ⟨A6, c6, rfl, HO6.out, HB6.out⟩

set_option maxRecDepth 100000 in
set_option maxHeartbeats 8000000 in
theorem filled_any (A : Option Addr) (m c N base : Nat) (bs : List UInt8) (w : World) (h : Owned w base (.slice A m c) bs) (hb : base ≤ w.heap.size) (hm : m ≤ N) (hN : N ≤ 65536) :
    Calls Try.prog 50 #[.slice A m c, .int .i64 (N : Int)] w fun E w' => ∃ A' c', E = .returned (.slice A' N c') ∧ Owned w' base (.slice A' N c') (padB bs N) ∧ Below base w w' := by
  have hln := Owned.len h
  have H := Lib.hid h; clear h
  go_enter Try.func50, Try.ntmps50
  go_wp2
  go_loopw [0] (fun v wr => ∃ (k n' : Nat) (A' : Option Addr) (c' : Nat), n' = m + k ∧ n' ≤ N ∧ v = .slice A' n' c' ∧ Owned wr base (.slice A' n' c') (bs ++ List.replicate k 0) ∧ Below base w wr) (fun v _ => N - lenS v)
  case atStart => exact ⟨0, m, A, c, rfl, hm, rfl, by rw [List.replicate_zero, List.append_nil]; exact H.out, Below.refl _ _⟩
  case round =>
    obtain ⟨k, n', A', c', hk, hkN, rfl, hown, hbr⟩ := hrel
    have HO := Lib.hid hown; clear hown
    have HBR := Lib.hid hbr; clear hbr
    have HZ := Lib.hid (Nat.le_trans hb HBR.out.size)
    have HLL := Lib.hid (show (bs ++ List.replicate k (0 : UInt8)).length = n' from (Owned.len HO.out).symm)
    rcases Nat.lt_or_ge n' N with hlt | hge
    · have hlt' : (n' : Int) < (N : Int) := by omega
      go_wp2_with (at_builtin; refine wpList_addone rfl (.tmp 9) (.tmp 10) rfl base _ (bs ++ List.replicate k 0) rfl HO.out 0 _ rfl rfl (by rw [HLL.out]; omega) HZ.out ?_)
      intro v1 V1 ho1 hb1
      have he : (bs ++ List.replicate k (0 : UInt8)) ++ [0] = bs ++ List.replicate (k + 1) 0 := by rw [List.append_assoc]; congr 1; exact List.replicate_succ'.symm
      have ho1 : Owned V1 base v1 (bs ++ List.replicate (k + 1) 0) := by simpa only [← List.append_assoc, he] using ho1
      obtain ⟨A1, c1, rfl⟩ := Owned.shape ho1
      have hl1 : (bs ++ List.replicate (k + 1) (0 : UInt8)).length = n' + 1 := by
        have := HLL.out
        simp at this ⊢
        omega
      rw [hl1] at ho1 ⊢
      have HO1 := Lib.hid ho1; clear ho1
      have HB1 : Hid (Below base w V1) := Lib.hid (HBR.out.trans hb1)
      clear hb1 he hl1
      go_wp2
      go_roundw
      case rel => exact ⟨k + 1, n' + 1, A1, c1, by omega, by omega, rfl, HO1.out, HB1.out⟩
      case measure => simp only [lenS]; omega
    · have hnn : n' = N := by omega
      have hp : padB bs N = bs ++ List.replicate k 0 := by
        unfold padB
        congr 2
        omega
      have ho3 : Owned wr base (.slice A' n' c') (padB bs N) := by rw [hp]; exact HO.out
      have HO3 := Lib.hid ho3; clear hp ho3
      subst hnn
      have hge' : ¬ (n' : Int) < (n' : Int) := by omega
      clear hk hln
      go_wp2
      go_ret
      exact ⟨A', c', rfl, HO3.out, HBR.out⟩

set_option maxRecDepth 100000 in
set_option maxHeartbeats 8000000 in
theorem list_any (A : Option Addr) (n c B : Nat) (l : List X) (w : World) (h : HoldsX w B A n l) (hB : B ≤ w.heap.size) (hmay : ∀ x ∈ l, x.may = true) (hn : n ≤ 200) :
    Calls Try.prog 51 #[.slice A n c, .int .u8 0] w fun E w' => ∃ A' c', E = .returned (.slice A' (4 + n * 12) c') ∧ Owned w' w.heap.size (.slice A' (4 + n * 12) c') (headB n 0 ++ encs l) ∧ Below w.heap.size w w' := by
  have hln := h.1
  have hw8 : IntKind.u8.wrap (n : Int) = (n : Int) := by rw [IntKind.wrap_u8]; omega
  have hlit : w.alloc (.cells #[.int .u8 (n : Int), .int .u8 0, .int .u8 0, .int .u8 0] 5) = w.alloc (.cells ((headB n 0).map byteV).toArray 5) := by
    congr 2
    unfold headB byteV
    simp
    omega
  obtain ⟨W, hW⟩ : ∃ W, W = w.alloc (.cells #[.int .u8 (n : Int), .int .u8 0, .int .u8 0, .int .u8 0] 5) := ⟨_, rfl⟩
  have hoW : Owned W w.heap.size (.slice (some ⟨w.heap.size, 0, none⟩) 4 4) (headB n 0) := by
    rw [hW, hlit]
    exact owned_made w (headB n 0) w.heap.size (Nat.le_refl _) (by unfold maxLen headB; simp)
  have hbW : Below w.heap.size w W := by rw [hW]; exact (Below.refl _ _).alloc (Nat.le_refl _) _
  have HWE := Lib.hid hW; clear hW hlit
  have HOW := Lib.hid hoW; clear hoW
  have HBW := Lib.hid hbW; clear hbW
  have H := Lib.hid h; clear h
  have HLN := Lib.hid hln; clear hln
  have HMAY := Lib.hid hmay; clear hmay
  have HBB := Lib.hid hB; clear hB
  go_enter Try.func51, Try.ntmps51
  go_wp2
  rw [← HWE.out]
  go_loopw [5, 6] (fun v i wr => ∃ (k m : Nat) (A' : Option Addr) (c' : Nat), k ≤ n ∧ m = 4 + k * 12 ∧ i = .int .i64 (k : Int) ∧ v = .slice A' m c' ∧ Owned wr w.heap.size (.slice A' m c') (headB n 0 ++ encs (l.take k)) ∧ Below w.heap.size w wr) (fun _ i _ => n - (intOf i).toNat)
  case atStart => exact ⟨0, 4, _, _, Nat.zero_le _, rfl, rfl, rfl, by rw [List.take_zero]; unfold encs; rw [List.flatMap_nil, List.append_nil]; exact HOW.out, HBW.out⟩
  case round =>
    obtain ⟨k, m, A', c', hk, hm, rfl, rfl, hown, hbr⟩ := hrel
    have HO := Lib.hid hown; clear hown
    have HBR := Lib.hid hbr; clear hbr
    have HM := Lib.hid hm; clear hm
    rcases Nat.lt_or_ge k n with hlt | hge
    · have hkl : k < l.length := by have := HLN.out; omega
      obtain ⟨b, off, rfl, hbB⟩ := H.out.addr (by omega)
      obtain ⟨e, he⟩ : ∃ e, e = l[k] := ⟨_, rfl⟩
      have hld := run_ldX_at (H.out.below (HBR.out.mono HBB.out)) k hkl (off + k * 4) rfl
      rw [← he] at hld
      have hcode := rcode_any e (HMAY.out e (he ▸ List.getElem_mem hkl)) wr
      have hsn : encs (l.take (k + 1)) = encs (l.take k) ++ encX e := by rw [List.take_succ_eq_append_getElem hkl, ← he, encs_snoc]
      have HSN := Lib.hid hsn; clear hsn he
      obtain ⟨E, hE⟩ : ∃ E, E = encX e := ⟨_, rfl⟩
      have hEl : E.length = 12 := by rw [hE, encX_len]
      rw [← hE] at hcode HSN
      generalize e.c = EC at hld hcode
      have HCODE := Lib.hid hcode; clear hcode hE
      have hk0 : (0 : Int) ≤ (k : Int) := by omega
      have hkn : (k : Int) < (n : Int) := by omega
      go_wp2_with fail
      with_reducible refine HCODE.out.mono ?_
      rintro EE V1 ⟨A1, c1, rfl, ho1, hb1⟩
      have HR1 := Lib.hid (Owned.reads ho1)
      have HO1 : Hid (Owned V1 w.heap.size (.slice A' m c') (headB n 0 ++ encs (l.take k))) := Lib.hid (Owned.keep HO.out hb1 (Nat.le_refl _))
      have HB1 : Hid (Below w.heap.size w V1) := Lib.hid (HBR.out.trans (hb1.mono HBR.out.size))
      have HLL := Lib.hid (show (headB n 0 ++ encs (l.take k)).length = m from (Owned.len HO.out).symm)
      clear ho1 hb1 hld HCODE
      go_wp2_with (at_builtin; refine wpList_addall rfl (.tmp 18) (.tmp 23) rfl w.heap.size _ (headB n 0 ++ encs (l.take k)) rfl HO1.out _ A1 12 c1 E rfl HR1.out (by rw [HLL.out]; have := HM.out; omega) HB1.out.size ?_)
      intro v2 V2 ho2 hb2
      rw [← HSN.out] at ho2
      obtain ⟨A2, c2, rfl⟩ := Owned.shape ho2
      have hl2 : (headB n 0 ++ encs (l.take (k + 1))).length = m + 12 := by
        rw [HSN.out, ← List.append_assoc, List.length_append, HLL.out, hEl]
      rw [hl2] at ho2 ⊢
      have HO2 := Lib.hid ho2; clear ho2
      have HB2 : Hid (Below w.heap.size w V2) := Lib.hid (HB1.out.trans hb2)
      clear hb2 hl2
      go_wp2
      go_roundw
      case rel => exact ⟨k + 1, m + 12, A2, c2, by omega, by have := HM.out; omega, by go_num, rfl, HO2.out, HB2.out⟩
      case measure => simp [intOf]; omega
    · have hkn : k = n := by omega
      subst hkn
      have hown := HO.out
      rw [List.take_of_length_le (by have := HLN.out; omega)] at hown
      have hm := HM.out
      subst hm
      have HO2 := Lib.hid hown; clear hown
      have hge' : ¬ (k : Int) < (k : Int) := by omega
      go_wp2
      go_ret
      exact ⟨A', c', rfl, HO2.out, HBR.out⟩
end Go.Proofs.Ytkhenchhafmlmaa.Ex
