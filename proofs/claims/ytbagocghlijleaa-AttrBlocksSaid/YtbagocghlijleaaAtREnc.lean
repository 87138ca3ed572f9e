/- The document's Encode. -/
import Derived.Test.YtbagocghlijleaaAtRRight
import Derived.Test.YtbagocghlijleaaAtCode
namespace Go.Proofs.Ytbagocghlijleaa.At
set_option maxRecDepth 20000
set_option linter.unusedSimpArgs false
open Go.RowKit
open Go.Proofs.Ytbagocghlijleaa.Mem Go.Proofs.Ytbagocghlijleaa.Crc Go.Proofs.Ytbagocghlijleaa.Rec Go.Proofs.Ytbagocghlijleaa.Reg
open Go.Proofs.Ytbagocghlijleaa.Lf (less zeros)
attribute [local go_sem ↓] ldX_eq stX_eq

def lenS : Value → Nat
  | .slice _ n _ => n
  | _ => 0
theorem rbN (v m : Nat) (w : World) (hm : m ≤ 8) : Calls Try.prog 33 #[.int .u64 (v : Int), .int .i64 (m : Int)] w fun e w' => ∃ A c, e = .returned (.slice A m c) ∧ Owned w' w.heap.size (.slice A m c) (bytesL v m) ∧ Below w.heap.size w w' := by
  refine (refbytes_any v (m : Int) w m (by omega) (by omega) (by omega)).mono ?_
  rintro e w1 ⟨sv, rfl, ho1, hb1⟩
  obtain ⟨A1, c1, rfl, -⟩ := Owned.holds ho1
  rw [bytesL_len] at ho1 ⊢
  exact ⟨A1, c1, rfl, ho1, hb1⟩
theorem rb4 (v : Nat) (w : World) : Calls Try.prog 33 #[.int .u64 (v : Int), .int .i64 4] w fun e w' => ∃ A c, e = .returned (.slice A 4 c) ∧ Owned w' w.heap.size (.slice A 4 c) (bytesL v 4) ∧ Below w.heap.size w w' := rbN v 4 w (by omega)
theorem rb2 (v : Nat) (w : World) : Calls Try.prog 33 #[.int .u64 (v : Int), .int .i64 2] w fun e w' => ∃ A c, e = .returned (.slice A 2 c) ∧ Owned w' w.heap.size (.slice A 2 c) (bytesL v 2) ∧ Below w.heap.size w w' := rbN v 2 w (by omega)
theorem run_addS (w : World) (ty : TypeId) (base : Nat) (v : Value) (bs : List UInt8) (hown : Owned w base v bs) (s : ByteArray) (hlen : bs.length + s.size ≤ 140737488355328) (hbase : base ≤ w.heap.size) :
    ∃ v' w', (Builtin.append_ #[34, 9] ty #[v, .string s]).run Try.prog w = .ok v' w' ∧ Owned w' base v' (bs ++ s.data.toList) ∧ Below base w w' := by
  obtain ⟨i0, hi, hz0, hz1, hz2⟩ := info_parts info_u8
  obtain ⟨v', w', hrun, h2, h3, _⟩ := Lib.run_append_own_string (P := Try.prog) w base 34 9 ty 5 i0 Try.underlying34 Try.underlying9 hi hz0 hz1 hz2 v bs.length (bs.map byteV) hown s (by unfold maxLen; omega) hlen hbase
  refine ⟨v', w', hrun, ?_, (Below.refl base w).grown h3 hbase (Owned.base_le hown)⟩
  unfold Owned
  rw [List.length_append, List.map_append, show s.data.toList.length = s.size from Array.length_toList]
  exact h2
theorem byte_val (n : Nat) (h : n < 256) : [Value.int .u8 (n : Int)] = (bytesL n 1).map byteV := by
  have e : bytesL n 1 = [UInt8.ofNat n] := by simp [bytesL, byteN]
  rw [e]
  simp [byteV]
  omega
/-- Two bytes more. -/
theorem run_addtwo (W : World) (ty : TypeId) (base : Nat) (v : Value) (bs : List UInt8) (hown : Owned W base v bs) (x y : Nat) (hx : x < 256) (hy : y < 256) (hlen : bs.length + 2 ≤ 140737488355328) (hbase : base ≤ W.heap.size) :
    ∃ v' W', (Builtin.append_ #[34, 34] ty #[v, .slice (some ⟨W.heap.size, 0, none⟩) 2 2]).run Try.prog (W.alloc (.cells #[.int .u8 (x : Int), .int .u8 (y : Int)] 5)) = .ok v' W' ∧ Owned W' base v' (bs ++ (bytesL x 1 ++ bytesL y 1)) ∧ Below base W W' := by
  have hb : Below W.heap.size W (W.alloc (.cells #[.int .u8 (x : Int), .int .u8 (y : Int)] 5)) := (Below.refl _ W).alloc (Nat.le_refl _) _
  have hh := holds_lit W (bytesL x 1 ++ bytesL y 1) #[.int .u8 (x : Int), .int .u8 (y : Int)] (by rw [List.map_append, ← byte_val x hx, ← byte_val y hy]; rfl)
  have hl : (bytesL x 1 ++ bytesL y 1).length = 2 := by rw [List.length_append, bytesL_len, bytesL_len]
  rw [hl] at hh
  obtain ⟨v', W', hrun, ho, hbl⟩ := run_addall (W.alloc (.cells #[.int .u8 (x : Int), .int .u8 (y : Int)] 5)) ty base v bs (Owned.keep hown hb (Nat.le_refl _)) (W.heap.size + 1) (some ⟨W.heap.size, 0, none⟩) 2 2 _ hh hlen (Nat.le_trans hbase hb.size)
  exact ⟨v', W', hrun, ho, (hb.mono hbase).trans hbl⟩

set_option maxRecDepth 100000 in
set_option maxHeartbeats 8000000 in
theorem rcoded_any (A : Option Addr) (n c B : Nat) (l : List Pr) (w : World) (h : HoldsX w B A n l) (hB : B ≤ w.heap.size) (hq : right l = true) (hz : sizeL l ≤ 250) :
    Calls Try.prog 17 #[.slice A n c] w (Bytes2 w (blockL l, 0)) := by
  have hln := h.1
  have hok : ∀ x ∈ l, okP x = true := ((right_iff l).1 hq).1
  have h6 := sizeL_ge l hok
  rw [hln] at h6
  have hright := rright_any A n c B l w h hB (by omega)
  rw [hq] at hright
  have hfit := fun V (hV : Below w.heap.size w V) => rfits_any A n c B l V (h.below (hV.mono hB)) (Nat.le_trans hB hV.size) hok (by omega)
  simp only [decide_eq_true hz] at hfit
  obtain ⟨Z, hZ⟩ : ∃ Z, Z = sizeL l := ⟨_, rfl⟩
  rw [← hZ] at h6 hz
  obtain ⟨post, hpost⟩ : ∃ post, post = Bytes2 w (blockL l, 0) := ⟨_, rfl⟩
  rw [← hpost]
  have HP := Lib.hid hpost; clear hpost
  have HN := Lib.hid hln; clear hln
  have HZ := Lib.hid hZ; clear hZ
  have HOK := Lib.hid hok; clear hok
  have H := Lib.hid h; clear h
  have hw1 : IntKind.u64.wrap (n : Int) = (n : Int) := by rw [IntKind.wrap_u64]; omega
  have HS := Lib.hid hright; clear hright
  have HF := Lib.hid hfit; clear hfit hq
  go_enter Try.func17, Try.ntmps17
  go_wp2_with fail
  with_reducible refine HS.out.mono ?_
  rintro E1 w1 ⟨rfl, hb1⟩
  have HB1 := Lib.hid hb1; clear hb1 HS
  go_wp2_with fail
  with_reducible refine (HF.out w1 HB1.out).mono ?_
  rintro E2 w2 ⟨rfl, hb2⟩
  have HB2 : Hid (Below w.heap.size w w2) := Lib.hid (HB1.out.trans (hb2.mono HB1.out.size))
  clear hb2 HF
  go_wp2_with fail
  with_reducible refine (rb2 n w2).mono ?_
  rintro E w4 ⟨A4, c4, rfl, ho4, hb4⟩
  have HB4 : Hid (Below w.heap.size w w4) := Lib.hid (HB2.out.trans (hb4.mono HB2.out.size))
  have e4 : bytesL n 2 = headB l 0 := by unfold headB; rw [HN.out]; simp [codes]
  rw [e4] at ho4
  have HO4 := Lib.hid (Owned.mono ho4 HB2.out.size); clear ho4 hb4 e4
  obtain ⟨m4, hm4⟩ : ∃ m4, m4 = (headB l 0).length := ⟨_, rfl⟩
  have hm42 : m4 = 2 := by rw [hm4, headB_len]; rfl
  have HM4 := Lib.hid hm4; clear hm4
  rw [← hm42] at HO4
  have HM42 := Lib.hid hm42; clear hm42
  go_wp2
  go_loopw [4, 5] (fun bv i wr => ∃ (k m : Nat) (A' : Option Addr) (c' : Nat), k ≤ n ∧ i = .int .i64 (k : Int) ∧ bv = .slice A' m c' ∧ m = (headB l k).length ∧ Owned wr w.heap.size (.slice A' m c') (headB l k) ∧ Below w.heap.size w wr) (fun _ i _ => n - (intOf i).toNat)
  case atStart => exact ⟨0, m4, A4, c4, Nat.zero_le _, rfl, by rw [HM42.out], HM4.out, HO4.out, HB4.out⟩
  case round =>
    obtain ⟨k, m, A', c', hk, rfl, rfl, hm, hown, hbr⟩ := hrel
    have HO := Lib.hid hown; clear hown
    have HBR := Lib.hid hbr; clear hbr
    rcases Nat.lt_or_ge k n with hlt | hge
    · obtain ⟨b, off, rfl, hbB⟩ := H.out.addr (by omega)
      have hkl : k < l.length := by have := HN.out; omega
      obtain ⟨e, he⟩ : ∃ e, e = l[k] := ⟨_, rfl⟩
      have hcells : ∀ V, Below w.heap.size w V → V.cell? ⟨b, off + k * 2, none⟩ = some (.string ⟨e.t.toArray⟩) ∧ V.cell? ⟨b, off + k * 2 + 1, none⟩ = some (.string ⟨e.v.toArray⟩) := fun V hV => by
        have h1 := (H.out.below (hV.mono hB)).cell k hkl
        rwa [← he] at h1
      obtain ⟨o1, o2, o3⟩ := okP_iff.1 (HOK.out e (he ▸ List.getElem_mem hkl))
      have hnext : headB l (k + 1) = ((headB l k ++ (bytesL e.t.length 1 ++ bytesL e.v.length 1)) ++ e.t) ++ e.v := by
        unfold headB
        rw [codes_take l k hkl, ← he]
        unfold codeE
        simp only [List.append_assoc]
      have hlen : (headB l k).length ≤ 252 := by
        have h1 := headB_len l k
        have h2 : sizeL (l.take k) ≤ sizeL l := by
          have h3 : sizeL l = sizeL (l.take k) + sizeL (l.drop k) := by rw [← sizeL_app, List.take_append_drop]
          omega
        have := HZ.out
        omega
      clear he
      have HNEXT := Lib.hid hnext; clear hnext
      generalize headB l k = P at hm hlen HO HNEXT
      obtain ⟨S, hS⟩ : ∃ S : ByteArray, S = ⟨e.t.toArray⟩ := ⟨_, rfl⟩
      obtain ⟨U, hU⟩ : ∃ U : ByteArray, U = ⟨e.v.toArray⟩ := ⟨_, rfl⟩
      have hSs : S.size = e.t.length := by rw [hS, text_size]
      have hUs : U.size = e.v.length := by rw [hU, text_size]
      have hSd : S.data.toList = e.t := by rw [hS]
      have hUd : U.data.toList = e.v := by rw [hU]
      rw [← hSs, ← hUs] at HNEXT
      rw [← hSd, ← hUd] at HNEXT
      rw [← hS, ← hU] at hcells
      rw [← hSs] at o2
      rw [← hUs] at o3
      have hwS : IntKind.u8.wrap (S.size : Int) = (S.size : Int) := by rw [IntKind.wrap_u8]; omega
      have hwU : IntKind.u8.wrap (U.size : Int) = (U.size : Int) := by rw [IntKind.wrap_u8]; omega
      have HCELLS := Lib.hid hcells; clear hcells
      clear hS hSs hSd hU hUs hUd o1
      have hk0 : (0 : Int) ≤ (k : Int) := by omega
      have hkn : (k : Int) < (n : Int) := by omega
      subst hm
      obtain ⟨mP, hmP⟩ : ∃ mP, mP = P.length := ⟨_, rfl⟩
      rw [← hmP] at hlen HO ⊢
      have HMP := Lib.hid hmP
      obtain ⟨v1, V1, hrun, ho1, hb1⟩ := run_addtwo wr.drew 34 w.heap.size _ P (Owned.keep HO.out ((Below.refl wr.heap.size wr).drew) (Nat.le_refl _)) S.size U.size (by omega) (by omega) (by omega) HBR.out.size
      obtain ⟨A1, c1, rfl⟩ := Owned.shape ho1
      have HB1 : Hid (Below w.heap.size w V1) := Lib.hid (HBR.out.drew.trans hb1)
      obtain ⟨n1, hn1⟩ : ∃ n1, n1 = (P ++ (bytesL S.size 1 ++ bytesL U.size 1)).length := ⟨_, rfl⟩
      have hn1b : n1 ≤ 256 := by rw [hn1, List.length_append, List.length_append, bytesL_len, bytesL_len]; omega
      rw [← hn1] at ho1 hrun
      have HN1 := Lib.hid hn1
      obtain ⟨v2, V2, hrun2, ho2, hb2⟩ := run_addS V1 34 w.heap.size _ _ ho1 S (by omega) HB1.out.size
      obtain ⟨A2, c2, rfl⟩ := Owned.shape ho2
      have HB2' : Hid (Below w.heap.size w V2) := Lib.hid (HB1.out.trans hb2)
      obtain ⟨n2, hn2⟩ : ∃ n2, n2 = ((P ++ (bytesL S.size 1 ++ bytesL U.size 1)) ++ S.data.toList).length := ⟨_, rfl⟩
      have hn2b : n2 ≤ 272 := by rw [hn2, List.length_append, ← hn1, show S.data.toList.length = S.size from Array.length_toList]; omega
      rw [← hn2] at ho2 hrun2
      obtain ⟨v3, V3, hrun3, ho3, hb3⟩ := run_addS V2 34 w.heap.size _ _ ho2 U (by omega) HB2'.out.size
      rw [← HNEXT.out] at ho3
      obtain ⟨A3, c3, rfl⟩ := Owned.shape ho3
      have HB3 : Hid (Below w.heap.size w V3) := Lib.hid (HB2'.out.trans hb3)
      obtain ⟨n3, hn3⟩ : ∃ n3, n3 = (headB l (k + 1)).length := ⟨_, rfl⟩
      rw [← hn3] at ho3 hrun3
      have HN3 := Lib.hid hn3
      have HO3 := Lib.hid ho3
      have HRUN := Lib.hid hrun
      have HRUN2 := Lib.hid hrun2
      have HRUN3 := Lib.hid hrun3
      clear hrun hrun2 hrun3 ho1 ho2 ho3 hb1 hb2 hb3 hn1 hn2 hn3 hmP hn1b hn2b
      go_wp2
      have hrun := HRUN.out
      refine wp_region_E (fun V => Below w.heap.size w V) 99 rfl ?_
      have hS := (show Below w.heap.size w wr.drew from HBR.out.drew)
      refine wpE_takeF 0 ⟨some 22, _, _, _, _, _⟩ (v := ?_) (by decide) rfl (by kernel_rfl) (by kernel_rfl) (by kernel_rfl) (fun _ _ _ h => h) hS (Or.inl ⟨by kernel_rfl, ?_⟩) ?_
      rotate_left
      · (intro V hSw; obtain ⟨q0, q1⟩ := HCELLS.out V hSw; go_simp; try with_reducible rfl)
      try simp only [Act.put]
      refine wpE_takeF 1 ⟨some 23, _, _, _, _, _⟩ (v := ?_) (by decide) rfl (by kernel_rfl) (by kernel_rfl) (by kernel_rfl) (fun _ _ _ h => h) hS (Or.inl ⟨by kernel_rfl, ?_⟩) ?_
      rotate_left
      · (intro V hSw; obtain ⟨q0, q1⟩ := HCELLS.out V hSw; go_simp; try with_reducible rfl)
      try simp only [Act.put]
      refine wpE_takeF 2 ⟨some 24, _, _, _, _, _⟩ (v := ?_) (by decide) rfl (by kernel_rfl) (by kernel_rfl) (by kernel_rfl) (fun _ _ _ h => h) hS (Or.inl ⟨by kernel_rfl, ?_⟩) ?_
      rotate_left
      · (intro V hSw; obtain ⟨q0, q1⟩ := HCELLS.out V hSw; go_simp; try with_reducible rfl)
      try simp only [Act.put]
      refine wpE_takeF 3 ⟨some 25, _, _, _, _, _⟩ (v := ?_) (by decide) rfl (by kernel_rfl) (by kernel_rfl) (by kernel_rfl) (fun _ _ _ h => h) hS (Or.inl ⟨by kernel_rfl, ?_⟩) ?_
      rotate_left
      · (intro V hSw; obtain ⟨q0, q1⟩ := HCELLS.out V hSw; go_simp; try with_reducible rfl)
      try simp only [Act.put]
      refine wpE_takeF 4 ⟨some 26, _, _, _, _, _⟩ (v := ?_) (by decide) rfl (by kernel_rfl) (by kernel_rfl) (by kernel_rfl) (fun _ _ _ h => h) hS (Or.inl ⟨by kernel_rfl, ?_⟩) ?_
      rotate_left
      · (intro V hSw; obtain ⟨q0, q1⟩ := HCELLS.out V hSw; go_simp; try with_reducible rfl)
      try simp only [Act.put]
      refine wpE_takeF 5 ⟨some 27, _, _, _, _, _⟩ (v := ?_) (by decide) rfl (by kernel_rfl) (by kernel_rfl) (by kernel_rfl) (fun _ _ _ h => h) hS (Or.inl ⟨by kernel_rfl, ?_⟩) ?_
      rotate_left
      · (intro V hSw; obtain ⟨q0, q1⟩ := HCELLS.out V hSw; go_simp; try with_reducible rfl)
      try simp only [Act.put]
      refine wpE_takeF 6 ⟨some 28, _, _, _, _, _⟩ (v := ?_) (by decide) rfl (by kernel_rfl) (by kernel_rfl) (by kernel_rfl) (fun _ _ _ h => h) hS (Or.inl ⟨by kernel_rfl, ?_⟩) ?_
      rotate_left
      · (intro V hSw; obtain ⟨q0, q1⟩ := HCELLS.out V hSw; go_simp; try with_reducible rfl)
      try simp only [Act.put]
      refine wpE_takeF 7 ⟨some 29, _, _, _, _, _⟩ (v := ?_) (by decide) rfl (by kernel_rfl) (by kernel_rfl) (by kernel_rfl) (fun _ _ _ h => h) hS (Or.inl ⟨by kernel_rfl, ?_⟩) ?_
      rotate_left
      · (intro V hSw; obtain ⟨q0, q1⟩ := HCELLS.out V hSw; go_simp; try with_reducible rfl)
      try simp only [Act.put]
      refine wpE_takeF 8 ⟨some 30, _, _, _, _, _⟩ (v := ?_) (by decide) rfl (by kernel_rfl) (by kernel_rfl) (by kernel_rfl) (fun _ _ _ h => h) hS (Or.inl ⟨by kernel_rfl, ?_⟩) ?_
      rotate_left
      · (intro V hSw; obtain ⟨q0, q1⟩ := HCELLS.out V hSw; go_simp; try with_reducible rfl)
      try simp only [Act.put]
      refine wpE_takeF 9 ⟨some 31, _, _, _, _, _⟩ (v := ?_) (by decide) rfl (by kernel_rfl) (by kernel_rfl) (by kernel_rfl) (fun _ _ _ h => h) hS (Or.inl ⟨by kernel_rfl, ?_⟩) ?_
      rotate_left
      · (intro V hSw; obtain ⟨q0, q1⟩ := HCELLS.out V hSw; go_simp; try with_reducible rfl)
      try simp only [Act.put]
      refine wpE_takeF 10 ⟨some 32, _, _, _, _, _⟩ (v := ?_) (by decide) rfl (by kernel_rfl) (by kernel_rfl) (by kernel_rfl) (fun _ _ _ h => h) hS (Or.inl ⟨by kernel_rfl, ?_⟩) ?_
      rotate_left
      · (intro V hSw; obtain ⟨q0, q1⟩ := HCELLS.out V hSw; go_simp; try with_reducible rfl)
      try simp only [Act.put]
      refine wpE_takeF 11 ⟨some 33, _, _, _, _, _⟩ (v := ?_) (by decide) rfl (by kernel_rfl) (by kernel_rfl) (by kernel_rfl) (fun _ _ _ h => h) hS (Or.inl ⟨by kernel_rfl, ?_⟩) ?_
      rotate_left
      · (intro V hSw; obtain ⟨q0, q1⟩ := HCELLS.out V hSw; go_simp; try with_reducible rfl)
      try simp only [Act.put]
      refine wpE_takeF 12 ⟨some 34, _, _, _, _, _⟩ (v := ?_) (by decide) rfl (by kernel_rfl) (by kernel_rfl) (by kernel_rfl) (fun _ _ _ h => h) hS (Or.inl ⟨by kernel_rfl, ?_⟩) ?_
      rotate_left
      · (intro V hSw; obtain ⟨q0, q1⟩ := HCELLS.out V hSw; go_simp; try with_reducible rfl)
      try simp only [Act.put]
      refine wpE_takeF 13 ⟨some 35, _, _, _, _, _⟩ (v := ?_) (by decide) rfl (by kernel_rfl) (by kernel_rfl) (by kernel_rfl) (fun _ _ _ h => h) hS (Or.inl ⟨by kernel_rfl, ?_⟩) ?_
      rotate_left
      · (intro V hSw; obtain ⟨q0, q1⟩ := HCELLS.out V hSw; go_simp; try with_reducible rfl)
      try simp only [Act.put]
      refine wpE_takeF 14 ⟨some 36, _, _, _, _, _⟩ (v := ?_) (by decide) rfl (by kernel_rfl) (by kernel_rfl) (by kernel_rfl) (fun _ _ _ h => h) hS (Or.inl ⟨by kernel_rfl, ?_⟩) ?_
      rotate_left
      · (intro V hSw; obtain ⟨q0, q1⟩ := HCELLS.out V hSw; go_simp; try with_reducible rfl)
      try simp only [Act.put]
      refine wpE_one 15 (by kernel_rfl) rfl (fun K' hK' => ?_)
      go_simp
      refine hK'.out _ _ (show Below w.heap.size w _ from HBR.out.drew.alloc (by exact HBR.out.size) _) (fun hS => ?_)
      clear hK' K'
      try simp only [Act.put]
      refine wpE_one 16 (o := ⟨some 38, _, _, _, _, _⟩) (by kernel_rfl) rfl (fun K' hK' => ?_)
      refine step_builtin (by kernel_rfl) (.tmp 22) (.tmp 37) #[34, 34] rfl (.slice A' mP c') _ _ _ ?hva ?hvb hrun ?_
      case hva => go_simp; try with_reducible rfl
      case hvb => go_simp; try with_reducible rfl
      refine hK'.out _ _ HB1.out (fun hS => ?_)
      clear hK' K'
      try simp only [Act.put]
      refine wpE_takeF 17 ⟨some 4, _, _, _, _, _⟩ (v := ?_) (by decide) rfl (by kernel_rfl) (by kernel_rfl) (by kernel_rfl) (fun _ _ _ h => h) hS (Or.inl ⟨by kernel_rfl, ?_⟩) ?_
      rotate_left
      · (intro V hSw; go_simp; try with_reducible rfl)
      try simp only [Act.put]
      refine wpE_done (by kernel_rfl) ?_ _
      try simp only [List.setIfInBounds_toArray, List.set_cons_succ, List.set_cons_zero]
      clear hrun hS HRUN
      obtain ⟨q0, -⟩ := HCELLS.out V1 HB1.out
      obtain ⟨-, q1⟩ := HCELLS.out V2 HB2'.out
      have hrun2 := HRUN2.out
      have hrun3 := HRUN3.out
      go_wp2_with (at_builtin; first | refine wpList_apprun rfl _ _ _ _ (by rfl) _ _ (by rfl) (by rfl) _ _ hrun2 ?_ | refine wpList_apprun rfl _ _ _ _ (by rfl) _ _ (by rfl) (by rfl) _ _ hrun3 ?_)
      clear hrun2 q0 HRUN2 hrun3 q1 HRUN3
      go_wp2
      go_roundw
      case rel => exact ⟨k + 1, n3, A3, c3, by omega, by go_num, rfl, HN3.out, HO3.out, HB3.out⟩
      case measure => simp [intOf]; omega
    · obtain rfl : k = n := by omega
      have hP : headB l k = headB l l.length := by rw [HN.out]
      have hpl := headB_len l l.length
      rw [List.take_length, ← HZ.out] at hpl
      have hbd : body l = headB l l.length ++ zeros (250 - Z) := by unfold body; rw [← HZ.out]
      have ho := HO.out
      rw [hP] at hm ho
      clear hP HO
      generalize headB l l.length = P at hm ho hpl hbd
      have HO := Lib.hid ho; clear ho
      have HBD := Lib.hid hbd; clear hbd
      have HPL := Lib.hid hpl; clear hpl
      have hm2 : m = 2 + Z := by rw [hm, HPL.out]
      clear hm
      have hm252' : m ≤ 252 := by omega
      have HM2 := Lib.hid hm2; clear hm2
      have hkn : ¬ (k : Int) < (k : Int) := by omega
      go_wp2
      go_loopw [4] (fun v wr => ∃ (j m' : Nat) (A2 : Option Addr) (c2 : Nat), m' = 2 + Z + j ∧ m' ≤ 252 ∧ v = .slice A2 m' c2 ∧ Owned wr w.heap.size (.slice A2 m' c2) (P ++ zeros j) ∧ Below w.heap.size w wr) (fun v _ => 252 - lenS v)
      case atStart => exact ⟨0, m, A', c', HM2.out, hm252', rfl, by rw [show zeros 0 = [] from rfl, List.append_nil]; exact HO.out, HBR.out⟩
      case round =>
        obtain ⟨j, m', A2, c2, hmj, hm252, rfl, hown, hbq⟩ := hrel
        have hwr : w.heap.size ≤ wr.heap.size := hbq.size
        have HMJ := Lib.hid hmj; clear hmj
        have HOQ := Lib.hid hown; clear hown
        have HBQ := Lib.hid hbq; clear hbq
        have HLL := Lib.hid (show (P ++ zeros j).length = m' from (Owned.len HOQ.out).symm)
        rcases Nat.lt_or_ge m' 252 with hlt | hge2
        · have hlt' : (m' : Int) < 252 := by omega
          go_wp2_with (at_builtin; refine wpList_addone rfl (.tmp 56) (.tmp 57) rfl w.heap.size _ (P ++ zeros j) rfl HOQ.out 0 _ rfl rfl (by rw [HLL.out]; omega) hwr ?_)
          intro v1 V1 ho1 hb1
          have he : (P ++ zeros j) ++ [0] = P ++ zeros (j + 1) := by rw [List.append_assoc]; congr 1; exact List.replicate_succ'.symm
          replace ho1 : Owned V1 w.heap.size v1 (P ++ zeros (j + 1)) := by simpa only [← List.append_assoc, he] using ho1
          obtain ⟨A1, c1, rfl⟩ := Owned.shape ho1
          have hl1 : (P ++ zeros (j + 1)).length = m' + 1 := by
            have := HLL.out
            simp [zeros] at this ⊢
            omega
          rw [hl1] at ho1 ⊢
          have HO1 := Lib.hid ho1; clear ho1
          have HB1 : Hid (Below w.heap.size w V1) := Lib.hid (HBQ.out.trans hb1)
          clear hb1 he hl1
          go_wp2
          go_roundw
          case rel => exact ⟨j + 1, m' + 1, A1, c1, by have := HMJ.out; omega, by omega, rfl, HO1.out, HB1.out⟩
          case measure => simp only [lenS]; omega
        · have hmm : m' = 252 := by omega
          subst hmm
          have hbody : P ++ zeros j = body l := by rw [HBD.out, show j = 250 - Z by have := HMJ.out; omega]
          have hown := HOQ.out
          rw [hbody] at hown
          have hsum := refsum_any A2 252 c2 wr.heap.size (body l) wr (Owned.reads hown) (by unfold maxLen; omega)
          have hbk : blockL l = body l ++ bytesL (sum (body l)) 4 := rfl
          have hwsum := wrap_sum (body l)
          obtain ⟨sm, hsm⟩ : ∃ sm, sm = sum (body l) := ⟨_, rfl⟩
          rw [← hsm] at hsum hbk hwsum
          have HSUM := Lib.hid hsum; clear hsum
          have HBK := Lib.hid hbk; clear hbk hsm
          have HOW := Lib.hid hown; clear hown hbody HOQ
          have hblen := body_len (l := l) (by rw [← HZ.out]; exact hz)
          have HBL := Lib.hid hblen; clear hblen
          clear HMJ hge2
          go_wp2_with (first | (with_reducible refine HSUM.out.mono ?_; rintro E w5 ⟨rfl, rfl⟩) | fail)
          with_reducible refine (rb4 sm wr).mono ?_
          rintro E V6 ⟨A6, c6, rfl, ho6, hb6⟩
          have HB6 : Hid (Below w.heap.size w V6) := Lib.hid (HBQ.out.trans (hb6.mono hwr))
          have hV6 : w.heap.size ≤ V6.heap.size := HB6.out.size
          have HO6 : Hid (Owned V6 w.heap.size (.slice A2 252 c2) (body l)) := Lib.hid (Owned.keep HOW.out hb6 (Nat.le_refl _))
          have HR6 : Hid (Holds V6 V6.heap.size A6 4 (bytesL sm 4)) := Lib.hid (Owned.reads ho6)
          clear ho6 hb6
          go_wp2_with (at_builtin; refine wpList_addall rfl (.tmp 59) (.tmp 63) rfl w.heap.size _ _ rfl HO6.out V6.heap.size A6 4 c6 _ rfl HR6.out (by rw [HBL.out]; omega) hV6 ?_)
          intro v7 V7 ho7 hb7
          rw [← HBK.out] at ho7
          obtain ⟨A7, c7, rfl⟩ := Owned.shape ho7
          have HB7 : Hid (Below w.heap.size w V7) := Lib.hid (HB6.out.trans hb7)
          obtain ⟨n7, hn7⟩ : ∃ n7, n7 = (blockL l).length := ⟨_, rfl⟩
          rw [← hn7] at ho7 ⊢
          have HO7 := Lib.hid ho7; clear ho7 hb7
          have HN7 := Lib.hid hn7; clear hn7
          go_wp2
          rw [HP.out]
          exact ⟨A7, c7, by rw [← HN7.out]; rfl, by rw [← HN7.out]; exact HO7.out, HB7.out⟩

set_option maxRecDepth 100000 in
set_option maxHeartbeats 1000000 in
theorem rencode_any (A : Option Addr) (n c B : Nat) (l : List Pr) (w : World) (h : HoldsX w B A n l) (hB : B ≤ w.heap.size) (hn : n ≤ 4398046511104) :
    Calls Try.prog 17 #[.slice A n c] w (Bytes2 w (enc l)) := by
  cases hq : right l with
  | false =>
    have hright := rright_any A n c B l w h hB hn
    rw [hq] at hright
    obtain ⟨post, hpost⟩ : ∃ post, post = Bytes2 w (enc l) := ⟨_, rfl⟩
    rw [← hpost]
    have HP := Lib.hid hpost; clear hpost
    have HE := Lib.hid (enc_not hq)
    have HS := Lib.hid hright; clear hright h
    go_enter Try.func17, Try.ntmps17
    go_wp2_with (with_reducible refine HS.out.mono ?_; rintro E w1 ⟨rfl, hb⟩)
    rw [HP.out, HE.out]
    exact ⟨none, 0, rfl, owned_nil _ _, hb⟩
  | true =>
    by_cases hz : sizeL l ≤ 250
    · rw [enc_yes hq hz]
      exact rcoded_any A n c B l w h hB hq hz
    · have hright := rright_any A n c B l w h hB hn
      rw [hq] at hright
      have hfit := fun V (hV : Below w.heap.size w V) => rfits_any A n c B l V (h.below (hV.mono hB)) (Nat.le_trans hB hV.size) ((right_iff l).1 hq).1 hn
      simp only [decide_eq_false hz] at hfit
      obtain ⟨post, hpost⟩ : ∃ post, post = Bytes2 w (enc l) := ⟨_, rfl⟩
      rw [← hpost]
      have HP := Lib.hid hpost; clear hpost
      have HE := Lib.hid (enc_far hq (by omega))
      have HS := Lib.hid hright; clear hright h
      have HF := Lib.hid hfit; clear hfit hz hq
      go_enter Try.func17, Try.ntmps17
      go_wp2_with fail
      with_reducible refine HS.out.mono ?_
      rintro E w1 ⟨rfl, hb1⟩
      have HB1 := Lib.hid hb1; clear hb1 HS
      go_wp2_with fail
      with_reducible refine (HF.out w1 HB1.out).mono ?_
      rintro E w2 ⟨rfl, hb2⟩
      have HB2 : Hid (Below w.heap.size w w2) := Lib.hid (HB1.out.trans (hb2.mono HB1.out.size))
      clear hb2
      go_wp2
      rw [HP.out, HE.out]
      exact ⟨none, 0, rfl, owned_nil _ _, HB2.out⟩
end Go.Proofs.Ytbagocghlijleaa.At
