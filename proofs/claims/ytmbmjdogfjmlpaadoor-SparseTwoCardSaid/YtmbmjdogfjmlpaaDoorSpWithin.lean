/- What of the runs stands between two places. -/
import Derived.Test.YtmbmjdogfjmlpaaDoorSpRuns
import Derived.Lib.MinMax
namespace Go.Proofs.YtmbmjdogfjmlpaaDoor.Sp
set_option maxRecDepth 20000
open Go.RowKit
open Go.Proofs.YtmbmjdogfjmlpaaDoor.Mem Go.Proofs.YtmbmjdogfjmlpaaDoor.Rec Go.Proofs.YtmbmjdogfjmlpaaDoor.Reg
attribute [local go_sem ↓] ldX_eq stX_eq

theorem clip_snoc (f t : Int) (l : List Rn) (k : Nat) (hk : k < l.length) : clip f t (l.take (k + 1)) = clip f t (l.take k) ++ (match clip1 f t l[k] with | none => [] | some y => [y]) := by
  unfold clip
  rw [List.take_succ_eq_append_getElem hk, List.filterMap_append]
  congr 1
  rw [List.filterMap_cons]
  cases clip1 f t l[k] <;> rfl
theorem clip_len (f t : Int) (l : List Rn) : (clip f t l).length ≤ l.length := List.length_filterMap_le _ _
theorem run_max2 (x y z : Int) (h : z = max x y) (ts : Array TypeId) (t : TypeId) (W : World) : (Builtin.max_ ts t #[.int .i64 x, .int .i64 y]).run Tryd.prog W = .ok (.int .i64 z) W := by
  rw [Go.run_max_int2, h]
  congr 2
  split <;> omega
theorem run_min2 (x y z : Int) (h : z = min x y) (ts : Array TypeId) (t : TypeId) (W : World) : (Builtin.min_ ts t #[.int .i64 x, .int .i64 y]).run Tryd.prog W = .ok (.int .i64 z) W := by
  rw [Go.run_min_int2, h]
  congr 2
  split <;> omega
set_option maxRecDepth 100000 in
set_option maxHeartbeats 8000000 in
theorem within_any (A : Option Addr) (n c B : Nat) (l : List Rn) (f t : Int) (w : World) (h : HoldsX w B A n l) (hB : B ≤ w.heap.size) (hn : n ≤ 1048576) (hrep : ∀ x ∈ l, x.rep ∧ 0 ≤ x.a ∧ x.e ≤ 65536) :
    Calls Tryd.prog 26 #[.slice A n c, .int .i64 f, .int .i64 t] w (Runs1 w (clip f t l)) := by
  have hln := h.1
  obtain ⟨post, hpost⟩ : ∃ post, post = Runs1 w (clip f t l) := ⟨_, rfl⟩
  rw [← hpost]
  have HP := Lib.hid hpost; clear hpost
  have H := Lib.hid h; clear h
  have HLN := Lib.hid hln; clear hln
  go_enter Tryd.func26, Tryd.ntmps26
  go_wp2
  go_loopw [7, 14] (fun lv i wr => ∃ (k : Nat) (Al : Option Addr) (cl : Nat), k ≤ n ∧ i = .int .i64 (k : Int) ∧ lv = .slice Al (clip f t (l.take k)).length cl ∧ OwnX wr w.heap.size (.slice Al (clip f t (l.take k)).length cl) (clip f t (l.take k)) ∧ Below w.heap.size w wr) (fun _ i _ => n - (intOf i).toNat)
  case atStart => exact ⟨0, none, 0, Nat.zero_le _, rfl, rfl, OwnX.nil _ _, Below.refl _ _⟩
  case round =>
    obtain ⟨k, Al, cl, hk, rfl, rfl, hown, hbr⟩ := hrel
    have HO := Lib.hid hown; clear hown
    rcases Nat.lt_or_ge k n with hlt | hge
    rotate_left
    · have HBR := Lib.hid hbr; clear hbr
      have hkn : ¬ (k : Int) < (n : Int) := by omega
      have hall : l.take k = l := List.take_of_length_le (by have := HLN.out; omega)
      rw [hall] at HO ⊢
      clear hall
      obtain ⟨m, hm⟩ : ∃ m, m = clip f t l := ⟨_, rfl⟩
      rw [← hm] at HO HP ⊢
      clear hm
      obtain ⟨ml, hml⟩ : ∃ ml, ml = m.length := ⟨_, rfl⟩
      rw [← hml] at HO ⊢
      have HML := Lib.hid hml; clear hml
      go_wp2
      rw [HP.out]
      exact ⟨Al, cl, by rw [← HML.out], by rw [← HML.out]; exact HO.out, HBR.out⟩
    · obtain ⟨b, off, rfl, hbB⟩ := H.out.addr (by omega)
      have hkl : k < l.length := by have := HLN.out; omega
      obtain ⟨e, he⟩ : ∃ e, e = l[k] := ⟨_, rfl⟩
      obtain ⟨her, hea, hee2⟩ : e.rep ∧ 0 ≤ e.a ∧ e.e ≤ 65536 := by rw [he]; exact hrep _ (List.getElem_mem hkl)
      have hsn := clip_snoc f t l k hkl
      rw [← he] at hsn
      have hcl := clip_len f t (l.take k)
      rw [List.length_take, Nat.min_eq_left (by omega)] at hcl
      have hh := H.out.below (hbr.mono hB)
      have hld := run_ldX_at hh k hkl (off + k * 2) rfl
      rw [← he] at hld
      have hst := run_stX_new wr e
      have hvar : VarX (wr.alloc (.cells e.c 33)) wr.heap.size e := VarX.new wr e
      have hb1 : Below w.heap.size w (wr.alloc (.cells e.c 33)) := hbr.alloc hbr.size _
      have ho1 : OwnX (wr.alloc (.cells e.c 33)) w.heap.size (.slice Al (clip f t (l.take k)).length cl) (clip f t (l.take k)) := HO.out.below ((Below.refl _ wr).alloc (Nat.le_refl _) _)
      have hk0 : (0 : Int) ≤ (k : Int) := by omega
      have hkn : (k : Int) < (n : Int) := by omega
      have hsz1 : (wr.alloc (.cells e.c 33)).heap.size = wr.heap.size + 1 := by simp
      have hq : ∀ V, Below (wr.alloc (.cells e.c 33)).heap.size (wr.alloc (.cells e.c 33)) V → (V.cell? ⟨wr.heap.size, 0, none⟩ = some (.int .i64 e.a) ∧ V.cell? ⟨wr.heap.size, 1, none⟩ = some (.string ⟨e.t.toArray⟩)) ∧ (ldX (.pointer (some ⟨wr.heap.size, 0, none⟩))).run Tryd.prog V = .ok (.agg e.c) V := fun V hV =>
        ⟨(hvar.keep hV (by rw [hsz1]; omega)).cells, (hvar.keep hV (by rw [hsz1]; omega)).load⟩
      have hex : e.e = e.a + (e.t.length : Int) := rfl
      have hbh := fun V => behind_any e her (by omega) V
      obtain ⟨S, hS⟩ : ∃ S : ByteArray, S = ⟨e.t.toArray⟩ := ⟨_, rfl⟩
      have hSs : S.size = e.t.length := by rw [hS, text_size]
      have hclip : clip1 f t e = if max e.a f < min e.e t then some ⟨max e.a f, (e.t.drop (max e.a f - e.a).toNat).take (min e.e t - max e.a f).toNat⟩ else none := rfl
      obtain ⟨F, hF⟩ : ∃ F, F = max e.a f := ⟨_, rfl⟩
      obtain ⟨L, hL⟩ : ∃ L, L = min e.e t := ⟨_, rfl⟩
      rw [← hF, ← hL] at hclip
      have hmax := run_max2 e.a f F hF
      have hmin := run_min2 e.e t L hL
      obtain ⟨C, hC⟩ : ∃ C, C = e.c := ⟨_, rfl⟩
      rw [← hC] at hld hst hb1 ho1 hsz1 hq
      simp only [← hC] at hbh
      rw [← hS] at hq
      have HS := Lib.hid hS; clear hS
      have HQ := Lib.hid hq; clear hq
      have HBH := Lib.hid hbh; clear hbh
      have HB1 := Lib.hid hb1; clear hb1
      have HO1 := Lib.hid ho1; clear ho1
      have HSZ := Lib.hid hsz1; clear hsz1
      have HSN := Lib.hid hsn; clear hsn
      have HCL := Lib.hid hclip; clear hclip
      have HF := Lib.hid hF; clear hF
      have HL := Lib.hid hL; clear hL
      have HEX := Lib.hid hex; clear hex
      have HSS := Lib.hid hSs; clear hSs
      have HC := Lib.hid hC; clear hC
      clear hvar hh HO hbr
      obtain ⟨a, ha⟩ : ∃ a, a = e.a := ⟨_, rfl⟩
      obtain ⟨ee, hee⟩ : ∃ ee, ee = e.e := ⟨_, rfl⟩
      rw [← ha] at hea HQ HCL HF HEX hmax
      rw [← hee] at hee2 HBH HL HEX hmin
      have HA := Lib.hid ha; clear ha hee
      obtain ⟨m, hm⟩ : ∃ m, m = clip f t (l.take k) := ⟨_, rfl⟩
      rw [← hm] at HO1 HSN hcl ⊢
      clear hm
      obtain ⟨ml, hml⟩ : ∃ ml, ml = m.length := ⟨_, rfl⟩
      rw [← hml] at HO1 hcl ⊢
      have HML := Lib.hid hml; clear hml
      obtain ⟨gv, hgv⟩ : ∃ gv, gv = wr.heap.size := ⟨_, rfl⟩
      have HGV := Lib.hid hgv; clear hgv
      go_wp2
      clear hst hld
      rw [← HGV.out] at HQ HSZ ⊢
      generalize wr.alloc (.cells C 33) = W1 at HB1 HO1 HQ HSZ ⊢
      refine wp_region_E (fun V => Below W1.heap.size W1 V) 99 rfl ?_
      have hS := (show Below W1.heap.size W1 W1.drew from (Below.refl _ W1).drew)
      refine wpE_takeF 0 ⟨some 18, _, _, _, _, _⟩ (v := ?_) (by decide) rfl (by kernel_rfl) (by kernel_rfl) (by kernel_rfl) (fun _ _ _ h => h) hS (Or.inl ⟨by kernel_rfl, ?_⟩) ?_
      rotate_left
      · (intro V hSw; obtain ⟨hq0, hq1⟩ := HQ.out V hSw; go_simp; try with_reducible rfl)
      try simp only [Act.put]
      refine wpE_takeF 1 ⟨some 19, _, _, _, _, _⟩ (v := ?_) (by decide) rfl (by kernel_rfl) (by kernel_rfl) (by kernel_rfl) (fun _ _ _ h => h) hS (Or.inl ⟨by kernel_rfl, ?_⟩) ?_
      rotate_left
      · (intro V hSw; obtain ⟨hq0, hq1⟩ := HQ.out V hSw; go_simp; try with_reducible rfl)
      try simp only [Act.put]
      refine wpE_takeF 2 ⟨some 20, _, _, _, _, _⟩ (v := ?_) (by decide) rfl (by kernel_rfl) (by kernel_rfl) (by kernel_rfl) (fun _ _ _ h => h) hS (Or.inl ⟨by kernel_rfl, ?_⟩) ?_
      rotate_left
      · (intro V hSw; obtain ⟨hq0, hq1⟩ := HQ.out V hSw; go_simp; try with_reducible rfl)
      try simp only [Act.put]
      refine wpE_takeF 3 ⟨some 21, _, _, _, _, _⟩ (v := ?_) (by decide) rfl (by kernel_rfl) (by kernel_rfl) (by kernel_rfl) (fun _ _ _ h => h) hS (Or.inl ⟨by kernel_rfl, ?_⟩) ?_
      rotate_left
      · (intro V hSw; obtain ⟨hq0, hq1⟩ := HQ.out V hSw; go_simp; try with_reducible rfl)
      try simp only [Act.put]
      refine wpE_takeF 4 ⟨some 22, _, _, _, _, _⟩ (v := ?_) (by decide) rfl (by kernel_rfl) (by kernel_rfl) (by kernel_rfl) (fun _ _ _ h => h) hS (Or.inl ⟨by kernel_rfl, ?_⟩) ?_
      rotate_left
      · (intro V hSw; obtain ⟨hq0, hq1⟩ := HQ.out V hSw; go_simp; try with_reducible rfl)
      try simp only [Act.put]
      refine wpE_takeF 6 ⟨some 24, _, _, _, _, _⟩ (v := ?_) (by decide) rfl (by kernel_rfl) (by kernel_rfl) (by kernel_rfl) (fun _ _ _ h => h) hS (Or.inl ⟨by kernel_rfl, ?_⟩) ?_
      rotate_left
      · (intro V hSw; obtain ⟨hq0, hq1⟩ := HQ.out V hSw; go_simp; try with_reducible rfl)
      try simp only [Act.put]
      refine wpE_one 5 (o := ⟨some 23, _, _, _, _, _⟩) (by kernel_rfl) rfl (fun K' hK' => ?_)
      rw [if_pos (by kernel_rfl)]
      refine call_wp 31 _ _ _ _ rfl Tryd.func31 (by kernel_rfl) rfl _ ?hv _ (HBH.out _) ?_
      case hv => simp only [List.map_toArray, List.map_cons, List.map_nil]; go_simp
      rintro E V2 ⟨rfl, hb2⟩
      have hb2' : Below W1.heap.size W1 V2 := hS.trans (hb2.mono hS.size)
      refine ⟨_, rfl, hK'.out _ _ hb2' (fun hS => ?_)⟩
      clear hK' K'
      try simp only [Act.put]
      refine wpE_takeF 7 ⟨some 25, _, _, _, _, _⟩ (v := ?_) (by decide) rfl (by kernel_rfl) (by kernel_rfl) (by kernel_rfl) (fun _ _ _ h => h) hS (Or.inl ⟨by kernel_rfl, ?_⟩) ?_
      rotate_left
      · (intro V hSw; obtain ⟨hq0, hq1⟩ := HQ.out V hSw; go_simp; try with_reducible rfl)
      try simp only [Act.put]
      refine wpE_takeF 8 ⟨some 10, _, _, _, _, _⟩ (v := ?_) (by decide) rfl (by kernel_rfl) (by kernel_rfl) (by kernel_rfl) (fun _ _ _ h => h) hS (Or.inl ⟨by kernel_rfl, ?_⟩) ?_
      rotate_left
      · (intro V hSw; obtain ⟨hq0, hq1⟩ := HQ.out V hSw; go_simp; try with_reducible rfl)
      try simp only [Act.put]
      refine wpE_takeF 9 ⟨some 11, _, _, _, _, _⟩ (v := ?_) (by decide) rfl (by kernel_rfl) (by kernel_rfl) (by kernel_rfl) (fun _ _ _ h => h) hS (Or.inl ⟨by kernel_rfl, ?_⟩) ?_
      rotate_left
      · (intro V hSw; obtain ⟨hq0, hq1⟩ := HQ.out V hSw; go_simp; try with_reducible rfl)
      try simp only [Act.put]
      refine wpE_done (by kernel_rfl) ?_ _
      try simp only [List.setIfInBounds_toArray, List.set_cons_succ, List.set_cons_zero]
      obtain ⟨W2, hW2⟩ : ∃ W2, W2 = V2 := ⟨_, rfl⟩
      rw [← hW2] at hS ⊢
      obtain ⟨⟨q0, q1⟩, q2⟩ := HQ.out W2 hS
      have HB2 : Hid (Below w.heap.size w W2) := Lib.hid (HB1.out.trans (hS.mono HB1.out.size))
      have HO2 := Lib.hid (HO1.out.below hS)
      clear hb2 hb2' hW2 hS
      rcases Int.lt_or_le F L with hFL | hFL
      · have hA1 : Hid (clip1 f t e = some ⟨F, (e.t.drop (F - a).toNat).take (L - F).toNat⟩) := Lib.hid (by rw [HCL.out, if_pos hFL])
        have hFa : a ≤ F := by have := HF.out; omega
        have hLe : L ≤ ee := by have := HL.out; omega
        obtain ⟨fA, hfA⟩ : ∃ fA : Nat, F - a = (fA : Int) := ⟨(F - a).toNat, by omega⟩
        obtain ⟨lA, hlA⟩ : ∃ lA : Nat, L - a = (lA : Int) := ⟨(L - a).toNat, by omega⟩
        have hle1 : (fA : Int) ≤ (lA : Int) := by omega
        have hle2 : (lA : Int) ≤ (S.size : Int) := by rw [HSS.out]; have := HEX.out; omega
        have hfb : (fA : Int) ≤ 65536 := by omega
        have hlb : (lA : Int) ≤ 65536 := by omega
        obtain ⟨x, hx⟩ : ∃ x : Rn, x = ⟨F, (e.t.drop (F - a).toNat).take (L - F).toNat⟩ := ⟨_, rfl⟩
        rw [← hx] at hA1
        have hxa : x.a = F := by rw [hx]
        have hxt : (⟨x.t.toArray⟩ : ByteArray) = S.extract fA lA := by
          rw [hx, HS.out]
          apply ByteArray.ext
          apply Array.ext'
          rw [Lib.extract_data]
          dsimp only
          rw [show (F - a).toNat = fA by omega, show (L - F).toNat = lA - fA by omega]
        have hnx : clip f t (l.take (k + 1)) = m ++ [x] := by rw [HSN.out, hA1.out]
        have HO2' : OwnX W2 w.heap.size (.slice Al m.length cl) m := by rw [← HML.out]; exact HO2.out
        obtain ⟨v', W5, hrun, hown5, hgr⟩ := run_appX W2 w.heap.size _ _ HO2' x 22 (by rw [← HML.out]; omega) HB2.out.size
        rw [hxt, hxa] at hrun
        obtain ⟨A5, c5, rfl⟩ := hown5.shape
        have hb5 : Below w.heap.size w W5 := HB2.out.trans (hgr.below HB2.out.size (fun q hq => (HO2'.lt q hq).1))
        rw [List.length_append, List.length_singleton, ← HML.out] at hown5 hrun
        have HB5 := Lib.hid hb5; clear hb5
        have HO5 := Lib.hid hown5; clear hown5 hgr HO2'
        have HNX := Lib.hid hnx; clear hnx hxa hxt hx
        have hml2 : (ml : Int) + 1 ≤ 1048577 := by omega
        go_wp2_with (at_builtin; refine wpList_apprun rfl _ _ _ _ (by rfl) _ _ (by rfl) (by rfl) _ _ hrun ?_)
        go_wp2
        go_roundw
        case rel => exact ⟨k + 1, A5, c5, by omega, by go_num, by rw [HNX.out, List.length_append, List.length_singleton, ← HML.out], by rw [HNX.out, List.length_append, List.length_singleton, ← HML.out]; exact HO5.out, HB5.out⟩
        case measure => simp [intOf]; omega
      · have hFL' : ¬ F < L := by omega
        have hnx : clip f t (l.take (k + 1)) = m := by rw [HSN.out, HCL.out, if_neg hFL', List.append_nil]
        have HNX := Lib.hid hnx; clear hnx
        go_wp2
        go_roundw
        case rel => exact ⟨k + 1, Al, cl, by omega, by go_num, by rw [HNX.out, ← HML.out], by rw [HNX.out, ← HML.out]; exact HO2.out, HB2.out⟩
        case measure => simp [intOf]; omega
end Go.Proofs.YtmbmjdogfjmlpaaDoor.Sp
