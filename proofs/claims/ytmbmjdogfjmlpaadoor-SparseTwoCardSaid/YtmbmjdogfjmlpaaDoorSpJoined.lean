/- Runs of parts that stand one behind the other. -/
import Derived.Test.YtmbmjdogfjmlpaaDoorSpWithin
namespace Go.Proofs.YtmbmjdogfjmlpaaDoor.Sp
set_option maxRecDepth 20000
open Go.RowKit
open Go.Proofs.YtmbmjdogfjmlpaaDoor.Mem Go.Proofs.YtmbmjdogfjmlpaaDoor.Rec Go.Proofs.YtmbmjdogfjmlpaaDoor.Reg
attribute [local go_sem ↓] ldX_eq stX_eq

/-- Lists of runs, one behind the other in a slice. -/
def HoldsP (w : World) (B : Nat) (A : Option Addr) (n : Nat) (ps : List (List Rn)) : Prop :=
  ps.length = n ∧ (0 < n → ∃ b off, A = some ⟨b, off, none⟩ ∧ b < B ∧ ∀ k, (h : k < ps.length) → ∃ A' c', w.cell? ⟨b, off + k, none⟩ = some (.slice A' (ps[k]).length c') ∧ HoldsX w B A' (ps[k]).length ps[k])
theorem HoldsP.below {w w' : World} {B : Nat} {A : Option Addr} {n : Nat} {ps : List (List Rn)} (h : HoldsP w B A n ps) (hb : Below B w w') : HoldsP w' B A n ps :=
  ⟨h.1, fun hn => by
    obtain ⟨b, off, e, hl, hc⟩ := h.2 hn
    refine ⟨b, off, e, hl, fun k hk => ?_⟩
    obtain ⟨A', c', h1, h2⟩ := hc k hk
    exact ⟨A', c', (hb.cell (p := ⟨b, off + k, none⟩) hl).trans h1, h2.below hb⟩⟩
theorem HoldsP.addr {w : World} {B n : Nat} {A : Option Addr} {ps : List (List Rn)} (h : HoldsP w B A n ps) (h0 : 0 < n) : ∃ b off, A = some ⟨b, off, none⟩ ∧ b < B := by
  obtain ⟨b, off, e, hl, _⟩ := h.2 h0
  exact ⟨b, off, e, hl⟩
theorem HoldsP.at {w : World} {B b off n : Nat} {ps : List (List Rn)} (h : HoldsP w B (some ⟨b, off, none⟩) n ps) (k : Nat) (hk : k < ps.length) :
    ∃ A' c', w.cell? ⟨b, off + k, none⟩ = some (.slice A' (ps[k]).length c') ∧ HoldsX w B A' (ps[k]).length ps[k] := by
  obtain ⟨b', off', e, _, hc⟩ := h.2 (by rw [← h.1]; omega)
  injection e with e
  injection e with e1 e2
  subst e1 e2
  exact hc k hk
def okE (x : Rn) : Prop := x.rep ∧ 0 ≤ x.a ∧ x.e ≤ 65536
theorem okE_of {x : Rn} (h0 : 0 ≤ x.a) (he : x.e ≤ 65536) : okE x := by
  have hxe : x.e = x.a + (x.t.length : Int) := rfl
  exact ⟨⟨by omega, by unfold maxLen; omega⟩, h0, he⟩
theorem okE_right {l : List Rn} {f : Int} (hf : 0 ≤ f) (h : chk f l = true) : ∀ x ∈ l, okE x := fun x hx => by
  have := okR_iff.1 (chk_mem h x hx)
  exact okE_of (by omega) this.2.1
theorem app1_len : ∀ (l : List Rn) (x : Rn), (app1 l x).length ≤ l.length + 1
  | [], x => by simp [app1]
  | [y], x => by
    show (if y.e = x.a then [⟨y.a, y.t ++ x.t⟩] else [y, x]).length ≤ _
    split <;> simp
  | y :: z :: l, x => by
    show (y :: app1 (z :: l) x).length ≤ _
    have := app1_len (z :: l) x
    simp only [List.length_cons] at this ⊢
    omega
theorem app1_okE : ∀ {l : List Rn} {x : Rn}, (∀ y ∈ l, okE y) → okE x → ∀ y ∈ app1 l x, okE y
  | [], x, _, hx, y, hy => by
    have : y = x := by simpa [app1] using hy
    rw [this]; exact hx
  | [z], x, hl, hx, y, hy => by
    have hy' : y ∈ (if z.e = x.a then [⟨z.a, z.t ++ x.t⟩] else [z, x]) := hy
    have hz := hl z (by simp)
    split at hy'
    · rename_i he
      have : y = ⟨z.a, z.t ++ x.t⟩ := by simpa using hy'
      rw [this]
      refine okE_of hz.2.1 ?_
      have h1 := hx.2.2
      unfold Rn.e at he h1 ⊢
      dsimp only
      rw [List.length_append]
      omega
    · rcases List.mem_cons.1 hy' with rfl | hy'
      · exact hz
      · have : y = x := by simpa using hy'
        rw [this]; exact hx
  | z :: u :: l, x, hl, hx, y, hy => by
    have hy' : y ∈ z :: app1 (u :: l) x := hy
    rcases List.mem_cons.1 hy' with rfl | hy'
    · exact hl y (by simp)
    · exact app1_okE (fun q hq => hl q (List.mem_cons_of_mem _ hq)) hx y hy'
/-- The bytes of one run of one's own, made others. -/
theorem ownX_data {w : World} {base g n c : Nat} {l : List Rn} {y : Rn} (h : OwnX w base (.slice (some ⟨g, 0, none⟩) n c) (l ++ [y])) (t : List UInt8) :
    OwnX (w.setCell ⟨g, l.length * 2 + 1, none⟩ (.string ⟨t.toArray⟩)) base (.slice (some ⟨g, 0, none⟩) n c) (l ++ [⟨y.a, t⟩]) ∧ w.grownBy (w.setCell ⟨g, l.length * 2 + 1, none⟩ (.string ⟨t.toArray⟩)) (some g) := by
  have hn := h.fits.1
  have hl : (l ++ [y]).length = l.length + 1 := by simp
  have hl2 : (l ++ [⟨y.a, t⟩] : List Rn).length = l.length + 1 := by simp
  rw [hl] at hn
  subst hn
  unfold OwnX at h ⊢
  rw [hl] at h
  rw [hl2]
  obtain ⟨h1, h2⟩ := World.ownsRow.stored h (l.length * 2 + 1) (.string ⟨t.toArray⟩)
  refine ⟨?_, h2⟩
  have e : (cellsX (l ++ [y])).set (l.length * 2 + 1) (.string ⟨t.toArray⟩) = cellsX (l ++ [⟨y.a, t⟩]) := by
    rw [cellsX_append, cellsX_append, List.set_append_right _ _ (by rw [cellsX_len]; omega), cellsX_len, show l.length * 2 + 1 - l.length * 2 = 1 by omega]
    rfl
  rw [← e]
  exact h1
set_option maxRecDepth 100000 in
set_option maxHeartbeats 16000000 in
theorem joined_any (A : Option Addr) (n c B : Nat) (ps : List (List Rn)) (w : World) (h : HoldsP w B A n ps) (hB : B ≤ w.heap.size) (hn : n ≤ 8) (hok : ∀ p ∈ ps, p.length ≤ 100000 ∧ ∀ x ∈ p, okE x) :
    Calls Tryd.prog 25 #[.slice A n c] w (Runs1 w (joinP ps)) := by
  have hln := h.1
  obtain ⟨post, hpost⟩ : ∃ post, post = Runs1 w (joinP ps) := ⟨_, rfl⟩
  rw [← hpost]
  have HP := Lib.hid hpost; clear hpost
  have H := Lib.hid h; clear h
  have HLN := Lib.hid hln; clear hln
  go_enter Tryd.func25, Tryd.ntmps25
  go_wp2
  go_loopw [3, 11] (fun lv i wr => ∃ (k : Nat) (Al : Option Addr) (cl ml : Nat) (L : List Rn), k ≤ n ∧ i = .int .i64 (k : Int) ∧ lv = .slice Al ml cl ∧ ml = L.length ∧ L = (ps.take k).flatten.foldl app1 [] ∧ L.length ≤ k * 100000 ∧ (∀ x ∈ L, okE x) ∧ OwnX wr w.heap.size (.slice Al ml cl) L ∧ Below w.heap.size w wr) (fun _ i _ => n - (intOf i).toNat)
  case atStart =>
    have hz0 : ([] : List Rn).length ≤ 0 * 100000 := by simp only [List.length_nil]; omega
    exact ⟨0, none, 0, 0, [], Nat.zero_le _, rfl, rfl, rfl, rfl, hz0, fun x hx => (by cases hx), OwnX.nil _ _, Below.refl _ _⟩
  case round =>
    obtain ⟨k, Al, cl, ml, L, hk, rfl, rfl, hml, hLL, hLn, hLok, hown, hbr⟩ := hrel
    have HO := Lib.hid hown; clear hown
    have HML := Lib.hid hml; clear hml
    have HLL := Lib.hid hLL; clear hLL
    have HLN2 := Lib.hid hLn; clear hLn
    have HLOK := Lib.hid hLok; clear hLok
    rcases Nat.lt_or_ge k n with hlt | hge
    rotate_left
    · have HBR := Lib.hid hbr; clear hbr
      have hkn : ¬ (k : Int) < (n : Int) := by omega
      have hall : joinP ps = L := by rw [HLL.out, List.take_of_length_le (by have := HLN.out; omega)]; rfl
      rw [hall] at HP
      clear hall
      go_wp2
      rw [HP.out]
      exact ⟨Al, cl, by rw [← HML.out], by rw [← HML.out]; exact HO.out, HBR.out⟩
    · obtain ⟨b, off, rfl, hbB⟩ := H.out.addr (by omega)
      have hkl : k < ps.length := by have := HLN.out; omega
      obtain ⟨p, hp⟩ : ∃ p, p = ps[k] := ⟨_, rfl⟩
      have hpm : p ∈ ps := by rw [hp]; exact List.getElem_mem hkl
      obtain ⟨hpl, hpok⟩ := hok p hpm
      obtain ⟨Ap, cp, hcell, hhp⟩ := (H.out.below (hbr.mono hB)).at k hkl
      rw [← hp] at hcell hhp
      have hk0 : (0 : Int) ≤ (k : Int) := by omega
      have hkn : (k : Int) < (n : Int) := by omega
      have hnext : (ps.take (k + 1)).flatten.foldl app1 [] = p.foldl app1 L := by
        rw [List.take_succ_eq_append_getElem hkl, ← hp, List.flatten_append, List.foldl_append, ← HLL.out]
        simp
      have HNEXT := Lib.hid hnext; clear hnext
      have hbw : B ≤ wr.heap.size := Nat.le_trans hB hbr.size
      have HHP := Lib.hid hhp; clear hhp
      have HPOK := Lib.hid hpok; clear hpok
      have HBR := Lib.hid hbr; clear hbr
      obtain ⟨pl, hpl0⟩ : ∃ pl, pl = p.length := ⟨_, rfl⟩
      rw [← hpl0] at hcell hpl HHP
      have HPL := Lib.hid hpl0; clear hpl0 hpm hp
      clear HLL
      go_wp2
      clear hcell
      go_loopw [3, 17] (fun lv i wi => ∃ (j : Nat) (Aj : Option Addr) (cj mj : Nat) (M : List Rn), j ≤ pl ∧ i = .int .i64 (j : Int) ∧ lv = .slice Aj mj cj ∧ mj = M.length ∧ M = (p.take j).foldl app1 L ∧ M.length ≤ k * 100000 + j ∧ (∀ x ∈ M, okE x) ∧ OwnX wi w.heap.size (.slice Aj mj cj) M ∧ Below w.heap.size w wi ∧ HoldsX wi B Ap pl p) (fun _ i _ => pl - (intOf i).toNat)
      case atStart => exact ⟨0, Al, cl, ml, L, Nat.zero_le _, rfl, rfl, HML.out, rfl, Nat.le_add_right_of_le HLN2.out, HLOK.out, HO.out, HBR.out, HHP.out⟩
      case round =>
        obtain ⟨j, Aj, cj, mj, M, hj, rfl, rfl, hmj, hMM, hMn, hMok, hownj, hbi, hhi⟩ := hrel
        have HOJ := Lib.hid hownj; clear hownj
        have HMJ := Lib.hid hmj; clear hmj
        have HMM := Lib.hid hMM; clear hMM
        have HMN := Lib.hid hMn; clear hMn
        have HMOK := Lib.hid hMok; clear hMok
        rcases Nat.lt_or_ge j pl with hjl | hjge
        rotate_left
        · have HBI := Lib.hid hbi; clear hbi hhi
          have hjn : ¬ (j : Int) < (pl : Int) := by omega
          have hall : M = p.foldl app1 L := by rw [HMM.out, List.take_of_length_le (by rw [← HPL.out]; omega)]
          have HALL := Lib.hid hall; clear hall
          go_wp2
          go_roundw
          case rel => exact ⟨k + 1, Aj, cj, mj, M, by omega, by go_num, rfl, HMJ.out, by rw [HNEXT.out]; exact HALL.out, by have := HMN.out; omega, HMOK.out, HOJ.out, HBI.out⟩
          case measure => simp [intOf]; omega
        · obtain ⟨b2, off2, rfl, hbB2⟩ := hhi.addr (by omega)
          have hjp : j < p.length := by rw [← HPL.out]; exact hjl
          obtain ⟨e, he⟩ : ∃ e, e = p[j] := ⟨_, rfl⟩
          have heo : okE e := HPOK.out e (by rw [he]; exact List.getElem_mem hjp)
          have hld := run_ldX_at hhi j hjp (off2 + j * 2) rfl
          rw [← he] at hld
          have hst := run_stX_new wr e
          have hvar : VarX (wr.alloc (.cells e.c 33)) wr.heap.size e := VarX.new wr e
          have hb1 : Below w.heap.size w (wr.alloc (.cells e.c 33)) := hbi.alloc hbi.size _
          have ho1 : OwnX (wr.alloc (.cells e.c 33)) w.heap.size (.slice Aj mj cj) M := HOJ.out.below ((Below.refl _ wr).alloc (Nat.le_refl _) _)
          have hh1 : HoldsX (wr.alloc (.cells e.c 33)) B (some ⟨b2, off2, none⟩) pl p := hhi.below (((Below.refl _ wr).alloc (Nat.le_refl _) _).mono (Nat.le_trans hB hbi.size))
          have hj0 : (0 : Int) ≤ (j : Int) := by omega
          have hjn : (j : Int) < (pl : Int) := by omega
          have hsz1 : (wr.alloc (.cells e.c 33)).heap.size = wr.heap.size + 1 := by simp
          have hq : ∀ V, Below (wr.alloc (.cells e.c 33)).heap.size (wr.alloc (.cells e.c 33)) V → (V.cell? ⟨wr.heap.size, 0, none⟩ = some (.int .i64 e.a) ∧ V.cell? ⟨wr.heap.size, 1, none⟩ = some (.string ⟨e.t.toArray⟩)) ∧ (ldX (.pointer (some ⟨wr.heap.size, 0, none⟩))).run Tryd.prog V = .ok (.agg e.c) V := fun V hV =>
            ⟨(hvar.keep hV (by rw [hsz1]; omega)).cells, (hvar.keep hV (by rw [hsz1]; omega)).load⟩
          have hnx : (p.take (j + 1)).foldl app1 L = app1 M e := by
            rw [List.take_succ_eq_append_getElem hjp, ← he, List.foldl_append, ← HMM.out]
            rfl
          have HNX := Lib.hid hnx; clear hnx HMM
          have hnok := app1_okE HMOK.out heo
          have hnlen := app1_len M e
          have hnlen2 : (app1 M e).length ≤ k * 100000 + (j + 1) := by have := HMN.out; omega
          have HNOK := Lib.hid hnok; clear hnok
          have HNLEN := Lib.hid hnlen2; clear hnlen hnlen2
          have hml1 : M.length + 1 ≤ 4398046511104 := by have := HMN.out; omega
          obtain ⟨S, hSd⟩ : ∃ S : ByteArray, S = ⟨e.t.toArray⟩ := ⟨_, rfl⟩
          rw [← hSd] at hq
          obtain ⟨a, ha⟩ : ∃ a, a = e.a := ⟨_, rfl⟩
          rw [← ha] at hq
          obtain ⟨C, hC⟩ : ∃ C, C = e.c := ⟨_, rfl⟩
          rw [← hC] at hld hst hb1 ho1 hh1 hsz1 hq
          have hC2 : C = #[.int .i64 a, .string S] := by rw [hC, ha, hSd]; rfl
          have HA : Hid (e.a = a) := Lib.hid ha.symm
          have HT : Hid ((⟨e.t.toArray⟩ : ByteArray) = S) := Lib.hid hSd.symm
          have HC2 := Lib.hid hC2; clear hC2
          have HB1 := Lib.hid hb1; clear hb1
          have HO1 := Lib.hid ho1; clear ho1
          have HH1 := Lib.hid hh1; clear hh1
          have HSZ := Lib.hid hsz1; clear hsz1
          have HGR : Hid (w.heap.size ≤ wr.heap.size) := Lib.hid hbi.size
          have HBW : Hid (B ≤ wr.heap.size) := Lib.hid (Nat.le_trans hB hbi.size)
          have HSZ2 : Hid (S.size ≤ 65536) := Lib.hid (by rw [hSd, text_size]; have h1 := heo.2.1; have h2 := heo.2.2; unfold Rn.e at h2; omega)
          clear hvar HOJ hbi hhi hC ha he hjp hSd
          obtain ⟨gv, hgv⟩ : ∃ gv, gv = wr.heap.size := ⟨_, rfl⟩
          rw [← hgv] at hq HSZ
          have HGV := Lib.hid hgv; clear hgv
          have HQ := Lib.hid hq; clear hq
          rcases List.eq_nil_or_concat M with hM | ⟨M0, y, hM⟩
          · have hmz : mj = 0 := by rw [HMJ.out, hM]; rfl
            subst hmz
            subst hM
            go_wp2
            clear hst hld
            rw [← HGV.out]
            generalize wr.alloc (.cells C 33) = W1 at HB1 HO1 HH1 HQ HSZ ⊢
            refine wp_region_E (fun V => Below W1.heap.size W1 V) 99 rfl ?_
            have hS := (show Below W1.heap.size W1 W1.drew from (Below.refl _ W1).drew)
            refine wpE_takeF 0 ⟨some 24, _, _, _, _, _⟩ (v := ?_) (by decide) rfl (by kernel_rfl) (by kernel_rfl) (by kernel_rfl) (fun _ _ _ h => h) hS (Or.inl ⟨by kernel_rfl, ?_⟩) ?_
            rotate_left
            · (intro V hSw; obtain ⟨⟨hq0, hq1⟩, hq2⟩ := HQ.out V hSw; go_simp; try with_reducible rfl)
            try simp only [Act.put]
            refine wpE_takeF 1 ⟨some 25, _, _, _, _, _⟩ (v := ?_) (by decide) rfl (by kernel_rfl) (by kernel_rfl) (by kernel_rfl) (fun _ _ _ h => h) hS (Or.inl ⟨by kernel_rfl, ?_⟩) ?_
            rotate_left
            · (intro V hSw; obtain ⟨⟨hq0, hq1⟩, hq2⟩ := HQ.out V hSw; go_simp; try with_reducible rfl)
            try simp only [Act.put]
            refine wpE_takeF 2 ⟨some 26, _, _, _, _, _⟩ (v := ?_) (by decide) rfl (by kernel_rfl) (by kernel_rfl) (by kernel_rfl) (fun _ _ _ h => h) hS (Or.inl ⟨by kernel_rfl, ?_⟩) ?_
            rotate_left
            · (intro V hSw; obtain ⟨⟨hq0, hq1⟩, hq2⟩ := HQ.out V hSw; go_simp; try with_reducible rfl)
            try simp only [Act.put]
            refine wpE_takeF 3 ⟨some 27, _, _, _, _, _⟩ (v := undef) (by decide) rfl (by kernel_rfl) (by kernel_rfl) (by kernel_rfl) (fun _ _ _ h => h) hS (Or.inr ⟨by kernel_rfl, rfl⟩) ?_
            try simp only [Act.put]
            refine wpE_takeF 4 ⟨some 28, _, _, _, _, _⟩ (v := undef) (by decide) rfl (by kernel_rfl) (by kernel_rfl) (by kernel_rfl) (fun _ _ _ h => h) hS (Or.inr ⟨by kernel_rfl, rfl⟩) ?_
            try simp only [Act.put]
            refine wpE_takeF 5 ⟨some 29, _, _, _, _, _⟩ (v := undef) (by decide) rfl (by kernel_rfl) (by kernel_rfl) (by kernel_rfl) (fun _ _ _ h => h) hS (Or.inr ⟨by kernel_rfl, rfl⟩) ?_
            try simp only [Act.put]
            refine wpE_takeF 6 ⟨some 30, _, _, _, _, _⟩ (v := undef) (by decide) rfl (by kernel_rfl) (by kernel_rfl) (by kernel_rfl) (fun _ _ _ h => h) hS (Or.inr ⟨by kernel_rfl, rfl⟩) ?_
            try simp only [Act.put]
            refine wpE_takeF 7 ⟨some 31, _, _, _, _, _⟩ (v := undef) (by decide) rfl (by kernel_rfl) (by kernel_rfl) (by kernel_rfl) (fun _ _ _ h => h) hS (Or.inr ⟨by kernel_rfl, rfl⟩) ?_
            try simp only [Act.put]
            refine wpE_takeF 8 ⟨some 32, _, _, _, _, _⟩ (v := undef) (by decide) rfl (by kernel_rfl) (by kernel_rfl) (by kernel_rfl) (fun _ _ _ h => h) hS (Or.inr ⟨by kernel_rfl, rfl⟩) ?_
            try simp only [Act.put]
            refine wpE_takeF 9 ⟨some 33, _, _, _, _, _⟩ (v := undef) (by decide) rfl (by kernel_rfl) (by kernel_rfl) (by kernel_rfl) (fun _ _ _ h => h) hS (Or.inr ⟨by kernel_rfl, rfl⟩) ?_
            try simp only [Act.put]
            refine wpE_takeF 10 ⟨some 34, _, _, _, _, _⟩ (v := undef) (by decide) rfl (by kernel_rfl) (by kernel_rfl) (by kernel_rfl) (fun _ _ _ h => h) hS (Or.inr ⟨by kernel_rfl, rfl⟩) ?_
            try simp only [Act.put]
            refine wpE_takeF 11 ⟨some 35, _, _, _, _, _⟩ (v := ?_) (by decide) rfl (by kernel_rfl) (by kernel_rfl) (by kernel_rfl) (fun _ _ _ h => h) hS (Or.inl ⟨by kernel_rfl, ?_⟩) ?_
            rotate_left
            · (intro V hSw; obtain ⟨⟨hq0, hq1⟩, hq2⟩ := HQ.out V hSw; go_simp; try with_reducible rfl)
            try simp only [Act.put]
            refine wpE_done (by kernel_rfl) ?_ _
            try simp only [List.setIfInBounds_toArray, List.set_cons_succ, List.set_cons_zero]
            obtain ⟨W2, hW2⟩ : ∃ W2, W2 = W1.drew := ⟨_, rfl⟩
            rw [← hW2] at hS ⊢
            obtain ⟨⟨q0, q1⟩, q2⟩ := HQ.out W2 hS
            rw [HC2.out] at q2
            have HB2 : Hid (Below w.heap.size w W2) := Lib.hid (HB1.out.trans (hS.mono HB1.out.size))
            have HO2 := Lib.hid (HO1.out.below hS)
            have HH2 := Lib.hid (HH1.out.below (hS.mono (by rw [HSZ.out, HGV.out]; have := HBW.out; omega)))
            clear hW2 hS
            have hnx2 : app1 ([] : List Rn) e = [] ++ [e] := rfl
            rw [hnx2] at HNX HNOK HNLEN
            clear hnx2
            obtain ⟨v', W5, hrun, hown5, hgr⟩ := run_appX W2 w.heap.size _ _ HO2.out e 22 (by omega) HB2.out.size
            rw [HT.out, HA.out] at hrun
            obtain ⟨A5, c5, rfl⟩ := hown5.shape
            have hb5 : Below w.heap.size w W5 := HB2.out.trans (hgr.below HB2.out.size (fun q hq => (HO2.out.lt q hq).1))
            rw [List.length_append, List.length_singleton] at hown5 hrun
            have HH5 := Lib.hid (HH2.out.below ((hgr.below HB2.out.size (fun q hq => (HO2.out.lt q hq).1)).mono hB))
            have HB5 := Lib.hid hb5; clear hb5
            have HO5 := Lib.hid hown5; clear hown5 hgr
            go_wp2_with (at_builtin; refine wpList_apprun rfl _ _ _ _ (by rfl) _ _ (by rfl) (by rfl) _ _ hrun ?_)
            go_wp2
            go_roundw
            case rel => exact ⟨j + 1, A5, c5, _, _, by omega, by go_num, rfl, by simp, HNX.out.symm, HNLEN.out, HNOK.out, HO5.out, HB5.out, HH5.out⟩
            case measure => simp [intOf]; omega
          · obtain ⟨j0, hj0d⟩ : ∃ j0, j0 = M0.length := ⟨_, rfl⟩
            have hM' : M = M0 ++ [y] := by rw [hM]; simp
            have hmz : mj = j0 + 1 := by rw [HMJ.out, hM', hj0d]; simp
            subst hM'
            clear hM
            obtain ⟨g, rfl, hg1, hg2, hg3⟩ := HO1.out.form (by omega)
            have hyo : okE y := HMOK.out y (by simp)
            have hby := fun V => behind_any y hyo.1 (by have := hyo.2.2; omega) V
            have hlasty : ∀ V, Below (wr.alloc (.cells C 33)).heap.size (wr.alloc (.cells C 33)) V → (ldX (.pointer (some ⟨g, j0 * 2, none⟩))).run Tryd.prog V = .ok (.agg y.c) V ∧ V.cell? ⟨g, j0 * 2 + 1, none⟩ = some (.string ⟨y.t.toArray⟩) := fun V hV => by
              have hr := (HO1.out.below hV).reads
              have hjj : j0 < (M0 ++ [y]).length := by rw [hj0d]; simp
              have h1 := run_ldX_at hr j0 hjj (0 + j0 * 2) rfl
              have h2 := (hr.cell j0 hjj).2
              have hy : (M0 ++ [y])[j0] = y := by simp [hj0d]
              rw [hy, Nat.zero_add] at h1 h2
              exact ⟨h1, h2⟩
            have hq2 : ∀ V, Below (wr.alloc (.cells C 33)).heap.size (wr.alloc (.cells C 33)) V → _ := fun V hV => And.intro (HQ.out V hV) (hlasty V hV)
            clear HQ hlasty
            have hsn := app1_snoc M0 y e
            obtain ⟨Y, hY⟩ : ∃ Y, Y = y.c := ⟨_, rfl⟩
            obtain ⟨TY, hTY⟩ : ∃ TY : ByteArray, TY = ⟨y.t.toArray⟩ := ⟨_, rfl⟩
            obtain ⟨ye, hye⟩ : ∃ ye, ye = y.e := ⟨_, rfl⟩
            simp only [← hY, ← hTY] at hq2
            simp only [← hY, ← hye] at hby
            rw [← hye, HA.out] at hsn
            have HQ := Lib.hid hq2; clear hq2
            have HBY := Lib.hid hby; clear hby
            have HTY := Lib.hid hTY; clear hTY hY hye
            have hlast : (mj : Int) - 1 = (j0 : Int) := by omega
            have hj00 : (0 : Int) ≤ (j0 : Int) := by omega
            have hjm : (j0 : Int) < (mj : Int) := by omega
            have hmb : (mj : Int) ≤ 1000000 := by have := HMJ.out; have := HMN.out; omega
            have HMZ := Lib.hid hmz; clear hmz
            have HJD := Lib.hid hj0d; clear hj0d
            have HG : Hid (w.heap.size ≤ g ∧ g < (wr.alloc (.cells C 33)).heap.size) := Lib.hid ⟨hg1, hg2⟩
            clear hg1 hg2 hg3
            rcases Decidable.em (ye = a) with hea | hea
            · have heq : (ye == a) = true := beq_iff_eq.2 hea
              rw [if_pos hea] at hsn
              have HSN := Lib.hid hsn; clear hsn
              have HEA := Lib.hid hea; clear hea
              go_wp2
              clear hst hld
              rw [← HGV.out]
              generalize wr.alloc (.cells C 33) = W1 at HB1 HO1 HH1 HQ HSZ HG ⊢
              refine wp_region_E (fun V => Below W1.heap.size W1 V) 99 rfl ?_
              have hS := (show Below W1.heap.size W1 W1.drew from (Below.refl _ W1).drew)
              refine wpE_takeF 0 ⟨some 24, _, _, _, _, _⟩ (v := ?_) (by decide) rfl (by kernel_rfl) (by kernel_rfl) (by kernel_rfl) (fun _ _ _ h => h) hS (Or.inl ⟨by kernel_rfl, ?_⟩) ?_
              rotate_left
              · (intro V hSw; obtain ⟨⟨⟨hq0, hq1⟩, hq2⟩, hq3, hq4⟩ := HQ.out V hSw; go_simp; try with_reducible rfl)
              try simp only [Act.put]
              refine wpE_takeF 1 ⟨some 25, _, _, _, _, _⟩ (v := ?_) (by decide) rfl (by kernel_rfl) (by kernel_rfl) (by kernel_rfl) (fun _ _ _ h => h) hS (Or.inl ⟨by kernel_rfl, ?_⟩) ?_
              rotate_left
              · (intro V hSw; obtain ⟨⟨⟨hq0, hq1⟩, hq2⟩, hq3, hq4⟩ := HQ.out V hSw; go_simp; try with_reducible rfl)
              try simp only [Act.put]
              refine wpE_takeF 2 ⟨some 26, _, _, _, _, _⟩ (v := ?_) (by decide) rfl (by kernel_rfl) (by kernel_rfl) (by kernel_rfl) (fun _ _ _ h => h) hS (Or.inl ⟨by kernel_rfl, ?_⟩) ?_
              rotate_left
              · (intro V hSw; obtain ⟨⟨⟨hq0, hq1⟩, hq2⟩, hq3, hq4⟩ := HQ.out V hSw; go_simp; try with_reducible rfl)
              try simp only [Act.put]
              refine wpE_takeF 3 ⟨some 27, _, _, _, _, _⟩ (v := ?_) (by decide) rfl (by kernel_rfl) (by kernel_rfl) (by kernel_rfl) (fun _ _ _ h => h) hS (Or.inl ⟨by kernel_rfl, ?_⟩) ?_
              rotate_left
              · (intro V hSw; obtain ⟨⟨⟨hq0, hq1⟩, hq2⟩, hq3, hq4⟩ := HQ.out V hSw; go_simp; try with_reducible rfl)
              try simp only [Act.put]
              refine wpE_takeF 4 ⟨some 28, _, _, _, _, _⟩ (v := ?_) (by decide) rfl (by kernel_rfl) (by kernel_rfl) (by kernel_rfl) (fun _ _ _ h => h) hS (Or.inl ⟨by kernel_rfl, ?_⟩) ?_
              rotate_left
              · (intro V hSw; obtain ⟨⟨⟨hq0, hq1⟩, hq2⟩, hq3, hq4⟩ := HQ.out V hSw; go_simp; try with_reducible rfl)
              try simp only [Act.put]
              refine wpE_takeF 5 ⟨some 29, _, _, _, _, _⟩ (v := ?_) (by decide) rfl (by kernel_rfl) (by kernel_rfl) (by kernel_rfl) (fun _ _ _ h => h) hS (Or.inl ⟨by kernel_rfl, ?_⟩) ?_
              rotate_left
              · (intro V hSw; obtain ⟨⟨⟨hq0, hq1⟩, hq2⟩, hq3, hq4⟩ := HQ.out V hSw; go_simp; try with_reducible rfl)
              try simp only [Act.put]
              refine wpE_takeF 6 ⟨some 30, _, _, _, _, _⟩ (v := ?_) (by decide) rfl (by kernel_rfl) (by kernel_rfl) (by kernel_rfl) (fun _ _ _ h => h) hS (Or.inl ⟨by kernel_rfl, ?_⟩) ?_
              rotate_left
              · (intro V hSw; obtain ⟨⟨⟨hq0, hq1⟩, hq2⟩, hq3, hq4⟩ := HQ.out V hSw; go_simp; try with_reducible rfl)
              try simp only [Act.put]
              refine wpE_takeF 8 ⟨some 32, _, _, _, _, _⟩ (v := ?_) (by decide) rfl (by kernel_rfl) (by kernel_rfl) (by kernel_rfl) (fun _ _ _ h => h) hS (Or.inl ⟨by kernel_rfl, ?_⟩) ?_
              rotate_left
              · (intro V hSw; obtain ⟨⟨⟨hq0, hq1⟩, hq2⟩, hq3, hq4⟩ := HQ.out V hSw; go_simp; try with_reducible rfl)
              try simp only [Act.put]
              refine wpE_takeF 9 ⟨some 33, _, _, _, _, _⟩ (v := ?_) (by decide) rfl (by kernel_rfl) (by kernel_rfl) (by kernel_rfl) (fun _ _ _ h => h) hS (Or.inl ⟨by kernel_rfl, ?_⟩) ?_
              rotate_left
              · (intro V hSw; obtain ⟨⟨⟨hq0, hq1⟩, hq2⟩, hq3, hq4⟩ := HQ.out V hSw; go_simp; try with_reducible rfl)
              try simp only [Act.put]
              refine wpE_one 7 (o := ⟨some 31, _, _, _, _, _⟩) (by kernel_rfl) rfl (fun K' hK' => ?_)
              rw [if_pos (by kernel_rfl)]
              refine call_wp 31 _ _ _ _ rfl Tryd.func31 (by kernel_rfl) rfl _ ?hv _ (HBY.out _) ?_
              case hv => simp only [List.map_toArray, List.map_cons, List.map_nil]; go_simp
              rintro E V2 ⟨rfl, hb2⟩
              have hb2' : Below W1.heap.size W1 V2 := hS.trans (hb2.mono hS.size)
              refine ⟨_, rfl, hK'.out _ _ hb2' (fun hS => ?_)⟩
              clear hK' K'
              try simp only [Act.put]
              refine wpE_takeF 10 ⟨some 34, _, _, _, _, _⟩ (v := ?_) (by decide) rfl (by kernel_rfl) (by kernel_rfl) (by kernel_rfl) (fun _ _ _ h => h) hS (Or.inl ⟨by kernel_rfl, ?_⟩) ?_
              rotate_left
              · (intro V hSw; obtain ⟨⟨⟨hq0, hq1⟩, hq2⟩, hq3, hq4⟩ := HQ.out V hSw; go_simp; try with_reducible rfl)
              try simp only [Act.put]
              refine wpE_takeF 11 ⟨some 35, _, _, _, _, _⟩ (v := ?_) (by decide) rfl (by kernel_rfl) (by kernel_rfl) (by kernel_rfl) (fun _ _ _ h => h) hS (Or.inl ⟨by kernel_rfl, ?_⟩) ?_
              rotate_left
              · (intro V hSw; obtain ⟨⟨⟨hq0, hq1⟩, hq2⟩, hq3, hq4⟩ := HQ.out V hSw; go_simp; try with_reducible rfl)
              try simp only [Act.put]
              refine wpE_done (by kernel_rfl) ?_ _
              try simp only [List.setIfInBounds_toArray, List.set_cons_succ, List.set_cons_zero]
              obtain ⟨W2, hW2⟩ : ∃ W2, W2 = V2 := ⟨_, rfl⟩
              rw [← hW2] at hS ⊢
              have HB2 : Hid (Below w.heap.size w W2) := Lib.hid (HB1.out.trans (hS.mono HB1.out.size))
              have HO2 := Lib.hid (HO1.out.below hS)
              have HH2 := Lib.hid (HH1.out.below (hS.mono (by rw [HSZ.out, HGV.out]; have := HBW.out; omega)))
              obtain ⟨⟨⟨q0, q1⟩, q2⟩, q3, q4⟩ := HQ.out W2.drew hS.drew
              have HS2 := Lib.hid hS
              clear hb2 hb2' hW2 hS
              have hfz : W2.drew.frozen? ⟨g, j0 * 2 + 1, none⟩ = false := by
                obtain ⟨g', e1, _, _, e4⟩ := HO2.out.form (by have := HMZ.out; omega)
                injection e1 with e1
                injection e1 with e1
                rw [e1]
                exact e4 _
              have hcs : ¬ 9223372036854775807 < TY.size + S.size := by
                have h1 := HSZ2.out
                have h2 : TY.size ≤ 65536 := by rw [HTY.out, text_size]; have h1 := hyo.2.1; have h2 := hyo.2.2; unfold Rn.e at h2; omega
                omega
              go_wp2_with fail
              refine wp_region_E (fun V => V = W2.drew) 10 rfl ?_
              have hS : W2.drew = W2.drew := rfl
              refine wpE_take 0 ⟨some 36, _, _, _, _, _⟩ (v := ?_) [2, 3, 4, 7, 8, 9, 10] rfl (by kernel_rfl) (by kernel_rfl) (by kernel_rfl) (by kernel_rfl) (fun _ _ _ h => h) hS (Or.inl ⟨by rfl, ?_⟩) ?_
              rotate_left
              · (intro V hSw; subst hSw; go_simp; try with_reducible rfl)
              try simp only [Act.put]
              refine wpE_take 1 ⟨some 37, _, _, _, _, _⟩ (v := ?_) [2, 3, 4, 7, 8, 9, 10] rfl (by kernel_rfl) (by kernel_rfl) (by kernel_rfl) (by kernel_rfl) (fun _ _ _ h => h) hS (Or.inl ⟨by rfl, ?_⟩) ?_
              rotate_left
              · (intro V hSw; subst hSw; go_simp; try with_reducible rfl)
              try simp only [Act.put]
              refine wpE_take 2 ⟨some 38, _, _, _, _, _⟩ (v := ?_) [3, 4, 7, 8, 9, 10] rfl (by kernel_rfl) (by kernel_rfl) (by kernel_rfl) (by kernel_rfl) (fun _ _ _ h => h) hS (Or.inl ⟨by rfl, ?_⟩) ?_
              rotate_left
              · (intro V hSw; subst hSw; go_simp; try with_reducible rfl)
              try simp only [Act.put]
              refine wpE_take 3 ⟨some 39, _, _, _, _, _⟩ (v := ?_) [4, 7, 8, 9, 10] rfl (by kernel_rfl) (by kernel_rfl) (by kernel_rfl) (by kernel_rfl) (fun _ _ _ h => h) hS (Or.inl ⟨by rfl, ?_⟩) ?_
              rotate_left
              · (intro V hSw; subst hSw; go_simp; try with_reducible rfl)
              try simp only [Act.put]
              refine wpE_take 4 ⟨some 40, _, _, _, _, _⟩ (v := ?_) [7, 8, 9, 10] rfl (by kernel_rfl) (by kernel_rfl) (by kernel_rfl) (by kernel_rfl) (fun _ _ _ h => h) hS (Or.inl ⟨by rfl, ?_⟩) ?_
              rotate_left
              · (intro V hSw; subst hSw; go_simp; try with_reducible rfl)
              try simp only [Act.put]
              refine wpE_take 5 ⟨some 41, _, _, _, _, _⟩ (v := ?_) [6, 7, 8, 9, 10] rfl (by kernel_rfl) (by kernel_rfl) (by kernel_rfl) (by kernel_rfl) (fun _ _ _ h => h) hS (Or.inl ⟨by rfl, ?_⟩) ?_
              rotate_left
              · (intro V hSw; subst hSw; go_simp; try with_reducible rfl)
              try simp only [Act.put]
              refine wpE_take 6 ⟨some 42, _, _, _, _, _⟩ (v := ?_) [7, 8, 9, 10] rfl (by kernel_rfl) (by kernel_rfl) (by kernel_rfl) (by kernel_rfl) (fun _ _ _ h => h) hS (Or.inl ⟨by rfl, ?_⟩) ?_
              rotate_left
              · (intro V hSw; subst hSw; go_simp; try with_reducible rfl)
              try simp only [Act.put]
              refine wpE_take 7 ⟨some 43, _, _, _, _, _⟩ (v := ?_) [8, 9, 10] rfl (by kernel_rfl) (by kernel_rfl) (by kernel_rfl) (by kernel_rfl) (fun _ _ _ h => h) hS (Or.inl ⟨by rfl, ?_⟩) ?_
              rotate_left
              · (intro V hSw; subst hSw; go_simp; try with_reducible rfl)
              try simp only [Act.put]
              refine wpE_take 8 ⟨some 44, _, _, _, _, _⟩ (v := ?_) [9, 10] rfl (by kernel_rfl) (by kernel_rfl) (by kernel_rfl) (by kernel_rfl) (fun _ _ _ h => h) hS (Or.inl ⟨by rfl, ?_⟩) ?_
              rotate_left
              · (intro V hSw; subst hSw; go_simp; try with_reducible rfl)
              try simp only [Act.put]
              refine wpE_take 9 ⟨some 45, _, _, _, _, _⟩ (v := ?_) [10] rfl (by kernel_rfl) (by kernel_rfl) (by kernel_rfl) (by kernel_rfl) (fun _ _ _ h => h) hS (Or.inl ⟨by rfl, ?_⟩) ?_
              rotate_left
              · (intro V hSw; subst hSw; go_simp; try with_reducible rfl)
              try simp only [Act.put]
              refine wpE_last (by kernel_rfl) rfl (fun K' hK' => ?_)
              go_simp
              refine hK'.out _ _ ?_
              clear hK' K'
              refine wpE_done (by kernel_rfl) ?_ _
              rw [List.length_append] at HMJ
              have hnw := ownX_data HO2.out (y.t ++ e.t)
              rw [← HJD.out] at hnw
              have hcat : TY ++ S = (⟨(y.t ++ e.t).toArray⟩ : ByteArray) := by
                rw [HTY.out, ← HT.out]
                apply ByteArray.ext
                simp
              rw [← hcat] at hnw
              have HFX : Hid (Below w.heap.size w ((W2.setCell ⟨g, j0 * 2 + 1, none⟩ (.string (TY ++ S))).drew)) := Lib.hid ((HB2.out.setCell HG.out.1 _).drew)
              have HH5 : Hid (HoldsX ((W2.setCell ⟨g, j0 * 2 + 1, none⟩ (.string (TY ++ S))).drew) B (some ⟨b2, off2, none⟩) pl p) := Lib.hid (HH2.out.below (((Below.refl B W2).setCell (Nat.le_trans hB HG.out.1) _).drew))
              have HNW := Lib.hid (hnw.1.below (Below.refl _ _).drew); clear hnw hcat q0 q1 q2 q3 q4 hfz hcs
              rw [HSN.out] at HNX HNOK HNLEN
              generalize (W2.setCell ⟨g, j0 * 2 + 1, none⟩ (.string (TY ++ S))).drew = W5 at HNW HFX HH5 ⊢
              go_wp2
              go_roundw
              case rel => exact ⟨j + 1, _, cj, mj, _, by omega, by go_num, rfl, by rw [HMZ.out, HJD.out]; simp, HNX.out.symm, HNLEN.out, HNOK.out, HNW.out, HFX.out, HH5.out⟩
              case measure => simp [intOf]; omega
            · have heq : (ye == a) = false := beq_false_of_ne hea
              rw [if_neg hea] at hsn
              have HSN := Lib.hid hsn; clear hsn hea
              go_wp2
              clear hst hld
              rw [← HGV.out]
              generalize wr.alloc (.cells C 33) = W1 at HB1 HO1 HH1 HQ HSZ HG ⊢
              refine wp_region_E (fun V => Below W1.heap.size W1 V) 99 rfl ?_
              have hS := (show Below W1.heap.size W1 W1.drew from (Below.refl _ W1).drew)
              refine wpE_takeF 0 ⟨some 24, _, _, _, _, _⟩ (v := ?_) (by decide) rfl (by kernel_rfl) (by kernel_rfl) (by kernel_rfl) (fun _ _ _ h => h) hS (Or.inl ⟨by kernel_rfl, ?_⟩) ?_
              rotate_left
              · (intro V hSw; obtain ⟨⟨⟨hq0, hq1⟩, hq2⟩, hq3, hq4⟩ := HQ.out V hSw; go_simp; try with_reducible rfl)
              try simp only [Act.put]
              refine wpE_takeF 1 ⟨some 25, _, _, _, _, _⟩ (v := ?_) (by decide) rfl (by kernel_rfl) (by kernel_rfl) (by kernel_rfl) (fun _ _ _ h => h) hS (Or.inl ⟨by kernel_rfl, ?_⟩) ?_
              rotate_left
              · (intro V hSw; obtain ⟨⟨⟨hq0, hq1⟩, hq2⟩, hq3, hq4⟩ := HQ.out V hSw; go_simp; try with_reducible rfl)
              try simp only [Act.put]
              refine wpE_takeF 2 ⟨some 26, _, _, _, _, _⟩ (v := ?_) (by decide) rfl (by kernel_rfl) (by kernel_rfl) (by kernel_rfl) (fun _ _ _ h => h) hS (Or.inl ⟨by kernel_rfl, ?_⟩) ?_
              rotate_left
              · (intro V hSw; obtain ⟨⟨⟨hq0, hq1⟩, hq2⟩, hq3, hq4⟩ := HQ.out V hSw; go_simp; try with_reducible rfl)
              try simp only [Act.put]
              refine wpE_takeF 3 ⟨some 27, _, _, _, _, _⟩ (v := ?_) (by decide) rfl (by kernel_rfl) (by kernel_rfl) (by kernel_rfl) (fun _ _ _ h => h) hS (Or.inl ⟨by kernel_rfl, ?_⟩) ?_
              rotate_left
              · (intro V hSw; obtain ⟨⟨⟨hq0, hq1⟩, hq2⟩, hq3, hq4⟩ := HQ.out V hSw; go_simp; try with_reducible rfl)
              try simp only [Act.put]
              refine wpE_takeF 4 ⟨some 28, _, _, _, _, _⟩ (v := ?_) (by decide) rfl (by kernel_rfl) (by kernel_rfl) (by kernel_rfl) (fun _ _ _ h => h) hS (Or.inl ⟨by kernel_rfl, ?_⟩) ?_
              rotate_left
              · (intro V hSw; obtain ⟨⟨⟨hq0, hq1⟩, hq2⟩, hq3, hq4⟩ := HQ.out V hSw; go_simp; try with_reducible rfl)
              try simp only [Act.put]
              refine wpE_takeF 5 ⟨some 29, _, _, _, _, _⟩ (v := ?_) (by decide) rfl (by kernel_rfl) (by kernel_rfl) (by kernel_rfl) (fun _ _ _ h => h) hS (Or.inl ⟨by kernel_rfl, ?_⟩) ?_
              rotate_left
              · (intro V hSw; obtain ⟨⟨⟨hq0, hq1⟩, hq2⟩, hq3, hq4⟩ := HQ.out V hSw; go_simp; try with_reducible rfl)
              try simp only [Act.put]
              refine wpE_takeF 6 ⟨some 30, _, _, _, _, _⟩ (v := ?_) (by decide) rfl (by kernel_rfl) (by kernel_rfl) (by kernel_rfl) (fun _ _ _ h => h) hS (Or.inl ⟨by kernel_rfl, ?_⟩) ?_
              rotate_left
              · (intro V hSw; obtain ⟨⟨⟨hq0, hq1⟩, hq2⟩, hq3, hq4⟩ := HQ.out V hSw; go_simp; try with_reducible rfl)
              try simp only [Act.put]
              refine wpE_takeF 8 ⟨some 32, _, _, _, _, _⟩ (v := ?_) (by decide) rfl (by kernel_rfl) (by kernel_rfl) (by kernel_rfl) (fun _ _ _ h => h) hS (Or.inl ⟨by kernel_rfl, ?_⟩) ?_
              rotate_left
              · (intro V hSw; obtain ⟨⟨⟨hq0, hq1⟩, hq2⟩, hq3, hq4⟩ := HQ.out V hSw; go_simp; try with_reducible rfl)
              try simp only [Act.put]
              refine wpE_takeF 9 ⟨some 33, _, _, _, _, _⟩ (v := ?_) (by decide) rfl (by kernel_rfl) (by kernel_rfl) (by kernel_rfl) (fun _ _ _ h => h) hS (Or.inl ⟨by kernel_rfl, ?_⟩) ?_
              rotate_left
              · (intro V hSw; obtain ⟨⟨⟨hq0, hq1⟩, hq2⟩, hq3, hq4⟩ := HQ.out V hSw; go_simp; try with_reducible rfl)
              try simp only [Act.put]
              refine wpE_one 7 (o := ⟨some 31, _, _, _, _, _⟩) (by kernel_rfl) rfl (fun K' hK' => ?_)
              rw [if_pos (by kernel_rfl)]
              refine call_wp 31 _ _ _ _ rfl Tryd.func31 (by kernel_rfl) rfl _ ?hv _ (HBY.out _) ?_
              case hv => simp only [List.map_toArray, List.map_cons, List.map_nil]; go_simp
              rintro E V2 ⟨rfl, hb2⟩
              have hb2' : Below W1.heap.size W1 V2 := hS.trans (hb2.mono hS.size)
              refine ⟨_, rfl, hK'.out _ _ hb2' (fun hS => ?_)⟩
              clear hK' K'
              try simp only [Act.put]
              refine wpE_takeF 10 ⟨some 34, _, _, _, _, _⟩ (v := ?_) (by decide) rfl (by kernel_rfl) (by kernel_rfl) (by kernel_rfl) (fun _ _ _ h => h) hS (Or.inl ⟨by kernel_rfl, ?_⟩) ?_
              rotate_left
              · (intro V hSw; obtain ⟨⟨⟨hq0, hq1⟩, hq2⟩, hq3, hq4⟩ := HQ.out V hSw; go_simp; try with_reducible rfl)
              try simp only [Act.put]
              refine wpE_takeF 11 ⟨some 35, _, _, _, _, _⟩ (v := ?_) (by decide) rfl (by kernel_rfl) (by kernel_rfl) (by kernel_rfl) (fun _ _ _ h => h) hS (Or.inl ⟨by kernel_rfl, ?_⟩) ?_
              rotate_left
              · (intro V hSw; obtain ⟨⟨⟨hq0, hq1⟩, hq2⟩, hq3, hq4⟩ := HQ.out V hSw; go_simp; try with_reducible rfl)
              try simp only [Act.put]
              refine wpE_done (by kernel_rfl) ?_ _
              try simp only [List.setIfInBounds_toArray, List.set_cons_succ, List.set_cons_zero]
              obtain ⟨W2, hW2⟩ : ∃ W2, W2 = V2 := ⟨_, rfl⟩
              rw [← hW2] at hS ⊢
              obtain ⟨⟨⟨q0, q1⟩, q2⟩, q3, q4⟩ := HQ.out W2 hS
              rw [HC2.out] at q2
              have HB2 : Hid (Below w.heap.size w W2) := Lib.hid (HB1.out.trans (hS.mono HB1.out.size))
              have HO2 := Lib.hid (HO1.out.below hS)
              have HH2 := Lib.hid (HH1.out.below (hS.mono (by rw [HSZ.out, HGV.out]; have := HBW.out; omega)))
              clear hb2 hb2' hW2 hS
              rw [HSN.out] at HNX HNOK HNLEN
              obtain ⟨v', W5, hrun, hown5, hgr⟩ := run_appX W2 w.heap.size _ _ HO2.out e 22 (by omega) HB2.out.size
              rw [HT.out, HA.out] at hrun
              obtain ⟨A5, c5, rfl⟩ := hown5.shape
              have hb5 : Below w.heap.size w W5 := HB2.out.trans (hgr.below HB2.out.size (fun q hq => (HO2.out.lt q hq).1))
              simp only [List.length_append, List.length_singleton] at hown5 hrun
              have HH5 := Lib.hid (HH2.out.below ((hgr.below HB2.out.size (fun q hq => (HO2.out.lt q hq).1)).mono hB))
              have HB5 := Lib.hid hb5; clear hb5
              have HO5 := Lib.hid hown5; clear hown5 hgr
              go_wp2_with (at_builtin; refine wpList_apprun rfl _ _ _ _ (by rfl) _ _ (by rfl) (by rfl) _ _ hrun ?_)
              go_wp2
              go_roundw
              case rel => exact ⟨j + 1, A5, c5, _, _, by omega, by go_num, rfl, by simp, HNX.out.symm, HNLEN.out, HNOK.out, HO5.out, HB5.out, HH5.out⟩
              case measure => simp [intOf]; omega
end Go.Proofs.YtmbmjdogfjmlpaaDoor.Sp
