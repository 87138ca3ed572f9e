/- Join: the document's call. -/
import Derived.Test.YtkhenchhafmlmaaExRRead
import Derived.Test.YtkhenchhafmlmaaExJoined
namespace Go.Proofs.Ytkhenchhafmlmaa.Ex
set_option maxRecDepth 20000
open Go Go.RowKit
open Go.Proofs.Ytkhenchhafmlmaa.Mem Go.Proofs.Ytkhenchhafmlmaa.Crc Go.Proofs.Ytkhenchhafmlmaa.Rec Go.Proofs.Ytkhenchhafmlmaa.Reg
attribute [local go_sem ↓] ldX_eq stX_eq

theorem ownX_cells {w : World} {base : Nat} {v : Value} {l : List X} (h : OwnX w base v l) {k : Nat} (hk : v.ownBlock = some k) : ∃ cs z, w.heap[k]? = some (.cells cs 24 z) := by
  rcases h.2 with ⟨rfl, _⟩ | ⟨g, cap, cur, rfl, _, hh, _⟩
  · cases hk
  · injection hk with hk
    dsimp only at hk
    subst hk
    exact ⟨cur, _, hh⟩
theorem exts_ints {w : World} {b1 b2 : Nat} {v u : Value} {l : List X} {bs : List Int} (h : OwnX w b1 v l) (h' : OwnI w b2 u bs) {k : Nat} (hk : v.ownBlock = some k) (hk' : u.ownBlock = some k) : False := by
  obtain ⟨cs, z, e1⟩ := ownX_cells h hk
  obtain ⟨cs', z', e2⟩ := ownI_cells h' hk'
  rw [e1] at e2
  injection e2 with e2
  injection e2 with _ e2
  exact absurd e2 (by decide)
def flatE (N : List (List UInt8)) : List X := N.flatMap extsN
theorem flatE_rep (N : List (List UInt8)) : ∀ x ∈ flatE N, x.rep := fun x hx => by
  unfold flatE at hx
  obtain ⟨b, _, h⟩ := List.mem_flatMap.1 hx
  exact exts_rep _ _ _ x h
theorem blks1_snoc (k : Nat) : blks1 (k + 1) = blks1 k ++ [(k : Int) + 1] := by unfold blks1; rw [List.range_succ, List.map_append]; rfl
theorem blks1_len (k : Nat) : (blks1 k).length = k := by unfold blks1; simp
def goodN (n : Nat) (b : List UInt8) : Prop := b.length = 256 ∧ (b.getD 0 0).toNat ≤ 20 ∧ n ≤ 3

set_option maxRecDepth 100000 in
set_option maxHeartbeats 16000000 in
theorem rjoin_any (A : Option Addr) (n c B : Nat) (N : List (List UInt8)) (w : World) (h : HoldsN w B A n N) (hB : B ≤ w.heap.size) (hn0 : n ≤ 5864062014634) :
    Calls Try.prog 33 #[.slice A n c] w (MarkOut w.heap.size (joinR N).1 (joinR N).2 w) := by
  have hln := h.1
  unfold MarkOut
  obtain ⟨R, hR⟩ : ∃ R, R = joinR N := ⟨_, rfl⟩
  have hbad : (∃ b ∈ N, ¬ goodN n b) → R = ([], 13) := fun ⟨b, hb, hl⟩ => by
    rw [hR]; unfold joinR; rw [if_neg]
    intro e
    exact hl (by have := e b hb; rw [hln] at this; exact this)
  have hgood : (∀ b ∈ N, goodN n b) → R = (if (storeL (flatE N) (blks1 n)).2.2 = 0 ∧ 0 < n ∧ (storeL (flatE N) (blks1 n)).2.1 = N then (flatE N, 0) else ([], 13)) := fun hall => by
    rw [hR]
    unfold joinR
    rw [if_pos (by rw [hln]; exact hall), hln]
    rfl
  rw [← hR]
  have H := Lib.hid h; clear h hR
  have HLN := Lib.hid hln; clear hln
  have HBAD := Lib.hid hbad; clear hbad
  have HGOOD := Lib.hid hgood; clear hgood
  go_enter Try.func33, Try.ntmps33
  go_wp2
  go_loopw [4, 5, 6] (fun v u i wr => ∃ (k K : Nat) (A1 A3 : Option Addr) (c1 c3 : Nat), k ≤ n ∧ i = .int .i64 (k : Int) ∧ K = (flatE (N.take k)).length ∧ v = .slice A1 K c1 ∧ u = .slice A3 k c3 ∧ K ≤ k * 20 ∧ (∀ b ∈ N.take k, goodN n b) ∧ OwnX wr w.heap.size (.slice A1 K c1) (flatE (N.take k)) ∧ OwnI wr w.heap.size (.slice A3 k c3) (blks1 k) ∧ Below w.heap.size w wr) (fun _ _ i _ => n - (intOf i).toNat)
  case atStart => exact ⟨0, 0, none, none, 0, 0, Nat.zero_le _, rfl, rfl, rfl, rfl, Nat.zero_le _, fun b hb => by simp at hb, by rw [List.take_zero]; exact OwnX.nil _ _, OwnI.nil _ _, Below.refl _ _⟩
  case round =>
    obtain ⟨k, K, A1, A3, c1, c3, hk, rfl, hK, rfl, rfl, hK20, hall, hown, hoi, hbr⟩ := hrel
    have HO := Lib.hid hown; clear hown
    have HI := Lib.hid hoi; clear hoi
    have HBR := Lib.hid hbr; clear hbr
    have HALL := Lib.hid hall; clear hall
    have HK := Lib.hid hK; clear hK
    rcases Nat.lt_or_ge k n with hlt | hge
    · have hk1 : k < N.length := by have := HLN.out; omega
      obtain ⟨b, off, rfl, hbB, hcl⟩ := H.out.2 (by omega)
      obtain ⟨Ak, ck, y1, y2, y3, y4⟩ := hcl k hk1
      obtain ⟨x, hx⟩ : ∃ x, x = N[k] := ⟨_, rfl⟩
      rw [← hx] at y1 y2 y3
      have hxa : x ∈ N := hx ▸ List.getElem_mem hk1
      have hk0 : (0 : Int) ≤ (k : Int) := by omega
      have hkn : (k : Int) < (n : Int) := by omega
      obtain ⟨m, hm⟩ : ∃ m, m = x.length := ⟨_, rfl⟩
      rw [← hm] at y1 y2 y3
      have y1' : wr.cell? ⟨b, off + k, none⟩ = some (.slice Ak m ck) := ((HBR.out.mono hB).cell (p := ⟨b, off + k, none⟩) hbB).trans y1
      by_cases h256 : m = 256
      · subst h256
        obtain ⟨b1, off1, rfl⟩ := Holds.addr y2 (by omega)
        obtain ⟨b1', off1', e', hlt1, hcell⟩ := y2.2 (by omega)
        injection e' with e'
        injection e' with e1 e2
        subst e1 e2
        obtain ⟨K0, hK0⟩ : ∃ K0, K0 = (x.getD 0 0).toNat := ⟨_, rfl⟩
        have hK0b : K0 < 256 := by rw [hK0]; exact (x.getD 0 0).toNat_lt
        have hc0 : w.cell? ⟨b1, off1, none⟩ = some (.int .u8 (K0 : Int)) := by
          have := hcell 0 (by omega)
          rw [hK0]
          simpa [List.getD, show 0 < x.length by omega] using this
        have hc0' : wr.cell? ⟨b1, off1, none⟩ = some (.int .u8 (K0 : Int)) := ((HBR.out.mono hB).cell (p := ⟨b1, off1, none⟩) hlt1).trans hc0
        by_cases hk20 : K0 ≤ 20
        · have hk20' : ¬ (20 : Int) < (K0 : Int) := by omega
          rcases Nat.lt_or_ge 3 n with h3 | h3
          · have h3' : (3 : Int) < (n : Int) := by omega
            have hr := HBAD.out ⟨x, hxa, fun e => by have := e.2.2; omega⟩
            have HR := Lib.hid hr; clear hr hcl y1 y2 y3 y4 hm hx hxa hcell hc0 hK0 hlt1
            go_wp2
            go_ret2
            rw [HR.out]
            exact ⟨none, 0, rfl, OwnX.nil _ _, HBR.out⟩
          · have h3' : ¬ (3 : Int) < (n : Int) := by omega
            have hts : N.take (k + 1) = N.take k ++ [x] := by rw [List.take_succ_eq_append_getElem hk1, ← hx]
            have hfl : flatE (N.take (k + 1)) = flatE (N.take k) ++ extsR x 4 K0 := by rw [hts]; unfold flatE extsN; simp [hK0]
            have hal2 : ∀ b ∈ N.take (k + 1), goodN n b := fun b hb => by
              rw [hts] at hb
              rcases List.mem_append.1 hb with h | h
              · exact HALL.out b h
              · rw [List.mem_singleton.1 h]; exact ⟨hm.symm, by rw [← hK0]; exact hk20, h3⟩
            have hex := exts_any b1 off1 256 ck B K0 x wr.drew (y2.below (HBR.out.drew.mono hB)) (by have := HBR.out.size; show B ≤ wr.heap.size; omega) y3 (by omega) (by omega)
            have hld : ∀ V, Below w.heap.size w V → V.cell? ⟨b, off + k, none⟩ = some (.slice (some ⟨b1, off1, none⟩) 256 ck) ∧ V.cell? ⟨b1, off1, none⟩ = some (.int .u8 (K0 : Int)) := fun V hV => ⟨((hV.mono hB).cell (p := ⟨b, off + k, none⟩) hbB).trans y1, ((hV.mono hB).cell (p := ⟨b1, off1, none⟩) hlt1).trans hc0⟩
            have hwK : IntKind.i64.wrap (K0 : Int) = (K0 : Int) := by rw [IntKind.wrap_i64]; omega
            have hel := exts_len x 4 K0
            have hflen : (flatE (N.take (k + 1))).length = K + K0 := by rw [hfl, List.length_append, ← HK.out, hel]
            have hwk1 : IntKind.i64.wrap ((k : Int) + 1) = (k : Int) + 1 := by rw [IntKind.wrap_i64]; omega
            have HEX := Lib.hid hex; clear hex
            have HLD := Lib.hid hld; clear hld
            have HFL := Lib.hid hfl; clear hfl
            have HFLEN := Lib.hid hflen; clear hflen
            have HAL2 := Lib.hid hal2; clear hal2
            have HK60 : Hid (K ≤ 60 ∧ K0 ≤ 20) := Lib.hid ⟨by omega, hk20⟩
            clear hts hxa hcl y1 y2 y3 y4 hm hx hcell hc0 hK0 hlt1 hel
            go_wp2_with fail
            refine wp_region_E (fun V => Below w.heap.size w V) 99 rfl ?_
            have hS := (show Below w.heap.size w wr.drew from HBR.out.drew)
            refine wpE_takeF 0 ⟨some 37, _, _, _, _, _⟩ (v := ?_) (by decide) rfl (by kernel_rfl) (by kernel_rfl) (by kernel_rfl) (fun _ _ _ h => h) hS (Or.inl ⟨by kernel_rfl, ?_⟩) ?_
            rotate_left
            · (intro V hSw; go_simp; try with_reducible rfl)
            try simp only [Act.put]
            refine wpE_takeF 1 ⟨some 38, _, _, _, _, _⟩ (v := ?_) (by decide) rfl (by kernel_rfl) (by kernel_rfl) (by kernel_rfl) (fun _ _ _ h => h) hS (Or.inl ⟨by kernel_rfl, ?_⟩) ?_
            rotate_left
            · (intro V hSw; go_simp; try with_reducible rfl)
            try simp only [Act.put]
            refine wpE_takeF 2 ⟨some 39, _, _, _, _, _⟩ (v := ?_) (by decide) rfl (by kernel_rfl) (by kernel_rfl) (by kernel_rfl) (fun _ _ _ h => h) hS (Or.inl ⟨by kernel_rfl, ?_⟩) ?_
            rotate_left
            · (intro V hSw; go_simp; try with_reducible rfl)
            try simp only [Act.put]
            refine wpE_takeF 3 ⟨some 40, _, _, _, _, _⟩ (v := ?_) (by decide) rfl (by kernel_rfl) (by kernel_rfl) (by kernel_rfl) (fun _ _ _ h => h) hS (Or.inl ⟨by kernel_rfl, ?_⟩) ?_
            rotate_left
            · (intro V hSw; go_simp; try with_reducible rfl)
            try simp only [Act.put]
            refine wpE_takeF 4 ⟨some 41, _, _, _, _, _⟩ (v := ?_) (by decide) rfl (by kernel_rfl) (by kernel_rfl) (by kernel_rfl) (fun _ _ _ h => h) hS (Or.inl ⟨by kernel_rfl, ?_⟩) ?_
            rotate_left
            · (intro V hSw; obtain ⟨q1, q2⟩ := HLD.out V hSw; go_simp; try with_reducible rfl)
            try simp only [Act.put]
            refine wpE_takeF 5 ⟨some 42, _, _, _, _, _⟩ (v := ?_) (by decide) rfl (by kernel_rfl) (by kernel_rfl) (by kernel_rfl) (fun _ _ _ h => h) hS (Or.inl ⟨by kernel_rfl, ?_⟩) ?_
            rotate_left
            · (intro V hSw; go_simp; try with_reducible rfl)
            try simp only [Act.put]
            refine wpE_takeF 6 ⟨some 43, _, _, _, _, _⟩ (v := ?_) (by decide) rfl (by kernel_rfl) (by kernel_rfl) (by kernel_rfl) (fun _ _ _ h => h) hS (Or.inl ⟨by kernel_rfl, ?_⟩) ?_
            rotate_left
            · (intro V hSw; go_simp; try with_reducible rfl)
            try simp only [Act.put]
            refine wpE_takeF 7 ⟨some 44, _, _, _, _, _⟩ (v := ?_) (by decide) rfl (by kernel_rfl) (by kernel_rfl) (by kernel_rfl) (fun _ _ _ h => h) hS (Or.inl ⟨by kernel_rfl, ?_⟩) ?_
            rotate_left
            · (intro V hSw; go_simp; try with_reducible rfl)
            try simp only [Act.put]
            refine wpE_takeF 8 ⟨some 45, _, _, _, _, _⟩ (v := ?_) (by decide) rfl (by kernel_rfl) (by kernel_rfl) (by kernel_rfl) (fun _ _ _ h => h) hS (Or.inl ⟨by kernel_rfl, ?_⟩) ?_
            rotate_left
            · (intro V hSw; obtain ⟨q1, q2⟩ := HLD.out V hSw; go_simp; try with_reducible rfl)
            try simp only [Act.put]
            refine wpE_takeF 9 ⟨some 46, _, _, _, _, _⟩ (v := ?_) (by decide) rfl (by kernel_rfl) (by kernel_rfl) (by kernel_rfl) (fun _ _ _ h => h) hS (Or.inl ⟨by kernel_rfl, ?_⟩) ?_
            rotate_left
            · (intro V hSw; go_simp; try with_reducible rfl)
            try simp only [Act.put]
            refine wpE_takeF 10 ⟨some 47, _, _, _, _, _⟩ (v := ?_) (by decide) rfl (by kernel_rfl) (by kernel_rfl) (by kernel_rfl) (fun _ _ _ h => h) hS (Or.inl ⟨by kernel_rfl, ?_⟩) ?_
            rotate_left
            · (intro V hSw; obtain ⟨q1, q2⟩ := HLD.out V hSw; go_simp; try with_reducible rfl)
            try simp only [Act.put]
            refine wpE_takeF 11 ⟨some 48, _, _, _, _, _⟩ (v := ?_) (by decide) rfl (by kernel_rfl) (by kernel_rfl) (by kernel_rfl) (fun _ _ _ h => h) hS (Or.inl ⟨by kernel_rfl, ?_⟩) ?_
            rotate_left
            · (intro V hSw; go_simp; try with_reducible rfl)
            try simp only [Act.put]
            refine wpE_one 12 (o := ⟨some 49, _, _, _, _, _⟩) (by kernel_rfl) rfl (fun K' hK' => ?_)
            rw [if_pos (by kernel_rfl)]
            refine call_wp 58 _ _ _ _ rfl Try.func58 (by kernel_rfl) rfl _ ?hv1 _ HEX.out ?_
            case hv1 => simp only [List.map_toArray, List.map_cons, List.map_nil]; go_simp
            rintro E V2 ⟨A2, c2, rfl, ho2, hb2⟩
            have ho3 := (HO.out.below (show Below wr.heap.size wr wr.drew from (Below.refl _ wr).drew)).below hb2
            have HB2 : Hid (Below w.heap.size w V2) := Lib.hid (HBR.out.drew.trans (hb2.mono HBR.out.size))
            obtain ⟨v', V', hrun, ho', hg⟩ := run_addX V2 22 w.heap.size _ _ ho3 V2.heap.size A2 K0 c2 _ ho2.reads (by have := HK.out; have := HK60.out; omega) HB2.out.size
            rw [← HFL.out] at ho'
            have HB3 : Hid (Below w.heap.size w V') := Lib.hid (HB2.out.trans (hg.below HB2.out.size (fun g e => (ho3.lt g e).1)))
            have hi3 : OwnI V' w.heap.size (.slice A3 k c3) (blks1 k) := ((HI.out.below (show Below wr.heap.size wr wr.drew from (Below.refl _ wr).drew)).below hb2).kept fun g e => hg.1.block g (Nat.lt_of_lt_of_le (HI.out.lt g e).2 hb2.size) (fun e' => exts_ints ho3 ((HI.out.below (show Below wr.heap.size wr wr.drew from (Below.refl _ wr).drew)).below hb2) e'.symm e)
            obtain ⟨A4, c4, rfl⟩ := ho'.shape
            obtain ⟨K4, hK4⟩ : ∃ K4, K4 = (flatE (N.take (k + 1))).length := ⟨_, rfl⟩
            rw [← hK4] at ho' hrun
            have HO4 := Lib.hid ho'; clear ho'
            have HK4 := Lib.hid hK4; clear hK4
            have HI3 := Lib.hid hi3; clear hi3
            clear ho2 ho3 hb2 hg
            refine ⟨_, rfl, hK'.out _ _ HB2.out (fun hS => ?_)⟩
            clear hK' K'
            try simp only [Act.put]
            refine wpE_one 13 (o := ⟨some 50, _, _, _, _, _⟩) (by kernel_rfl) rfl (fun K' hK' => ?_)
            refine step_builtin (by kernel_rfl) (.tmp 37) (.tmp 49) #[22, 22] rfl (.slice A1 K c1) (.slice A2 K0 c2) (.slice A4 K4 c4) V' ?hva ?hvb hrun ?_
            case hva => go_simp; try with_reducible rfl
            case hvb => go_simp; try with_reducible rfl
            refine hK'.out _ _ HB3.out (fun hS => ?_)
            clear hK' K'
            try simp only [Act.put]
            refine wpE_takeF 14 ⟨some 4, _, _, _, _, _⟩ (v := ?_) (by decide) rfl (by kernel_rfl) (by kernel_rfl) (by kernel_rfl) (fun _ _ _ h => h) hS (Or.inl ⟨by kernel_rfl, ?_⟩) ?_
            rotate_left
            · (intro V hSw; go_simp; try with_reducible rfl)
            try simp only [Act.put]
            refine wpE_done (by kernel_rfl) ?_ _
            try simp only [List.setIfInBounds_toArray, List.set_cons_succ, List.set_cons_zero]
            clear hrun
            have ho3 : OwnI (V'.alloc (.cells #[.int .i64 ((k : Int) + 1)] 3)) w.heap.size (.slice A3 k c3) (blks1 k) := World.ownsRow.alloc HI3.out _
            obtain ⟨v5, V5, hrun5, ho5, hg1, hg2⟩ := run_addI (V'.alloc (.cells #[.int .i64 ((k : Int) + 1)] 3)) 45 w.heap.size _ _ ho3 (V'.heap.size + 1) (some ⟨V'.heap.size, 0, none⟩) 1 1 [(k : Int) + 1] ⟨rfl, fun _ => ⟨V'.heap.size, 0, rfl, by omega, fun j hj => by
              have : j = 0 := by simpa using hj
              subst this
              rw [cell_of_row _ _ _ _ _ _ (heap_alloc_new V' _)]; rfl⟩⟩ (by rw [blks1_len]; omega) (by have := HB3.out.size; simp; omega)
            rw [← blks1_snoc] at ho5
            have hg5 : Grows V' V5 (.slice A3 k c3) v5 := ⟨grown_trans (grown_of_below ((Below.refl _ V').alloc (Nat.le_refl _) _) _) hg1, fun g e => by
              rcases hg2 g e with e | e
              · exact .inl e
              · exact .inr (by simp at e; omega)⟩
            have HB5 : Hid (Below w.heap.size w V5) := Lib.hid (HB3.out.trans (hg5.below HB3.out.size (fun g e => (HI3.out.lt g e).1)))
            have ho6 : OwnX V5 w.heap.size (.slice A4 K4 c4) (flatE (N.take (k + 1))) := HO4.out.kept fun g e => hg5.1.block g (HO4.out.lt g e).2 (fun e' => exts_ints HO4.out HI3.out e e'.symm)
            obtain ⟨A5, c5, rfl⟩ := ho5.shape
            rw [blks1_len] at ho5 hrun5
            have HO6 := Lib.hid ho6; clear ho6
            have HI5 := Lib.hid ho5; clear ho5
            have HK420 : Hid (K4 ≤ (k + 1) * 20) := Lib.hid (by have := HK4.out; have := HFLEN.out; have := HK60.out; omega)
            clear ho3 hg1 hg2 hg5
            go_wp2_with (at_builtin; refine wpList_apprun rfl (.tmp 51) (.tmp 54) 45 45 rfl _ _ rfl rfl _ V5 hrun5 ?_)
            clear hrun5
            go_wp2
            go_roundw
            case rel => exact ⟨k + 1, K4, A4, A5, c4, c5, by omega, by go_num, HK4.out, rfl, rfl, HK420.out, HAL2.out, HO6.out, HI5.out, HB5.out⟩
            case measure => simp [intOf]; omega
        · have hk20' : (20 : Int) < (K0 : Int) := by omega
          have hr := HBAD.out ⟨x, hxa, fun e => by have := e.2.1; omega⟩
          have HR := Lib.hid hr; clear hr hcl y1 y2 y3 y4 hm hx hxa hcell hc0 hK0 hlt1
          go_wp2
          go_ret2
          rw [HR.out]
          exact ⟨none, 0, rfl, OwnX.nil _ _, HBR.out⟩
      · have hne : ¬ (m : Int) = 256 := by omega
        have hr := HBAD.out ⟨x, hxa, fun e => by have := e.1; omega⟩
        have HR := Lib.hid hr; clear hr hcl y1 y2 y3 y4 hm hx hxa
        go_wp2
        go_ret2
        rw [HR.out]
        exact ⟨none, 0, rfl, OwnX.nil _ _, HBR.out⟩
    · have hkn : k = n := by omega
      subst hkn
      have htk : N.take k = N := List.take_of_length_le (by have := HLN.out; omega)
      have hown := HO.out
      have hall := HALL.out
      have hKK := HK.out
      rw [htk] at hown hall hKK
      have hr := HGOOD.out hall
      have hrep := flatE_rep N
      have hn3 : 0 < k → k ≤ 3 := fun h0 => by
        have h1 : 0 < N.length := by have := HLN.out; omega
        exact (hall N[0] (List.getElem_mem h1)).2.2
      obtain ⟨L, hL⟩ : ∃ L, L = flatE N := ⟨_, rfl⟩
      rw [← hL] at hown hKK hr hrep
      have hsto := rstore_any A1 A3 K c1 k c3 wr.heap.size wr.heap.size L (blks1 k) wr hown.reads (Nat.le_refl _) hrep hown.fits.2.1 (by omega) HI.out.reads (Nat.le_refl _) (by omega)
      have htwo := storeL_two L (blks1 k)
      obtain ⟨SR, hSR⟩ : ∃ x, x = (storeL L (blks1 k)).1 := ⟨_, rfl⟩
      obtain ⟨SN, hSN⟩ : ∃ x, x = (storeL L (blks1 k)).2.1 := ⟨_, rfl⟩
      obtain ⟨er, her⟩ : ∃ x, x = (storeL L (blks1 k)).2.2 := ⟨_, rfl⟩
      unfold StoreOut at hsto
      rw [← hSR, ← hSN, ← her] at hsto
      rw [← hSN, ← her] at hr
      rw [← her] at htwo
      have hge3 : ¬ (k : Int) < (k : Int) := by omega
      have HSTO := Lib.hid hsto; clear hsto
      have HO2 := Lib.hid hown; clear hown
      have HKK := Lib.hid hKK; clear hKK
      clear htk hrep hL hSR hSN her hall
      go_wp2_with fail
      with_reducible refine HSTO.out.mono ?_
      rintro E V2 ⟨A5, c5, A6, c6, rfl, hor, hon, hb2⟩
      have HB2 : Hid (Below w.heap.size w V2) := Lib.hid (HBR.out.trans (hb2.mono HBR.out.size))
      have HO3 : Hid (OwnX V2 w.heap.size (.slice A1 K c1) L) := Lib.hid (HO2.out.below hb2)
      have HON := Lib.hid hon
      clear hor hon hb2 HSTO
      generalize SR.length = srl
      rcases htwo with rfl | rfl
      rotate_left
      · rw [if_neg (fun e => absurd e.1 (by decide))] at hr
        have HR := Lib.hid hr; clear hr
        generalize SN.length = sn
        go_wp2
        go_ret2
        rw [HR.out]
        exact ⟨none, 0, rfl, OwnX.nil _ _, HB2.out⟩
      rcases Nat.eq_zero_or_pos k with hk00 | hkp
      · subst hk00
        rw [if_neg (fun e => absurd e.2.1 (by omega))] at hr
        have HR := Lib.hid hr; clear hr
        generalize SN.length = sn
        go_wp2
        go_ret2
        rw [HR.out]
        exact ⟨none, 0, rfl, OwnX.nil _ _, HB2.out⟩
      · have hk3 := hn3 hkp
        have hk00 : ¬ (k : Int) = 0 := by omega
        by_cases hsl : SN.length = k
        · have HSL := Lib.hid hsl
          have HHR := Lib.hid hr; clear hr
          have hrM : ∀ V, Below V2.heap.size V2 V → HoldsN V V2.heap.size A6 SN.length SN := fun V hV => HON.out.reads.below hV
          have HRM := Lib.hid hrM; clear hrM
          rw [hsl] at HRM ⊢
          clear hsl
          have hkz : ((k : Int) == 0) = false := beq_eq_false_iff_ne.2 hk00
          go_wp2
          go_loopw [10] (fun i wr2 => ∃ j : Nat, j ≤ k ∧ i = .int .i64 (j : Int) ∧ (∀ t, (h1 : t < N.length) → (h2 : t < SN.length) → t < j → SN[t] = N[t]) ∧ Below V2.heap.size V2 wr2) (fun i _ => k - (intOf i).toNat)
          case atStart => exact ⟨0, Nat.zero_le _, rfl, fun t _ _ h => absurd h (by omega), Below.refl _ _⟩
          case round =>
            obtain ⟨j, hj, rfl, heq, hbr2⟩ := hrel
            have HEQ := Lib.hid heq; clear heq
            have HBR2 := Lib.hid hbr2; clear hbr2
            have HBW : Hid (Below w.heap.size w wr) := Lib.hid (HB2.out.trans (HBR2.out.mono HB2.out.size))
            rcases Nat.lt_or_ge j k with hltj | hgej
            · have hjN : j < N.length := by have := HLN.out; omega
              have hjS : j < SN.length := by have := HSL.out; omega
              obtain ⟨b, off, rfl, hbB, hcl⟩ := H.out.2 (by omega)
              obtain ⟨b', off', rfl, hbB', hcl'⟩ := (HRM.out wr HBR2.out).2 (by omega)
              obtain ⟨Ak, ck, y1, y2, y3, y4⟩ := hcl j hjN
              obtain ⟨Ak', ck', z1, z2, z3, z4⟩ := hcl' j hjS
              have hSB : ∀ V, Below wr.heap.size wr V → V.cell? ⟨b, off + j, none⟩ = some (.slice Ak (N[j]).length ck) ∧ V.cell? ⟨b', off' + j, none⟩ = some (.slice Ak' (SN[j]).length ck') ∧ (convert 46 9 (.slice Ak (N[j]).length ck)).run Try.prog V = .ok (.string ⟨(N[j]).toArray⟩) V ∧ (convert 46 9 (.slice Ak' (SN[j]).length ck')).run Try.prog V = .ok (.string ⟨(SN[j]).toArray⟩) V := fun V hV => by
                have hbV : Below w.heap.size w V := HBW.out.trans (hV.mono HBW.out.size)
                have hV5 : Below V2.heap.size wr V := hV.mono HBR2.out.size
                exact ⟨((hbV.mono hB).cell (p := ⟨b, off + j, none⟩) hbB).trans y1, (hV5.cell (p := ⟨b', off' + j, none⟩) hbB').trans z1, run_text V B Ak _ ck _ (y2.below (hbV.mono hB)), run_text V V2.heap.size Ak' _ ck' _ (z2.below hV5)⟩
              obtain ⟨x, hx⟩ : ∃ x, x = N[j] := ⟨_, rfl⟩
              obtain ⟨y, hy⟩ : ∃ y, y = SN[j] := ⟨_, rfl⟩
              rw [← hx, ← hy] at hSB
              obtain ⟨mx, hmx⟩ : ∃ m, m = x.length := ⟨_, rfl⟩
              obtain ⟨my, hmy⟩ : ∃ m, m = y.length := ⟨_, rfl⟩
              rw [← hmx, ← hmy] at hSB
              have HSB := Lib.hid hSB; clear hSB hcl hcl' y1 y2 y3 y4 z1 z2 z3 z4 hmx hmy
              have hj0 : (0 : Int) ≤ (j : Int) := by omega
              have hjk : (j : Int) < (k : Int) := by omega
              by_cases hxy : y = x
              · have hstep : ∀ t, (h1 : t < N.length) → (h2 : t < SN.length) → t < j + 1 → SN[t] = N[t] := fun t h1 h2 ht => by
                  rcases Nat.lt_or_ge t j with h | h
                  · exact HEQ.out t h1 h2 h
                  · have : t = j := by omega
                    subst this
                    rw [← hx, ← hy, hxy]
                have HSTEP := Lib.hid hstep; clear hstep hx hy
                subst hxy
                go_wp2_with fail
                refine wp_region_E (fun V => Below wr.heap.size wr V) 99 rfl ?_
                have hS := (show Below wr.heap.size wr wr.drew from (Below.refl _ wr).drew)
                refine wpE_takeF 0 ⟨some 83, _, _, _, _, _⟩ (v := ?_) (by decide) rfl (by kernel_rfl) (by kernel_rfl) (by kernel_rfl) (fun _ _ _ h => h) hS (Or.inl ⟨by kernel_rfl, ?_⟩) ?_
                rotate_left
                · (intro V hSw; obtain ⟨s0, s1, s2, s3⟩ := HSB.out V hSw; go_simp; try with_reducible rfl)
                try simp only [Act.put]
                refine wpE_takeF 1 ⟨some 84, _, _, _, _, _⟩ (v := ?_) (by decide) rfl (by kernel_rfl) (by kernel_rfl) (by kernel_rfl) (fun _ _ _ h => h) hS (Or.inl ⟨by kernel_rfl, ?_⟩) ?_
                rotate_left
                · (intro V hSw; obtain ⟨s0, s1, s2, s3⟩ := HSB.out V hSw; go_simp; try with_reducible rfl)
                try simp only [Act.put]
                refine wpE_takeF 2 ⟨some 85, _, _, _, _, _⟩ (v := ?_) (by decide) rfl (by kernel_rfl) (by kernel_rfl) (by kernel_rfl) (fun _ _ _ h => h) hS (Or.inl ⟨by kernel_rfl, ?_⟩) ?_
                rotate_left
                · (intro V hSw; obtain ⟨s0, s1, s2, s3⟩ := HSB.out V hSw; go_simp; try with_reducible rfl)
                try simp only [Act.put]
                refine wpE_takeF 3 ⟨some 86, _, _, _, _, _⟩ (v := ?_) (by decide) rfl (by kernel_rfl) (by kernel_rfl) (by kernel_rfl) (fun _ _ _ h => h) hS (Or.inl ⟨by kernel_rfl, ?_⟩) ?_
                rotate_left
                · (intro V hSw; obtain ⟨s0, s1, s2, s3⟩ := HSB.out V hSw; go_simp; try with_reducible rfl)
                try simp only [Act.put]
                refine wpE_takeF 4 ⟨some 87, _, _, _, _, _⟩ (v := ?_) (by decide) rfl (by kernel_rfl) (by kernel_rfl) (by kernel_rfl) (fun _ _ _ h => h) hS (Or.inl ⟨by kernel_rfl, ?_⟩) ?_
                rotate_left
                · (intro V hSw; obtain ⟨s0, s1, s2, s3⟩ := HSB.out V hSw; go_simp; try with_reducible rfl)
                try simp only [Act.put]
                refine wpE_takeF 5 ⟨some 88, _, _, _, _, _⟩ (v := ?_) (by decide) rfl (by kernel_rfl) (by kernel_rfl) (by kernel_rfl) (fun _ _ _ h => h) hS (Or.inl ⟨by kernel_rfl, ?_⟩) ?_
                rotate_left
                · (intro V hSw; obtain ⟨s0, s1, s2, s3⟩ := HSB.out V hSw; go_simp; try with_reducible rfl)
                try simp only [Act.put]
                refine wpE_takeF 6 ⟨some 89, _, _, _, _, _⟩ (v := ?_) (by decide) rfl (by kernel_rfl) (by kernel_rfl) (by kernel_rfl) (fun _ _ _ h => h) hS (Or.inl ⟨by kernel_rfl, ?_⟩) ?_
                rotate_left
                · (intro V hSw; obtain ⟨s0, s1, s2, s3⟩ := HSB.out V hSw; go_simp; try with_reducible rfl)
                try simp only [Act.put]
                refine wpE_takeF 7 ⟨some 90, _, _, _, _, _⟩ (v := ?_) (by decide) rfl (by kernel_rfl) (by kernel_rfl) (by kernel_rfl) (fun _ _ _ h => h) hS (Or.inl ⟨by kernel_rfl, ?_⟩) ?_
                rotate_left
                · (intro V hSw; obtain ⟨s0, s1, s2, s3⟩ := HSB.out V hSw; go_simp; try with_reducible rfl)
                try simp only [Act.put]
                refine wpE_takeF 8 ⟨some 91, _, _, _, _, _⟩ (v := ?_) (by decide) rfl (by kernel_rfl) (by kernel_rfl) (by kernel_rfl) (fun _ _ _ h => h) hS (Or.inl ⟨by kernel_rfl, ?_⟩) ?_
                rotate_left
                · (intro V hSw; obtain ⟨s0, s1, s2, s3⟩ := HSB.out V hSw; go_simp; try with_reducible rfl)
                try simp only [Act.put]
                refine wpE_takeF 9 ⟨some 92, _, _, _, _, _⟩ (v := ?_) (by decide) rfl (by kernel_rfl) (by kernel_rfl) (by kernel_rfl) (fun _ _ _ h => h) hS (Or.inl ⟨by kernel_rfl, ?_⟩) ?_
                rotate_left
                · (intro V hSw; obtain ⟨s0, s1, s2, s3⟩ := HSB.out V hSw; go_simp; try with_reducible rfl)
                try simp only [Act.put]
                refine wpE_takeF 10 ⟨some 93, _, _, _, _, _⟩ (v := ?_) (by decide) rfl (by kernel_rfl) (by kernel_rfl) (by kernel_rfl) (fun _ _ _ h => h) hS (Or.inl ⟨by kernel_rfl, ?_⟩) ?_
                rotate_left
                · (intro V hSw; obtain ⟨s0, s1, s2, s3⟩ := HSB.out V hSw; go_simp; try with_reducible rfl)
                try simp only [Act.put]
                refine wpE_done (by kernel_rfl) ?_ _
                try simp only [List.setIfInBounds_toArray, List.set_cons_succ, List.set_cons_zero]
                have HB7 : Hid (Below V2.heap.size V2 wr.drew) := Lib.hid HBR2.out.drew
                go_wp2
                go_roundw
                case rel => exact ⟨j + 1, by omega, by go_num, HSTEP.out, HB7.out⟩
                case measure => simp [intOf]; omega
              · have hqb : (y == x) = false := beq_eq_false_iff_ne.2 hxy
                have hne : (⟨y.toArray⟩ : ByteArray) ≠ ⟨x.toArray⟩ := by
                  intro e
                  injection e with e
                  exact hxy (by simpa using congrArg Array.toList e)
                have hr := HHR.out
                rw [if_neg (fun e => hxy (by rw [hx, hy]; have := e.2.2; subst this; rfl))] at hr
                have HR := Lib.hid hr; clear hr hxy hx hy
                go_wp2_with fail
                refine wp_region_E (fun V => Below wr.heap.size wr V) 99 rfl ?_
                have hS := (show Below wr.heap.size wr wr.drew from (Below.refl _ wr).drew)
                refine wpE_takeF 0 ⟨some 83, _, _, _, _, _⟩ (v := ?_) (by decide) rfl (by kernel_rfl) (by kernel_rfl) (by kernel_rfl) (fun _ _ _ h => h) hS (Or.inl ⟨by kernel_rfl, ?_⟩) ?_
                rotate_left
                · (intro V hSw; obtain ⟨s0, s1, s2, s3⟩ := HSB.out V hSw; go_simp; try with_reducible rfl)
                try simp only [Act.put]
                refine wpE_takeF 1 ⟨some 84, _, _, _, _, _⟩ (v := ?_) (by decide) rfl (by kernel_rfl) (by kernel_rfl) (by kernel_rfl) (fun _ _ _ h => h) hS (Or.inl ⟨by kernel_rfl, ?_⟩) ?_
                rotate_left
                · (intro V hSw; obtain ⟨s0, s1, s2, s3⟩ := HSB.out V hSw; go_simp; try with_reducible rfl)
                try simp only [Act.put]
                refine wpE_takeF 2 ⟨some 85, _, _, _, _, _⟩ (v := ?_) (by decide) rfl (by kernel_rfl) (by kernel_rfl) (by kernel_rfl) (fun _ _ _ h => h) hS (Or.inl ⟨by kernel_rfl, ?_⟩) ?_
                rotate_left
                · (intro V hSw; obtain ⟨s0, s1, s2, s3⟩ := HSB.out V hSw; go_simp; try with_reducible rfl)
                try simp only [Act.put]
                refine wpE_takeF 3 ⟨some 86, _, _, _, _, _⟩ (v := ?_) (by decide) rfl (by kernel_rfl) (by kernel_rfl) (by kernel_rfl) (fun _ _ _ h => h) hS (Or.inl ⟨by kernel_rfl, ?_⟩) ?_
                rotate_left
                · (intro V hSw; obtain ⟨s0, s1, s2, s3⟩ := HSB.out V hSw; go_simp; try with_reducible rfl)
                try simp only [Act.put]
                refine wpE_takeF 4 ⟨some 87, _, _, _, _, _⟩ (v := ?_) (by decide) rfl (by kernel_rfl) (by kernel_rfl) (by kernel_rfl) (fun _ _ _ h => h) hS (Or.inl ⟨by kernel_rfl, ?_⟩) ?_
                rotate_left
                · (intro V hSw; obtain ⟨s0, s1, s2, s3⟩ := HSB.out V hSw; go_simp; try with_reducible rfl)
                try simp only [Act.put]
                refine wpE_takeF 5 ⟨some 88, _, _, _, _, _⟩ (v := ?_) (by decide) rfl (by kernel_rfl) (by kernel_rfl) (by kernel_rfl) (fun _ _ _ h => h) hS (Or.inl ⟨by kernel_rfl, ?_⟩) ?_
                rotate_left
                · (intro V hSw; obtain ⟨s0, s1, s2, s3⟩ := HSB.out V hSw; go_simp; try with_reducible rfl)
                try simp only [Act.put]
                refine wpE_takeF 6 ⟨some 89, _, _, _, _, _⟩ (v := ?_) (by decide) rfl (by kernel_rfl) (by kernel_rfl) (by kernel_rfl) (fun _ _ _ h => h) hS (Or.inl ⟨by kernel_rfl, ?_⟩) ?_
                rotate_left
                · (intro V hSw; obtain ⟨s0, s1, s2, s3⟩ := HSB.out V hSw; go_simp; try with_reducible rfl)
                try simp only [Act.put]
                refine wpE_takeF 7 ⟨some 90, _, _, _, _, _⟩ (v := ?_) (by decide) rfl (by kernel_rfl) (by kernel_rfl) (by kernel_rfl) (fun _ _ _ h => h) hS (Or.inl ⟨by kernel_rfl, ?_⟩) ?_
                rotate_left
                · (intro V hSw; obtain ⟨s0, s1, s2, s3⟩ := HSB.out V hSw; go_simp; try with_reducible rfl)
                try simp only [Act.put]
                refine wpE_takeF 8 ⟨some 91, _, _, _, _, _⟩ (v := ?_) (by decide) rfl (by kernel_rfl) (by kernel_rfl) (by kernel_rfl) (fun _ _ _ h => h) hS (Or.inl ⟨by kernel_rfl, ?_⟩) ?_
                rotate_left
                · (intro V hSw; obtain ⟨s0, s1, s2, s3⟩ := HSB.out V hSw; go_simp; try with_reducible rfl)
                try simp only [Act.put]
                refine wpE_takeF 9 ⟨some 92, _, _, _, _, _⟩ (v := ?_) (by decide) rfl (by kernel_rfl) (by kernel_rfl) (by kernel_rfl) (fun _ _ _ h => h) hS (Or.inl ⟨by kernel_rfl, ?_⟩) ?_
                rotate_left
                · (intro V hSw; obtain ⟨s0, s1, s2, s3⟩ := HSB.out V hSw; go_simp; try with_reducible rfl)
                try simp only [Act.put]
                refine wpE_takeF 10 ⟨some 93, _, _, _, _, _⟩ (v := ?_) (by decide) rfl (by kernel_rfl) (by kernel_rfl) (by kernel_rfl) (fun _ _ _ h => h) hS (Or.inl ⟨by kernel_rfl, ?_⟩) ?_
                rotate_left
                · (intro V hSw; obtain ⟨s0, s1, s2, s3⟩ := HSB.out V hSw; go_simp; try with_reducible rfl)
                try simp only [Act.put]
                refine wpE_done (by kernel_rfl) ?_ _
                try simp only [List.setIfInBounds_toArray, List.set_cons_succ, List.set_cons_zero]
                have HBZ : Hid (Below w.heap.size w wr.drew) := Lib.hid HBW.out.drew
                go_wp2
                go_ret2
                rw [HR.out]
                exact ⟨none, 0, rfl, OwnX.nil _ _, HBZ.out⟩
            · have hjk : j = k := by omega
              subst hjk
              have heqN : SN = N := List.ext_getElem (by rw [HSL.out, HLN.out]) (fun t h1 h2 => HEQ.out t h2 h1 (by have := HLN.out; omega))
              have hr := HHR.out
              rw [if_pos (by first | exact ⟨rfl, hkp, heqN⟩ | exact ⟨trivial, hkp, heqN⟩)] at hr
              have HR := Lib.hid hr; clear hr heqN
              have hge4 : ¬ (j : Int) < (j : Int) := by omega
              go_wp2
              go_ret2
              rw [HR.out]
              exact ⟨A1, c1, by dsimp only; rw [← HKK.out]; rfl, by dsimp only; rw [← HKK.out]; exact HO3.out.below HBR2.out, HBW.out⟩
        · have hsl' : ¬ (SN.length : Int) = (k : Int) := by omega
          have hslb : ((SN.length : Int) == (k : Int)) = false := beq_eq_false_iff_ne.2 hsl'
          have hsln : ((SN.length : Int) != (k : Int)) = true := bne_iff_ne.2 hsl'
          have hkz : ((k : Int) == 0) = false := beq_eq_false_iff_ne.2 hk00
          rw [if_neg (fun e => hsl (by rw [e.2.2, HLN.out]))] at hr
          have HR := Lib.hid hr; clear hr
          generalize SN.length = sn at hsl hsl' hslb hsln
          go_wp2
          go_ret2
          rw [HR.out]
          exact ⟨none, 0, rfl, OwnX.nil _ _, HB2.out⟩
end Go.Proofs.Ytkhenchhafmlmaa.Ex
