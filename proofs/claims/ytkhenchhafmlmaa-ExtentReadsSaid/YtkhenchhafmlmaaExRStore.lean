/- Store: the document's call. -/
import Derived.Test.YtkhenchhafmlmaaExStore
import Derived.Test.YtkhenchhafmlmaaExNodesF
import Derived.Test.YtkhenchhafmlmaaExRFind
namespace Go.Proofs.Ytkhenchhafmlmaa.Ex
set_option maxRecDepth 20000
open Go Go.RowKit
open Go.Proofs.Ytkhenchhafmlmaa.Mem Go.Proofs.Ytkhenchhafmlmaa.Crc Go.Proofs.Ytkhenchhafmlmaa.Rec Go.Proofs.Ytkhenchhafmlmaa.Reg
attribute [local go_sem ↓] ldX_eq stX_eq

theorem run_secX (W : World) (b off N c q r : Nat) (hj : q < r) (hr : r ≤ N) (hc : N ≤ c) :
    (Instr.slice 22 (.slice (some ⟨b, off, none⟩) N c) (some (.int .i64 (q : Int))) (some (.int .i64 (r : Int))) none).run Try.prog W = .ok (.slice (some ⟨b, off + q * 4, none⟩) (r - q) (c - q)) W := by
  have h := run_slice_lh (P := Try.prog) W 22 (some ⟨b, off, none⟩) N c (by rw [Try.underlying22]; rfl) .i64 .i64 (q : Int) (r : Int) (by omega) (by omega) (by omega)
  rw [h]
  have hs : (sizeOf (Try.prog.elem 22)).run Try.prog W = .ok 4 W := by rfl
  rw [hs]
  simp [Result.andThen, sliced, show ¬ c = q by omega, Addr.add_mid]
set_option maxRecDepth 100000 in
set_option maxHeartbeats 8000000 in
theorem filled_grow (A : Option Addr) (m c N base : Nat) (bs : List UInt8) (w : World) (h : Owned w base (.slice A m c) bs) (hb : base ≤ w.heap.size) (hm : m ≤ N) (hN : N ≤ 65536) :
    Calls Try.prog 50 #[.slice A m c, .int .i64 (N : Int)] w fun E w' => ∃ A' c', E = .returned (.slice A' N c') ∧ Owned w' base (.slice A' N c') (padB bs N) ∧ Grows w w' (.slice A m c) (.slice A' N c') := by
  have hln := Owned.len h
  have H := Lib.hid h; clear h
  go_enter Try.func50, Try.ntmps50
  go_wp2
  go_loopw [0] (fun v wr => ∃ (k n' : Nat) (A' : Option Addr) (c' : Nat), n' = m + k ∧ n' ≤ N ∧ v = .slice A' n' c' ∧ Owned wr base (.slice A' n' c') (bs ++ List.replicate k 0) ∧ Grows w wr (.slice A m c) v) (fun v _ => N - lenS v)
  case atStart => exact ⟨0, m, A, c, rfl, hm, rfl, by rw [List.replicate_zero, List.append_nil]; exact H.out, Grows.refl _ _⟩
  case round =>
    obtain ⟨k, n', A', c', hk, hkN, rfl, hown, hbr⟩ := hrel
    have HO := Lib.hid hown; clear hown
    have HBR := Lib.hid hbr; clear hbr
    have HZ : Hid (base ≤ wr.heap.size) := Lib.hid (Nat.le_trans hb HBR.out.1.size)
    have HLL := Lib.hid (show (bs ++ List.replicate k (0 : UInt8)).length = n' from (Owned.len HO.out).symm)
    rcases Nat.lt_or_ge n' N with hlt | hge
    · have hlt' : (n' : Int) < (N : Int) := by omega
      obtain ⟨v1, V1, hrun, ho1, hg1⟩ := run_addB (wr.alloc (.cells #[.int .u8 0] 5)) 46 base (.slice A' n' c') (bs ++ List.replicate k 0) (World.ownsRow.alloc HO.out _) (wr.heap.size + 1) (some ⟨wr.heap.size, 0, none⟩) 1 1 [0] (holds_lit wr [0] _ rfl) (by rw [HLL.out]; omega) (by have := HZ.out; simp; omega)
      have he : (bs ++ List.replicate k (0 : UInt8)) ++ [0] = bs ++ List.replicate (k + 1) 0 := by rw [List.append_assoc]; congr 1; exact List.replicate_succ'.symm
      rw [he] at ho1
      obtain ⟨A1, c1, rfl⟩ := Owned.shape ho1
      have hl1 : (bs ++ List.replicate (k + 1) (0 : UInt8)).length = n' + 1 := by
        have := HLL.out
        simp at this ⊢
        omega
      rw [hl1] at ho1 hrun hg1
      have HO1 := Lib.hid ho1; clear ho1
      have hg2 : Grows wr V1 (.slice A' n' c') (.slice A1 (n' + 1) c1) := ⟨grown_trans (grown_of_below ((Below.refl _ wr).alloc (Nat.le_refl _) _) _) hg1.1, fun g e => by
        rcases hg1.2 g e with e | e
        · exact .inl e
        · exact .inr (by simp at e; omega)⟩
      have HB1 : Hid (Grows w V1 (.slice A m c) (.slice A1 (n' + 1) c1)) := Lib.hid (HBR.out.trans hg2)
      have HK := Lib.hid hk
      clear hg1 hg2 he hl1 hk hln
      go_wp2_with (at_builtin; refine wpList_apprun rfl (.tmp 9) (.tmp 10) 46 46 rfl _ _ rfl rfl _ V1 hrun ?_)
      go_wp2
      go_roundw
      case rel => exact ⟨k + 1, n' + 1, A1, c1, by have := HK.out; omega, by omega, rfl, HO1.out, HB1.out⟩
      case measure => simp only [lenS]; omega
    · have hnn : n' = N := by omega
      have hp : padB bs N = bs ++ List.replicate k 0 := by
        unfold padB
        congr 2
        omega
      have ho3 : Owned wr base (.slice A' n' c') (padB bs N) := by rw [hp]; exact HO.out
      have HO3 := Lib.hid ho3; clear hp ho3
      subst hnn
      have hge' : ¬ (n' : Int) < (n' : Int) := by omega
      clear hk hln
      go_wp2
      go_ret
      exact ⟨A', c', rfl, HO3.out, HBR.out⟩

theorem fill252 (A : Option Addr) (m c base : Nat) (bs : List UInt8) (w : World) (h : Owned w base (.slice A m c) bs) (hb : base ≤ w.heap.size) (hm : m ≤ 252) :
    Calls Try.prog 50 #[.slice A m c, .int .i64 252] w fun E w' => ∃ A' c', E = .returned (.slice A' 252 c') ∧ Owned w' base (.slice A' 252 c') (padB bs 252) ∧ Below base w w' := filled_any A m c 252 base bs w h hb hm (by omega)
theorem fill60 (A : Option Addr) (m c base : Nat) (bs : List UInt8) (w : World) (h : Owned w base (.slice A m c) bs) (hb : base ≤ w.heap.size) (hm : m ≤ 60) :
    Calls Try.prog 50 #[.slice A m c, .int .i64 60] w fun E w' => ∃ A' c', E = .returned (.slice A' 60 c') ∧ Owned w' base (.slice A' 60 c') (padB bs 60) ∧ Grows w w' (.slice A m c) (.slice A' 60 c') := filled_grow A m c 60 base bs w h hb hm (by omega)

set_option maxRecDepth 100000 in
set_option maxHeartbeats 8000000 in
theorem rstore_any (A A' : Option Addr) (n c n' c' B B' : Nat) (l : List X) (bs : List Int) (w : World) (h : HoldsX w B A n l) (hB : B ≤ w.heap.size) (hr : ∀ x ∈ l, x.rep) (hc : n ≤ c) (hn : n ≤ 4398046511104) (h' : HoldsI w B' A' n' bs) (hB' : B' ≤ w.heap.size) (hn' : n' ≤ 9223372036854775806) :
    Calls Try.prog 28 #[.slice A n c, .slice A' n' c'] w (StoreOut w.heap.size (storeL l bs).1 (storeL l bs).2.1 (storeL l bs).2.2 w) := by
  have hneed := rneed_any A n c B l w h hB hr hn
  have hap := fun V (hV : Below w.heap.size w V) => numbers_any A' n' c' B' bs V (h'.below (hV.mono hB')) (by have := hV.size; omega) hn'
  have hln := h.1
  have hln' := h'.1
  unfold StoreOut
  have HN := Lib.hid hneed; clear hneed
  by_cases hne : needL l = (n' : Int)
  · cases hnb : numB bs with
    | false =>
      rw [store_bad (.inr hnb)]
      rw [hnb] at hap
      have HAP := Lib.hid hap; clear hap
      clear h h' hr hln hln' hnb
      generalize needL l = nd at HN hne
      subst hne
      have hp : ¬ (n' : Int) < 0 := by omega
      go_enter Try.func28, Try.ntmps28
      go_wp2_with fail
      with_reducible refine HN.out.mono ?_
      rintro E V ⟨rfl, hb⟩
      have HB := Lib.hid hb; clear hb
      go_wp2_with fail
      with_reducible refine (HAP.out V HB.out).mono ?_
      rintro E V2 ⟨rfl, hb2⟩
      have HB2 : Hid (Below w.heap.size w V2) := Lib.hid (HB.out.trans (hb2.mono HB.out.size))
      clear hb2
      go_wp2
      go_ret3
      exact ⟨none, 0, none, 0, rfl, owned_none _ _, OwnN.nil _ _, HB2.out⟩
    | true =>
      obtain ⟨hright, hnn⟩ := needL_right hne
      have h60 := (right_lin hright).2.2.2.2
      have hmay := ((right_iff l).1 hright).2.1
      have hrng := num_range hnb
      have hst : storeL l bs = (if bs.length = 0 then (holdB l 60, [], 0) else (nameB bs, nodesB l, 0)) := by
        unfold storeL
        rw [hnb, hln', hne]
        simp
      rw [hst]
      clear hst
      rw [hnb] at hap
      have HAP := Lib.hid hap; clear hap
      have hn3 : n' ≤ 3 := by rw [← hnn]; unfold needN; split <;> omega
      by_cases h0 : n' = 0
      · subst h0
        have hl0 : bs = [] := List.length_eq_zero_iff.1 hln'
        subst hl0
        have h4 : n ≤ 4 := by
          rw [hln] at hnn
          unfold needN at hnn
          split at hnn
          · assumption
          · omega
        simp only [List.length_nil, if_true]
        have hlist := fun V (hV : Below w.heap.size w V) => list_any A n c B l V (h.below (hV.mono hB)) (by have := hV.size; omega) hmay (by omega)
        have hhl := holdB_len l 60 (by omega)
        have hhd : padB (headB n 0 ++ encs l) 60 = holdB l 60 := by unfold holdB; rw [hln]
        obtain ⟨HBs, hHB⟩ : ∃ HBs, HBs = holdB l 60 := ⟨_, rfl⟩
        rw [← hHB] at hhd hhl ⊢
        have HLIST := Lib.hid hlist; clear hlist
        have HHL := Lib.hid hhl; clear hhl hHB
        have HHD := Lib.hid hhd; clear hhd
        have hm60 : 4 + n * 12 ≤ 60 := by omega
        have HM60 := Lib.hid hm60; clear hm60
        clear h h' hr hln hln' hnb hright hnn h60 hmay hrng hn3 h4
        generalize needL l = nd at HN hne
        subst hne
        go_enter Try.func28, Try.ntmps28
        go_wp2_with fail
        with_reducible refine HN.out.mono ?_
        rintro E V ⟨rfl, hb⟩
        have HB := Lib.hid hb; clear hb
        go_wp2_with fail
        with_reducible refine (HAP.out V HB.out).mono ?_
        rintro E V2 ⟨rfl, hb2⟩
        have HB2 : Hid (Below w.heap.size w V2) := Lib.hid (HB.out.trans (hb2.mono HB.out.size))
        clear hb2
        go_wp2_with fail
        with_reducible refine (HLIST.out V2 HB2.out).mono ?_
        rintro E V3 ⟨A3, c3, rfl, ho3, hb3⟩
        have HO3 : Hid (Owned V3 w.heap.size (.slice A3 (4 + n * 12) c3) (headB n 0 ++ encs l)) := Lib.hid (Owned.mono ho3 HB2.out.size)
        have HB3 : Hid (Below w.heap.size w V3) := Lib.hid (HB2.out.trans (hb3.mono HB2.out.size))
        clear ho3 hb3
        have hm60 := HM60.out
        generalize 4 + n * 12 = m at HO3 hm60 ⊢
        have HM60' := Lib.hid hm60; clear hm60
        go_wp2_with fail
        with_reducible refine (fill60 A3 m c3 w.heap.size _ V3 HO3.out HB3.out.size HM60'.out).mono ?_
        rintro E V4 ⟨A4, c4, rfl, ho4, hb4⟩
        rw [HHD.out] at ho4
        have HO4 := Lib.hid ho4; clear ho4
        have HB4 : Hid (Below w.heap.size w V4) := Lib.hid (HB3.out.trans (hb4.below HB3.out.size (fun g e => (owned_lt HO3.out g e).1)))
        clear hb4
        go_wp2
        go_ret3
        exact ⟨A4, c4, none, 0, by rw [HHL.out]; rfl, by rw [HHL.out]; exact HO4.out, OwnN.nil _ _, HB4.out⟩
      · rw [if_neg (by omega)]
        have hmn : manyX n = n' := by
          rw [hln] at hnn
          unfold needN at hnn
          unfold manyX
          split at hnn
          · omega
          · exact hnn
        have hnl := nameB_len bs (by omega)
        have hna : nodesA l (List.range n') = nodesB l := by unfold nodesA nodesB; rw [hln, hmn]
        have hpb : padB (headB n' 1 ++ blkB bs) 60 = nameB bs := by unfold nameB; rw [hln']
        obtain ⟨NB, hNB⟩ : ∃ NB, NB = nameB bs := ⟨_, rfl⟩
        obtain ⟨ND, hND⟩ : ∃ ND, ND = nodesB l := ⟨_, rfl⟩
        have hndl : ND.length = n' := by rw [hND, nodesB_len, hln, hmn]
        rw [← hNB] at hnl hpb ⊢
        rw [← hND] at hna ⊢
        have hmk : ∀ k, k < n' → k * 20 < n := fun k hk => by unfold manyX at hmn; omega
        have H := Lib.hid h; clear h
        have HI := Lib.hid h'; clear h'
        have HMAY := Lib.hid hmay; clear hmay
        have HRNG := Lib.hid hrng; clear hrng
        have HNL := Lib.hid hnl; clear hnl hNB hND
        have HNA := Lib.hid hna; clear hna
        have HPB := Lib.hid hpb; clear hpb
        have HNDL := Lib.hid hndl; clear hndl
        have HMK := Lib.hid hmk; clear hmk
        have HLN := Lib.hid hln; clear hln
        have HLN' := Lib.hid hln'; clear hln'
        have H60 := Lib.hid h60; clear h60
        have HBB := Lib.hid hB; clear hB
        have HBB' := Lib.hid hB'; clear hB'
        have hw8 : IntKind.u8.wrap (n' : Int) = (n' : Int) := by rw [IntKind.wrap_u8]; omega
        have h0' : ¬ (n' : Int) = 0 := by omega
        have hd0 : ((n' : Int) == 0) = false := by simp; omega
        have hd1 : decide ((n' : Int) < 0) = false := decide_eq_false (by omega)
        have hp : ¬ (n' : Int) < 0 := by omega
        clear hr hnb hright hnn hmn
        generalize needL l = nd at HN hne
        subst hne
        go_enter Try.func28, Try.ntmps28
        go_wp2_with fail
        with_reducible refine HN.out.mono ?_
        rintro E V ⟨rfl, hb⟩
        have HB := Lib.hid hb; clear hb
        go_wp2_with fail
        with_reducible refine (HAP.out V HB.out).mono ?_
        rintro E V2 ⟨rfl, hb2⟩
        have HB2 : Hid (Below w.heap.size w V2) := Lib.hid (HB.out.trans (hb2.mono HB.out.size))
        clear hb2
        have hlit : V2.alloc (.cells #[.int .u8 (n' : Int), .int .u8 0, .int .u8 1, .int .u8 0] 5) = V2.alloc (.cells ((headB n' 1).map byteV).toArray 5) := by
          congr 2
          unfold headB byteV
          simp
          omega
        obtain ⟨W, hW⟩ : ∃ W, W = V2.alloc (.cells #[.int .u8 (n' : Int), .int .u8 0, .int .u8 1, .int .u8 0] 5) := ⟨_, rfl⟩
        have hoW : Owned W w.heap.size (.slice (some ⟨V2.heap.size, 0, none⟩) 4 4) (headB n' 1) := by
          rw [hW, hlit]
          exact Owned.mono (owned_made V2 (headB n' 1) V2.heap.size (Nat.le_refl _) (by unfold maxLen headB; simp)) HB2.out.size
        have hbW : Below w.heap.size w W := by rw [hW]; exact HB2.out.alloc HB2.out.size _
        have hbs0 : Beside W w.heap.size (.slice (some ⟨V2.heap.size, 0, none⟩) 4 4) (headB n' 1) (.slice none 0 0) [] (fun _ => False) := ⟨hoW, OwnF.nil _ _ _, fun g h => h.elim, fun g _ h => h⟩
        have HWE := Lib.hid hW; clear hW hlit hoW
        have HBW := Lib.hid hbW; clear hbW
        have HBS0 := Lib.hid hbs0; clear hbs0
        go_wp2
        rw [← HWE.out]
        go_loopw [8, 9, 10, 11] (fun r v i _ wr => ∃ (k m : Nat) (A1 A2 : Option Addr) (c1 c2 : Nat) (F : Nat → Prop), k ≤ n' ∧ m = 4 + k * 4 ∧ i = .int .i64 (k : Int) ∧ r = .slice A1 m c1 ∧ v = .slice A2 k c2 ∧ Beside wr w.heap.size (.slice A1 m c1) (headB n' 1 ++ blkB (bs.take k)) (.slice A2 k c2) (nodesA l (List.range k)) F ∧ Below w.heap.size w wr) (fun _ _ i _ _ => n' - (intOf i).toNat)
        case atStart => exact ⟨0, 4, _, _, _, _, _, Nat.zero_le _, rfl, rfl, rfl, rfl, by rw [List.take_zero]; unfold blkB nodesA; rw [List.flatMap_nil, List.append_nil, List.range_zero, List.map_nil]; exact HBS0.out, HBW.out⟩
        case round =>
          obtain ⟨k, m, A1, A2, c1, c2, F, hk, hm, rfl, rfl, rfl, hbsd, hbr⟩ := hrel
          have HBS := Lib.hid hbsd; clear hbsd
          have HBR := Lib.hid hbr; clear hbr
          have HM := Lib.hid hm; clear hm
          rcases Nat.lt_or_ge k n' with hlt | hge
          · have hkl : k < bs.length := by have := HLN'.out; omega
            obtain ⟨b', off', rfl, hbB', hcl⟩ := HI.out.2 (by omega)
            have hx := ((HBR.out.mono HBB'.out).cell (p := ⟨b', off' + k, none⟩) hbB').trans (hcl k hkl)
            obtain ⟨v, hv⟩ : ∃ v : Nat, bs[k] = (v : Int) := ⟨(bs[k]).toNat, by have := HRNG.out _ (List.getElem_mem hkl); omega⟩
            rw [hv] at hx
            have hv1 : v < 1024 := by have := HRNG.out _ (List.getElem_mem hkl); omega
            have hblk : blkB (bs.take (k + 1)) = blkB (bs.take k) ++ bytesL v 4 := by
              rw [List.take_succ_eq_append_getElem hkl, blkB_snoc, hv]; rfl
            obtain ⟨b, off, rfl, hbB⟩ := H.out.addr (by have := HMK.out k hlt; omega)
            obtain ⟨q, hq⟩ : ∃ q, q = k * 20 := ⟨_, rfl⟩
            obtain ⟨r, hr⟩ : ∃ r, r = min n (k * 20 + 20) := ⟨_, rfl⟩
            have hqr : q < r ∧ r ≤ n := by have := HMK.out k hlt; omega
            obtain ⟨M, hM⟩ : ∃ M, M = r - q := ⟨_, rfl⟩
            have hM20 : M ≤ 20 := by omega
            have hsec := fun W => run_secX W b off n c q r hqr.1 hqr.2 hc
            rw [← hM] at hsec
            have hmin : ∀ (ts : Array TypeId) (ty : TypeId) (W : World), (Builtin.min_ ts ty #[.int .i64 (n : Int), .int .i64 ((q + 20 : Nat) : Int)]).run Try.prog W = .ok (.int .i64 (r : Int)) W := fun ts ty W => by
              rw [clamp_min, hr, hq]
              congr 2
              omega
            obtain ⟨q2, hq2⟩ : ∃ q2, q2 = q + 20 := ⟨_, rfl⟩
            rw [← hq2] at hmin
            have hw1 : IntKind.i64.wrap ((k : Int) + 1) = (k : Int) + 1 := by rw [IntKind.wrap_i64]; omega
            have hw2 : IntKind.i64.wrap (((k : Int) + 1) * 20) = (q2 : Int) := by rw [IntKind.wrap_i64]; omega
            have hw3 : IntKind.i64.wrap ((k : Int) * 20) = (q : Int) := by rw [IntKind.wrap_i64]; omega
            have hu : IntKind.u64.wrap (v : Int) = (v : Int) := by rw [IntKind.wrap_u64]; omega
            have hpart : (l.drop q).take M = partX l k := by
              unfold partX
              have h1 := HLN.out
              rcases Nat.lt_or_ge (n - q) 20 with h2 | h2
              · rw [← hq, List.take_of_length_le (by rw [List.length_drop]; omega), List.take_of_length_le (by rw [List.length_drop]; omega)]
              · rw [← hq, show M = 20 by omega]
            have hh : ∀ V, Below w.heap.size w V → HoldsX V B (some ⟨b, off + q * 4, none⟩) M (partX l k) := fun V hV => by
              have := (H.out.below (hV.mono HBB.out)).sub (i := q) (m := M) (by omega)
              rwa [hpart] at this
            have hpm : ∀ x ∈ partX l k, x.may = true := fun x hx => HMAY.out x (List.mem_of_mem_drop (List.mem_of_mem_take hx))
            have hp20 := partX_len l k
            have hplen : (partX l k).length = M := (hh w (Below.refl _ w)).1
            have hna1 : nodesA l (List.range (k + 1)) = nodesA l (List.range k) ++ [nodeB (partX l k)] := by unfold nodesA; rw [List.range_succ, List.map_append]; rfl
            obtain ⟨p, hp⟩ : ∃ p, p = partX l k := ⟨_, rfl⟩
            rw [← hp] at hh hpm hp20 hna1 hplen
            have hlist := fun V (hV : Below w.heap.size w V) => list_any (some ⟨b, off + q * 4, none⟩) M (c - q) B p V (hh V hV) (by have := hV.size; have := HBB.out; omega) hpm (by omega)
            have hpad : padB (headB M 0 ++ encs p) 252 = holdB p 252 := by unfold holdB; rw [hplen]
            have hhl := holdB_len p 252 (by omega)
            have hnb := nodeB_len p hp20
            have hnd : nodeB p = holdB p 252 ++ bytesL (sum (holdB p 252)) 4 := rfl
            obtain ⟨T, hT⟩ : ∃ T, T = holdB p 252 := ⟨_, rfl⟩
            rw [← hT] at hpad hhl hnd
            have hk0 : (0 : Int) ≤ (k : Int) := by omega
            have hkn : (k : Int) < (n' : Int) := by omega
            have hnl3 : (nodesA l (List.range k)).length ≤ 3 := by unfold nodesA; rw [List.length_map, List.length_range]; omega
            have HLIST := Lib.hid hlist; clear hlist
            have HPAD := Lib.hid hpad; clear hpad
            have HHL := Lib.hid hhl; clear hhl
            have HNB := Lib.hid hnb; clear hnb
            have HND := Lib.hid hnd; clear hnd
            have HNA1 := Lib.hid hna1; clear hna1
            have HBLK := Lib.hid hblk; clear hblk
            have HM252 : Hid (4 + M * 12 ≤ 252) := Lib.hid (by omega)
            have HNL3 := Lib.hid hnl3; clear hnl3
            clear hT hp hh hpm hp20 hplen hpart hq2 hM hqr hr hq hcl hv hM20
            go_wp2_with fail
            with_reducible refine (rb4 v wr).mono ?_
            rintro E V3 ⟨A3, c3, rfl, ho3, hb3⟩
            have HBS3 := Lib.hid (HBS.out.below hb3)
            have HB3 : Hid (Below w.heap.size w V3) := Lib.hid (HBR.out.trans (hb3.mono HBR.out.size))
            have hlr : (headB n' 1 ++ blkB (bs.take k)).length = m := (Owned.len HBS3.out.bytes).symm
            obtain ⟨v4, V4, hrun4, ho4, hg4⟩ := run_addB V3 46 w.heap.size _ _ HBS3.out.bytes V3.heap.size A3 4 c3 (bytesL v 4) (Owned.reads ho3) (by have := HM.out; omega) HB3.out.size
            rw [List.append_assoc, ← HBLK.out] at ho4
            have hbs4 := HBS3.out.grow hg4 ho4
            have HB4 : Hid (Below w.heap.size w V4) := Lib.hid (HB3.out.trans (hg4.below HB3.out.size (fun g e => (owned_lt HBS3.out.bytes g e).1)))
            obtain ⟨A4, c4, rfl⟩ := Owned.shape ho4
            have hl4 : (headB n' 1 ++ blkB (bs.take (k + 1))).length = m + 4 := by
              rw [HBLK.out, ← List.append_assoc, List.length_append, hlr, bytesL_len]
            rw [hl4] at hrun4 hbs4
            have HBS4 := Lib.hid hbs4; clear hbs4
            clear ho3 hb3 ho4 hg4 hl4 hlr
            go_wp2_with (at_builtin; refine wpList_apprun rfl (.tmp 40) (.tmp 46) 46 46 rfl _ _ rfl rfl _ V4 hrun4 ?_)
            clear hrun4
            go_wp2_with fail
            with_reducible refine (HLIST.out V4 HB4.out).mono ?_
            rintro E V5 ⟨A5, c5, rfl, ho5, hb5⟩
            have HO5 := Lib.hid ho5; clear ho5
            have HB5 := Lib.hid hb5; clear hb5
            have hm252 := HM252.out
            generalize 4 + M * 12 = m5 at HO5 hm252 ⊢
            have HM2 := Lib.hid hm252; clear hm252
            go_wp2_with fail
            with_reducible refine (fill252 A5 m5 c5 V4.heap.size _ V5 HO5.out HB5.out.size HM2.out).mono ?_
            rintro E V6 ⟨A6, c6, rfl, ho6, hb6⟩
            rw [HPAD.out] at ho6
            have HO6 := Lib.hid ho6; clear ho6
            have HB6 : Hid (Below V4.heap.size V4 V6) := Lib.hid (HB5.out.trans hb6)
            clear hb6
            have hrd := Owned.reads HO6.out
            have HRD := Lib.hid hrd; clear hrd
            go_wp2_with fail
            with_reducible refine (refsum_any A6 252 c6 V6.heap.size T V6 HRD.out (by unfold maxLen; omega)).mono ?_
            rintro E V7 ⟨rfl, rfl⟩
            have hu2 := wrap_sum T
            go_wp2_with fail
            with_reducible refine (rb4 (sum T) V6).mono ?_
            rintro E V8 ⟨A8, c8, rfl, ho8, hb8⟩
            have HO8 : Hid (Owned V8 V4.heap.size (.slice A6 252 c6) T) := Lib.hid (Owned.keep HO6.out hb8 (Nat.le_refl _))
            have HB8 : Hid (Below V4.heap.size V4 V8) := Lib.hid (HB6.out.trans (hb8.mono HB6.out.size))
            obtain ⟨v9, V9, hrun9, ho9, hg9⟩ := run_addB V8 46 V4.heap.size _ _ HO8.out V8.heap.size A8 4 c8 (bytesL (sum T) 4) (Owned.reads ho8) (by rw [HHL.out]; omega) HB8.out.size
            rw [← HND.out] at ho9
            have HB9 : Hid (Below V4.heap.size V4 V9) := Lib.hid (HB8.out.trans (hg9.below HB8.out.size (fun g e => (owned_lt HO8.out g e).1)))
            have hn9 : ∀ g, v9.ownBlock = some g → V4.heap.size ≤ g := fun g e => (owned_lt ho9 g e).1
            obtain ⟨A9, c9, rfl⟩ := Owned.shape ho9
            have hbs9 := HBS4.out.below HB9.out
            obtain ⟨vN, VN, hrunN, hoN, hgN⟩ := run_appF V9 w.heap.size F (fun g => F g ∨ V4.heap.size ≤ g) _ _ hbs9.texts (fun g h => .inl h) (fun g h => .inr (Nat.le_trans HB9.out.size h)) A9 c9 (nodeB p) (Owned.mono ho9 HB4.out.size) (fun g e => .inr (hn9 g e)) 47 (by have := HNL3.out; omega) (by have := HB4.out.size; have := HB9.out.size; omega)
            rw [← HNA1.out] at hoN
            have hbsN := HBS4.out.add HB9.out hgN hoN (fun g h => h)
            have HBN : Hid (Below w.heap.size w VN) := Lib.hid ((HB4.out.trans (HB9.out.mono HB4.out.size)).trans (hgN.below (by have := HB4.out.size; have := HB9.out.size; omega) (fun g e => (hbs9.texts.own.lt g e).1)))
            obtain ⟨AN, cN, rfl⟩ := hoN.own.shape
            have hlN : (nodesA l (List.range (k + 1))).length = k + 1 := by unfold nodesA; simp
            rw [hlN] at hrunN hbsN
            rw [HNB.out] at hrun9 hrunN
            have HBSN := Lib.hid hbsN; clear hbsN
            clear ho8 hb8 ho9 hg9 hn9 hbs9 hoN hgN hlN
            go_wp2_with (first | (at_builtin; refine wpList_apprun rfl (.tmp 61) (.tmp 65) 46 46 rfl _ _ rfl rfl _ V9 hrun9 ?_) | (at_builtin; refine wpList_apprun rfl (.tmp 60) (.tmp 67) 47 47 rfl _ _ rfl rfl _ VN hrunN ?_))
            clear hrun9 hrunN
            go_wp2
            go_roundw
            case rel => exact ⟨k + 1, m + 4, A4, AN, c4, cN, _, by omega, by have := HM.out; omega, by go_num, rfl, rfl, HBSN.out, HBN.out⟩
            case measure => simp [intOf]; omega
          · have hkn : k = n' := by omega
            subst hkn
            have hb1 := HBS.out.bytes
            have hb2 := HBS.out.texts.own
            rw [List.take_of_length_le (by have := HLN'.out; omega)] at hb1
            rw [HNA.out] at hb2
            have HO1 := Lib.hid hb1; clear hb1
            have HO2 := Lib.hid hb2; clear hb2
            have HM60 : Hid (m ≤ 60) := Lib.hid (by have := HM.out; omega)
            have hge' : ¬ (k : Int) < (k : Int) := by omega
            have hfill := fill60 A1 m c1 w.heap.size _ wr HO1.out HBR.out.size HM60.out
            rw [HPB.out] at hfill
            have hf2 : Calls Try.prog 50 #[.slice A1 m c1, .int .i64 60] wr fun E w' => ∃ A' c', E = .returned (.slice A' 60 c') ∧ Owned w' w.heap.size (.slice A' 60 c') NB ∧ OwnN w' w.heap.size (.slice A2 k c2) ND ∧ Below w.heap.size w w' := hfill.mono fun E w' ⟨A', c', e, ho, hg⟩ => by
              refine ⟨A', c', e, ho, ?_, HBR.out.trans (hg.below HBR.out.size (fun g e => (owned_lt HO1.out g e).1))⟩
              have h2 := (HBS.out.texts.kept fun g hf hl => hg.1.block g hl (fun e => HBS.out.apart g e.symm hf)).own
              rwa [HNA.out] at h2
            have HFILL := Lib.hid hf2; clear hf2 hfill
            clear HO1 HO2 HBS HM60
            have hklen : ND.length = k := HNDL.out
            have HKL := Lib.hid hklen; clear hklen
            go_wp2_with fail
            with_reducible refine HFILL.out.mono ?_
            rintro E V4 ⟨A4, c4, rfl, ho4, hn4, hb4⟩
            have HO4 := Lib.hid ho4; clear ho4
            have HN4 := Lib.hid hn4; clear hn4
            have HB4 := Lib.hid hb4; clear hb4
            go_wp2
            go_ret3
            exact ⟨A4, c4, A2, c2, by rw [HNL.out, HKL.out]; rfl, by rw [HNL.out]; exact HO4.out, by rw [HKL.out]; exact HN4.out, HB4.out⟩
  · rw [store_bad (.inl (by rw [hln']; exact hne))]
    have hnd : needL l = -1 ∨ 0 ≤ needL l := by
      unfold needL
      split
      · exact .inr (by omega)
      · exact .inl rfl
    clear h h' hr hln hln' hap
    generalize needL l = nd at HN hne hnd
    rcases hnd with rfl | hnd
    · go_enter Try.func28, Try.ntmps28
      go_wp2_with fail
      with_reducible refine HN.out.mono ?_
      rintro E V ⟨rfl, hb⟩
      have HB := Lib.hid hb; clear hb
      go_wp2
      go_ret3
      exact ⟨none, 0, none, 0, rfl, owned_none _ _, OwnN.nil _ _, HB.out⟩
    · have hp : ¬ nd < 0 := by omega
      have hne2 : ¬ (n' : Int) = nd := fun e => hne e.symm
      go_enter Try.func28, Try.ntmps28
      go_wp2_with fail
      with_reducible refine HN.out.mono ?_
      rintro E V ⟨rfl, hb⟩
      have HB := Lib.hid hb; clear hb
      go_wp2
      go_ret3
      exact ⟨none, 0, none, 0, rfl, owned_none _ _, OwnN.nil _ _, HB.out⟩
end Go.Proofs.Ytkhenchhafmlmaa.Ex
