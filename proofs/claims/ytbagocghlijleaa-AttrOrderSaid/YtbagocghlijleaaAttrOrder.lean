/- AttrOrder: for every list of attributes and every turn: set in their order and in turned order, where no name comes twice and all can be set, the list is the same, as long as they are, and its names rise. For every list within the reach of memory. -/
import Derived.Test.YtbagocghlijleaaAtAlive
import Derived.Test.YtbagocghlijleaaAtArg
import Derived.ChangeMaps5
import Derived.Test.YtbagocghlijleaaAtMap
namespace Go.Proofs.Ytbagocghlijleaa.AttrOrder
set_option maxRecDepth 20000
open Go.ChangeShapes Go.WideShapes Go.ChangeAt Go.RowKit
open Go.Proofs.Ytbagocghlijleaa.Mem Go.Proofs.Ytbagocghlijleaa.Crc Go.Proofs.Ytbagocghlijleaa.Rec Go.Proofs.Ytbagocghlijleaa.At Go.Proofs.Ytbagocghlijleaa.Lift Go.Proofs.Ytbagocghlijleaa.Reg
attribute [local go_sem ↓] ldX_eq stX_eq eqX_eq neqX_eq

/-- What was set so far: a right list of just these. -/
structure Just (la : List Pr) (q : List Pr) : Prop where
  right : right la = true
  mem : ∀ x, x ∈ la ↔ x ∈ q
  few : la.length ≤ 83
theorem just_nil : Just [] [] := ⟨rfl, fun _ => Iff.rfl, by decide⟩
theorem just_more {la q : List Pr} (h : Just la q) {p : Pr} {lb : List Pr} (hs : setL la p = (lb, 0)) (hn : ∀ x ∈ q, x.t ≠ p.t) : Just lb (q ++ [p]) := by
  obtain ⟨h1, h2, h3, h4⟩ := set_zero (l := la) (p := p) (by rw [hs])
  rw [h4] at hs
  injection hs with hs _
  subst hs
  have hr := right_put h1 h2
  refine ⟨hr, fun x => ?_, ?_⟩
  · rw [put_mem h1, List.mem_append, List.mem_singleton, h.mem]
    constructor
    · rintro (h | ⟨h, _⟩)
      · exact .inr h
      · exact .inl h
    · rintro (h | h)
      · exact .inr ⟨h, hn x h⟩
      · exact .inl h
  · have := sizeL_ge _ ((right_iff _).1 hr).1
    omega
/-- The first i of a list, from place r on. -/
def turnP (l : List Pr) (r n i : Nat) : List Pr := (List.range i).map fun j => l.getD ((r + j) % n) p0
theorem turnP_succ (l : List Pr) (r n i : Nat) : turnP l r n (i + 1) = turnP l r n i ++ [l.getD ((r + i) % n) p0] := by
  unfold turnP
  rw [List.range_succ, List.map_append]
  rfl
theorem turnP_mem (l : List Pr) (r n : Nat) (hn : n ≤ l.length) (hr : r < n) (t : Pr) : t ∈ l.take n ↔ t ∈ turnP l r n n := by
  unfold turnP
  rw [List.mem_map]
  constructor
  · intro h
    obtain ⟨j, hj, rfl⟩ := List.getElem_of_mem h
    rw [List.length_take] at hj
    have hj2 : j < n := by omega
    refine ⟨(j + (n - r)) % n, by rw [List.mem_range]; exact Nat.mod_lt _ (by omega), ?_⟩
    have e : (r + (j + (n - r)) % n) % n = j := by
      rw [Nat.add_mod_mod, show r + (j + (n - r)) = j + n by omega, Nat.add_mod_right, Nat.mod_eq_of_lt hj2]
    rw [e, getD_at (by omega), List.getElem_take]
  · rintro ⟨i, _, rfl⟩
    have h1 : (r + i) % n < n := Nat.mod_lt _ (by omega)
    rw [getD_at (show (r + i) % n < l.length by omega)]
    exact List.mem_iff_getElem.2 ⟨(r + i) % n, by rw [List.length_take]; omega, List.getElem_take⟩
theorem rest_u (a : Int) (n : Nat) (h0 : 0 < n) : ∃ r : Nat, r < n ∧ (IntKind.u64.wrap a).tmod (n : Int) = (r : Int) := by
  have hx : 0 ≤ IntKind.u64.wrap a := by rw [IntKind.wrap_u64]; omega
  generalize IntKind.u64.wrap a = x at hx
  rw [Int.tmod_eq_emod_of_nonneg hx]
  have h1 := Int.emod_nonneg x (show (n : Int) ≠ 0 by omega)
  have h2 := Int.emod_lt_of_pos x (show (0 : Int) < n by omega)
  exact ⟨(x % n).toNat, by omega, by omega⟩
theorem mod_apart {r n i j : Nat} (hr : r < n) (hi : i < n) (hj : j < i) : (r + j) % n ≠ (r + i) % n := by
  intro h
  have h1 : ∀ k, k < n → (r + k) % n = if r + k < n then r + k else r + k - n := fun k hk => by
    split
    · exact Nat.mod_eq_of_lt (by assumption)
    · rw [Nat.mod_eq_sub_mod (by omega), Nat.mod_eq_of_lt (by omega)]
  rw [h1 j (by omega), h1 i hi] at h
  split at h <;> split at h <;> omega
/-- No name comes twice among the first N. -/
theorem apart_take {l : List Pr} {N : Nat} (h : ((l.take N).map Pr.t).Nodup) (hN : N ≤ l.length) {i j : Nat} (hi : i < N) (hj : j < N) (hij : i ≠ j) : (l.getD i p0).t ≠ (l.getD j p0).t := by
  rw [getD_at (by omega), getD_at (by omega)]
  have hp := List.pairwise_iff_getElem.1 h
  have hlen : ((l.take N).map Pr.t).length = N := by rw [List.length_map, List.length_take]; omega
  have key : ∀ a b (ha : a < N) (hb : b < N), a < b → (l[a]'(by omega)).t ≠ (l[b]'(by omega)).t := fun a b ha hb hab => by
    have := hp a b (by omega) (by omega) hab
    simpa only [List.getElem_map, List.getElem_take] using this
  rcases Nat.lt_or_gt_of_ne hij with h1 | h1
  · exact key i j hi hj h1
  · exact (key j i hj hi h1).symm
theorem just_same {a b l : List Pr} {r N : Nat} (ha : Just a (l.take N)) (hb : Just b (turnP l r N N)) (hN : N ≤ l.length) (hr : r < N) : a = b :=
  right_same ((right_iff a).1 ha.right).2 ((right_iff b).1 hb.right).2 (fun x => by rw [ha.mem, hb.mem]; exact turnP_mem l r N hN hr x)
theorem just_len {a q : List Pr} (ha : Just a q) (hq : (q.map Pr.t).Nodup) : a.length = q.length := by
  have h1 : a.Nodup := ((right_iff a).1 ha.right).2.imp (fun {x y} h e => by rw [e] at h; exact absurd rfl (ne_of_less h))
  have h2 : q.Nodup := List.Pairwise.of_map Pr.t (fun x y h e => h (by rw [e])) hq
  exact ((List.perm_ext_iff_of_nodup h1 h2).2 ha.mem).length_eq

set_option maxRecDepth 100000 in
set_option maxHeartbeats 8000000 in
theorem walk (A : Option Addr) (n c : Nat) (l : List Pr) (tu : Int) (w : World) (h : HoldsX w w.heap.size A n l) (hrep : ∀ x ∈ l, x.rep) (hn : n ≤ 4398046510976) :
    Calls Try.prog 7 #[.slice A n c, .int .i64 tu] w fun E w' => E = .returned (.bool true) ∧ Below w.heap.size w w' := by
  have hln := h.1
  obtain ⟨post, hpost⟩ : ∃ post : Ending → World → Prop, post = fun E w' => E = .returned (.bool true) ∧ Below w.heap.size w w' := ⟨_, rfl⟩
  rw [← hpost]
  have HP := Lib.hid hpost; clear hpost
  have hh : ∀ V, Below w.heap.size w V → HoldsX V w.heap.size A n l := fun V hV => h.below hV
  have HH := Lib.hid hh; clear hh
  have H := Lib.hid h; clear h
  have HLN := Lib.hid hln; clear hln
  have HREP := Lib.hid hrep; clear hrep
  have hmm := @run_makeMap Try.prog
  obtain ⟨N, hN⟩ : ∃ N, N = min n 20 := ⟨_, rfl⟩
  have hNn : N ≤ n := by omega
  have hN20 : N ≤ 20 := by omega
  obtain ⟨rho, hrho⟩ : ∃ rho : Nat, 0 < N → rho < N ∧ (IntKind.u64.wrap tu).tmod (N : Int) = (rho : Int) := by
    rcases Nat.eq_zero_or_pos N with h0 | h0
    · exact ⟨0, fun h => by omega⟩
    · obtain ⟨r, h1, h2⟩ := rest_u tu N h0
      exact ⟨r, fun _ => ⟨h1, h2⟩⟩
  have HRHO := Lib.hid hrho; clear hrho
  have hwN : IntKind.u64.wrap (N : Int) = (N : Int) := by rw [IntKind.wrap_u64]; omega
  go_enter Try.func7, Try.ntmps7
  go_wp2_with fail
  with_reducible refine (alive_any w).mono ?_
  rintro E1 w1 ⟨rfl, hb1⟩
  have HB1 := Lib.hid hb1; clear hb1
  obtain ⟨W2, hW2⟩ : ∃ W2, W2 = w1.alloc (.map #[] 0) := ⟨_, rfl⟩
  obtain ⟨m, hm⟩ : ∃ m, m = w1.heap.size := ⟨_, rfl⟩
  have hcn : Counts W2 m 0 (l.map Pr.t) 0 := by rw [hW2, hm]; exact World.ownsMap_made w1 _ _ _
  have HB2 : Hid (Below w.heap.size w W2) := Lib.hid (by rw [hW2]; exact HB1.out.alloc HB1.out.size _)
  have HCN := Lib.hid hcn; clear hcn
  have HW2 := Lib.hid hW2; clear hW2
  have HM := Lib.hid hm; clear hm
  have HWM : Hid (w.heap.size ≤ m) := Lib.hid (by rw [HM.out]; exact HB1.out.size)
  rcases Nat.lt_or_ge 20 n with hbig | hbig
  · have HNI : Hid ((20 : Int) = (N : Int)) := Lib.hid (by omega)
    have hbigI : (20 : Int) < (n : Int) := by omega
    clear hN
    go_wp2
    rw [HNI.out, ← HW2.out, ← HM.out]
    clear HNI hbigI hmm HW2
    go_loopw [7] (fun iv wr => ∃ i : Nat, i ≤ N ∧ iv = .int .i64 (i : Int) ∧ Counts wr m i (l.map Pr.t) i ∧ ((l.take i).map Pr.t).Nodup ∧ Below w.heap.size w wr) (fun iv _ => N - (intOf iv).toNat)
    case atStart => exact ⟨0, Nat.zero_le _, rfl, HCN.out, by simp, HB2.out⟩
    case round =>
      clear HCN HB2
      obtain ⟨V0, hV0⟩ : ∃ V0, V0 = wr := ⟨_, rfl⟩
      subst hV0
      obtain ⟨i, hi, rfl, hcn, hnd, hbr⟩ := hrel
      have HCN := Lib.hid hcn; clear hcn
      have HND := Lib.hid hnd; clear hnd
      have HBR := Lib.hid hbr; clear hbr
      rcases Nat.lt_or_ge i N with hiN | hiN
      · have hil : i < l.length := by have := HLN.out; omega
        obtain ⟨b0, off, rfl, hb0⟩ := H.out.addr (by omega)
        obtain ⟨p, hp⟩ : ∃ p, p = l[i] := ⟨_, rfl⟩
        obtain ⟨S, hS⟩ : ∃ S : ByteArray, S = ⟨p.t.toArray⟩ := ⟨_, rfl⟩
        have hSd : S.data.toList = p.t := by rw [hS]
        have hpl : p.t.length ≤ maxLen := (HREP.out p (hp ▸ List.getElem_mem hil)).t
        have hcell : ∀ V, Below w.heap.size w V → V.cell? ⟨b0, off + i * 2, none⟩ = some (.string S) := fun V hV => by
          rw [hS, hp]; exact ((HH.out V hV).cell i hil).1
        have hml : (l.map Pr.t).length = l.length := List.length_map ..
        have hget : (l.map Pr.t).getD i [] = p.t := by rw [List.getD_eq_getElem?_getD, List.getElem?_eq_getElem (by rw [hml]; exact hil), Option.getD_some, List.getElem_map, hp]
        have hlook := run_count V0 m i i (l.map Pr.t) S p.t hSd hpl (by rw [hml]; omega) HCN.out
        obtain ⟨w2, hupd, hcn2, hg2⟩ := run_meet V0 m i i (l.map Pr.t) S p.t hSd hpl (by rw [hml]; omega) hget (by unfold maxLen; omega) (by omega) HCN.out
        have hlook2 := run_count w2 m (i + 1) (i + 1) (l.map Pr.t) S p.t hSd hpl (by rw [hml]; omega) hcn2
        have hb2 : Below w.heap.size w w2 := HBR.out.grown hg2 HBR.out.size (fun q hq => by injection hq with hq; have := HWM.out; omega)
        have htk : (l.map Pr.t).take (i + 1) = (l.map Pr.t).take i ++ [p.t] := by rw [take_snocS _ i (by rw [hml]; exact hil), hget]
        have hmt : (l.map Pr.t).take i = (l.take i).map Pr.t := (List.map_take ..).symm
        have hcount : ((l.map Pr.t).take (i + 1)).count p.t = ((l.map Pr.t).take i).count p.t + 1 := by rw [htk, List.count_append]; simp
        rw [hcount] at hlook2
        have hle : ((l.map Pr.t).take i).count p.t ≤ 20 := Nat.le_trans List.count_le_length (by rw [List.length_take]; omega)
        have hzero : ((l.map Pr.t).take i).count p.t = 0 → ((l.take (i + 1)).map Pr.t).Nodup := fun h0 => by
          rw [List.map_take, htk]
          rw [← hmt] at HND
          refine List.nodup_append.2 ⟨HND.out, by simp, fun a ha b hb => ?_⟩
          rw [List.mem_singleton.1 hb]
          rintro rfl
          exact absurd (List.count_pos_iff.2 ha) (by omega)
        have HZERO := Lib.hid hzero; clear hzero
        obtain ⟨cc, hcc⟩ : ∃ cc, cc = ((l.map Pr.t).take i).count p.t := ⟨_, rfl⟩
        rw [← hcc] at hlook hupd hlook2 hle HZERO
        have q0 := hcell V0 HBR.out
        have q1 := hcell w2 hb2
        have HB2 := Lib.hid hb2
        have HCN2 := Lib.hid hcn2
        clear hcc hcell hb2 hcn2 hg2 hml hget htk hmt hcount hSd hpl hS hp
        have hi0 : (0 : Int) ≤ (i : Int) := by omega
        have hin : (i : Int) < (n : Int) := by omega
        have hiNI : (i : Int) < (N : Int) := by omega
        have hwc : IntKind.i64.wrap ((cc : Int) + 1) = (cc : Int) + 1 := by rw [IntKind.wrap_i64]; omega
        have hpush : ((cc + 1 : Nat) : Int) = (cc : Int) + 1 := by omega
        rw [hpush] at hlook2
        clear hpush
        rcases Nat.eq_zero_or_pos cc with hc0 | hc0
        · have hgt : ¬ (1 : Int) < (cc : Int) + 1 := by omega
          have HND2 := Lib.hid (HZERO.out hc0)
          clear hc0
          go_wp2
          go_roundw
          case rel => exact ⟨i + 1, by omega, by go_num, HCN2.out, HND2.out, HB2.out⟩
          case measure => simp [intOf]; omega
        · have hgt : (1 : Int) < (cc : Int) + 1 := by omega
          clear hc0
          go_wp2
          rw [HP.out]
          exact ⟨rfl, HB2.out⟩
      · obtain rfl : N = i := by omega
        have hiNI : ¬ (N : Int) < (N : Int) := by omega
        clear HCN
        have HB3 : Hid (Below w.heap.size w V0) := HBR
        go_wp2
        go_loopw [8, 9, 10] (fun av bv iv wr => ∃ (i : Nat) (Aa Ab : Option Addr) (ca cb : Nat) (la lb : List Pr), i ≤ N ∧ av = .slice Aa la.length ca ∧ bv = .slice Ab lb.length cb ∧ iv = .int .i64 (i : Int) ∧ HoldsX wr wr.heap.size Aa la.length la ∧ HoldsX wr wr.heap.size Ab lb.length lb ∧ Just la (l.take i) ∧ Just lb (turnP l rho N i) ∧ Below w.heap.size w wr) (fun _ _ iv _ => N - (intOf iv).toNat)
        case atStart => exact ⟨0, none, none, 0, 0, [], [], Nat.zero_le _, rfl, rfl, rfl, HoldsX.nil _ _ _, HoldsX.nil _ _ _, just_nil, just_nil, HB3.out⟩
        case round =>
          clear HB3 HBR
          obtain ⟨V1, hV1⟩ : ∃ V1, V1 = wr := ⟨_, rfl⟩
          subst hV1
          obtain ⟨i, Aa, Ab, ca, cb, la, lb, hi, rfl, rfl, rfl, hha, hhb, hja, hjb, hbr⟩ := hrel
          have HHA := Lib.hid hha; clear hha
          have HHB := Lib.hid hhb; clear hhb
          have HJA := Lib.hid hja; clear hja
          have HJB := Lib.hid hjb; clear hjb
          have HBR := Lib.hid hbr; clear hbr
          have hfa := HJA.out.few
          have hfb := HJB.out.few
          obtain ⟨ma, hma⟩ : ∃ ma, ma = la.length := ⟨_, rfl⟩
          obtain ⟨mb, hmb⟩ : ∃ mb, mb = lb.length := ⟨_, rfl⟩
          rw [← hma] at HHA hfa ⊢
          rw [← hmb] at HHB hfb ⊢
          have HMA := Lib.hid hma; clear hma
          have HMB := Lib.hid hmb; clear hmb
          rcases Nat.lt_or_ge i N with hiN | hiN
          · obtain ⟨hrho, hrem⟩ := HRHO.out (by omega)
            obtain ⟨kk, hkk⟩ : ∃ kk, kk = (rho + i) % N := ⟨_, rfl⟩
            have hkN : kk < N := by rw [hkk]; exact Nat.mod_lt _ (by omega)
            have hwi : IntKind.u64.wrap (i : Int) = (i : Int) := by rw [IntKind.wrap_u64]; omega
            have hws : IntKind.u64.wrap ((rho : Int) + (i : Int)) = (rho : Int) + (i : Int) := by rw [IntKind.wrap_u64]; omega
            have hmod : ((rho : Int) + (i : Int)).tmod (N : Int) = (kk : Int) := by
              rw [hkk, Int.tmod_eq_emod_of_nonneg (by omega), Int.natCast_emod, Int.natCast_add]
            have hwk : IntKind.i64.wrap (kk : Int) = (kk : Int) := by rw [IntKind.wrap_i64]; omega
            have hN0 : ((N : Int) == 0) = false := beq_false_of_ne (by omega)
            have hN1 : ¬ (N : Int) = 0 := by omega
            have hil : i < l.length := by have := HLN.out; omega
            have hkl : kk < l.length := by have := HLN.out; omega
            obtain ⟨b0, off, rfl, hb0⟩ := H.out.addr (by omega)
            obtain ⟨p, hp⟩ : ∃ p, p = l[i] := ⟨_, rfl⟩
            obtain ⟨q, hq⟩ : ∃ q, q = l[kk] := ⟨_, rfl⟩
            have hnexta : l.take (i + 1) = l.take i ++ [p] := by rw [hp]; exact List.take_succ_eq_append_getElem hil
            have hnextb : turnP l rho N (i + 1) = turnP l rho N i ++ [q] := by rw [turnP_succ, ← hkk, getD_at hkl, hq]
            have hna : ∀ x ∈ l.take i, x.t ≠ p.t := fun x hx => by
              obtain ⟨j, hj, rfl⟩ := List.getElem_of_mem hx
              rw [List.length_take] at hj
              have := apart_take HND.out (by have := HLN.out; omega) (i := j) (j := i) (by omega) hiN (by omega)
              rw [getD_at (by omega), getD_at hil, ← hp] at this
              rw [List.getElem_take]; exact this
            have hnb : ∀ x ∈ turnP l rho N i, x.t ≠ q.t := fun x hx => by
              unfold turnP at hx
              obtain ⟨j, hj, rfl⟩ := List.mem_map.1 hx
              rw [List.mem_range] at hj
              have hjm : (rho + j) % N < N := Nat.mod_lt _ (by omega)
              have := apart_take HND.out (by have := HLN.out; omega) (i := (rho + j) % N) (j := kk) hjm hkN (by rw [hkk]; exact mod_apart hrho hiN hj)
              rw [getD_at hkl, ← hq] at this
              exact this
            have hlda : ∀ V, Below w.heap.size w V → (ldX (.pointer (some ⟨b0, off + i * 2, none⟩))).run Try.prog V = .ok (.agg p.c) V ∧ (ldX (.pointer (some ⟨b0, off + kk * 2, none⟩))).run Try.prog V = .ok (.agg q.c) V := fun V hV => by
              rw [hp, hq]
              exact ⟨run_ldX_at (HH.out V hV) i hil _ rfl, run_ldX_at (HH.out V hV) kk hkl _ rfl⟩
            have hseta := fun V (hV : Below V1.heap.size V1 V) => Set_any Aa ma ca V1.heap.size la p V (HHA.out.below hV) hV.size (by omega)
            have hsetb := fun V (hV : Below V1.heap.size V1 V) => Set_any Ab mb cb V1.heap.size lb q V (HHB.out.below hV) hV.size (by omega)
            have HNA := Lib.hid hna; clear hna
            have HNB := Lib.hid hnb; clear hnb
            have HXA := Lib.hid hnexta; clear hnexta
            have HXB := Lib.hid hnextb; clear hnextb
            clear hp hq hkk hrho
            generalize p.c = P at hlda hseta
            generalize q.c = Q at hlda hsetb
            have HLDA := Lib.hid hlda; clear hlda
            have HSETA := Lib.hid hseta; clear hseta
            have HSETB := Lib.hid hsetb; clear hsetb
            have hi0 : (0 : Int) ≤ (i : Int) := by omega
            have hin : (i : Int) < (n : Int) := by omega
            have hk0 : (0 : Int) ≤ (kk : Int) := by omega
            have hkn : (kk : Int) < (n : Int) := by omega
            have hiNI : (i : Int) < (N : Int) := by omega
            obtain ⟨q0, -⟩ := HLDA.out V1 HBR.out
            go_wp2_with fail
            with_reducible refine (HSETA.out V1 (Below.refl _ _)).mono ?_
            rintro E2 V2 ⟨A2, c2, rfl, ho2, hb2⟩
            have HB12 := Lib.hid hb2
            have HB2 : Hid (Below w.heap.size w V2) := Lib.hid (HBR.out.trans (hb2.mono HBR.out.size))
            have HO2 := Lib.hid ho2
            clear hb2 ho2 q0 HSETA
            obtain ⟨-, q1⟩ := HLDA.out V2 HB2.out
            dsimp only at HO2 ⊢
            go_wp2_with fail
            with_reducible refine (HSETB.out V2 HB12.out).mono ?_
            rintro E3 V3 ⟨A3, c3, rfl, ho3, hb3⟩
            have HB3 : Hid (Below w.heap.size w V3) := Lib.hid (HB2.out.trans (hb3.mono HB2.out.size))
            have HO3 := Lib.hid ho3
            have HO23 := Lib.hid (HO2.out.below hb3)
            have HS23 := Lib.hid hb3.size
            clear hb3 ho3 q1 HSETB HO2
            dsimp only at HO3 ⊢
            rcases set_ways la p with hsa | hsa | ⟨lc, hsa⟩
            · rw [hsa] at HO23 ⊢
              generalize (setL lb q).2 = eb
              generalize (setL lb q).1.length = nb
              clear HO3 HO23 hsa
              rcases Decidable.em (eb = 0) with hz | hz
              · subst hz
                go_wp2
                rw [HP.out]
                exact ⟨rfl, HB3.out⟩
              · have hzb : (eb == 0) = false := beq_false_of_ne hz
                go_wp2
                rw [HP.out]
                exact ⟨rfl, HB3.out⟩
            · rw [hsa] at HO23 ⊢
              generalize (setL lb q).2 = eb
              generalize (setL lb q).1.length = nb
              clear HO3 HO23 hsa
              rcases Decidable.em (eb = 0) with hz | hz
              · subst hz
                go_wp2
                rw [HP.out]
                exact ⟨rfl, HB3.out⟩
              · have hzb : (eb == 0) = false := beq_false_of_ne hz
                go_wp2
                rw [HP.out]
                exact ⟨rfl, HB3.out⟩
            · rw [hsa] at HO23 ⊢
              have hjc := just_more HJA.out hsa HNA.out
              rw [← HXA.out] at hjc
              have HJC := Lib.hid hjc; clear hjc hsa
              dsimp only at HO23 ⊢
              rcases set_ways lb q with hsb | hsb | ⟨ld, hsb⟩
              · rw [hsb] at HO3 ⊢
                clear HO3 HO23 hsb HJC
                generalize lc.length = nc
                dsimp only [List.length_nil]
                go_wp2
                rw [HP.out]
                exact ⟨rfl, HB3.out⟩
              · rw [hsb] at HO3 ⊢
                clear HO3 HO23 hsb HJC
                generalize lc.length = nc
                dsimp only [List.length_nil]
                go_wp2
                rw [HP.out]
                exact ⟨rfl, HB3.out⟩
              · rw [hsb] at HO3 ⊢
                have hjd := just_more HJB.out hsb HNB.out
                rw [← HXB.out] at hjd
                have HJD := Lib.hid hjd; clear hjd hsb
                dsimp only at HO3 ⊢
                have HHC : Hid (HoldsX V3 V3.heap.size A2 lc.length lc) := Lib.hid HO23.out.reads
                have HHD : Hid (HoldsX V3 V3.heap.size A3 ld.length ld) := Lib.hid HO3.out.reads
                clear HO3 HO23
                obtain ⟨nc, hnc⟩ : ∃ nc, nc = lc.length := ⟨_, rfl⟩
                obtain ⟨nd, hnd⟩ : ∃ nd, nd = ld.length := ⟨_, rfl⟩
                rw [← hnc] at HHC ⊢
                rw [← hnd] at HHD ⊢
                have HNC := Lib.hid hnc; clear hnc
                have HND2 := Lib.hid hnd; clear hnd
                go_wp2
                go_roundw
                case rel => exact ⟨i + 1, A2, A3, c2, c3, lc, ld, by omega, by rw [HNC.out], by rw [HND2.out], by go_num, by rw [← HNC.out]; exact HHC.out, by rw [← HND2.out]; exact HHD.out, HJC.out, HJD.out, HB3.out⟩
                case measure => simp [intOf]; omega
          · obtain rfl : N = i := by omega
            have hiNI : ¬ (N : Int) < (N : Int) := by omega
            have hsame : la = lb := by
              rcases Nat.eq_zero_or_pos N with h0 | h0
              · subst h0
                have h1 : la = [] := List.eq_nil_iff_forall_not_mem.2 (fun x hx => by have := (HJA.out.mem x).1 hx; simp at this)
                have h2 : lb = [] := List.eq_nil_iff_forall_not_mem.2 (fun x hx => by have := (HJB.out.mem x).1 hx; simp [turnP] at this)
                rw [h1, h2]
              · obtain ⟨hr1, -⟩ := HRHO.out h0
                exact just_same HJA.out HJB.out (by have := HLN.out; omega) hr1
            have hlen : ma = N := by
              rw [HMA.out, just_len HJA.out HND.out, List.length_take]
              have := HLN.out; omega
            have hrise := ((right_iff la).1 HJA.out.right).2
            subst hsame
            obtain rfl : mb = ma := by rw [HMB.out, HMA.out]
            have hcmp := fun V (hV : Below V1.heap.size V1 V) => same_any Aa Ab mb mb ca cb V1.heap.size V1.heap.size la la V (HHA.out.below hV) (HHB.out.below hV) hV.size hV.size (by omega)
            simp only [decide_true] at hcmp
            have HCMP := Lib.hid hcmp; clear hcmp
            have HRISE := Lib.hid hrise; clear hrise
            have HALL : Hid (∀ V, Below V1.heap.size V1 V → HoldsX V V1.heap.size Aa mb la) := Lib.hid fun V hV => HHA.out.below hV
            clear HJA HJB HHB
            subst hlen
            go_wp2
            go_loopw [16] (fun jv wr => ∃ j : Nat, 1 ≤ j ∧ (j ≤ mb ∨ j = 1) ∧ jv = .int .i64 (j : Int) ∧ Below V1.heap.size V1 wr) (fun jv _ => mb - (intOf jv).toNat)
            case atStart => exact ⟨1, by omega, by omega, rfl, Below.refl _ _⟩
            case round =>
              obtain ⟨V2, hV2⟩ : ∃ V2, V2 = wr := ⟨_, rfl⟩
              subst hV2
              obtain ⟨jj, hj1, hj2, rfl, hbj⟩ := hrel
              have HBJ := Lib.hid hbj; clear hbj
              rcases Nat.lt_or_ge jj mb with hjm | hjm
              · obtain ⟨j, rfl⟩ : ∃ j, jj = j + 1 := ⟨jj - 1, by omega⟩
                have hjl : j < la.length := by have := HMB.out; omega
                have hjl1 : j + 1 < la.length := by have := HMB.out; omega
                obtain ⟨b, off, rfl, hbB⟩ := (HALL.out V2 HBJ.out).addr (by omega)
                obtain ⟨S0, hS0⟩ : ∃ S0 : ByteArray, S0 = ⟨(la[j]).t.toArray⟩ := ⟨_, rfl⟩
                obtain ⟨S1, hS1⟩ : ∃ S1 : ByteArray, S1 = ⟨(la[j + 1]).t.toArray⟩ := ⟨_, rfl⟩
                have hld : ∀ V, Below V2.heap.size V2 V → V.cell? ⟨b, off + j * 2, none⟩ = some (.string S0) ∧ V.cell? ⟨b, off + (j + 1) * 2, none⟩ = some (.string S1) := fun V hV => by
                  have hV1 : Below V1.heap.size V1 V := HBJ.out.trans (hV.mono HBJ.out.size)
                  exact ⟨by rw [hS0]; exact ((HALL.out V hV1).cell j hjl).1, by rw [hS1]; exact ((HALL.out V hV1).cell (j + 1) hjl1).1⟩
                have hls : Op.bytesLess S0.toList S1.toList = true := by
                  rw [hS0, hS1, text_list, text_list]
                  exact List.pairwise_iff_getElem.1 HRISE.out j (j + 1) hjl hjl1 (by omega)
                have hgeq : ∀ V, (binOp .geq 9 (.string S0) (.string S1)).run Try.prog V = .ok (.bool false) V := fun V => by
                  have := run_geq S0 S1 V
                  rwa [hls] at this
                have HLD := Lib.hid hld; clear hld hS0 hS1 hls
                have hji : (0 : Int) ≤ (j : Int) := by omega
                have hjq : (j : Int) < (mb : Int) := by omega
                have hjq1 : (j : Int) + 1 < (mb : Int) := by omega
                have hj1' : (0 : Int) ≤ (j : Int) + 1 := by omega
                have hwj : IntKind.i64.wrap ((j : Int) + 1 - 1) = (j : Int) := by rw [IntKind.wrap_i64]; omega
                have hwj2 : IntKind.i64.wrap (j : Int) = (j : Int) := by rw [IntKind.wrap_i64]; omega
                go_wp2
                refine wp_region_E (fun V => Below V2.heap.size V2 V) 99 rfl ?_
                have hS := (show Below V2.heap.size V2 V2.drew from (Below.refl _ V2).drew)
                refine wpE_takeF 0 ⟨some 108, _, _, _, _, _⟩ (v := ?_) (by decide) rfl (by kernel_rfl) (by kernel_rfl) (by kernel_rfl) (fun _ _ _ h => h) hS (Or.inl ⟨by kernel_rfl, ?_⟩) ?_
                rotate_left
                · (intro V hSw; obtain ⟨q0, q1⟩ := HLD.out V hSw; go_simp; try with_reducible rfl)
                try simp only [Act.put]
                refine wpE_takeF 1 ⟨some 109, _, _, _, _, _⟩ (v := ?_) (by decide) rfl (by kernel_rfl) (by kernel_rfl) (by kernel_rfl) (fun _ _ _ h => h) hS (Or.inl ⟨by kernel_rfl, ?_⟩) ?_
                rotate_left
                · (intro V hSw; obtain ⟨q0, q1⟩ := HLD.out V hSw; go_simp; try with_reducible rfl)
                try simp only [Act.put]
                refine wpE_takeF 2 ⟨some 110, _, _, _, _, _⟩ (v := ?_) (by decide) rfl (by kernel_rfl) (by kernel_rfl) (by kernel_rfl) (fun _ _ _ h => h) hS (Or.inl ⟨by kernel_rfl, ?_⟩) ?_
                rotate_left
                · (intro V hSw; obtain ⟨q0, q1⟩ := HLD.out V hSw; go_simp; try with_reducible rfl)
                try simp only [Act.put]
                refine wpE_takeF 3 ⟨some 111, _, _, _, _, _⟩ (v := ?_) (by decide) rfl (by kernel_rfl) (by kernel_rfl) (by kernel_rfl) (fun _ _ _ h => h) hS (Or.inl ⟨by kernel_rfl, ?_⟩) ?_
                rotate_left
                · (intro V hSw; obtain ⟨q0, q1⟩ := HLD.out V hSw; go_simp; try with_reducible rfl)
                try simp only [Act.put]
                refine wpE_takeF 4 ⟨some 112, _, _, _, _, _⟩ (v := ?_) (by decide) rfl (by kernel_rfl) (by kernel_rfl) (by kernel_rfl) (fun _ _ _ h => h) hS (Or.inl ⟨by kernel_rfl, ?_⟩) ?_
                rotate_left
                · (intro V hSw; obtain ⟨q0, q1⟩ := HLD.out V hSw; go_simp; try with_reducible rfl)
                try simp only [Act.put]
                refine wpE_takeF 5 ⟨some 113, _, _, _, _, _⟩ (v := ?_) (by decide) rfl (by kernel_rfl) (by kernel_rfl) (by kernel_rfl) (fun _ _ _ h => h) hS (Or.inl ⟨by kernel_rfl, ?_⟩) ?_
                rotate_left
                · (intro V hSw; obtain ⟨q0, q1⟩ := HLD.out V hSw; go_simp; try with_reducible rfl)
                try simp only [Act.put]
                refine wpE_takeF 6 ⟨some 114, _, _, _, _, _⟩ (v := ?_) (by decide) rfl (by kernel_rfl) (by kernel_rfl) (by kernel_rfl) (fun _ _ _ h => h) hS (Or.inl ⟨by kernel_rfl, ?_⟩) ?_
                rotate_left
                · (intro V hSw; obtain ⟨q0, q1⟩ := HLD.out V hSw; go_simp; try with_reducible rfl)
                try simp only [Act.put]
                refine wpE_takeF 7 ⟨some 115, _, _, _, _, _⟩ (v := ?_) (by decide) rfl (by kernel_rfl) (by kernel_rfl) (by kernel_rfl) (fun _ _ _ h => h) hS (Or.inl ⟨by kernel_rfl, ?_⟩) ?_
                rotate_left
                · (intro V hSw; obtain ⟨q0, q1⟩ := HLD.out V hSw; go_simp; try with_reducible rfl)
                try simp only [Act.put]
                refine wpE_takeF 8 ⟨some 116, _, _, _, _, _⟩ (v := ?_) (by decide) rfl (by kernel_rfl) (by kernel_rfl) (by kernel_rfl) (fun _ _ _ h => h) hS (Or.inl ⟨by kernel_rfl, ?_⟩) ?_
                rotate_left
                · (intro V hSw; obtain ⟨q0, q1⟩ := HLD.out V hSw; go_simp; try with_reducible rfl)
                try simp only [Act.put]
                refine wpE_takeF 9 ⟨some 117, _, _, _, _, _⟩ (v := ?_) (by decide) rfl (by kernel_rfl) (by kernel_rfl) (by kernel_rfl) (fun _ _ _ h => h) hS (Or.inl ⟨by kernel_rfl, ?_⟩) ?_
                rotate_left
                · (intro V hSw; obtain ⟨q0, q1⟩ := HLD.out V hSw; go_simp; try with_reducible rfl)
                try simp only [Act.put]
                refine wpE_takeF 10 ⟨some 118, _, _, _, _, _⟩ (v := ?_) (by decide) rfl (by kernel_rfl) (by kernel_rfl) (by kernel_rfl) (fun _ _ _ h => h) hS (Or.inl ⟨by kernel_rfl, ?_⟩) ?_
                rotate_left
                · (intro V hSw; obtain ⟨q0, q1⟩ := HLD.out V hSw; go_simp; try with_reducible rfl)
                try simp only [Act.put]
                refine wpE_takeF 11 ⟨some 119, _, _, _, _, _⟩ (v := ?_) (by decide) rfl (by kernel_rfl) (by kernel_rfl) (by kernel_rfl) (fun _ _ _ h => h) hS (Or.inl ⟨by kernel_rfl, ?_⟩) ?_
                rotate_left
                · (intro V hSw; obtain ⟨q0, q1⟩ := HLD.out V hSw; go_simp; try with_reducible rfl)
                try simp only [Act.put]
                refine wpE_done (by kernel_rfl) ?_ _
                try simp only [List.setIfInBounds_toArray, List.set_cons_succ, List.set_cons_zero]
                have HBJ2 : Hid (Below V1.heap.size V1 V2.drew) := Lib.hid (HBJ.out.trans (hS.mono HBJ.out.size))
                clear hS
                go_wp2
                go_roundw
                case rel => exact ⟨j + 2, by omega, by omega, by go_num, HBJ2.out⟩
                case measure => simp [intOf]; omega
              · have hjm2 : ¬ (jj : Int) < (mb : Int) := by omega
                have HBW : Hid (Below w.heap.size w V2) := Lib.hid (HBR.out.trans (HBJ.out.mono HBR.out.size))
                go_wp2_with fail
                with_reducible refine (HCMP.out V2 HBJ.out).mono ?_
                rintro E6 V6 ⟨rfl, hb6⟩
                go_wp2
                rw [HP.out]
                exact ⟨rfl, HBW.out.trans (hb6.mono HBW.out.size)⟩
  · have HNI : Hid ((n : Int) = (N : Int)) := Lib.hid (by omega)
    have hbigI : ¬ (20 : Int) < (n : Int) := by omega
    clear hN
    go_wp2
    rw [HNI.out, ← HW2.out, ← HM.out]
    clear HNI hbigI hmm HW2
    go_loopw [7] (fun iv wr => ∃ i : Nat, i ≤ N ∧ iv = .int .i64 (i : Int) ∧ Counts wr m i (l.map Pr.t) i ∧ ((l.take i).map Pr.t).Nodup ∧ Below w.heap.size w wr) (fun iv _ => N - (intOf iv).toNat)
    case atStart => exact ⟨0, Nat.zero_le _, rfl, HCN.out, by simp, HB2.out⟩
    case round =>
      clear HCN HB2
      obtain ⟨V0, hV0⟩ : ∃ V0, V0 = wr := ⟨_, rfl⟩
      subst hV0
      obtain ⟨i, hi, rfl, hcn, hnd, hbr⟩ := hrel
      have HCN := Lib.hid hcn; clear hcn
      have HND := Lib.hid hnd; clear hnd
      have HBR := Lib.hid hbr; clear hbr
      rcases Nat.lt_or_ge i N with hiN | hiN
      · have hil : i < l.length := by have := HLN.out; omega
        obtain ⟨b0, off, rfl, hb0⟩ := H.out.addr (by omega)
        obtain ⟨p, hp⟩ : ∃ p, p = l[i] := ⟨_, rfl⟩
        obtain ⟨S, hS⟩ : ∃ S : ByteArray, S = ⟨p.t.toArray⟩ := ⟨_, rfl⟩
        have hSd : S.data.toList = p.t := by rw [hS]
        have hpl : p.t.length ≤ maxLen := (HREP.out p (hp ▸ List.getElem_mem hil)).t
        have hcell : ∀ V, Below w.heap.size w V → V.cell? ⟨b0, off + i * 2, none⟩ = some (.string S) := fun V hV => by
          rw [hS, hp]; exact ((HH.out V hV).cell i hil).1
        have hml : (l.map Pr.t).length = l.length := List.length_map ..
        have hget : (l.map Pr.t).getD i [] = p.t := by rw [List.getD_eq_getElem?_getD, List.getElem?_eq_getElem (by rw [hml]; exact hil), Option.getD_some, List.getElem_map, hp]
        have hlook := run_count V0 m i i (l.map Pr.t) S p.t hSd hpl (by rw [hml]; omega) HCN.out
        obtain ⟨w2, hupd, hcn2, hg2⟩ := run_meet V0 m i i (l.map Pr.t) S p.t hSd hpl (by rw [hml]; omega) hget (by unfold maxLen; omega) (by omega) HCN.out
        have hlook2 := run_count w2 m (i + 1) (i + 1) (l.map Pr.t) S p.t hSd hpl (by rw [hml]; omega) hcn2
        have hb2 : Below w.heap.size w w2 := HBR.out.grown hg2 HBR.out.size (fun q hq => by injection hq with hq; have := HWM.out; omega)
        have htk : (l.map Pr.t).take (i + 1) = (l.map Pr.t).take i ++ [p.t] := by rw [take_snocS _ i (by rw [hml]; exact hil), hget]
        have hmt : (l.map Pr.t).take i = (l.take i).map Pr.t := (List.map_take ..).symm
        have hcount : ((l.map Pr.t).take (i + 1)).count p.t = ((l.map Pr.t).take i).count p.t + 1 := by rw [htk, List.count_append]; simp
        rw [hcount] at hlook2
        have hle : ((l.map Pr.t).take i).count p.t ≤ 20 := Nat.le_trans List.count_le_length (by rw [List.length_take]; omega)
        have hzero : ((l.map Pr.t).take i).count p.t = 0 → ((l.take (i + 1)).map Pr.t).Nodup := fun h0 => by
          rw [List.map_take, htk]
          rw [← hmt] at HND
          refine List.nodup_append.2 ⟨HND.out, by simp, fun a ha b hb => ?_⟩
          rw [List.mem_singleton.1 hb]
          rintro rfl
          exact absurd (List.count_pos_iff.2 ha) (by omega)
        have HZERO := Lib.hid hzero; clear hzero
        obtain ⟨cc, hcc⟩ : ∃ cc, cc = ((l.map Pr.t).take i).count p.t := ⟨_, rfl⟩
        rw [← hcc] at hlook hupd hlook2 hle HZERO
        have q0 := hcell V0 HBR.out
        have q1 := hcell w2 hb2
        have HB2 := Lib.hid hb2
        have HCN2 := Lib.hid hcn2
        clear hcc hcell hb2 hcn2 hg2 hml hget htk hmt hcount hSd hpl hS hp
        have hi0 : (0 : Int) ≤ (i : Int) := by omega
        have hin : (i : Int) < (n : Int) := by omega
        have hiNI : (i : Int) < (N : Int) := by omega
        have hwc : IntKind.i64.wrap ((cc : Int) + 1) = (cc : Int) + 1 := by rw [IntKind.wrap_i64]; omega
        have hpush : ((cc + 1 : Nat) : Int) = (cc : Int) + 1 := by omega
        rw [hpush] at hlook2
        clear hpush
        rcases Nat.eq_zero_or_pos cc with hc0 | hc0
        · have hgt : ¬ (1 : Int) < (cc : Int) + 1 := by omega
          have HND2 := Lib.hid (HZERO.out hc0)
          clear hc0
          go_wp2
          go_roundw
          case rel => exact ⟨i + 1, by omega, by go_num, HCN2.out, HND2.out, HB2.out⟩
          case measure => simp [intOf]; omega
        · have hgt : (1 : Int) < (cc : Int) + 1 := by omega
          clear hc0
          go_wp2
          rw [HP.out]
          exact ⟨rfl, HB2.out⟩
      · obtain rfl : N = i := by omega
        have hiNI : ¬ (N : Int) < (N : Int) := by omega
        clear HCN
        have HB3 : Hid (Below w.heap.size w V0) := HBR
        go_wp2
        go_loopw [8, 9, 10] (fun av bv iv wr => ∃ (i : Nat) (Aa Ab : Option Addr) (ca cb : Nat) (la lb : List Pr), i ≤ N ∧ av = .slice Aa la.length ca ∧ bv = .slice Ab lb.length cb ∧ iv = .int .i64 (i : Int) ∧ HoldsX wr wr.heap.size Aa la.length la ∧ HoldsX wr wr.heap.size Ab lb.length lb ∧ Just la (l.take i) ∧ Just lb (turnP l rho N i) ∧ Below w.heap.size w wr) (fun _ _ iv _ => N - (intOf iv).toNat)
        case atStart => exact ⟨0, none, none, 0, 0, [], [], Nat.zero_le _, rfl, rfl, rfl, HoldsX.nil _ _ _, HoldsX.nil _ _ _, just_nil, just_nil, HB3.out⟩
        case round =>
          clear HB3 HBR
          obtain ⟨V1, hV1⟩ : ∃ V1, V1 = wr := ⟨_, rfl⟩
          subst hV1
          obtain ⟨i, Aa, Ab, ca, cb, la, lb, hi, rfl, rfl, rfl, hha, hhb, hja, hjb, hbr⟩ := hrel
          have HHA := Lib.hid hha; clear hha
          have HHB := Lib.hid hhb; clear hhb
          have HJA := Lib.hid hja; clear hja
          have HJB := Lib.hid hjb; clear hjb
          have HBR := Lib.hid hbr; clear hbr
          have hfa := HJA.out.few
          have hfb := HJB.out.few
          obtain ⟨ma, hma⟩ : ∃ ma, ma = la.length := ⟨_, rfl⟩
          obtain ⟨mb, hmb⟩ : ∃ mb, mb = lb.length := ⟨_, rfl⟩
          rw [← hma] at HHA hfa ⊢
          rw [← hmb] at HHB hfb ⊢
          have HMA := Lib.hid hma; clear hma
          have HMB := Lib.hid hmb; clear hmb
          rcases Nat.lt_or_ge i N with hiN | hiN
          · obtain ⟨hrho, hrem⟩ := HRHO.out (by omega)
            obtain ⟨kk, hkk⟩ : ∃ kk, kk = (rho + i) % N := ⟨_, rfl⟩
            have hkN : kk < N := by rw [hkk]; exact Nat.mod_lt _ (by omega)
            have hwi : IntKind.u64.wrap (i : Int) = (i : Int) := by rw [IntKind.wrap_u64]; omega
            have hws : IntKind.u64.wrap ((rho : Int) + (i : Int)) = (rho : Int) + (i : Int) := by rw [IntKind.wrap_u64]; omega
            have hmod : ((rho : Int) + (i : Int)).tmod (N : Int) = (kk : Int) := by
              rw [hkk, Int.tmod_eq_emod_of_nonneg (by omega), Int.natCast_emod, Int.natCast_add]
            have hwk : IntKind.i64.wrap (kk : Int) = (kk : Int) := by rw [IntKind.wrap_i64]; omega
            have hN0 : ((N : Int) == 0) = false := beq_false_of_ne (by omega)
            have hN1 : ¬ (N : Int) = 0 := by omega
            have hil : i < l.length := by have := HLN.out; omega
            have hkl : kk < l.length := by have := HLN.out; omega
            obtain ⟨b0, off, rfl, hb0⟩ := H.out.addr (by omega)
            obtain ⟨p, hp⟩ : ∃ p, p = l[i] := ⟨_, rfl⟩
            obtain ⟨q, hq⟩ : ∃ q, q = l[kk] := ⟨_, rfl⟩
            have hnexta : l.take (i + 1) = l.take i ++ [p] := by rw [hp]; exact List.take_succ_eq_append_getElem hil
            have hnextb : turnP l rho N (i + 1) = turnP l rho N i ++ [q] := by rw [turnP_succ, ← hkk, getD_at hkl, hq]
            have hna : ∀ x ∈ l.take i, x.t ≠ p.t := fun x hx => by
              obtain ⟨j, hj, rfl⟩ := List.getElem_of_mem hx
              rw [List.length_take] at hj
              have := apart_take HND.out (by have := HLN.out; omega) (i := j) (j := i) (by omega) hiN (by omega)
              rw [getD_at (by omega), getD_at hil, ← hp] at this
              rw [List.getElem_take]; exact this
            have hnb : ∀ x ∈ turnP l rho N i, x.t ≠ q.t := fun x hx => by
              unfold turnP at hx
              obtain ⟨j, hj, rfl⟩ := List.mem_map.1 hx
              rw [List.mem_range] at hj
              have hjm : (rho + j) % N < N := Nat.mod_lt _ (by omega)
              have := apart_take HND.out (by have := HLN.out; omega) (i := (rho + j) % N) (j := kk) hjm hkN (by rw [hkk]; exact mod_apart hrho hiN hj)
              rw [getD_at hkl, ← hq] at this
              exact this
            have hlda : ∀ V, Below w.heap.size w V → (ldX (.pointer (some ⟨b0, off + i * 2, none⟩))).run Try.prog V = .ok (.agg p.c) V ∧ (ldX (.pointer (some ⟨b0, off + kk * 2, none⟩))).run Try.prog V = .ok (.agg q.c) V := fun V hV => by
              rw [hp, hq]
              exact ⟨run_ldX_at (HH.out V hV) i hil _ rfl, run_ldX_at (HH.out V hV) kk hkl _ rfl⟩
            have hseta := fun V (hV : Below V1.heap.size V1 V) => Set_any Aa ma ca V1.heap.size la p V (HHA.out.below hV) hV.size (by omega)
            have hsetb := fun V (hV : Below V1.heap.size V1 V) => Set_any Ab mb cb V1.heap.size lb q V (HHB.out.below hV) hV.size (by omega)
            have HNA := Lib.hid hna; clear hna
            have HNB := Lib.hid hnb; clear hnb
            have HXA := Lib.hid hnexta; clear hnexta
            have HXB := Lib.hid hnextb; clear hnextb
            clear hp hq hkk hrho
            generalize p.c = P at hlda hseta
            generalize q.c = Q at hlda hsetb
            have HLDA := Lib.hid hlda; clear hlda
            have HSETA := Lib.hid hseta; clear hseta
            have HSETB := Lib.hid hsetb; clear hsetb
            have hi0 : (0 : Int) ≤ (i : Int) := by omega
            have hin : (i : Int) < (n : Int) := by omega
            have hk0 : (0 : Int) ≤ (kk : Int) := by omega
            have hkn : (kk : Int) < (n : Int) := by omega
            have hiNI : (i : Int) < (N : Int) := by omega
            obtain ⟨q0, -⟩ := HLDA.out V1 HBR.out
            go_wp2_with fail
            with_reducible refine (HSETA.out V1 (Below.refl _ _)).mono ?_
            rintro E2 V2 ⟨A2, c2, rfl, ho2, hb2⟩
            have HB12 := Lib.hid hb2
            have HB2 : Hid (Below w.heap.size w V2) := Lib.hid (HBR.out.trans (hb2.mono HBR.out.size))
            have HO2 := Lib.hid ho2
            clear hb2 ho2 q0 HSETA
            obtain ⟨-, q1⟩ := HLDA.out V2 HB2.out
            dsimp only at HO2 ⊢
            go_wp2_with fail
            with_reducible refine (HSETB.out V2 HB12.out).mono ?_
            rintro E3 V3 ⟨A3, c3, rfl, ho3, hb3⟩
            have HB3 : Hid (Below w.heap.size w V3) := Lib.hid (HB2.out.trans (hb3.mono HB2.out.size))
            have HO3 := Lib.hid ho3
            have HO23 := Lib.hid (HO2.out.below hb3)
            have HS23 := Lib.hid hb3.size
            clear hb3 ho3 q1 HSETB HO2
            dsimp only at HO3 ⊢
            rcases set_ways la p with hsa | hsa | ⟨lc, hsa⟩
            · rw [hsa] at HO23 ⊢
              generalize (setL lb q).2 = eb
              generalize (setL lb q).1.length = nb
              clear HO3 HO23 hsa
              rcases Decidable.em (eb = 0) with hz | hz
              · subst hz
                go_wp2
                rw [HP.out]
                exact ⟨rfl, HB3.out⟩
              · have hzb : (eb == 0) = false := beq_false_of_ne hz
                go_wp2
                rw [HP.out]
                exact ⟨rfl, HB3.out⟩
            · rw [hsa] at HO23 ⊢
              generalize (setL lb q).2 = eb
              generalize (setL lb q).1.length = nb
              clear HO3 HO23 hsa
              rcases Decidable.em (eb = 0) with hz | hz
              · subst hz
                go_wp2
                rw [HP.out]
                exact ⟨rfl, HB3.out⟩
              · have hzb : (eb == 0) = false := beq_false_of_ne hz
                go_wp2
                rw [HP.out]
                exact ⟨rfl, HB3.out⟩
            · rw [hsa] at HO23 ⊢
              have hjc := just_more HJA.out hsa HNA.out
              rw [← HXA.out] at hjc
              have HJC := Lib.hid hjc; clear hjc hsa
              dsimp only at HO23 ⊢
              rcases set_ways lb q with hsb | hsb | ⟨ld, hsb⟩
              · rw [hsb] at HO3 ⊢
                clear HO3 HO23 hsb HJC
                generalize lc.length = nc
                dsimp only [List.length_nil]
                go_wp2
                rw [HP.out]
                exact ⟨rfl, HB3.out⟩
              · rw [hsb] at HO3 ⊢
                clear HO3 HO23 hsb HJC
                generalize lc.length = nc
                dsimp only [List.length_nil]
                go_wp2
                rw [HP.out]
                exact ⟨rfl, HB3.out⟩
              · rw [hsb] at HO3 ⊢
                have hjd := just_more HJB.out hsb HNB.out
                rw [← HXB.out] at hjd
                have HJD := Lib.hid hjd; clear hjd hsb
                dsimp only at HO3 ⊢
                have HHC : Hid (HoldsX V3 V3.heap.size A2 lc.length lc) := Lib.hid HO23.out.reads
                have HHD : Hid (HoldsX V3 V3.heap.size A3 ld.length ld) := Lib.hid HO3.out.reads
                clear HO3 HO23
                obtain ⟨nc, hnc⟩ : ∃ nc, nc = lc.length := ⟨_, rfl⟩
                obtain ⟨nd, hnd⟩ : ∃ nd, nd = ld.length := ⟨_, rfl⟩
                rw [← hnc] at HHC ⊢
                rw [← hnd] at HHD ⊢
                have HNC := Lib.hid hnc; clear hnc
                have HND2 := Lib.hid hnd; clear hnd
                go_wp2
                go_roundw
                case rel => exact ⟨i + 1, A2, A3, c2, c3, lc, ld, by omega, by rw [HNC.out], by rw [HND2.out], by go_num, by rw [← HNC.out]; exact HHC.out, by rw [← HND2.out]; exact HHD.out, HJC.out, HJD.out, HB3.out⟩
                case measure => simp [intOf]; omega
          · obtain rfl : N = i := by omega
            have hiNI : ¬ (N : Int) < (N : Int) := by omega
            have hsame : la = lb := by
              rcases Nat.eq_zero_or_pos N with h0 | h0
              · subst h0
                have h1 : la = [] := List.eq_nil_iff_forall_not_mem.2 (fun x hx => by have := (HJA.out.mem x).1 hx; simp at this)
                have h2 : lb = [] := List.eq_nil_iff_forall_not_mem.2 (fun x hx => by have := (HJB.out.mem x).1 hx; simp [turnP] at this)
                rw [h1, h2]
              · obtain ⟨hr1, -⟩ := HRHO.out h0
                exact just_same HJA.out HJB.out (by have := HLN.out; omega) hr1
            have hlen : ma = N := by
              rw [HMA.out, just_len HJA.out HND.out, List.length_take]
              have := HLN.out; omega
            have hrise := ((right_iff la).1 HJA.out.right).2
            subst hsame
            obtain rfl : mb = ma := by rw [HMB.out, HMA.out]
            have hcmp := fun V (hV : Below V1.heap.size V1 V) => same_any Aa Ab mb mb ca cb V1.heap.size V1.heap.size la la V (HHA.out.below hV) (HHB.out.below hV) hV.size hV.size (by omega)
            simp only [decide_true] at hcmp
            have HCMP := Lib.hid hcmp; clear hcmp
            have HRISE := Lib.hid hrise; clear hrise
            have HALL : Hid (∀ V, Below V1.heap.size V1 V → HoldsX V V1.heap.size Aa mb la) := Lib.hid fun V hV => HHA.out.below hV
            clear HJA HJB HHB
            subst hlen
            go_wp2
            go_loopw [16] (fun jv wr => ∃ j : Nat, 1 ≤ j ∧ (j ≤ mb ∨ j = 1) ∧ jv = .int .i64 (j : Int) ∧ Below V1.heap.size V1 wr) (fun jv _ => mb - (intOf jv).toNat)
            case atStart => exact ⟨1, by omega, by omega, rfl, Below.refl _ _⟩
            case round =>
              obtain ⟨V2, hV2⟩ : ∃ V2, V2 = wr := ⟨_, rfl⟩
              subst hV2
              obtain ⟨jj, hj1, hj2, rfl, hbj⟩ := hrel
              have HBJ := Lib.hid hbj; clear hbj
              rcases Nat.lt_or_ge jj mb with hjm | hjm
              · obtain ⟨j, rfl⟩ : ∃ j, jj = j + 1 := ⟨jj - 1, by omega⟩
                have hjl : j < la.length := by have := HMB.out; omega
                have hjl1 : j + 1 < la.length := by have := HMB.out; omega
                obtain ⟨b, off, rfl, hbB⟩ := (HALL.out V2 HBJ.out).addr (by omega)
                obtain ⟨S0, hS0⟩ : ∃ S0 : ByteArray, S0 = ⟨(la[j]).t.toArray⟩ := ⟨_, rfl⟩
                obtain ⟨S1, hS1⟩ : ∃ S1 : ByteArray, S1 = ⟨(la[j + 1]).t.toArray⟩ := ⟨_, rfl⟩
                have hld : ∀ V, Below V2.heap.size V2 V → V.cell? ⟨b, off + j * 2, none⟩ = some (.string S0) ∧ V.cell? ⟨b, off + (j + 1) * 2, none⟩ = some (.string S1) := fun V hV => by
                  have hV1 : Below V1.heap.size V1 V := HBJ.out.trans (hV.mono HBJ.out.size)
                  exact ⟨by rw [hS0]; exact ((HALL.out V hV1).cell j hjl).1, by rw [hS1]; exact ((HALL.out V hV1).cell (j + 1) hjl1).1⟩
                have hls : Op.bytesLess S0.toList S1.toList = true := by
                  rw [hS0, hS1, text_list, text_list]
                  exact List.pairwise_iff_getElem.1 HRISE.out j (j + 1) hjl hjl1 (by omega)
                have hgeq : ∀ V, (binOp .geq 9 (.string S0) (.string S1)).run Try.prog V = .ok (.bool false) V := fun V => by
                  have := run_geq S0 S1 V
                  rwa [hls] at this
                have HLD := Lib.hid hld; clear hld hS0 hS1 hls
                have hji : (0 : Int) ≤ (j : Int) := by omega
                have hjq : (j : Int) < (mb : Int) := by omega
                have hjq1 : (j : Int) + 1 < (mb : Int) := by omega
                have hj1' : (0 : Int) ≤ (j : Int) + 1 := by omega
                have hwj : IntKind.i64.wrap ((j : Int) + 1 - 1) = (j : Int) := by rw [IntKind.wrap_i64]; omega
                have hwj2 : IntKind.i64.wrap (j : Int) = (j : Int) := by rw [IntKind.wrap_i64]; omega
                go_wp2
                refine wp_region_E (fun V => Below V2.heap.size V2 V) 99 rfl ?_
                have hS := (show Below V2.heap.size V2 V2.drew from (Below.refl _ V2).drew)
                refine wpE_takeF 0 ⟨some 108, _, _, _, _, _⟩ (v := ?_) (by decide) rfl (by kernel_rfl) (by kernel_rfl) (by kernel_rfl) (fun _ _ _ h => h) hS (Or.inl ⟨by kernel_rfl, ?_⟩) ?_
                rotate_left
                · (intro V hSw; obtain ⟨q0, q1⟩ := HLD.out V hSw; go_simp; try with_reducible rfl)
                try simp only [Act.put]
                refine wpE_takeF 1 ⟨some 109, _, _, _, _, _⟩ (v := ?_) (by decide) rfl (by kernel_rfl) (by kernel_rfl) (by kernel_rfl) (fun _ _ _ h => h) hS (Or.inl ⟨by kernel_rfl, ?_⟩) ?_
                rotate_left
                · (intro V hSw; obtain ⟨q0, q1⟩ := HLD.out V hSw; go_simp; try with_reducible rfl)
                try simp only [Act.put]
                refine wpE_takeF 2 ⟨some 110, _, _, _, _, _⟩ (v := ?_) (by decide) rfl (by kernel_rfl) (by kernel_rfl) (by kernel_rfl) (fun _ _ _ h => h) hS (Or.inl ⟨by kernel_rfl, ?_⟩) ?_
                rotate_left
                · (intro V hSw; obtain ⟨q0, q1⟩ := HLD.out V hSw; go_simp; try with_reducible rfl)
                try simp only [Act.put]
                refine wpE_takeF 3 ⟨some 111, _, _, _, _, _⟩ (v := ?_) (by decide) rfl (by kernel_rfl) (by kernel_rfl) (by kernel_rfl) (fun _ _ _ h => h) hS (Or.inl ⟨by kernel_rfl, ?_⟩) ?_
                rotate_left
                · (intro V hSw; obtain ⟨q0, q1⟩ := HLD.out V hSw; go_simp; try with_reducible rfl)
                try simp only [Act.put]
                refine wpE_takeF 4 ⟨some 112, _, _, _, _, _⟩ (v := ?_) (by decide) rfl (by kernel_rfl) (by kernel_rfl) (by kernel_rfl) (fun _ _ _ h => h) hS (Or.inl ⟨by kernel_rfl, ?_⟩) ?_
                rotate_left
                · (intro V hSw; obtain ⟨q0, q1⟩ := HLD.out V hSw; go_simp; try with_reducible rfl)
                try simp only [Act.put]
                refine wpE_takeF 5 ⟨some 113, _, _, _, _, _⟩ (v := ?_) (by decide) rfl (by kernel_rfl) (by kernel_rfl) (by kernel_rfl) (fun _ _ _ h => h) hS (Or.inl ⟨by kernel_rfl, ?_⟩) ?_
                rotate_left
                · (intro V hSw; obtain ⟨q0, q1⟩ := HLD.out V hSw; go_simp; try with_reducible rfl)
                try simp only [Act.put]
                refine wpE_takeF 6 ⟨some 114, _, _, _, _, _⟩ (v := ?_) (by decide) rfl (by kernel_rfl) (by kernel_rfl) (by kernel_rfl) (fun _ _ _ h => h) hS (Or.inl ⟨by kernel_rfl, ?_⟩) ?_
                rotate_left
                · (intro V hSw; obtain ⟨q0, q1⟩ := HLD.out V hSw; go_simp; try with_reducible rfl)
                try simp only [Act.put]
                refine wpE_takeF 7 ⟨some 115, _, _, _, _, _⟩ (v := ?_) (by decide) rfl (by kernel_rfl) (by kernel_rfl) (by kernel_rfl) (fun _ _ _ h => h) hS (Or.inl ⟨by kernel_rfl, ?_⟩) ?_
                rotate_left
                · (intro V hSw; obtain ⟨q0, q1⟩ := HLD.out V hSw; go_simp; try with_reducible rfl)
                try simp only [Act.put]
                refine wpE_takeF 8 ⟨some 116, _, _, _, _, _⟩ (v := ?_) (by decide) rfl (by kernel_rfl) (by kernel_rfl) (by kernel_rfl) (fun _ _ _ h => h) hS (Or.inl ⟨by kernel_rfl, ?_⟩) ?_
                rotate_left
                · (intro V hSw; obtain ⟨q0, q1⟩ := HLD.out V hSw; go_simp; try with_reducible rfl)
                try simp only [Act.put]
                refine wpE_takeF 9 ⟨some 117, _, _, _, _, _⟩ (v := ?_) (by decide) rfl (by kernel_rfl) (by kernel_rfl) (by kernel_rfl) (fun _ _ _ h => h) hS (Or.inl ⟨by kernel_rfl, ?_⟩) ?_
                rotate_left
                · (intro V hSw; obtain ⟨q0, q1⟩ := HLD.out V hSw; go_simp; try with_reducible rfl)
                try simp only [Act.put]
                refine wpE_takeF 10 ⟨some 118, _, _, _, _, _⟩ (v := ?_) (by decide) rfl (by kernel_rfl) (by kernel_rfl) (by kernel_rfl) (fun _ _ _ h => h) hS (Or.inl ⟨by kernel_rfl, ?_⟩) ?_
                rotate_left
                · (intro V hSw; obtain ⟨q0, q1⟩ := HLD.out V hSw; go_simp; try with_reducible rfl)
                try simp only [Act.put]
                refine wpE_takeF 11 ⟨some 119, _, _, _, _, _⟩ (v := ?_) (by decide) rfl (by kernel_rfl) (by kernel_rfl) (by kernel_rfl) (fun _ _ _ h => h) hS (Or.inl ⟨by kernel_rfl, ?_⟩) ?_
                rotate_left
                · (intro V hSw; obtain ⟨q0, q1⟩ := HLD.out V hSw; go_simp; try with_reducible rfl)
                try simp only [Act.put]
                refine wpE_done (by kernel_rfl) ?_ _
                try simp only [List.setIfInBounds_toArray, List.set_cons_succ, List.set_cons_zero]
                have HBJ2 : Hid (Below V1.heap.size V1 V2.drew) := Lib.hid (HBJ.out.trans (hS.mono HBJ.out.size))
                clear hS
                go_wp2
                go_roundw
                case rel => exact ⟨j + 2, by omega, by omega, by go_num, HBJ2.out⟩
                case measure => simp [intOf]; omega
              · have hjm2 : ¬ (jj : Int) < (mb : Int) := by omega
                have HBW : Hid (Below w.heap.size w V2) := Lib.hid (HBR.out.trans (HBJ.out.mono HBR.out.size))
                go_wp2_with fail
                with_reducible refine (HCMP.out V2 HBJ.out).mono ?_
                rintro E6 V6 ⟨rfl, hb6⟩
                go_wp2
                rw [HP.out]
                exact ⟨rfl, HBW.out.trans (hb6.mono HBW.out.size)⟩

theorem walks : Walks 7 Try.f7 All := by
  intro H enc W base args ds p hval hA hsz _
  rw [Try.params7] at hA hval hsz
  obtain ⟨v0, vs0, d0, ds0, p0, q0, hargs, rfl, rfl, h0, r0⟩ := trodAll_cons hA
  obtain ⟨v1, vs1, d1, ds1, p1, q1, rfl, rfl, rfl, h1, r1⟩ := trodAll_cons r0
  obtain ⟨rfl, rfl, rfl⟩ := trodAll_nil r1
  obtain rfl : args = #[v0, v1] := by cases args; simp_all
  obtain ⟨A0, n0, c0, l0, rfl, hl0, hr0, hn0, hc0⟩ := exts_open (hval 0 _ v0 rfl rfl) h0 _ (reach_exts hsz (j := 0) rfl rfl)
  obtain ⟨x1, rfl, rfl, rfl, hx1⟩ := open_int Try.underlying3 (hval 1 _ v1 rfl rfl) h1
  have bx1 := bounds_i64 hx1
  exact walk A0 n0 c0 l0 x1 W hl0 hr0 (by omega)

set_option maxRecDepth 100000 in
theorem proved : Rows.AttrOrderSaid :=
  OpenClaim.holds_of_wide 7 Try.f7 rfl rfl rfl rfl rfl rfl rfl ⟨rfl, rfl, rfl, rfl, rfl⟩ rfl rfl rfl rfl rfl (by kernel_rfl) Try.func7 (by kernel_rfl)
    (of_decide_eq_true (by kernel_rfl)) (by unfold Func.isWrapper; first | (rw [if_pos (by decide +kernel)]; kernel_rfl) | (rw [if_neg (by decide +kernel)]; exact ⟨rfl, rfl⟩))
    (fun os started H enc _ => lifted (s := Rows.attrOrderSpec) walks (by kernel_rfl) rfl rfl (fun H ds hl => by match ds, hl with | [d1, d2], _ => rfl) (by kernel_rfl) Try.func7 os started H enc
      (ChangeSpec.witness6 (enc := enc) (C := Try.checked) false ⟨#[], #[.slice none 0 0, .int .i64 0], []⟩ 8 (by kernel_rfl) (by kernel_rfl) (by kernel_rfl) (by kernel_rfl)))
#print axioms proved
end Go.Proofs.Ytbagocghlijleaa.AttrOrder
