/- HtreeSame: for every list of names and every turn: added in their order and in turned order, the same entries are told in the same order (unless there is no room for one). For all lists within the reach of memory. -/
import Derived.Test.YtbagocghlijleaaGreatHtDv
import Derived.Test.YtbagocghlijleaaGreatHtAf
import Derived.Test.YtbagocghlijleaaGreatHtStrs
namespace Go.Proofs.YtbagocghlijleaaGreat.HtreeSame
set_option maxRecDepth 20000
open Go.ChangeShapes Go.WideShapes Go.ChangeAt Go.RowKit
open Go.Proofs.YtbagocghlijleaaGreat.Mem Go.Proofs.YtbagocghlijleaaGreat.Crc Go.Proofs.YtbagocghlijleaaGreat.Rec Go.Proofs.YtbagocghlijleaaGreat.Lift Go.Proofs.YtbagocghlijleaaGreat.Reg Go.Proofs.YtbagocghlijleaaGreat.Lf Go.Proofs.YtbagocghlijleaaGreat.Ht
attribute [local go_sem ↓] ldX_eq stX_eq eqX_eq neqX_eq

/-- What is added beside a name: how long it is. -/
def fL (t : List UInt8) : Int := (t.length : Int)
theorem rest_u (a : Int) (n : Nat) (h0 : 0 < n) : ∃ r : Nat, r < n ∧ (IntKind.u64.wrap a).tmod (n : Int) = (r : Int) := by
  have hx : 0 ≤ IntKind.u64.wrap a := by rw [IntKind.wrap_u64]; omega
  generalize IntKind.u64.wrap a = x at hx
  rw [Int.tmod_eq_emod_of_nonneg hx]
  have h1 := Int.emod_nonneg x (show (n : Int) ≠ 0 by omega)
  have h2 := Int.emod_lt_of_pos x (show (0 : Int) < n by omega)
  exact ⟨(x % n).toNat, by omega, by omega⟩
/-- A directory in memory that so many names made. -/
structure Grown (V : World) (A : Option Addr) (m : Nat) (d : List (List UInt8)) (l : List (List UInt8)) : Prop where
  holds : HoldsN V V.heap.size A m d
  made : addsD fL newD l = (d, true)
  tree : ∃ T, readD d = some T
theorem Grown.below {V V' : World} {A : Option Addr} {m : Nat} {d l : List (List UInt8)} (h : Grown V A m d l) (hb : Below V.heap.size V V') : Grown V' A m d l := ⟨(h.holds.below hb).more hb.size, h.made, h.tree⟩
theorem Grown.small {V : World} {A : Option Addr} {m : Nat} {d l : List (List UInt8)} (h : Grown V A m d l) : m ≤ 31 ∧ ∀ b ∈ d, b.length ≤ 140737488355328 := by
  obtain ⟨T, hT⟩ := h.tree
  obtain ⟨h1, h2, h3⟩ := ((readD_iff d T).1 hT).sizes
  exact ⟨by rw [← h.holds.1]; exact h3, fun b hb => by rw [h1 b hb]; omega⟩
theorem grown_new {V : World} {A : Option Addr} {c base : Nat} (h : OwnN V base (.slice A 1 c) newD) : Grown V A 1 newD [] := ⟨h.reads, rfl, _, readD_new⟩
theorem grown_no {V V' : World} {A : Option Addr} {m : Nat} {d l : List (List UInt8)} (h : Grown V A m d l) (t : List UInt8) (hb : Below V.heap.size V V') (h0 : (addD d ⟨t, fL t⟩).2 ≠ 0) (h9 : (addD d ⟨t, fL t⟩).2 ≠ 9) : Grown V' A m d (l ++ [t]) := by
  refine ⟨(h.holds.below hb).more hb.size, ?_, h.tree⟩
  rw [addsD_snoc fL t l newD (by rw [h.made]), h.made]
  dsimp only
  rw [if_neg h9, if_neg h0]
theorem grown_yes {V V' : World} {A : Option Addr} {m base : Nat} {d l : List (List UInt8)} (h : Grown V A m d l) (t : List UInt8) {v : Value} (ho : OwnN V' base v (addD d ⟨t, fL t⟩).1) (h0 : (addD d ⟨t, fL t⟩).2 = 0) : ∃ A' m' c' d', v = .slice A' m' c' ∧ Grown V' A' m' d' (l ++ [t]) := by
  obtain ⟨A', c', rfl⟩ := ho.shape
  refine ⟨A', _, c', _, rfl, ho.reads, ?_, ?_⟩
  · rw [addsD_snoc fL t l newD (by rw [h.made]), h.made]
    dsimp only
    rw [if_neg (by rw [h0]; decide), if_pos h0]
  · obtain ⟨T, hT⟩ := h.tree
    rcases addD_ways hT ⟨t, fL t⟩ with ⟨_, e⟩ | ⟨_, _, e⟩ | ⟨_, _, e | ⟨r, U, e, hU, _⟩⟩
    · rw [e] at h0; exact absurd h0 (by decide)
    · rw [e] at h0; exact absurd h0 (by decide)
    · rw [e] at h0; exact absurd h0 (by decide)
    · rw [e]; exact ⟨U, hU⟩

theorem afterD_of {d : List (List UInt8)} {T : Ht.Leaves} (h : readD d = some T) : afterD d [] 999 = (afterT T [] 999, 0) := by unfold afterD; rw [h]

set_option maxRecDepth 100000 in
set_option maxHeartbeats 8000000 in
theorem walk (A : Option Addr) (n c : Nat) (l : List (List UInt8)) (tu : Int) (w : World) (h : HoldsC SK w w.heap.size A n l) (hlen : ∀ x ∈ l, x.length ≤ maxLen) (hn : n ≤ 8796093021952) :
    Calls Tryz.prog 8 #[.slice A n c, .int .i64 tu] w fun E w' => E = .returned (.bool true) ∧ Below w.heap.size w w' := by
  have hln := h.1
  obtain ⟨post, hpost⟩ : ∃ post : Ending → World → Prop, post = fun E w' => E = .returned (.bool true) ∧ Below w.heap.size w w' := ⟨_, rfl⟩
  rw [← hpost]
  have HP := Lib.hid hpost; clear hpost
  have hh : ∀ V, Below w.heap.size w V → HoldsC SK V w.heap.size A n l := fun V hV => h.below hV
  have HH := Lib.hid hh; clear hh
  have H := Lib.hid h; clear h
  have HLN := Lib.hid hln; clear hln
  have HLEN := Lib.hid hlen; clear hlen
  go_enter Tryz.func8, Tryz.ntmps8
  go_wp2_with fail
  with_reducible refine (alive_any w).mono ?_
  rintro E1 w1 ⟨rfl, hb1⟩
  have HB1 := Lib.hid hb1; clear hb1
  go_wp2_with fail
  with_reducible refine (New_any w1).mono ?_
  rintro E2 w2 ⟨Aa, ca, rfl, hoa, hb2⟩
  have HB2 : Hid (Below w.heap.size w w2) := Lib.hid (HB1.out.trans (hb2.mono HB1.out.size))
  have HGA := Lib.hid (grown_new hoa); clear hoa hb2
  go_wp2_with fail
  with_reducible refine (New_any w2).mono ?_
  rintro E3 w3 ⟨Ab, cb, rfl, hob, hb3⟩
  have HB3 : Hid (Below w.heap.size w w3) := Lib.hid (HB2.out.trans (hb3.mono HB2.out.size))
  have HGA3 := Lib.hid (HGA.out.below hb3)
  have HGB3 := Lib.hid (grown_new hob); clear hob hb3 HGA
  -- how many are taken
  obtain ⟨N, hN⟩ : ∃ N, N = min n 60 := ⟨_, rfl⟩
  have hNn : N ≤ n := by omega
  have hN60 : N ≤ 60 := by omega
  obtain ⟨rho, hrho⟩ : ∃ rho : Nat, 0 < N → rho < N ∧ (IntKind.u64.wrap tu).tmod (N : Int) = (rho : Int) := by
    rcases Nat.eq_zero_or_pos N with h0 | h0
    · exact ⟨0, fun h => by omega⟩
    · obtain ⟨r, h1, h2⟩ := rest_u tu N h0
      exact ⟨r, fun _ => ⟨h1, h2⟩⟩
  have HRHO := Lib.hid hrho; clear hrho
  have hwN : IntKind.u64.wrap (N : Int) = (N : Int) := by rw [IntKind.wrap_u64]; omega
  rcases Nat.lt_or_ge 60 n with hbig | hbig
  · have HNI : Hid ((60 : Int) = (N : Int)) := Lib.hid (by omega)
    have hbigI : (60 : Int) < (n : Int) := by omega
    clear hN
    go_wp2
    rw [HNI.out]
    clear HNI hbigI
    go_loopw [5, 6, 8] (fun av bv iv wr => ∃ (i : Nat) (Aa Ab : Option Addr) (ma ca mb cb : Nat) (da db : List (List UInt8)), i ≤ N ∧ av = .slice Aa ma ca ∧ bv = .slice Ab mb cb ∧ iv = .int .i64 (i : Int) ∧ Grown wr Aa ma da (l.take i) ∧ Grown wr Ab mb db (turnS l [] rho N i) ∧ Below w.heap.size w wr) (fun _ _ iv _ => N - (intOf iv).toNat)
    case atStart => exact ⟨0, Aa, Ab, 1, ca, 1, cb, newD, newD, Nat.zero_le _, rfl, rfl, rfl, HGA3.out, HGB3.out, HB3.out⟩
    case round =>
      clear HGA3 HGB3 HB3 HB2 HB1
      obtain ⟨V0, hV0⟩ : ∃ V0, V0 = wr := ⟨_, rfl⟩
      subst hV0
      obtain ⟨i, Aa, Ab, ma, ca, mb, cb, da, db, hi, rfl, rfl, rfl, hga, hgb, hbr⟩ := hrel
      have HGA := Lib.hid hga; clear hga
      have HGB := Lib.hid hgb; clear hgb
      have HBR := Lib.hid hbr; clear hbr
      rcases Nat.lt_or_ge i N with hiN | hiN
      · obtain ⟨hrho, hrem⟩ := HRHO.out (by omega)
        obtain ⟨kk, hkk⟩ : ∃ kk, kk = (rho + i) % N := ⟨_, rfl⟩
        have hkN : kk < N := by rw [hkk]; exact Nat.mod_lt _ (by omega)
        have hwi : IntKind.u64.wrap (i : Int) = (i : Int) := by rw [IntKind.wrap_u64]; omega
        have hws : IntKind.u64.wrap ((rho : Int) + (i : Int)) = (rho : Int) + (i : Int) := by rw [IntKind.wrap_u64]; omega
        have hmod : ((rho : Int) + (i : Int)).tmod (N : Int) = (kk : Int) := by
          rw [hkk, Int.tmod_eq_emod_of_nonneg (by omega), Int.natCast_emod, Int.natCast_add]
        have hwk : IntKind.i64.wrap (kk : Int) = (kk : Int) := by rw [IntKind.wrap_i64]; omega
        have hN0 : ((N : Int) == 0) = false := beq_false_of_ne (by omega)
        have hN1 : ¬ (N : Int) = 0 := by omega
        have hil : i < l.length := by have := HLN.out; omega
        have hkl : kk < l.length := by have := HLN.out; omega
        obtain ⟨b0, off, rfl, hb0⟩ := H.out.addr (by omega)
        obtain ⟨s, hs⟩ : ∃ s, s = l[i] := ⟨_, rfl⟩
        obtain ⟨u, hu⟩ : ∃ u, u = l[kk] := ⟨_, rfl⟩
        have hsl : s.length ≤ maxLen := HLEN.out s (hs ▸ List.getElem_mem hil)
        have hul : u.length ≤ maxLen := HLEN.out u (hu ▸ List.getElem_mem hkl)
        have hnexta : l.take (i + 1) = l.take i ++ [s] := by rw [hs]; exact List.take_succ_eq_append_getElem hil
        have hnextb : turnS l [] rho N (i + 1) = turnS l [] rho N i ++ [u] := by rw [turnS_succ, ← hkk, List.getD_eq_getElem?_getD, List.getElem?_eq_getElem hkl, hu]; rfl
        obtain ⟨SA, hSA⟩ : ∃ SA : ByteArray, SA = ⟨s.toArray⟩ := ⟨_, rfl⟩
        obtain ⟨SB, hSB⟩ : ∃ SB : ByteArray, SB = ⟨u.toArray⟩ := ⟨_, rfl⟩
        have hda : ∀ V, Below V0.heap.size V0 V → V.cell? ⟨b0, off + i, none⟩ = some (.string SA) := fun V hV => by
          have := (HH.out V (HBR.out.trans (hV.mono HBR.out.size))).cell i hil 0 (by decide)
          rw [show off + i * SK.k + 0 = off + i by show off + i * 1 + 0 = _; omega] at this
          rw [this, ← hs, hSA]; rfl
        have hdb : ∀ V, Below w.heap.size w V → V.cell? ⟨b0, off + kk, none⟩ = some (.string SB) := fun V hV => by
          have := (HH.out V hV).cell kk hkl 0 (by decide)
          rw [show off + kk * SK.k + 0 = off + kk by show off + kk * 1 + 0 = _; omega] at this
          rw [this, ← hu, hSB]; rfl
        have hadd : ∀ V, Below V0.heap.size V0 V → Calls Tryz.prog 26 #[.slice Aa ma ca, .agg #[.string SA, .int .i64 (SA.size : Int)]] V (Tree2 V (addD da ⟨s, fL s⟩)) := fun V hV => by
          have h1 := Add_any Aa ma ca V0.heap.size da ⟨s, fL s⟩ ⟨⟨by unfold fL; show -9223372036854775808 ≤ (s.length : Int); omega, by unfold fL; unfold maxLen at hsl; show (s.length : Int) ≤ 9223372036854775807; omega⟩, hsl⟩ V (HGA.out.holds.below hV) hV.size (by have := HGA.out.small.1; omega) HGA.out.small.2
          have e : (⟨s, fL s⟩ : Nm).c = #[.string SA, .int .i64 (SA.size : Int)] := by rw [hSA, text_size]; rfl
          rwa [e] at h1
        have haddb : ∀ V1, Below V0.heap.size V0 V1 → ∀ V, Below V1.heap.size V1 V → Calls Tryz.prog 26 #[.slice Ab mb cb, .agg #[.string SB, .int .i64 (SB.size : Int)]] V (Tree2 V (addD db ⟨u, fL u⟩)) := fun V1 hV1 V hV => by
          have h1 := Add_any Ab mb cb V0.heap.size db ⟨u, fL u⟩ ⟨⟨by unfold fL; show -9223372036854775808 ≤ (u.length : Int); omega, by unfold fL; unfold maxLen at hul; show (u.length : Int) ≤ 9223372036854775807; omega⟩, hul⟩ V ((HGB.out.holds.below hV1).below (hV.mono hV1.size)) (Nat.le_trans hV1.size hV.size) (by have := HGB.out.small.1; omega) HGB.out.small.2
          have e : (⟨u, fL u⟩ : Nm).c = #[.string SB, .int .i64 (SB.size : Int)] := by rw [hSB, text_size]; rfl
          rwa [e] at h1
        have HDA := Lib.hid hda; clear hda
        have HDB := Lib.hid hdb; clear hdb
        have HADD := Lib.hid hadd; clear hadd
        have HADDB := Lib.hid haddb; clear haddb
        have HNA := Lib.hid hnexta; clear hnexta
        have HNB := Lib.hid hnextb; clear hnextb
        clear hs hu hSA hSB hsl hul hkk hrho
        have hi0 : (0 : Int) ≤ (i : Int) := by omega
        have hin : (i : Int) < (n : Int) := by omega
        have hk0 : (0 : Int) ≤ (kk : Int) := by omega
        have hkn : (kk : Int) < (n : Int) := by omega
        have hiNI : (i : Int) < (N : Int) := by omega
        go_wp2
        refine wp_region_E (fun V => Below V0.heap.size V0 V) 99 rfl ?_
        have hS := (show Below V0.heap.size V0 V0.drew from (Below.refl _ V0).drew)
        refine wpE_takeF 0 ⟨some 44, _, _, _, _, _⟩ (v := ?_) (by decide) rfl (by kernel_rfl) (by kernel_rfl) (by kernel_rfl) (fun _ _ _ h => h) hS (Or.inl ⟨by kernel_rfl, ?_⟩) ?_
        rotate_left
        · (intro V hSw; have q0 := HDA.out V hSw; go_simp; try with_reducible rfl)
        try simp only [Act.put]
        refine wpE_takeF 1 ⟨some 45, _, _, _, _, _⟩ (v := ?_) (by decide) rfl (by kernel_rfl) (by kernel_rfl) (by kernel_rfl) (fun _ _ _ h => h) hS (Or.inl ⟨by kernel_rfl, ?_⟩) ?_
        rotate_left
        · (intro V hSw; have q0 := HDA.out V hSw; go_simp; try with_reducible rfl)
        try simp only [Act.put]
        refine wpE_takeF 2 ⟨some 46, _, _, _, _, _⟩ (v := ?_) (by decide) rfl (by kernel_rfl) (by kernel_rfl) (by kernel_rfl) (fun _ _ _ h => h) hS (Or.inl ⟨by kernel_rfl, ?_⟩) ?_
        rotate_left
        · (intro V hSw; have q0 := HDA.out V hSw; go_simp; try with_reducible rfl)
        try simp only [Act.put]
        refine wpE_takeF 3 ⟨some 47, _, _, _, _, _⟩ (v := ?_) (by decide) rfl (by kernel_rfl) (by kernel_rfl) (by kernel_rfl) (fun _ _ _ h => h) hS (Or.inl ⟨by kernel_rfl, ?_⟩) ?_
        rotate_left
        · (intro V hSw; have q0 := HDA.out V hSw; go_simp; try with_reducible rfl)
        try simp only [Act.put]
        refine wpE_takeF 4 ⟨some 48, _, _, _, _, _⟩ (v := ?_) (by decide) rfl (by kernel_rfl) (by kernel_rfl) (by kernel_rfl) (fun _ _ _ h => h) hS (Or.inl ⟨by kernel_rfl, ?_⟩) ?_
        rotate_left
        · (intro V hSw; have q0 := HDA.out V hSw; go_simp; try with_reducible rfl)
        try simp only [Act.put]
        refine wpE_takeF 5 ⟨some 49, _, _, _, _, _⟩ (v := ?_) (by decide) rfl (by kernel_rfl) (by kernel_rfl) (by kernel_rfl) (fun _ _ _ h => h) hS (Or.inl ⟨by kernel_rfl, ?_⟩) ?_
        rotate_left
        · (intro V hSw; have q0 := HDA.out V hSw; go_simp; try with_reducible rfl)
        try simp only [Act.put]
        refine wpE_takeF 6 ⟨some 50, _, _, _, _, _⟩ (v := ?_) (by decide) rfl (by kernel_rfl) (by kernel_rfl) (by kernel_rfl) (fun _ _ _ h => h) hS (Or.inl ⟨by kernel_rfl, ?_⟩) ?_
        rotate_left
        · (intro V hSw; have q0 := HDA.out V hSw; go_simp; try with_reducible rfl)
        try simp only [Act.put]
        refine wpE_takeF 7 ⟨some 51, _, _, _, _, _⟩ (v := ?_) (by decide) rfl (by kernel_rfl) (by kernel_rfl) (by kernel_rfl) (fun _ _ _ h => h) hS (Or.inl ⟨by kernel_rfl, ?_⟩) ?_
        rotate_left
        · (intro V hSw; have q0 := HDA.out V hSw; go_simp; try with_reducible rfl)
        try simp only [Act.put]
        refine wpE_takeF 8 ⟨some 52, _, _, _, _, _⟩ (v := ?_) (by decide) rfl (by kernel_rfl) (by kernel_rfl) (by kernel_rfl) (fun _ _ _ h => h) hS (Or.inl ⟨by kernel_rfl, ?_⟩) ?_
        rotate_left
        · (intro V hSw; have q0 := HDA.out V hSw; go_simp; try with_reducible rfl)
        try simp only [Act.put]
        refine wpE_takeF 9 ⟨some 53, _, _, _, _, _⟩ (v := ?_) (by decide) rfl (by kernel_rfl) (by kernel_rfl) (by kernel_rfl) (fun _ _ _ h => h) hS (Or.inl ⟨by kernel_rfl, ?_⟩) ?_
        rotate_left
        · (intro V hSw; have q0 := HDA.out V hSw; go_simp; try with_reducible rfl)
        try simp only [Act.put]
        refine wpE_takeF 10 ⟨some 54, _, _, _, _, _⟩ (v := ?_) (by decide) rfl (by kernel_rfl) (by kernel_rfl) (by kernel_rfl) (fun _ _ _ h => h) hS (Or.inl ⟨by kernel_rfl, ?_⟩) ?_
        rotate_left
        · (intro V hSw; have q0 := HDA.out V hSw; go_simp; try with_reducible rfl)
        try simp only [Act.put]
        refine wpE_one 11 (o := ⟨some 55, _, _, _, _, _⟩) (by kernel_rfl) rfl (fun K' hK' => ?_)
        rw [if_pos (by kernel_rfl)]
        refine call_wp 26 _ _ _ _ rfl Tryz.func26 (by kernel_rfl) rfl _ ?hv _ (HADD.out _ hS) ?_
        case hv => simp only [List.map_toArray, List.map_cons, List.map_nil]; go_simp
        rintro E V2 ⟨v2, rfl, ho2, hb2⟩
        have hb2' : Below V0.heap.size V0 V2 := hS.trans (hb2.mono hS.size)
        refine ⟨_, rfl, hK'.out _ _ hb2' (fun hS => ?_)⟩
        clear hK' K'
        try simp only [Act.put]
        refine wpE_takeF 12 ⟨some 43, _, _, _, _, _⟩ (v := ?_) (by decide) rfl (by kernel_rfl) (by kernel_rfl) (by kernel_rfl) (fun _ _ _ h => h) hS (Or.inl ⟨by kernel_rfl, ?_⟩) ?_
        rotate_left
        · (intro V hSw; go_simp; try with_reducible rfl)
        try simp only [Act.put]
        refine wpE_takeF 13 ⟨some 56, _, _, _, _, _⟩ (v := ?_) (by decide) rfl (by kernel_rfl) (by kernel_rfl) (by kernel_rfl) (fun _ _ _ h => h) hS (Or.inl ⟨by kernel_rfl, ?_⟩) ?_
        rotate_left
        · (intro V hSw; go_simp; try with_reducible rfl)
        try simp only [Act.put]
        refine wpE_takeF 14 ⟨some 57, _, _, _, _, _⟩ (v := ?_) (by decide) rfl (by kernel_rfl) (by kernel_rfl) (by kernel_rfl) (fun _ _ _ h => h) hS (Or.inl ⟨by kernel_rfl, ?_⟩) ?_
        rotate_left
        · (intro V hSw; go_simp; try with_reducible rfl)
        try simp only [Act.put]
        refine wpE_takeF 15 ⟨some 10, _, _, _, _, _⟩ (v := ?_) (by decide) rfl (by kernel_rfl) (by kernel_rfl) (by kernel_rfl) (fun _ _ _ h => h) hS (Or.inl ⟨by kernel_rfl, ?_⟩) ?_
        rotate_left
        · (intro V hSw; go_simp; try with_reducible rfl)
        try simp only [Act.put]
        refine wpE_takeF 16 ⟨some 11, _, _, _, _, _⟩ (v := ?_) (by decide) rfl (by kernel_rfl) (by kernel_rfl) (by kernel_rfl) (fun _ _ _ h => h) hS (Or.inl ⟨by kernel_rfl, ?_⟩) ?_
        rotate_left
        · (intro V hSw; go_simp; try with_reducible rfl)
        try simp only [Act.put]
        refine wpE_done (by kernel_rfl) ?_ _
        try simp only [List.setIfInBounds_toArray, List.set_cons_succ, List.set_cons_zero]
        have HB2 : Hid (Below V0.heap.size V0 V2) := Lib.hid hS
        have HBW2 : Hid (Below w.heap.size w V2) := Lib.hid (HBR.out.trans (hS.mono HBR.out.size))
        have HO2 := Lib.hid ho2
        have HGB2 := Lib.hid (HGB.out.below hS)
        have HADB := Lib.hid (HADDB.out V2 hS)
        have HDB2 : Hid (∀ V, Below V2.heap.size V2 V → V.cell? ⟨b0, off + kk, none⟩ = some (.string SB)) := Lib.hid fun V hV => HDB.out V (HBW2.out.trans (hV.mono HBW2.out.size))
        clear hS hb2 hb2' ho2 HADD HADDB HDB HDA
        obtain ⟨ea, hea⟩ : ∃ ea, ea = (addD da ⟨s, fL s⟩).2 := ⟨_, rfl⟩
        rw [← hea]
        rcases Decidable.em (ea = 0) with ha0 | ha0
        · have hgy := grown_yes HGA.out s HO2.out (by rw [← hea]; exact ha0)
          obtain ⟨A2, m2, c2, d2, rfl, hg2⟩ := hgy
          rw [← HNA.out] at hg2
          have HGA2 := Lib.hid hg2; clear hg2 HGA HO2 hea
          subst ha0
          go_wp2
          refine wp_region_E (fun V => Below V2.heap.size V2 V) 99 rfl ?_
          have hS := (show Below V2.heap.size V2 V2.drew from (Below.refl _ V2).drew)
          refine wpE_takeF 0 ⟨some 62, _, _, _, _, _⟩ (v := ?_) (by decide) rfl (by kernel_rfl) (by kernel_rfl) (by kernel_rfl) (fun _ _ _ h => h) hS (Or.inl ⟨by kernel_rfl, ?_⟩) ?_
          rotate_left
          · (intro V hSw; have q0 := HDB2.out V hSw; go_simp; try with_reducible rfl)
          try simp only [Act.put]
          refine wpE_takeF 1 ⟨some 63, _, _, _, _, _⟩ (v := ?_) (by decide) rfl (by kernel_rfl) (by kernel_rfl) (by kernel_rfl) (fun _ _ _ h => h) hS (Or.inl ⟨by kernel_rfl, ?_⟩) ?_
          rotate_left
          · (intro V hSw; have q0 := HDB2.out V hSw; go_simp; try with_reducible rfl)
          try simp only [Act.put]
          refine wpE_takeF 2 ⟨some 64, _, _, _, _, _⟩ (v := ?_) (by decide) rfl (by kernel_rfl) (by kernel_rfl) (by kernel_rfl) (fun _ _ _ h => h) hS (Or.inl ⟨by kernel_rfl, ?_⟩) ?_
          rotate_left
          · (intro V hSw; have q0 := HDB2.out V hSw; go_simp; try with_reducible rfl)
          try simp only [Act.put]
          refine wpE_takeF 3 ⟨some 65, _, _, _, _, _⟩ (v := ?_) (by decide) rfl (by kernel_rfl) (by kernel_rfl) (by kernel_rfl) (fun _ _ _ h => h) hS (Or.inl ⟨by kernel_rfl, ?_⟩) ?_
          rotate_left
          · (intro V hSw; have q0 := HDB2.out V hSw; go_simp; try with_reducible rfl)
          try simp only [Act.put]
          refine wpE_takeF 4 ⟨some 66, _, _, _, _, _⟩ (v := ?_) (by decide) rfl (by kernel_rfl) (by kernel_rfl) (by kernel_rfl) (fun _ _ _ h => h) hS (Or.inl ⟨by kernel_rfl, ?_⟩) ?_
          rotate_left
          · (intro V hSw; have q0 := HDB2.out V hSw; go_simp; try with_reducible rfl)
          try simp only [Act.put]
          refine wpE_takeF 5 ⟨some 67, _, _, _, _, _⟩ (v := ?_) (by decide) rfl (by kernel_rfl) (by kernel_rfl) (by kernel_rfl) (fun _ _ _ h => h) hS (Or.inl ⟨by kernel_rfl, ?_⟩) ?_
          rotate_left
          · (intro V hSw; have q0 := HDB2.out V hSw; go_simp; try with_reducible rfl)
          try simp only [Act.put]
          refine wpE_takeF 6 ⟨some 68, _, _, _, _, _⟩ (v := ?_) (by decide) rfl (by kernel_rfl) (by kernel_rfl) (by kernel_rfl) (fun _ _ _ h => h) hS (Or.inl ⟨by kernel_rfl, ?_⟩) ?_
          rotate_left
          · (intro V hSw; have q0 := HDB2.out V hSw; go_simp; try with_reducible rfl)
          try simp only [Act.put]
          refine wpE_takeF 7 ⟨some 69, _, _, _, _, _⟩ (v := ?_) (by decide) rfl (by kernel_rfl) (by kernel_rfl) (by kernel_rfl) (fun _ _ _ h => h) hS (Or.inl ⟨by kernel_rfl, ?_⟩) ?_
          rotate_left
          · (intro V hSw; have q0 := HDB2.out V hSw; go_simp; try with_reducible rfl)
          try simp only [Act.put]
          refine wpE_takeF 8 ⟨some 70, _, _, _, _, _⟩ (v := ?_) (by decide) rfl (by kernel_rfl) (by kernel_rfl) (by kernel_rfl) (fun _ _ _ h => h) hS (Or.inl ⟨by kernel_rfl, ?_⟩) ?_
          rotate_left
          · (intro V hSw; have q0 := HDB2.out V hSw; go_simp; try with_reducible rfl)
          try simp only [Act.put]
          refine wpE_takeF 9 ⟨some 71, _, _, _, _, _⟩ (v := ?_) (by decide) rfl (by kernel_rfl) (by kernel_rfl) (by kernel_rfl) (fun _ _ _ h => h) hS (Or.inl ⟨by kernel_rfl, ?_⟩) ?_
          rotate_left
          · (intro V hSw; have q0 := HDB2.out V hSw; go_simp; try with_reducible rfl)
          try simp only [Act.put]
          refine wpE_takeF 10 ⟨some 72, _, _, _, _, _⟩ (v := ?_) (by decide) rfl (by kernel_rfl) (by kernel_rfl) (by kernel_rfl) (fun _ _ _ h => h) hS (Or.inl ⟨by kernel_rfl, ?_⟩) ?_
          rotate_left
          · (intro V hSw; have q0 := HDB2.out V hSw; go_simp; try with_reducible rfl)
          try simp only [Act.put]
          refine wpE_one 11 (o := ⟨some 73, _, _, _, _, _⟩) (by kernel_rfl) rfl (fun K' hK' => ?_)
          rw [if_pos (by kernel_rfl)]
          refine call_wp 26 _ _ _ _ rfl Tryz.func26 (by kernel_rfl) rfl _ ?hv _ (HADB.out _ hS) ?_
          case hv => simp only [List.map_toArray, List.map_cons, List.map_nil]; go_simp
          rintro E V3 ⟨v3, rfl, ho3, hb3⟩
          have hb3' : Below V2.heap.size V2 V3 := hS.trans (hb3.mono hS.size)
          refine ⟨_, rfl, hK'.out _ _ hb3' (fun hS => ?_)⟩
          clear hK' K'
          try simp only [Act.put]
          refine wpE_takeF 12 ⟨some 61, _, _, _, _, _⟩ (v := ?_) (by decide) rfl (by kernel_rfl) (by kernel_rfl) (by kernel_rfl) (fun _ _ _ h => h) hS (Or.inl ⟨by kernel_rfl, ?_⟩) ?_
          rotate_left
          · (intro V hSw; go_simp; try with_reducible rfl)
          try simp only [Act.put]
          refine wpE_takeF 13 ⟨some 74, _, _, _, _, _⟩ (v := ?_) (by decide) rfl (by kernel_rfl) (by kernel_rfl) (by kernel_rfl) (fun _ _ _ h => h) hS (Or.inl ⟨by kernel_rfl, ?_⟩) ?_
          rotate_left
          · (intro V hSw; go_simp; try with_reducible rfl)
          try simp only [Act.put]
          refine wpE_takeF 14 ⟨some 75, _, _, _, _, _⟩ (v := ?_) (by decide) rfl (by kernel_rfl) (by kernel_rfl) (by kernel_rfl) (fun _ _ _ h => h) hS (Or.inl ⟨by kernel_rfl, ?_⟩) ?_
          rotate_left
          · (intro V hSw; go_simp; try with_reducible rfl)
          try simp only [Act.put]
          refine wpE_takeF 15 ⟨some 12, _, _, _, _, _⟩ (v := ?_) (by decide) rfl (by kernel_rfl) (by kernel_rfl) (by kernel_rfl) (fun _ _ _ h => h) hS (Or.inl ⟨by kernel_rfl, ?_⟩) ?_
          rotate_left
          · (intro V hSw; go_simp; try with_reducible rfl)
          try simp only [Act.put]
          refine wpE_takeF 16 ⟨some 13, _, _, _, _, _⟩ (v := ?_) (by decide) rfl (by kernel_rfl) (by kernel_rfl) (by kernel_rfl) (fun _ _ _ h => h) hS (Or.inl ⟨by kernel_rfl, ?_⟩) ?_
          rotate_left
          · (intro V hSw; go_simp; try with_reducible rfl)
          try simp only [Act.put]
          refine wpE_done (by kernel_rfl) ?_ _
          try simp only [List.setIfInBounds_toArray, List.set_cons_succ, List.set_cons_zero]
          have HB3 : Hid (Below V2.heap.size V2 V3) := Lib.hid hS
          have HBW3 : Hid (Below w.heap.size w V3) := Lib.hid (HBW2.out.trans (hS.mono HBW2.out.size))
          have HO3 := Lib.hid ho3
          clear hS hb3 hb3' ho3 HADB HDB2
          obtain ⟨eb, heb⟩ : ∃ eb, eb = (addD db ⟨u, fL u⟩).2 := ⟨_, rfl⟩
          rw [← heb]
          rcases Decidable.em (eb = 0) with hb0' | hb0'
          · subst hb0'
            have hgy := grown_yes HGB2.out u HO3.out heb.symm
            obtain ⟨A3, m3, c3, d3, rfl, hg3⟩ := hgy
            rw [← HNB.out] at hg3
            have HGB3 := Lib.hid hg3; clear hg3 HGB2 HO3 heb
            go_wp2
            go_roundw
            case rel => exact ⟨i + 1, _, _, _, _, _, _, _, _, by omega, rfl, rfl, by go_num, HGA2.out.below HB3.out, HGB3.out, HBW3.out⟩
            case measure => simp [intOf]; omega
          · rcases Decidable.em (eb = 9) with hb9 | hb9
            · subst hb9
              clear HO3 heb
              go_wp2
              rw [HP.out]
              exact ⟨rfl, HBW3.out⟩
            · have hgn := grown_no HGB2.out u HB3.out (by rw [← heb]; exact hb0') (by rw [← heb]; exact hb9)
              rw [← HNB.out] at hgn
              have HGB3 := Lib.hid hgn; clear hgn HGB2 HO3 heb
              have hb0b : (eb == 0) = false := beq_false_of_ne hb0'
              have hb9b : (eb == 9) = false := beq_false_of_ne hb9
              go_wp2
              go_roundw
              case rel => exact ⟨i + 1, _, _, _, _, _, _, _, _, by omega, rfl, rfl, by go_num, HGA2.out.below HB3.out, HGB3.out, HBW3.out⟩
              case measure => simp [intOf]; omega
        · rcases Decidable.em (ea = 9) with ha9 | ha9
          · subst ha9
            clear HO2 HGA hea
            go_wp2
            refine wp_region_E (fun V => Below V2.heap.size V2 V) 99 rfl ?_
            have hS := (show Below V2.heap.size V2 V2.drew from (Below.refl _ V2).drew)
            refine wpE_takeF 0 ⟨some 62, _, _, _, _, _⟩ (v := ?_) (by decide) rfl (by kernel_rfl) (by kernel_rfl) (by kernel_rfl) (fun _ _ _ h => h) hS (Or.inl ⟨by kernel_rfl, ?_⟩) ?_
            rotate_left
            · (intro V hSw; have q0 := HDB2.out V hSw; go_simp; try with_reducible rfl)
            try simp only [Act.put]
            refine wpE_takeF 1 ⟨some 63, _, _, _, _, _⟩ (v := ?_) (by decide) rfl (by kernel_rfl) (by kernel_rfl) (by kernel_rfl) (fun _ _ _ h => h) hS (Or.inl ⟨by kernel_rfl, ?_⟩) ?_
            rotate_left
            · (intro V hSw; have q0 := HDB2.out V hSw; go_simp; try with_reducible rfl)
            try simp only [Act.put]
            refine wpE_takeF 2 ⟨some 64, _, _, _, _, _⟩ (v := ?_) (by decide) rfl (by kernel_rfl) (by kernel_rfl) (by kernel_rfl) (fun _ _ _ h => h) hS (Or.inl ⟨by kernel_rfl, ?_⟩) ?_
            rotate_left
            · (intro V hSw; have q0 := HDB2.out V hSw; go_simp; try with_reducible rfl)
            try simp only [Act.put]
            refine wpE_takeF 3 ⟨some 65, _, _, _, _, _⟩ (v := ?_) (by decide) rfl (by kernel_rfl) (by kernel_rfl) (by kernel_rfl) (fun _ _ _ h => h) hS (Or.inl ⟨by kernel_rfl, ?_⟩) ?_
            rotate_left
            · (intro V hSw; have q0 := HDB2.out V hSw; go_simp; try with_reducible rfl)
            try simp only [Act.put]
            refine wpE_takeF 4 ⟨some 66, _, _, _, _, _⟩ (v := ?_) (by decide) rfl (by kernel_rfl) (by kernel_rfl) (by kernel_rfl) (fun _ _ _ h => h) hS (Or.inl ⟨by kernel_rfl, ?_⟩) ?_
            rotate_left
            · (intro V hSw; have q0 := HDB2.out V hSw; go_simp; try with_reducible rfl)
            try simp only [Act.put]
            refine wpE_takeF 5 ⟨some 67, _, _, _, _, _⟩ (v := ?_) (by decide) rfl (by kernel_rfl) (by kernel_rfl) (by kernel_rfl) (fun _ _ _ h => h) hS (Or.inl ⟨by kernel_rfl, ?_⟩) ?_
            rotate_left
            · (intro V hSw; have q0 := HDB2.out V hSw; go_simp; try with_reducible rfl)
            try simp only [Act.put]
            refine wpE_takeF 6 ⟨some 68, _, _, _, _, _⟩ (v := ?_) (by decide) rfl (by kernel_rfl) (by kernel_rfl) (by kernel_rfl) (fun _ _ _ h => h) hS (Or.inl ⟨by kernel_rfl, ?_⟩) ?_
            rotate_left
            · (intro V hSw; have q0 := HDB2.out V hSw; go_simp; try with_reducible rfl)
            try simp only [Act.put]
            refine wpE_takeF 7 ⟨some 69, _, _, _, _, _⟩ (v := ?_) (by decide) rfl (by kernel_rfl) (by kernel_rfl) (by kernel_rfl) (fun _ _ _ h => h) hS (Or.inl ⟨by kernel_rfl, ?_⟩) ?_
            rotate_left
            · (intro V hSw; have q0 := HDB2.out V hSw; go_simp; try with_reducible rfl)
            try simp only [Act.put]
            refine wpE_takeF 8 ⟨some 70, _, _, _, _, _⟩ (v := ?_) (by decide) rfl (by kernel_rfl) (by kernel_rfl) (by kernel_rfl) (fun _ _ _ h => h) hS (Or.inl ⟨by kernel_rfl, ?_⟩) ?_
            rotate_left
            · (intro V hSw; have q0 := HDB2.out V hSw; go_simp; try with_reducible rfl)
            try simp only [Act.put]
            refine wpE_takeF 9 ⟨some 71, _, _, _, _, _⟩ (v := ?_) (by decide) rfl (by kernel_rfl) (by kernel_rfl) (by kernel_rfl) (fun _ _ _ h => h) hS (Or.inl ⟨by kernel_rfl, ?_⟩) ?_
            rotate_left
            · (intro V hSw; have q0 := HDB2.out V hSw; go_simp; try with_reducible rfl)
            try simp only [Act.put]
            refine wpE_takeF 10 ⟨some 72, _, _, _, _, _⟩ (v := ?_) (by decide) rfl (by kernel_rfl) (by kernel_rfl) (by kernel_rfl) (fun _ _ _ h => h) hS (Or.inl ⟨by kernel_rfl, ?_⟩) ?_
            rotate_left
            · (intro V hSw; have q0 := HDB2.out V hSw; go_simp; try with_reducible rfl)
            try simp only [Act.put]
            refine wpE_one 11 (o := ⟨some 73, _, _, _, _, _⟩) (by kernel_rfl) rfl (fun K' hK' => ?_)
            rw [if_pos (by kernel_rfl)]
            refine call_wp 26 _ _ _ _ rfl Tryz.func26 (by kernel_rfl) rfl _ ?hv _ (HADB.out _ hS) ?_
            case hv => simp only [List.map_toArray, List.map_cons, List.map_nil]; go_simp
            rintro E V3 ⟨v3, rfl, ho3, hb3⟩
            have hb3' : Below V2.heap.size V2 V3 := hS.trans (hb3.mono hS.size)
            refine ⟨_, rfl, hK'.out _ _ hb3' (fun hS => ?_)⟩
            clear hK' K'
            try simp only [Act.put]
            refine wpE_takeF 12 ⟨some 61, _, _, _, _, _⟩ (v := ?_) (by decide) rfl (by kernel_rfl) (by kernel_rfl) (by kernel_rfl) (fun _ _ _ h => h) hS (Or.inl ⟨by kernel_rfl, ?_⟩) ?_
            rotate_left
            · (intro V hSw; go_simp; try with_reducible rfl)
            try simp only [Act.put]
            refine wpE_takeF 13 ⟨some 74, _, _, _, _, _⟩ (v := ?_) (by decide) rfl (by kernel_rfl) (by kernel_rfl) (by kernel_rfl) (fun _ _ _ h => h) hS (Or.inl ⟨by kernel_rfl, ?_⟩) ?_
            rotate_left
            · (intro V hSw; go_simp; try with_reducible rfl)
            try simp only [Act.put]
            refine wpE_takeF 14 ⟨some 75, _, _, _, _, _⟩ (v := ?_) (by decide) rfl (by kernel_rfl) (by kernel_rfl) (by kernel_rfl) (fun _ _ _ h => h) hS (Or.inl ⟨by kernel_rfl, ?_⟩) ?_
            rotate_left
            · (intro V hSw; go_simp; try with_reducible rfl)
            try simp only [Act.put]
            refine wpE_takeF 15 ⟨some 12, _, _, _, _, _⟩ (v := ?_) (by decide) rfl (by kernel_rfl) (by kernel_rfl) (by kernel_rfl) (fun _ _ _ h => h) hS (Or.inl ⟨by kernel_rfl, ?_⟩) ?_
            rotate_left
            · (intro V hSw; go_simp; try with_reducible rfl)
            try simp only [Act.put]
            refine wpE_takeF 16 ⟨some 13, _, _, _, _, _⟩ (v := ?_) (by decide) rfl (by kernel_rfl) (by kernel_rfl) (by kernel_rfl) (fun _ _ _ h => h) hS (Or.inl ⟨by kernel_rfl, ?_⟩) ?_
            rotate_left
            · (intro V hSw; go_simp; try with_reducible rfl)
            try simp only [Act.put]
            refine wpE_done (by kernel_rfl) ?_ _
            try simp only [List.setIfInBounds_toArray, List.set_cons_succ, List.set_cons_zero]
            have HB3 : Hid (Below V2.heap.size V2 V3) := Lib.hid hS
            have HBW3 : Hid (Below w.heap.size w V3) := Lib.hid (HBW2.out.trans (hS.mono HBW2.out.size))
            have HO3 := Lib.hid ho3
            clear hS hb3 hb3' ho3 HADB HDB2
            obtain ⟨eb, heb⟩ : ∃ eb, eb = (addD db ⟨u, fL u⟩).2 := ⟨_, rfl⟩
            rw [← heb]
            rcases Decidable.em (eb = 0) with hb0' | hb0'
            · subst hb0'
              clear HO3 heb
              go_wp2
              rw [HP.out]
              exact ⟨rfl, HBW3.out⟩
            · rcases Decidable.em (eb = 9) with hb9 | hb9
              · subst hb9
                clear HO3 heb
                go_wp2
                rw [HP.out]
                exact ⟨rfl, HBW3.out⟩
              · have hb0b : (eb == 0) = false := beq_false_of_ne hb0'
                have hb9b : (eb == 9) = false := beq_false_of_ne hb9
                clear HO3 heb
                go_wp2
                rw [HP.out]
                exact ⟨rfl, HBW3.out⟩
          · have hgn := grown_no HGA.out s HB2.out (by rw [← hea]; exact ha0) (by rw [← hea]; exact ha9)
            rw [← HNA.out] at hgn
            have HGA2 := Lib.hid hgn; clear hgn HGA HO2 hea
            have ha0b : (ea == 0) = false := beq_false_of_ne ha0
            have ha9b : (ea == 9) = false := beq_false_of_ne ha9
            go_wp2
            refine wp_region_E (fun V => Below V2.heap.size V2 V) 99 rfl ?_
            have hS := (show Below V2.heap.size V2 V2.drew from (Below.refl _ V2).drew)
            refine wpE_takeF 0 ⟨some 62, _, _, _, _, _⟩ (v := ?_) (by decide) rfl (by kernel_rfl) (by kernel_rfl) (by kernel_rfl) (fun _ _ _ h => h) hS (Or.inl ⟨by kernel_rfl, ?_⟩) ?_
            rotate_left
            · (intro V hSw; have q0 := HDB2.out V hSw; go_simp; try with_reducible rfl)
            try simp only [Act.put]
            refine wpE_takeF 1 ⟨some 63, _, _, _, _, _⟩ (v := ?_) (by decide) rfl (by kernel_rfl) (by kernel_rfl) (by kernel_rfl) (fun _ _ _ h => h) hS (Or.inl ⟨by kernel_rfl, ?_⟩) ?_
            rotate_left
            · (intro V hSw; have q0 := HDB2.out V hSw; go_simp; try with_reducible rfl)
            try simp only [Act.put]
            refine wpE_takeF 2 ⟨some 64, _, _, _, _, _⟩ (v := ?_) (by decide) rfl (by kernel_rfl) (by kernel_rfl) (by kernel_rfl) (fun _ _ _ h => h) hS (Or.inl ⟨by kernel_rfl, ?_⟩) ?_
            rotate_left
            · (intro V hSw; have q0 := HDB2.out V hSw; go_simp; try with_reducible rfl)
            try simp only [Act.put]
            refine wpE_takeF 3 ⟨some 65, _, _, _, _, _⟩ (v := ?_) (by decide) rfl (by kernel_rfl) (by kernel_rfl) (by kernel_rfl) (fun _ _ _ h => h) hS (Or.inl ⟨by kernel_rfl, ?_⟩) ?_
            rotate_left
            · (intro V hSw; have q0 := HDB2.out V hSw; go_simp; try with_reducible rfl)
            try simp only [Act.put]
            refine wpE_takeF 4 ⟨some 66, _, _, _, _, _⟩ (v := ?_) (by decide) rfl (by kernel_rfl) (by kernel_rfl) (by kernel_rfl) (fun _ _ _ h => h) hS (Or.inl ⟨by kernel_rfl, ?_⟩) ?_
            rotate_left
            · (intro V hSw; have q0 := HDB2.out V hSw; go_simp; try with_reducible rfl)
            try simp only [Act.put]
            refine wpE_takeF 5 ⟨some 67, _, _, _, _, _⟩ (v := ?_) (by decide) rfl (by kernel_rfl) (by kernel_rfl) (by kernel_rfl) (fun _ _ _ h => h) hS (Or.inl ⟨by kernel_rfl, ?_⟩) ?_
            rotate_left
            · (intro V hSw; have q0 := HDB2.out V hSw; go_simp; try with_reducible rfl)
            try simp only [Act.put]
            refine wpE_takeF 6 ⟨some 68, _, _, _, _, _⟩ (v := ?_) (by decide) rfl (by kernel_rfl) (by kernel_rfl) (by kernel_rfl) (fun _ _ _ h => h) hS (Or.inl ⟨by kernel_rfl, ?_⟩) ?_
            rotate_left
            · (intro V hSw; have q0 := HDB2.out V hSw; go_simp; try with_reducible rfl)
            try simp only [Act.put]
            refine wpE_takeF 7 ⟨some 69, _, _, _, _, _⟩ (v := ?_) (by decide) rfl (by kernel_rfl) (by kernel_rfl) (by kernel_rfl) (fun _ _ _ h => h) hS (Or.inl ⟨by kernel_rfl, ?_⟩) ?_
            rotate_left
            · (intro V hSw; have q0 := HDB2.out V hSw; go_simp; try with_reducible rfl)
            try simp only [Act.put]
            refine wpE_takeF 8 ⟨some 70, _, _, _, _, _⟩ (v := ?_) (by decide) rfl (by kernel_rfl) (by kernel_rfl) (by kernel_rfl) (fun _ _ _ h => h) hS (Or.inl ⟨by kernel_rfl, ?_⟩) ?_
            rotate_left
            · (intro V hSw; have q0 := HDB2.out V hSw; go_simp; try with_reducible rfl)
            try simp only [Act.put]
            refine wpE_takeF 9 ⟨some 71, _, _, _, _, _⟩ (v := ?_) (by decide) rfl (by kernel_rfl) (by kernel_rfl) (by kernel_rfl) (fun _ _ _ h => h) hS (Or.inl ⟨by kernel_rfl, ?_⟩) ?_
            rotate_left
            · (intro V hSw; have q0 := HDB2.out V hSw; go_simp; try with_reducible rfl)
            try simp only [Act.put]
            refine wpE_takeF 10 ⟨some 72, _, _, _, _, _⟩ (v := ?_) (by decide) rfl (by kernel_rfl) (by kernel_rfl) (by kernel_rfl) (fun _ _ _ h => h) hS (Or.inl ⟨by kernel_rfl, ?_⟩) ?_
            rotate_left
            · (intro V hSw; have q0 := HDB2.out V hSw; go_simp; try with_reducible rfl)
            try simp only [Act.put]
            refine wpE_one 11 (o := ⟨some 73, _, _, _, _, _⟩) (by kernel_rfl) rfl (fun K' hK' => ?_)
            rw [if_pos (by kernel_rfl)]
            refine call_wp 26 _ _ _ _ rfl Tryz.func26 (by kernel_rfl) rfl _ ?hv _ (HADB.out _ hS) ?_
            case hv => simp only [List.map_toArray, List.map_cons, List.map_nil]; go_simp
            rintro E V3 ⟨v3, rfl, ho3, hb3⟩
            have hb3' : Below V2.heap.size V2 V3 := hS.trans (hb3.mono hS.size)
            refine ⟨_, rfl, hK'.out _ _ hb3' (fun hS => ?_)⟩
            clear hK' K'
            try simp only [Act.put]
            refine wpE_takeF 12 ⟨some 61, _, _, _, _, _⟩ (v := ?_) (by decide) rfl (by kernel_rfl) (by kernel_rfl) (by kernel_rfl) (fun _ _ _ h => h) hS (Or.inl ⟨by kernel_rfl, ?_⟩) ?_
            rotate_left
            · (intro V hSw; go_simp; try with_reducible rfl)
            try simp only [Act.put]
            refine wpE_takeF 13 ⟨some 74, _, _, _, _, _⟩ (v := ?_) (by decide) rfl (by kernel_rfl) (by kernel_rfl) (by kernel_rfl) (fun _ _ _ h => h) hS (Or.inl ⟨by kernel_rfl, ?_⟩) ?_
            rotate_left
            · (intro V hSw; go_simp; try with_reducible rfl)
            try simp only [Act.put]
            refine wpE_takeF 14 ⟨some 75, _, _, _, _, _⟩ (v := ?_) (by decide) rfl (by kernel_rfl) (by kernel_rfl) (by kernel_rfl) (fun _ _ _ h => h) hS (Or.inl ⟨by kernel_rfl, ?_⟩) ?_
            rotate_left
            · (intro V hSw; go_simp; try with_reducible rfl)
            try simp only [Act.put]
            refine wpE_takeF 15 ⟨some 12, _, _, _, _, _⟩ (v := ?_) (by decide) rfl (by kernel_rfl) (by kernel_rfl) (by kernel_rfl) (fun _ _ _ h => h) hS (Or.inl ⟨by kernel_rfl, ?_⟩) ?_
            rotate_left
            · (intro V hSw; go_simp; try with_reducible rfl)
            try simp only [Act.put]
            refine wpE_takeF 16 ⟨some 13, _, _, _, _, _⟩ (v := ?_) (by decide) rfl (by kernel_rfl) (by kernel_rfl) (by kernel_rfl) (fun _ _ _ h => h) hS (Or.inl ⟨by kernel_rfl, ?_⟩) ?_
            rotate_left
            · (intro V hSw; go_simp; try with_reducible rfl)
            try simp only [Act.put]
            refine wpE_done (by kernel_rfl) ?_ _
            try simp only [List.setIfInBounds_toArray, List.set_cons_succ, List.set_cons_zero]
            have HB3 : Hid (Below V2.heap.size V2 V3) := Lib.hid hS
            have HBW3 : Hid (Below w.heap.size w V3) := Lib.hid (HBW2.out.trans (hS.mono HBW2.out.size))
            have HO3 := Lib.hid ho3
            clear hS hb3 hb3' ho3 HADB HDB2
            obtain ⟨eb, heb⟩ : ∃ eb, eb = (addD db ⟨u, fL u⟩).2 := ⟨_, rfl⟩
            rw [← heb]
            rcases Decidable.em (eb = 0) with hb0' | hb0'
            · subst hb0'
              have hgy := grown_yes HGB2.out u HO3.out heb.symm
              obtain ⟨A3, m3, c3, d3, rfl, hg3⟩ := hgy
              rw [← HNB.out] at hg3
              have HGB3 := Lib.hid hg3; clear hg3 HGB2 HO3 heb
              go_wp2
              go_roundw
              case rel => exact ⟨i + 1, _, _, _, _, _, _, _, _, by omega, rfl, rfl, by go_num, HGA2.out.below HB3.out, HGB3.out, HBW3.out⟩
              case measure => simp [intOf]; omega
            · rcases Decidable.em (eb = 9) with hb9 | hb9
              · subst hb9
                clear HO3 heb
                go_wp2
                rw [HP.out]
                exact ⟨rfl, HBW3.out⟩
              · have hgn := grown_no HGB2.out u HB3.out (by rw [← heb]; exact hb0') (by rw [← heb]; exact hb9)
                rw [← HNB.out] at hgn
                have HGB3 := Lib.hid hgn; clear hgn HGB2 HO3 heb
                have hb0b : (eb == 0) = false := beq_false_of_ne hb0'
                have hb9b : (eb == 9) = false := beq_false_of_ne hb9
                go_wp2
                go_roundw
                case rel => exact ⟨i + 1, _, _, _, _, _, _, _, _, by omega, rfl, rfl, by go_num, HGA2.out.below HB3.out, HGB3.out, HBW3.out⟩
                case measure => simp [intOf]; omega
      · obtain rfl : i = N := by omega
        have hiNI : ¬ (i : Int) < (i : Int) := by omega
        obtain ⟨T, U, hT, hU, hsame⟩ : ∃ T U, readD da = some T ∧ readD db = some U ∧ inOrder T = inOrder U := by
          rcases Nat.eq_zero_or_pos i with h0 | h0
          · subst h0
            have ha := HGA.out.made
            have hb := HGB.out.made
            have e : turnS l [] rho 0 0 = [] := rfl
            rw [List.take_zero] at ha
            rw [e] at hb
            rw [hb] at ha
            have ed : db = da := congrArg Prod.fst ha
            obtain ⟨T, hT⟩ := HGA.out.tree
            exact ⟨T, T, hT, by rw [ed]; exact hT, rfl⟩
          · obtain ⟨hr1, -⟩ := HRHO.out h0
            have ha := HGA.out.made
            have hb := HGB.out.made
            have := addsD_same fL (l.take i) (turnS l [] rho i i) (fun t => turnS_mem l [] rho i (by have := HLN.out; omega) h0 hr1 t) (by rw [ha]) (by rw [hb])
            rw [ha, hb] at this
            exact this
        have hta := afterD_of hT
        have htb := afterD_of hU
        have hTU : afterT T [] 999 = afterT U [] 999 := by unfold afterT; rw [hsame]
        have hca := After_any Aa ma ca V0.heap.size da [] (by decide) 999 V0 HGA.out.holds (Nat.le_refl _) (by have := HGA.out.small.1; omega) HGA.out.small.2
        have hcb := fun V (hV : Below V0.heap.size V0 V) => After_any Ab mb cb V0.heap.size db [] (by decide) 999 V (HGB.out.holds.below hV) hV.size (by have := HGB.out.small.1; omega) HGB.out.small.2
        rw [hta] at hca
        simp only [htb, ← hTU] at hcb
        have hLl : (afterT T [] 999).length ≤ 999 := by unfold afterT; rw [List.length_take]; omega
        generalize afterT T [] 999 = L at hca hcb hLl
        have HCA := Lib.hid hca; clear hca
        have HCB := Lib.hid hcb; clear hcb
        clear hta htb hTU hsame hT hU HGA HGB
        go_wp2_with fail
        with_reducible refine HCA.out.mono ?_
        rintro E4 V4 ⟨A4, c4, rfl, ho4, hb4⟩
        have HB4 : Hid (Below w.heap.size w V4) := Lib.hid (HBR.out.trans (hb4.mono HBR.out.size))
        have HO4 := Lib.hid ho4
        have HBV4 := Lib.hid hb4; clear ho4 hb4 HCA
        dsimp only at HO4 ⊢
        obtain ⟨nl, hnl⟩ : ∃ nl, nl = L.length := ⟨_, rfl⟩
        rw [← hnl] at HO4 hLl ⊢
        have HNL := Lib.hid hnl; clear hnl
        go_wp2_with fail
        with_reducible refine (HCB.out V4 HBV4.out).mono ?_
        rintro E5 V5 ⟨A5, c5, rfl, ho5, hb5⟩
        have HB5 : Hid (Below w.heap.size w V5) := Lib.hid (HB4.out.trans (hb5.mono HB4.out.size))
        dsimp only at ho5 ⊢
        rw [← HNL.out] at ho5 ⊢
        have hcmp := same_any A4 A5 nl nl c4 c5 V4.heap.size V5.heap.size L L V5 (HO4.out.reads.below hb5) ho5.reads hb5.size (Nat.le_refl _) (by omega)
        rw [decide_eq_true rfl] at hcmp
        have HCMP := Lib.hid hcmp; clear hcmp ho5 hb5 HCB HO4
        go_wp2_with fail
        with_reducible refine HCMP.out.mono ?_
        rintro E6 V6 ⟨rfl, hb6⟩
        go_wp2
        rw [HP.out]
        exact ⟨rfl, HB5.out.trans (hb6.mono HB5.out.size)⟩
  · have HNI : Hid ((n : Int) = (N : Int)) := Lib.hid (by omega)
    have hbigI : ¬ (60 : Int) < (n : Int) := by omega
    clear hN
    go_wp2
    rw [HNI.out]
    clear HNI hbigI
    go_loopw [5, 6, 8] (fun av bv iv wr => ∃ (i : Nat) (Aa Ab : Option Addr) (ma ca mb cb : Nat) (da db : List (List UInt8)), i ≤ N ∧ av = .slice Aa ma ca ∧ bv = .slice Ab mb cb ∧ iv = .int .i64 (i : Int) ∧ Grown wr Aa ma da (l.take i) ∧ Grown wr Ab mb db (turnS l [] rho N i) ∧ Below w.heap.size w wr) (fun _ _ iv _ => N - (intOf iv).toNat)
    case atStart => exact ⟨0, Aa, Ab, 1, ca, 1, cb, newD, newD, Nat.zero_le _, rfl, rfl, rfl, HGA3.out, HGB3.out, HB3.out⟩
    case round =>
      clear HGA3 HGB3 HB3 HB2 HB1
      obtain ⟨V0, hV0⟩ : ∃ V0, V0 = wr := ⟨_, rfl⟩
      subst hV0
      obtain ⟨i, Aa, Ab, ma, ca, mb, cb, da, db, hi, rfl, rfl, rfl, hga, hgb, hbr⟩ := hrel
      have HGA := Lib.hid hga; clear hga
      have HGB := Lib.hid hgb; clear hgb
      have HBR := Lib.hid hbr; clear hbr
      rcases Nat.lt_or_ge i N with hiN | hiN
      · obtain ⟨hrho, hrem⟩ := HRHO.out (by omega)
        obtain ⟨kk, hkk⟩ : ∃ kk, kk = (rho + i) % N := ⟨_, rfl⟩
        have hkN : kk < N := by rw [hkk]; exact Nat.mod_lt _ (by omega)
        have hwi : IntKind.u64.wrap (i : Int) = (i : Int) := by rw [IntKind.wrap_u64]; omega
        have hws : IntKind.u64.wrap ((rho : Int) + (i : Int)) = (rho : Int) + (i : Int) := by rw [IntKind.wrap_u64]; omega
        have hmod : ((rho : Int) + (i : Int)).tmod (N : Int) = (kk : Int) := by
          rw [hkk, Int.tmod_eq_emod_of_nonneg (by omega), Int.natCast_emod, Int.natCast_add]
        have hwk : IntKind.i64.wrap (kk : Int) = (kk : Int) := by rw [IntKind.wrap_i64]; omega
        have hN0 : ((N : Int) == 0) = false := beq_false_of_ne (by omega)
        have hN1 : ¬ (N : Int) = 0 := by omega
        have hil : i < l.length := by have := HLN.out; omega
        have hkl : kk < l.length := by have := HLN.out; omega
        obtain ⟨b0, off, rfl, hb0⟩ := H.out.addr (by omega)
        obtain ⟨s, hs⟩ : ∃ s, s = l[i] := ⟨_, rfl⟩
        obtain ⟨u, hu⟩ : ∃ u, u = l[kk] := ⟨_, rfl⟩
        have hsl : s.length ≤ maxLen := HLEN.out s (hs ▸ List.getElem_mem hil)
        have hul : u.length ≤ maxLen := HLEN.out u (hu ▸ List.getElem_mem hkl)
        have hnexta : l.take (i + 1) = l.take i ++ [s] := by rw [hs]; exact List.take_succ_eq_append_getElem hil
        have hnextb : turnS l [] rho N (i + 1) = turnS l [] rho N i ++ [u] := by rw [turnS_succ, ← hkk, List.getD_eq_getElem?_getD, List.getElem?_eq_getElem hkl, hu]; rfl
        obtain ⟨SA, hSA⟩ : ∃ SA : ByteArray, SA = ⟨s.toArray⟩ := ⟨_, rfl⟩
        obtain ⟨SB, hSB⟩ : ∃ SB : ByteArray, SB = ⟨u.toArray⟩ := ⟨_, rfl⟩
        have hda : ∀ V, Below V0.heap.size V0 V → V.cell? ⟨b0, off + i, none⟩ = some (.string SA) := fun V hV => by
          have := (HH.out V (HBR.out.trans (hV.mono HBR.out.size))).cell i hil 0 (by decide)
          rw [show off + i * SK.k + 0 = off + i by show off + i * 1 + 0 = _; omega] at this
          rw [this, ← hs, hSA]; rfl
        have hdb : ∀ V, Below w.heap.size w V → V.cell? ⟨b0, off + kk, none⟩ = some (.string SB) := fun V hV => by
          have := (HH.out V hV).cell kk hkl 0 (by decide)
          rw [show off + kk * SK.k + 0 = off + kk by show off + kk * 1 + 0 = _; omega] at this
          rw [this, ← hu, hSB]; rfl
        have hadd : ∀ V, Below V0.heap.size V0 V → Calls Tryz.prog 26 #[.slice Aa ma ca, .agg #[.string SA, .int .i64 (SA.size : Int)]] V (Tree2 V (addD da ⟨s, fL s⟩)) := fun V hV => by
          have h1 := Add_any Aa ma ca V0.heap.size da ⟨s, fL s⟩ ⟨⟨by unfold fL; show -9223372036854775808 ≤ (s.length : Int); omega, by unfold fL; unfold maxLen at hsl; show (s.length : Int) ≤ 9223372036854775807; omega⟩, hsl⟩ V (HGA.out.holds.below hV) hV.size (by have := HGA.out.small.1; omega) HGA.out.small.2
          have e : (⟨s, fL s⟩ : Nm).c = #[.string SA, .int .i64 (SA.size : Int)] := by rw [hSA, text_size]; rfl
          rwa [e] at h1
        have haddb : ∀ V1, Below V0.heap.size V0 V1 → ∀ V, Below V1.heap.size V1 V → Calls Tryz.prog 26 #[.slice Ab mb cb, .agg #[.string SB, .int .i64 (SB.size : Int)]] V (Tree2 V (addD db ⟨u, fL u⟩)) := fun V1 hV1 V hV => by
          have h1 := Add_any Ab mb cb V0.heap.size db ⟨u, fL u⟩ ⟨⟨by unfold fL; show -9223372036854775808 ≤ (u.length : Int); omega, by unfold fL; unfold maxLen at hul; show (u.length : Int) ≤ 9223372036854775807; omega⟩, hul⟩ V ((HGB.out.holds.below hV1).below (hV.mono hV1.size)) (Nat.le_trans hV1.size hV.size) (by have := HGB.out.small.1; omega) HGB.out.small.2
          have e : (⟨u, fL u⟩ : Nm).c = #[.string SB, .int .i64 (SB.size : Int)] := by rw [hSB, text_size]; rfl
          rwa [e] at h1
        have HDA := Lib.hid hda; clear hda
        have HDB := Lib.hid hdb; clear hdb
        have HADD := Lib.hid hadd; clear hadd
        have HADDB := Lib.hid haddb; clear haddb
        have HNA := Lib.hid hnexta; clear hnexta
        have HNB := Lib.hid hnextb; clear hnextb
        clear hs hu hSA hSB hsl hul hkk hrho
        have hi0 : (0 : Int) ≤ (i : Int) := by omega
        have hin : (i : Int) < (n : Int) := by omega
        have hk0 : (0 : Int) ≤ (kk : Int) := by omega
        have hkn : (kk : Int) < (n : Int) := by omega
        have hiNI : (i : Int) < (N : Int) := by omega
        go_wp2
        refine wp_region_E (fun V => Below V0.heap.size V0 V) 99 rfl ?_
        have hS := (show Below V0.heap.size V0 V0.drew from (Below.refl _ V0).drew)
        refine wpE_takeF 0 ⟨some 44, _, _, _, _, _⟩ (v := ?_) (by decide) rfl (by kernel_rfl) (by kernel_rfl) (by kernel_rfl) (fun _ _ _ h => h) hS (Or.inl ⟨by kernel_rfl, ?_⟩) ?_
        rotate_left
        · (intro V hSw; have q0 := HDA.out V hSw; go_simp; try with_reducible rfl)
        try simp only [Act.put]
        refine wpE_takeF 1 ⟨some 45, _, _, _, _, _⟩ (v := ?_) (by decide) rfl (by kernel_rfl) (by kernel_rfl) (by kernel_rfl) (fun _ _ _ h => h) hS (Or.inl ⟨by kernel_rfl, ?_⟩) ?_
        rotate_left
        · (intro V hSw; have q0 := HDA.out V hSw; go_simp; try with_reducible rfl)
        try simp only [Act.put]
        refine wpE_takeF 2 ⟨some 46, _, _, _, _, _⟩ (v := ?_) (by decide) rfl (by kernel_rfl) (by kernel_rfl) (by kernel_rfl) (fun _ _ _ h => h) hS (Or.inl ⟨by kernel_rfl, ?_⟩) ?_
        rotate_left
        · (intro V hSw; have q0 := HDA.out V hSw; go_simp; try with_reducible rfl)
        try simp only [Act.put]
        refine wpE_takeF 3 ⟨some 47, _, _, _, _, _⟩ (v := ?_) (by decide) rfl (by kernel_rfl) (by kernel_rfl) (by kernel_rfl) (fun _ _ _ h => h) hS (Or.inl ⟨by kernel_rfl, ?_⟩) ?_
        rotate_left
        · (intro V hSw; have q0 := HDA.out V hSw; go_simp; try with_reducible rfl)
        try simp only [Act.put]
        refine wpE_takeF 4 ⟨some 48, _, _, _, _, _⟩ (v := ?_) (by decide) rfl (by kernel_rfl) (by kernel_rfl) (by kernel_rfl) (fun _ _ _ h => h) hS (Or.inl ⟨by kernel_rfl, ?_⟩) ?_
        rotate_left
        · (intro V hSw; have q0 := HDA.out V hSw; go_simp; try with_reducible rfl)
        try simp only [Act.put]
        refine wpE_takeF 5 ⟨some 49, _, _, _, _, _⟩ (v := ?_) (by decide) rfl (by kernel_rfl) (by kernel_rfl) (by kernel_rfl) (fun _ _ _ h => h) hS (Or.inl ⟨by kernel_rfl, ?_⟩) ?_
        rotate_left
        · (intro V hSw; have q0 := HDA.out V hSw; go_simp; try with_reducible rfl)
        try simp only [Act.put]
        refine wpE_takeF 6 ⟨some 50, _, _, _, _, _⟩ (v := ?_) (by decide) rfl (by kernel_rfl) (by kernel_rfl) (by kernel_rfl) (fun _ _ _ h => h) hS (Or.inl ⟨by kernel_rfl, ?_⟩) ?_
        rotate_left
        · (intro V hSw; have q0 := HDA.out V hSw; go_simp; try with_reducible rfl)
        try simp only [Act.put]
        refine wpE_takeF 7 ⟨some 51, _, _, _, _, _⟩ (v := ?_) (by decide) rfl (by kernel_rfl) (by kernel_rfl) (by kernel_rfl) (fun _ _ _ h => h) hS (Or.inl ⟨by kernel_rfl, ?_⟩) ?_
        rotate_left
        · (intro V hSw; have q0 := HDA.out V hSw; go_simp; try with_reducible rfl)
        try simp only [Act.put]
        refine wpE_takeF 8 ⟨some 52, _, _, _, _, _⟩ (v := ?_) (by decide) rfl (by kernel_rfl) (by kernel_rfl) (by kernel_rfl) (fun _ _ _ h => h) hS (Or.inl ⟨by kernel_rfl, ?_⟩) ?_
        rotate_left
        · (intro V hSw; have q0 := HDA.out V hSw; go_simp; try with_reducible rfl)
        try simp only [Act.put]
        refine wpE_takeF 9 ⟨some 53, _, _, _, _, _⟩ (v := ?_) (by decide) rfl (by kernel_rfl) (by kernel_rfl) (by kernel_rfl) (fun _ _ _ h => h) hS (Or.inl ⟨by kernel_rfl, ?_⟩) ?_
        rotate_left
        · (intro V hSw; have q0 := HDA.out V hSw; go_simp; try with_reducible rfl)
        try simp only [Act.put]
        refine wpE_takeF 10 ⟨some 54, _, _, _, _, _⟩ (v := ?_) (by decide) rfl (by kernel_rfl) (by kernel_rfl) (by kernel_rfl) (fun _ _ _ h => h) hS (Or.inl ⟨by kernel_rfl, ?_⟩) ?_
        rotate_left
        · (intro V hSw; have q0 := HDA.out V hSw; go_simp; try with_reducible rfl)
        try simp only [Act.put]
        refine wpE_one 11 (o := ⟨some 55, _, _, _, _, _⟩) (by kernel_rfl) rfl (fun K' hK' => ?_)
        rw [if_pos (by kernel_rfl)]
        refine call_wp 26 _ _ _ _ rfl Tryz.func26 (by kernel_rfl) rfl _ ?hv _ (HADD.out _ hS) ?_
        case hv => simp only [List.map_toArray, List.map_cons, List.map_nil]; go_simp
        rintro E V2 ⟨v2, rfl, ho2, hb2⟩
        have hb2' : Below V0.heap.size V0 V2 := hS.trans (hb2.mono hS.size)
        refine ⟨_, rfl, hK'.out _ _ hb2' (fun hS => ?_)⟩
        clear hK' K'
        try simp only [Act.put]
        refine wpE_takeF 12 ⟨some 43, _, _, _, _, _⟩ (v := ?_) (by decide) rfl (by kernel_rfl) (by kernel_rfl) (by kernel_rfl) (fun _ _ _ h => h) hS (Or.inl ⟨by kernel_rfl, ?_⟩) ?_
        rotate_left
        · (intro V hSw; go_simp; try with_reducible rfl)
        try simp only [Act.put]
        refine wpE_takeF 13 ⟨some 56, _, _, _, _, _⟩ (v := ?_) (by decide) rfl (by kernel_rfl) (by kernel_rfl) (by kernel_rfl) (fun _ _ _ h => h) hS (Or.inl ⟨by kernel_rfl, ?_⟩) ?_
        rotate_left
        · (intro V hSw; go_simp; try with_reducible rfl)
        try simp only [Act.put]
        refine wpE_takeF 14 ⟨some 57, _, _, _, _, _⟩ (v := ?_) (by decide) rfl (by kernel_rfl) (by kernel_rfl) (by kernel_rfl) (fun _ _ _ h => h) hS (Or.inl ⟨by kernel_rfl, ?_⟩) ?_
        rotate_left
        · (intro V hSw; go_simp; try with_reducible rfl)
        try simp only [Act.put]
        refine wpE_takeF 15 ⟨some 10, _, _, _, _, _⟩ (v := ?_) (by decide) rfl (by kernel_rfl) (by kernel_rfl) (by kernel_rfl) (fun _ _ _ h => h) hS (Or.inl ⟨by kernel_rfl, ?_⟩) ?_
        rotate_left
        · (intro V hSw; go_simp; try with_reducible rfl)
        try simp only [Act.put]
        refine wpE_takeF 16 ⟨some 11, _, _, _, _, _⟩ (v := ?_) (by decide) rfl (by kernel_rfl) (by kernel_rfl) (by kernel_rfl) (fun _ _ _ h => h) hS (Or.inl ⟨by kernel_rfl, ?_⟩) ?_
        rotate_left
        · (intro V hSw; go_simp; try with_reducible rfl)
        try simp only [Act.put]
        refine wpE_done (by kernel_rfl) ?_ _
        try simp only [List.setIfInBounds_toArray, List.set_cons_succ, List.set_cons_zero]
        have HB2 : Hid (Below V0.heap.size V0 V2) := Lib.hid hS
        have HBW2 : Hid (Below w.heap.size w V2) := Lib.hid (HBR.out.trans (hS.mono HBR.out.size))
        have HO2 := Lib.hid ho2
        have HGB2 := Lib.hid (HGB.out.below hS)
        have HADB := Lib.hid (HADDB.out V2 hS)
        have HDB2 : Hid (∀ V, Below V2.heap.size V2 V → V.cell? ⟨b0, off + kk, none⟩ = some (.string SB)) := Lib.hid fun V hV => HDB.out V (HBW2.out.trans (hV.mono HBW2.out.size))
        clear hS hb2 hb2' ho2 HADD HADDB HDB HDA
        obtain ⟨ea, hea⟩ : ∃ ea, ea = (addD da ⟨s, fL s⟩).2 := ⟨_, rfl⟩
        rw [← hea]
        rcases Decidable.em (ea = 0) with ha0 | ha0
        · have hgy := grown_yes HGA.out s HO2.out (by rw [← hea]; exact ha0)
          obtain ⟨A2, m2, c2, d2, rfl, hg2⟩ := hgy
          rw [← HNA.out] at hg2
          have HGA2 := Lib.hid hg2; clear hg2 HGA HO2 hea
          subst ha0
          go_wp2
          refine wp_region_E (fun V => Below V2.heap.size V2 V) 99 rfl ?_
          have hS := (show Below V2.heap.size V2 V2.drew from (Below.refl _ V2).drew)
          refine wpE_takeF 0 ⟨some 62, _, _, _, _, _⟩ (v := ?_) (by decide) rfl (by kernel_rfl) (by kernel_rfl) (by kernel_rfl) (fun _ _ _ h => h) hS (Or.inl ⟨by kernel_rfl, ?_⟩) ?_
          rotate_left
          · (intro V hSw; have q0 := HDB2.out V hSw; go_simp; try with_reducible rfl)
          try simp only [Act.put]
          refine wpE_takeF 1 ⟨some 63, _, _, _, _, _⟩ (v := ?_) (by decide) rfl (by kernel_rfl) (by kernel_rfl) (by kernel_rfl) (fun _ _ _ h => h) hS (Or.inl ⟨by kernel_rfl, ?_⟩) ?_
          rotate_left
          · (intro V hSw; have q0 := HDB2.out V hSw; go_simp; try with_reducible rfl)
          try simp only [Act.put]
          refine wpE_takeF 2 ⟨some 64, _, _, _, _, _⟩ (v := ?_) (by decide) rfl (by kernel_rfl) (by kernel_rfl) (by kernel_rfl) (fun _ _ _ h => h) hS (Or.inl ⟨by kernel_rfl, ?_⟩) ?_
          rotate_left
          · (intro V hSw; have q0 := HDB2.out V hSw; go_simp; try with_reducible rfl)
          try simp only [Act.put]
          refine wpE_takeF 3 ⟨some 65, _, _, _, _, _⟩ (v := ?_) (by decide) rfl (by kernel_rfl) (by kernel_rfl) (by kernel_rfl) (fun _ _ _ h => h) hS (Or.inl ⟨by kernel_rfl, ?_⟩) ?_
          rotate_left
          · (intro V hSw; have q0 := HDB2.out V hSw; go_simp; try with_reducible rfl)
          try simp only [Act.put]
          refine wpE_takeF 4 ⟨some 66, _, _, _, _, _⟩ (v := ?_) (by decide) rfl (by kernel_rfl) (by kernel_rfl) (by kernel_rfl) (fun _ _ _ h => h) hS (Or.inl ⟨by kernel_rfl, ?_⟩) ?_
          rotate_left
          · (intro V hSw; have q0 := HDB2.out V hSw; go_simp; try with_reducible rfl)
          try simp only [Act.put]
          refine wpE_takeF 5 ⟨some 67, _, _, _, _, _⟩ (v := ?_) (by decide) rfl (by kernel_rfl) (by kernel_rfl) (by kernel_rfl) (fun _ _ _ h => h) hS (Or.inl ⟨by kernel_rfl, ?_⟩) ?_
          rotate_left
          · (intro V hSw; have q0 := HDB2.out V hSw; go_simp; try with_reducible rfl)
          try simp only [Act.put]
          refine wpE_takeF 6 ⟨some 68, _, _, _, _, _⟩ (v := ?_) (by decide) rfl (by kernel_rfl) (by kernel_rfl) (by kernel_rfl) (fun _ _ _ h => h) hS (Or.inl ⟨by kernel_rfl, ?_⟩) ?_
          rotate_left
          · (intro V hSw; have q0 := HDB2.out V hSw; go_simp; try with_reducible rfl)
          try simp only [Act.put]
          refine wpE_takeF 7 ⟨some 69, _, _, _, _, _⟩ (v := ?_) (by decide) rfl (by kernel_rfl) (by kernel_rfl) (by kernel_rfl) (fun _ _ _ h => h) hS (Or.inl ⟨by kernel_rfl, ?_⟩) ?_
          rotate_left
          · (intro V hSw; have q0 := HDB2.out V hSw; go_simp; try with_reducible rfl)
          try simp only [Act.put]
          refine wpE_takeF 8 ⟨some 70, _, _, _, _, _⟩ (v := ?_) (by decide) rfl (by kernel_rfl) (by kernel_rfl) (by kernel_rfl) (fun _ _ _ h => h) hS (Or.inl ⟨by kernel_rfl, ?_⟩) ?_
          rotate_left
          · (intro V hSw; have q0 := HDB2.out V hSw; go_simp; try with_reducible rfl)
          try simp only [Act.put]
          refine wpE_takeF 9 ⟨some 71, _, _, _, _, _⟩ (v := ?_) (by decide) rfl (by kernel_rfl) (by kernel_rfl) (by kernel_rfl) (fun _ _ _ h => h) hS (Or.inl ⟨by kernel_rfl, ?_⟩) ?_
          rotate_left
          · (intro V hSw; have q0 := HDB2.out V hSw; go_simp; try with_reducible rfl)
          try simp only [Act.put]
          refine wpE_takeF 10 ⟨some 72, _, _, _, _, _⟩ (v := ?_) (by decide) rfl (by kernel_rfl) (by kernel_rfl) (by kernel_rfl) (fun _ _ _ h => h) hS (Or.inl ⟨by kernel_rfl, ?_⟩) ?_
          rotate_left
          · (intro V hSw; have q0 := HDB2.out V hSw; go_simp; try with_reducible rfl)
          try simp only [Act.put]
          refine wpE_one 11 (o := ⟨some 73, _, _, _, _, _⟩) (by kernel_rfl) rfl (fun K' hK' => ?_)
          rw [if_pos (by kernel_rfl)]
          refine call_wp 26 _ _ _ _ rfl Tryz.func26 (by kernel_rfl) rfl _ ?hv _ (HADB.out _ hS) ?_
          case hv => simp only [List.map_toArray, List.map_cons, List.map_nil]; go_simp
          rintro E V3 ⟨v3, rfl, ho3, hb3⟩
          have hb3' : Below V2.heap.size V2 V3 := hS.trans (hb3.mono hS.size)
          refine ⟨_, rfl, hK'.out _ _ hb3' (fun hS => ?_)⟩
          clear hK' K'
          try simp only [Act.put]
          refine wpE_takeF 12 ⟨some 61, _, _, _, _, _⟩ (v := ?_) (by decide) rfl (by kernel_rfl) (by kernel_rfl) (by kernel_rfl) (fun _ _ _ h => h) hS (Or.inl ⟨by kernel_rfl, ?_⟩) ?_
          rotate_left
          · (intro V hSw; go_simp; try with_reducible rfl)
          try simp only [Act.put]
          refine wpE_takeF 13 ⟨some 74, _, _, _, _, _⟩ (v := ?_) (by decide) rfl (by kernel_rfl) (by kernel_rfl) (by kernel_rfl) (fun _ _ _ h => h) hS (Or.inl ⟨by kernel_rfl, ?_⟩) ?_
          rotate_left
          · (intro V hSw; go_simp; try with_reducible rfl)
          try simp only [Act.put]
          refine wpE_takeF 14 ⟨some 75, _, _, _, _, _⟩ (v := ?_) (by decide) rfl (by kernel_rfl) (by kernel_rfl) (by kernel_rfl) (fun _ _ _ h => h) hS (Or.inl ⟨by kernel_rfl, ?_⟩) ?_
          rotate_left
          · (intro V hSw; go_simp; try with_reducible rfl)
          try simp only [Act.put]
          refine wpE_takeF 15 ⟨some 12, _, _, _, _, _⟩ (v := ?_) (by decide) rfl (by kernel_rfl) (by kernel_rfl) (by kernel_rfl) (fun _ _ _ h => h) hS (Or.inl ⟨by kernel_rfl, ?_⟩) ?_
          rotate_left
          · (intro V hSw; go_simp; try with_reducible rfl)
          try simp only [Act.put]
          refine wpE_takeF 16 ⟨some 13, _, _, _, _, _⟩ (v := ?_) (by decide) rfl (by kernel_rfl) (by kernel_rfl) (by kernel_rfl) (fun _ _ _ h => h) hS (Or.inl ⟨by kernel_rfl, ?_⟩) ?_
          rotate_left
          · (intro V hSw; go_simp; try with_reducible rfl)
          try simp only [Act.put]
          refine wpE_done (by kernel_rfl) ?_ _
          try simp only [List.setIfInBounds_toArray, List.set_cons_succ, List.set_cons_zero]
          have HB3 : Hid (Below V2.heap.size V2 V3) := Lib.hid hS
          have HBW3 : Hid (Below w.heap.size w V3) := Lib.hid (HBW2.out.trans (hS.mono HBW2.out.size))
          have HO3 := Lib.hid ho3
          clear hS hb3 hb3' ho3 HADB HDB2
          obtain ⟨eb, heb⟩ : ∃ eb, eb = (addD db ⟨u, fL u⟩).2 := ⟨_, rfl⟩
          rw [← heb]
          rcases Decidable.em (eb = 0) with hb0' | hb0'
          · subst hb0'
            have hgy := grown_yes HGB2.out u HO3.out heb.symm
            obtain ⟨A3, m3, c3, d3, rfl, hg3⟩ := hgy
            rw [← HNB.out] at hg3
            have HGB3 := Lib.hid hg3; clear hg3 HGB2 HO3 heb
            go_wp2
            go_roundw
            case rel => exact ⟨i + 1, _, _, _, _, _, _, _, _, by omega, rfl, rfl, by go_num, HGA2.out.below HB3.out, HGB3.out, HBW3.out⟩
            case measure => simp [intOf]; omega
          · rcases Decidable.em (eb = 9) with hb9 | hb9
            · subst hb9
              clear HO3 heb
              go_wp2
              rw [HP.out]
              exact ⟨rfl, HBW3.out⟩
            · have hgn := grown_no HGB2.out u HB3.out (by rw [← heb]; exact hb0') (by rw [← heb]; exact hb9)
              rw [← HNB.out] at hgn
              have HGB3 := Lib.hid hgn; clear hgn HGB2 HO3 heb
              have hb0b : (eb == 0) = false := beq_false_of_ne hb0'
              have hb9b : (eb == 9) = false := beq_false_of_ne hb9
              go_wp2
              go_roundw
              case rel => exact ⟨i + 1, _, _, _, _, _, _, _, _, by omega, rfl, rfl, by go_num, HGA2.out.below HB3.out, HGB3.out, HBW3.out⟩
              case measure => simp [intOf]; omega
        · rcases Decidable.em (ea = 9) with ha9 | ha9
          · subst ha9
            clear HO2 HGA hea
            go_wp2
            refine wp_region_E (fun V => Below V2.heap.size V2 V) 99 rfl ?_
            have hS := (show Below V2.heap.size V2 V2.drew from (Below.refl _ V2).drew)
            refine wpE_takeF 0 ⟨some 62, _, _, _, _, _⟩ (v := ?_) (by decide) rfl (by kernel_rfl) (by kernel_rfl) (by kernel_rfl) (fun _ _ _ h => h) hS (Or.inl ⟨by kernel_rfl, ?_⟩) ?_
            rotate_left
            · (intro V hSw; have q0 := HDB2.out V hSw; go_simp; try with_reducible rfl)
            try simp only [Act.put]
            refine wpE_takeF 1 ⟨some 63, _, _, _, _, _⟩ (v := ?_) (by decide) rfl (by kernel_rfl) (by kernel_rfl) (by kernel_rfl) (fun _ _ _ h => h) hS (Or.inl ⟨by kernel_rfl, ?_⟩) ?_
            rotate_left
            · (intro V hSw; have q0 := HDB2.out V hSw; go_simp; try with_reducible rfl)
            try simp only [Act.put]
            refine wpE_takeF 2 ⟨some 64, _, _, _, _, _⟩ (v := ?_) (by decide) rfl (by kernel_rfl) (by kernel_rfl) (by kernel_rfl) (fun _ _ _ h => h) hS (Or.inl ⟨by kernel_rfl, ?_⟩) ?_
            rotate_left
            · (intro V hSw; have q0 := HDB2.out V hSw; go_simp; try with_reducible rfl)
            try simp only [Act.put]
            refine wpE_takeF 3 ⟨some 65, _, _, _, _, _⟩ (v := ?_) (by decide) rfl (by kernel_rfl) (by kernel_rfl) (by kernel_rfl) (fun _ _ _ h => h) hS (Or.inl ⟨by kernel_rfl, ?_⟩) ?_
            rotate_left
            · (intro V hSw; have q0 := HDB2.out V hSw; go_simp; try with_reducible rfl)
            try simp only [Act.put]
            refine wpE_takeF 4 ⟨some 66, _, _, _, _, _⟩ (v := ?_) (by decide) rfl (by kernel_rfl) (by kernel_rfl) (by kernel_rfl) (fun _ _ _ h => h) hS (Or.inl ⟨by kernel_rfl, ?_⟩) ?_
            rotate_left
            · (intro V hSw; have q0 := HDB2.out V hSw; go_simp; try with_reducible rfl)
            try simp only [Act.put]
            refine wpE_takeF 5 ⟨some 67, _, _, _, _, _⟩ (v := ?_) (by decide) rfl (by kernel_rfl) (by kernel_rfl) (by kernel_rfl) (fun _ _ _ h => h) hS (Or.inl ⟨by kernel_rfl, ?_⟩) ?_
            rotate_left
            · (intro V hSw; have q0 := HDB2.out V hSw; go_simp; try with_reducible rfl)
            try simp only [Act.put]
            refine wpE_takeF 6 ⟨some 68, _, _, _, _, _⟩ (v := ?_) (by decide) rfl (by kernel_rfl) (by kernel_rfl) (by kernel_rfl) (fun _ _ _ h => h) hS (Or.inl ⟨by kernel_rfl, ?_⟩) ?_
            rotate_left
            · (intro V hSw; have q0 := HDB2.out V hSw; go_simp; try with_reducible rfl)
            try simp only [Act.put]
            refine wpE_takeF 7 ⟨some 69, _, _, _, _, _⟩ (v := ?_) (by decide) rfl (by kernel_rfl) (by kernel_rfl) (by kernel_rfl) (fun _ _ _ h => h) hS (Or.inl ⟨by kernel_rfl, ?_⟩) ?_
            rotate_left
            · (intro V hSw; have q0 := HDB2.out V hSw; go_simp; try with_reducible rfl)
            try simp only [Act.put]
            refine wpE_takeF 8 ⟨some 70, _, _, _, _, _⟩ (v := ?_) (by decide) rfl (by kernel_rfl) (by kernel_rfl) (by kernel_rfl) (fun _ _ _ h => h) hS (Or.inl ⟨by kernel_rfl, ?_⟩) ?_
            rotate_left
            · (intro V hSw; have q0 := HDB2.out V hSw; go_simp; try with_reducible rfl)
            try simp only [Act.put]
            refine wpE_takeF 9 ⟨some 71, _, _, _, _, _⟩ (v := ?_) (by decide) rfl (by kernel_rfl) (by kernel_rfl) (by kernel_rfl) (fun _ _ _ h => h) hS (Or.inl ⟨by kernel_rfl, ?_⟩) ?_
            rotate_left
            · (intro V hSw; have q0 := HDB2.out V hSw; go_simp; try with_reducible rfl)
            try simp only [Act.put]
            refine wpE_takeF 10 ⟨some 72, _, _, _, _, _⟩ (v := ?_) (by decide) rfl (by kernel_rfl) (by kernel_rfl) (by kernel_rfl) (fun _ _ _ h => h) hS (Or.inl ⟨by kernel_rfl, ?_⟩) ?_
            rotate_left
            · (intro V hSw; have q0 := HDB2.out V hSw; go_simp; try with_reducible rfl)
            try simp only [Act.put]
            refine wpE_one 11 (o := ⟨some 73, _, _, _, _, _⟩) (by kernel_rfl) rfl (fun K' hK' => ?_)
            rw [if_pos (by kernel_rfl)]
            refine call_wp 26 _ _ _ _ rfl Tryz.func26 (by kernel_rfl) rfl _ ?hv _ (HADB.out _ hS) ?_
            case hv => simp only [List.map_toArray, List.map_cons, List.map_nil]; go_simp
            rintro E V3 ⟨v3, rfl, ho3, hb3⟩
            have hb3' : Below V2.heap.size V2 V3 := hS.trans (hb3.mono hS.size)
            refine ⟨_, rfl, hK'.out _ _ hb3' (fun hS => ?_)⟩
            clear hK' K'
            try simp only [Act.put]
            refine wpE_takeF 12 ⟨some 61, _, _, _, _, _⟩ (v := ?_) (by decide) rfl (by kernel_rfl) (by kernel_rfl) (by kernel_rfl) (fun _ _ _ h => h) hS (Or.inl ⟨by kernel_rfl, ?_⟩) ?_
            rotate_left
            · (intro V hSw; go_simp; try with_reducible rfl)
            try simp only [Act.put]
            refine wpE_takeF 13 ⟨some 74, _, _, _, _, _⟩ (v := ?_) (by decide) rfl (by kernel_rfl) (by kernel_rfl) (by kernel_rfl) (fun _ _ _ h => h) hS (Or.inl ⟨by kernel_rfl, ?_⟩) ?_
            rotate_left
            · (intro V hSw; go_simp; try with_reducible rfl)
            try simp only [Act.put]
            refine wpE_takeF 14 ⟨some 75, _, _, _, _, _⟩ (v := ?_) (by decide) rfl (by kernel_rfl) (by kernel_rfl) (by kernel_rfl) (fun _ _ _ h => h) hS (Or.inl ⟨by kernel_rfl, ?_⟩) ?_
            rotate_left
            · (intro V hSw; go_simp; try with_reducible rfl)
            try simp only [Act.put]
            refine wpE_takeF 15 ⟨some 12, _, _, _, _, _⟩ (v := ?_) (by decide) rfl (by kernel_rfl) (by kernel_rfl) (by kernel_rfl) (fun _ _ _ h => h) hS (Or.inl ⟨by kernel_rfl, ?_⟩) ?_
            rotate_left
            · (intro V hSw; go_simp; try with_reducible rfl)
            try simp only [Act.put]
            refine wpE_takeF 16 ⟨some 13, _, _, _, _, _⟩ (v := ?_) (by decide) rfl (by kernel_rfl) (by kernel_rfl) (by kernel_rfl) (fun _ _ _ h => h) hS (Or.inl ⟨by kernel_rfl, ?_⟩) ?_
            rotate_left
            · (intro V hSw; go_simp; try with_reducible rfl)
            try simp only [Act.put]
            refine wpE_done (by kernel_rfl) ?_ _
            try simp only [List.setIfInBounds_toArray, List.set_cons_succ, List.set_cons_zero]
            have HB3 : Hid (Below V2.heap.size V2 V3) := Lib.hid hS
            have HBW3 : Hid (Below w.heap.size w V3) := Lib.hid (HBW2.out.trans (hS.mono HBW2.out.size))
            have HO3 := Lib.hid ho3
            clear hS hb3 hb3' ho3 HADB HDB2
            obtain ⟨eb, heb⟩ : ∃ eb, eb = (addD db ⟨u, fL u⟩).2 := ⟨_, rfl⟩
            rw [← heb]
            rcases Decidable.em (eb = 0) with hb0' | hb0'
            · subst hb0'
              clear HO3 heb
              go_wp2
              rw [HP.out]
              exact ⟨rfl, HBW3.out⟩
            · rcases Decidable.em (eb = 9) with hb9 | hb9
              · subst hb9
                clear HO3 heb
                go_wp2
                rw [HP.out]
                exact ⟨rfl, HBW3.out⟩
              · have hb0b : (eb == 0) = false := beq_false_of_ne hb0'
                have hb9b : (eb == 9) = false := beq_false_of_ne hb9
                clear HO3 heb
                go_wp2
                rw [HP.out]
                exact ⟨rfl, HBW3.out⟩
          · have hgn := grown_no HGA.out s HB2.out (by rw [← hea]; exact ha0) (by rw [← hea]; exact ha9)
            rw [← HNA.out] at hgn
            have HGA2 := Lib.hid hgn; clear hgn HGA HO2 hea
            have ha0b : (ea == 0) = false := beq_false_of_ne ha0
            have ha9b : (ea == 9) = false := beq_false_of_ne ha9
            go_wp2
            refine wp_region_E (fun V => Below V2.heap.size V2 V) 99 rfl ?_
            have hS := (show Below V2.heap.size V2 V2.drew from (Below.refl _ V2).drew)
            refine wpE_takeF 0 ⟨some 62, _, _, _, _, _⟩ (v := ?_) (by decide) rfl (by kernel_rfl) (by kernel_rfl) (by kernel_rfl) (fun _ _ _ h => h) hS (Or.inl ⟨by kernel_rfl, ?_⟩) ?_
            rotate_left
            · (intro V hSw; have q0 := HDB2.out V hSw; go_simp; try with_reducible rfl)
            try simp only [Act.put]
            refine wpE_takeF 1 ⟨some 63, _, _, _, _, _⟩ (v := ?_) (by decide) rfl (by kernel_rfl) (by kernel_rfl) (by kernel_rfl) (fun _ _ _ h => h) hS (Or.inl ⟨by kernel_rfl, ?_⟩) ?_
            rotate_left
            · (intro V hSw; have q0 := HDB2.out V hSw; go_simp; try with_reducible rfl)
            try simp only [Act.put]
            refine wpE_takeF 2 ⟨some 64, _, _, _, _, _⟩ (v := ?_) (by decide) rfl (by kernel_rfl) (by kernel_rfl) (by kernel_rfl) (fun _ _ _ h => h) hS (Or.inl ⟨by kernel_rfl, ?_⟩) ?_
            rotate_left
            · (intro V hSw; have q0 := HDB2.out V hSw; go_simp; try with_reducible rfl)
            try simp only [Act.put]
            refine wpE_takeF 3 ⟨some 65, _, _, _, _, _⟩ (v := ?_) (by decide) rfl (by kernel_rfl) (by kernel_rfl) (by kernel_rfl) (fun _ _ _ h => h) hS (Or.inl ⟨by kernel_rfl, ?_⟩) ?_
            rotate_left
            · (intro V hSw; have q0 := HDB2.out V hSw; go_simp; try with_reducible rfl)
            try simp only [Act.put]
            refine wpE_takeF 4 ⟨some 66, _, _, _, _, _⟩ (v := ?_) (by decide) rfl (by kernel_rfl) (by kernel_rfl) (by kernel_rfl) (fun _ _ _ h => h) hS (Or.inl ⟨by kernel_rfl, ?_⟩) ?_
            rotate_left
            · (intro V hSw; have q0 := HDB2.out V hSw; go_simp; try with_reducible rfl)
            try simp only [Act.put]
            refine wpE_takeF 5 ⟨some 67, _, _, _, _, _⟩ (v := ?_) (by decide) rfl (by kernel_rfl) (by kernel_rfl) (by kernel_rfl) (fun _ _ _ h => h) hS (Or.inl ⟨by kernel_rfl, ?_⟩) ?_
            rotate_left
            · (intro V hSw; have q0 := HDB2.out V hSw; go_simp; try with_reducible rfl)
            try simp only [Act.put]
            refine wpE_takeF 6 ⟨some 68, _, _, _, _, _⟩ (v := ?_) (by decide) rfl (by kernel_rfl) (by kernel_rfl) (by kernel_rfl) (fun _ _ _ h => h) hS (Or.inl ⟨by kernel_rfl, ?_⟩) ?_
            rotate_left
            · (intro V hSw; have q0 := HDB2.out V hSw; go_simp; try with_reducible rfl)
            try simp only [Act.put]
            refine wpE_takeF 7 ⟨some 69, _, _, _, _, _⟩ (v := ?_) (by decide) rfl (by kernel_rfl) (by kernel_rfl) (by kernel_rfl) (fun _ _ _ h => h) hS (Or.inl ⟨by kernel_rfl, ?_⟩) ?_
            rotate_left
            · (intro V hSw; have q0 := HDB2.out V hSw; go_simp; try with_reducible rfl)
            try simp only [Act.put]
            refine wpE_takeF 8 ⟨some 70, _, _, _, _, _⟩ (v := ?_) (by decide) rfl (by kernel_rfl) (by kernel_rfl) (by kernel_rfl) (fun _ _ _ h => h) hS (Or.inl ⟨by kernel_rfl, ?_⟩) ?_
            rotate_left
            · (intro V hSw; have q0 := HDB2.out V hSw; go_simp; try with_reducible rfl)
            try simp only [Act.put]
            refine wpE_takeF 9 ⟨some 71, _, _, _, _, _⟩ (v := ?_) (by decide) rfl (by kernel_rfl) (by kernel_rfl) (by kernel_rfl) (fun _ _ _ h => h) hS (Or.inl ⟨by kernel_rfl, ?_⟩) ?_
            rotate_left
            · (intro V hSw; have q0 := HDB2.out V hSw; go_simp; try with_reducible rfl)
            try simp only [Act.put]
            refine wpE_takeF 10 ⟨some 72, _, _, _, _, _⟩ (v := ?_) (by decide) rfl (by kernel_rfl) (by kernel_rfl) (by kernel_rfl) (fun _ _ _ h => h) hS (Or.inl ⟨by kernel_rfl, ?_⟩) ?_
            rotate_left
            · (intro V hSw; have q0 := HDB2.out V hSw; go_simp; try with_reducible rfl)
            try simp only [Act.put]
            refine wpE_one 11 (o := ⟨some 73, _, _, _, _, _⟩) (by kernel_rfl) rfl (fun K' hK' => ?_)
            rw [if_pos (by kernel_rfl)]
            refine call_wp 26 _ _ _ _ rfl Tryz.func26 (by kernel_rfl) rfl _ ?hv _ (HADB.out _ hS) ?_
            case hv => simp only [List.map_toArray, List.map_cons, List.map_nil]; go_simp
            rintro E V3 ⟨v3, rfl, ho3, hb3⟩
            have hb3' : Below V2.heap.size V2 V3 := hS.trans (hb3.mono hS.size)
            refine ⟨_, rfl, hK'.out _ _ hb3' (fun hS => ?_)⟩
            clear hK' K'
            try simp only [Act.put]
            refine wpE_takeF 12 ⟨some 61, _, _, _, _, _⟩ (v := ?_) (by decide) rfl (by kernel_rfl) (by kernel_rfl) (by kernel_rfl) (fun _ _ _ h => h) hS (Or.inl ⟨by kernel_rfl, ?_⟩) ?_
            rotate_left
            · (intro V hSw; go_simp; try with_reducible rfl)
            try simp only [Act.put]
            refine wpE_takeF 13 ⟨some 74, _, _, _, _, _⟩ (v := ?_) (by decide) rfl (by kernel_rfl) (by kernel_rfl) (by kernel_rfl) (fun _ _ _ h => h) hS (Or.inl ⟨by kernel_rfl, ?_⟩) ?_
            rotate_left
            · (intro V hSw; go_simp; try with_reducible rfl)
            try simp only [Act.put]
            refine wpE_takeF 14 ⟨some 75, _, _, _, _, _⟩ (v := ?_) (by decide) rfl (by kernel_rfl) (by kernel_rfl) (by kernel_rfl) (fun _ _ _ h => h) hS (Or.inl ⟨by kernel_rfl, ?_⟩) ?_
            rotate_left
            · (intro V hSw; go_simp; try with_reducible rfl)
            try simp only [Act.put]
            refine wpE_takeF 15 ⟨some 12, _, _, _, _, _⟩ (v := ?_) (by decide) rfl (by kernel_rfl) (by kernel_rfl) (by kernel_rfl) (fun _ _ _ h => h) hS (Or.inl ⟨by kernel_rfl, ?_⟩) ?_
            rotate_left
            · (intro V hSw; go_simp; try with_reducible rfl)
            try simp only [Act.put]
            refine wpE_takeF 16 ⟨some 13, _, _, _, _, _⟩ (v := ?_) (by decide) rfl (by kernel_rfl) (by kernel_rfl) (by kernel_rfl) (fun _ _ _ h => h) hS (Or.inl ⟨by kernel_rfl, ?_⟩) ?_
            rotate_left
            · (intro V hSw; go_simp; try with_reducible rfl)
            try simp only [Act.put]
            refine wpE_done (by kernel_rfl) ?_ _
            try simp only [List.setIfInBounds_toArray, List.set_cons_succ, List.set_cons_zero]
            have HB3 : Hid (Below V2.heap.size V2 V3) := Lib.hid hS
            have HBW3 : Hid (Below w.heap.size w V3) := Lib.hid (HBW2.out.trans (hS.mono HBW2.out.size))
            have HO3 := Lib.hid ho3
            clear hS hb3 hb3' ho3 HADB HDB2
            obtain ⟨eb, heb⟩ : ∃ eb, eb = (addD db ⟨u, fL u⟩).2 := ⟨_, rfl⟩
            rw [← heb]
            rcases Decidable.em (eb = 0) with hb0' | hb0'
            · subst hb0'
              have hgy := grown_yes HGB2.out u HO3.out heb.symm
              obtain ⟨A3, m3, c3, d3, rfl, hg3⟩ := hgy
              rw [← HNB.out] at hg3
              have HGB3 := Lib.hid hg3; clear hg3 HGB2 HO3 heb
              go_wp2
              go_roundw
              case rel => exact ⟨i + 1, _, _, _, _, _, _, _, _, by omega, rfl, rfl, by go_num, HGA2.out.below HB3.out, HGB3.out, HBW3.out⟩
              case measure => simp [intOf]; omega
            · rcases Decidable.em (eb = 9) with hb9 | hb9
              · subst hb9
                clear HO3 heb
                go_wp2
                rw [HP.out]
                exact ⟨rfl, HBW3.out⟩
              · have hgn := grown_no HGB2.out u HB3.out (by rw [← heb]; exact hb0') (by rw [← heb]; exact hb9)
                rw [← HNB.out] at hgn
                have HGB3 := Lib.hid hgn; clear hgn HGB2 HO3 heb
                have hb0b : (eb == 0) = false := beq_false_of_ne hb0'
                have hb9b : (eb == 9) = false := beq_false_of_ne hb9
                go_wp2
                go_roundw
                case rel => exact ⟨i + 1, _, _, _, _, _, _, _, _, by omega, rfl, rfl, by go_num, HGA2.out.below HB3.out, HGB3.out, HBW3.out⟩
                case measure => simp [intOf]; omega
      · obtain rfl : i = N := by omega
        have hiNI : ¬ (i : Int) < (i : Int) := by omega
        obtain ⟨T, U, hT, hU, hsame⟩ : ∃ T U, readD da = some T ∧ readD db = some U ∧ inOrder T = inOrder U := by
          rcases Nat.eq_zero_or_pos i with h0 | h0
          · subst h0
            have ha := HGA.out.made
            have hb := HGB.out.made
            have e : turnS l [] rho 0 0 = [] := rfl
            rw [List.take_zero] at ha
            rw [e] at hb
            rw [hb] at ha
            have ed : db = da := congrArg Prod.fst ha
            obtain ⟨T, hT⟩ := HGA.out.tree
            exact ⟨T, T, hT, by rw [ed]; exact hT, rfl⟩
          · obtain ⟨hr1, -⟩ := HRHO.out h0
            have ha := HGA.out.made
            have hb := HGB.out.made
            have := addsD_same fL (l.take i) (turnS l [] rho i i) (fun t => turnS_mem l [] rho i (by have := HLN.out; omega) h0 hr1 t) (by rw [ha]) (by rw [hb])
            rw [ha, hb] at this
            exact this
        have hta := afterD_of hT
        have htb := afterD_of hU
        have hTU : afterT T [] 999 = afterT U [] 999 := by unfold afterT; rw [hsame]
        have hca := After_any Aa ma ca V0.heap.size da [] (by decide) 999 V0 HGA.out.holds (Nat.le_refl _) (by have := HGA.out.small.1; omega) HGA.out.small.2
        have hcb := fun V (hV : Below V0.heap.size V0 V) => After_any Ab mb cb V0.heap.size db [] (by decide) 999 V (HGB.out.holds.below hV) hV.size (by have := HGB.out.small.1; omega) HGB.out.small.2
        rw [hta] at hca
        simp only [htb, ← hTU] at hcb
        have hLl : (afterT T [] 999).length ≤ 999 := by unfold afterT; rw [List.length_take]; omega
        generalize afterT T [] 999 = L at hca hcb hLl
        have HCA := Lib.hid hca; clear hca
        have HCB := Lib.hid hcb; clear hcb
        clear hta htb hTU hsame hT hU HGA HGB
        go_wp2_with fail
        with_reducible refine HCA.out.mono ?_
        rintro E4 V4 ⟨A4, c4, rfl, ho4, hb4⟩
        have HB4 : Hid (Below w.heap.size w V4) := Lib.hid (HBR.out.trans (hb4.mono HBR.out.size))
        have HO4 := Lib.hid ho4
        have HBV4 := Lib.hid hb4; clear ho4 hb4 HCA
        dsimp only at HO4 ⊢
        obtain ⟨nl, hnl⟩ : ∃ nl, nl = L.length := ⟨_, rfl⟩
        rw [← hnl] at HO4 hLl ⊢
        have HNL := Lib.hid hnl; clear hnl
        go_wp2_with fail
        with_reducible refine (HCB.out V4 HBV4.out).mono ?_
        rintro E5 V5 ⟨A5, c5, rfl, ho5, hb5⟩
        have HB5 : Hid (Below w.heap.size w V5) := Lib.hid (HB4.out.trans (hb5.mono HB4.out.size))
        dsimp only at ho5 ⊢
        rw [← HNL.out] at ho5 ⊢
        have hcmp := same_any A4 A5 nl nl c4 c5 V4.heap.size V5.heap.size L L V5 (HO4.out.reads.below hb5) ho5.reads hb5.size (Nat.le_refl _) (by omega)
        rw [decide_eq_true rfl] at hcmp
        have HCMP := Lib.hid hcmp; clear hcmp ho5 hb5 HCB HO4
        go_wp2_with fail
        with_reducible refine HCMP.out.mono ?_
        rintro E6 V6 ⟨rfl, hb6⟩
        go_wp2
        rw [HP.out]
        exact ⟨rfl, HB5.out.trans (hb6.mono HB5.out.size)⟩

theorem walks : Walks 8 Tryz.f8 All := by
  intro H enc W base args ds p hval hA hsz _
  rw [Tryz.params8] at hA hval hsz
  obtain ⟨v0, vs0, d0, ds0, p0, q0, hargs, rfl, rfl, h0, r0⟩ := trodAll_cons hA
  obtain ⟨v1, vs1, d1, ds1, p1, q1, rfl, rfl, rfl, h1, r1⟩ := trodAll_cons r0
  obtain ⟨rfl, rfl, rfl⟩ := trodAll_nil r1
  obtain rfl : args = #[v0, v1] := by cases args; simp_all
  obtain ⟨A0, n0, c0, l0, rfl, hl0, hr0, hn0, hc0⟩ := strs_open (hval 0 _ v0 rfl rfl) h0 _ (reach_strs hsz (j := 0) rfl rfl)
  obtain ⟨x1, rfl, rfl, rfl, hx1⟩ := open_int Tryz.underlying3 (hval 1 _ v1 rfl rfl) h1
  have bx1 := bounds_i64 hx1
  exact walk A0 n0 c0 l0 x1 W hl0 hr0 (by omega)

set_option maxRecDepth 100000 in
theorem proved : Rows.HtreeSameSaid :=
  OpenClaim.holds_of_wide 8 Tryz.f8 rfl rfl rfl rfl rfl rfl rfl ⟨rfl, rfl, rfl, rfl, rfl⟩ rfl rfl rfl rfl rfl (by kernel_rfl) Tryz.func8 (by kernel_rfl)
    (of_decide_eq_true (by kernel_rfl)) (by unfold Func.isWrapper; first | (rw [if_pos (by decide +kernel)]; kernel_rfl) | (rw [if_neg (by decide +kernel)]; exact ⟨rfl, rfl⟩))
    (fun os started H enc _ => lifted (s := Rows.htreeSameSpec) walks (by kernel_rfl) rfl rfl (fun H ds hl => by match ds, hl with | [d1, d2], _ => rfl) (by kernel_rfl) Tryz.func8 os started H enc
      (ChangeSpec.witness6 (enc := enc) (C := Tryz.checked) false ⟨#[], #[.slice none 0 0, .int .i64 0], []⟩ 8 (by kernel_rfl) (by kernel_rfl) (by kernel_rfl) (by kernel_rfl)))
#print axioms proved
end Go.Proofs.YtbagocghlijleaaGreat.HtreeSame
