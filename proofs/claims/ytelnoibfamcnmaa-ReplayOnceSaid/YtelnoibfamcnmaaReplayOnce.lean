/- ReplayOnce: for every image and every numbers, a recovery leaves nothing to recover, and one that is refused writes nothing. -/
import Derived.Test.YtelnoibfamcnmaaRpAlive
import Derived.Test.YtelnoibfamcnmaaDkLoad
import Derived.Test.YtelnoibfamcnmaaLift
namespace Go.Proofs.Ytelnoibfamcnmaa.ReplayOnce
set_option maxRecDepth 20000
open Go.ChangeShapes Go.WideShapes Go.ChangeAt Go.RowKit
open Go.Proofs.Ytelnoibfamcnmaa.Mem Go.Proofs.Ytelnoibfamcnmaa.Lift Go.Proofs.Ytelnoibfamcnmaa.Crc Go.Proofs.Ytelnoibfamcnmaa.Disk Go.Proofs.Ytelnoibfamcnmaa.Log Go.Proofs.Ytelnoibfamcnmaa.Rp
open Go.Proofs.Ytelnoibfamcnmaa.Rec (Tx Wt TxAt)

set_option maxRecDepth 100000 in
set_option maxHeartbeats 4000000 in
theorem walk (A : Option Addr) (N c : Nat) (bs : List UInt8) (S L : Int) (w : World) (hh : Holds w w.heap.size A N bs) (hNc : N ≤ c) (hcm : c ≤ 140737488355328) :
    Calls Try.prog 13 #[.slice A N c, .int .i64 S, .int .i64 L] w fun e w' => e = .returned (.bool true) ∧ Below w.heap.size w w' := by
  have HH := Lib.hid hh; clear hh
  go_enter Try.func13, Try.ntmps13
  go_wp2_with fail
  with_reducible refine (Rp.alive_any w).mono ?_
  rintro e w1 ⟨rfl, hb1⟩
  cases hld : loadable N with
  | false =>
    have hlb := load_bad A N c w1 hld (by omega)
    have HLB := Lib.hid hlb; clear hlb
    have HB1 := Lib.hid hb1; clear hb1
    go_wp2_with fail
    with_reducible refine HLB.out.mono ?_
    rintro e w2 ⟨rfl, rfl⟩
    go_wp2
    go_ret
    exact ⟨rfl, HB1.out⟩
  | true =>
    simp only [loadable, Bool.and_eq_true, decide_eq_true_eq] at hld
    obtain ⟨n, hn⟩ : ∃ n, n = N / 256 := ⟨_, rfl⟩
    have hNn : N = 256 * n := by omega
    have h1n : 1 ≤ n := by omega
    have h2n : n ≤ 1024 := by omega
    obtain ⟨b, off, rfl, hbl, -⟩ := HH.out.2 (by omega)
    have hlen : bs.length = 256 * n := by rw [HH.out.1]; exact hNn
    have hlo := load_ok ⟨b, off, none⟩ N n c w.heap.size 0 bs w1 hNn h1n h2n (HH.out.below hb1) hb1.size
    obtain ⟨d, hd⟩ : ∃ d, d = loaded bs n := ⟨_, rfl⟩
    have hst : d.stable = Disk.chunks bs n := by rw [hd]; rfl
    have hsz : d.stable.length = n := by rw [hst]; simp [Disk.chunks]
    have hpe : d.pend = [] := by rw [hd]; rfl
    have hgh : d.ghosts = [] := by rw [hd]; rfl
    have hfu : d.fuse = none := by rw [hd]; rfl
    have him : d.image.flatten = bs := by rw [Dk.image_calm d hpe hgh, hst, chunks_flat bs n hlen]
    rw [← hd] at hlo
    have HLO := Lib.hid hlo; clear hlo
    have HB1 := Lib.hid hb1; clear hb1
    have HIM := Lib.hid him; clear him
    have HST := Lib.hid hst; clear hst hd
    have HLEN := Lib.hid hlen; clear hlen
    clear hld hn hNn
    go_wp2_with fail
    with_reducible refine HLO.out.mono ?_
    rintro e w2 ⟨p, F, rfl, hD, hF, hb2⟩
    unfold ptr
    clear HLO
    have hok := hD.ok.1
    have HB2 := Lib.hid (HB1.out.trans (hb2.mono HB1.out.size))
    have hFw : ∀ q, F q → w.heap.size ≤ q := fun q hq => by have := hF q hq; have := HB1.out.size; omega
    have HFW := Lib.hid hFw; clear hFw hF hb2
    have HIMG := Lib.hid (HH.out)
    have hcase : (∃ k : Nat, k ≠ 0 ∧ ∀ W, Below w2.heap.size w2 W → Calls Try.prog 33 #[.pointer (some ⟨p, 0, none⟩), .int .i64 S, .int .i64 L] W fun e w' => e = .returned (.tuple #[.pointer none, .int .i64 (k : Int)]) ∧ Below W.heap.size W w') ∨
        ∃ s l : Nat, S = (s : Int) ∧ L = (l : Int) ∧ 8 ≤ l ∧ l ≤ 1024 ∧ s + l ≤ d.stable.length ∧ okH (d.read s) (l - 1) = true := by
      have hdk : ∀ W, Below w2.heap.size w2 W → DiskAt W p d 0 F := fun W hW => hD.turns (Turns.of_below (F := fun _ => False) hW) (fun _ _ e => e)
      cases ha : okArea d.stable.length S L
      · exact .inl ⟨1, by omega, fun W hW => open_not S L d p 0 F W (hdk W hW) ha⟩
      · simp only [okArea, Bool.and_eq_true, decide_eq_true_eq] at ha
        obtain ⟨s, rfl⟩ : ∃ s : Nat, S = (s : Int) := ⟨S.toNat, by omega⟩
        obtain ⟨l, rfl⟩ : ∃ l : Nat, L = (l : Int) := ⟨L.toNat, by omega⟩
        cases hk : okH (d.read s) (l - 1)
        · exact .inl ⟨13, by omega, fun W hW => open_unclean s l _ _ rfl rfl d p 0 F W (hdk W hW) (by omega) (by omega) (by omega) hk⟩
        · exact .inr ⟨s, l, rfl, rfl, by omega, by omega, by omega, hk⟩
    rcases hcase with ⟨k, hk0, hop⟩ | ⟨s, l, rfl, rfl, h8, hl, hs, hkk⟩
    · have hrb := recover_bad S L (some ⟨p, 0, none⟩) k hk0 w2 hop
      have HRB := Lib.hid hrb; clear hrb hop
      have HD := Lib.hid hD; clear hD
      have hk' : ¬ (k : Int) = 0 := by omega
      go_wp2_with fail
      with_reducible refine HRB.out.mono ?_
      rintro e w3 ⟨rfl, hb3⟩
      clear HRB
      have hD3 : DiskAt w3 p d 0 F := HD.out.turns (Turns.of_below (F := fun _ => False) hb3) (fun _ _ e => e)
      have hbw3 := HB2.out.trans (hb3.mono HB2.out.size)
      have him := image_d d p 0 F w3.drew (hD3.turns (Turns.of_below (F := fun _ => False) (Below.refl _ w3).drew) (fun _ _ e => e)) (by omega)
      rw [HIM.out] at him
      unfold ptr at him
      have q0 := run_text w3.drew w.heap.size (some ⟨b, off, none⟩) N c bs (HH.out.below (hbw3.trans ((Below.refl _ w3).drew.mono hbw3.size)))
      have HIM3 := Lib.hid him; clear him
      have HD3 := Lib.hid hD3; clear hD3 HD
      have HB3 := Lib.hid hbw3; clear hbw3 hb3
      go_wp2_with fail
      go_region_held (fun V => (convert 33 9 (.slice (some ⟨b, off, none⟩) N c)).run Try.prog V = .ok (.string ⟨bs.toArray⟩) V) (assumption)
        (first
          | (go_at_call 23
             with_reducible refine HIM3.out.mono ?_
             rintro e w4 ⟨A4, c4, rfl, ho4, hb4⟩
             have hbw4 := HB3.out.trans (((Below.refl _ w3).drew.trans hb4).mono HB3.out.size)
             have q1 := run_text w4 w.heap.size (some ⟨b, off, none⟩) N c bs (HH.out.below hbw4)
             have q2 := run_text w4 w4.heap.size A4 bs.length c4 bs (Go.Proofs.Ytelnoibfamcnmaa.Rec.Owned.reads ho4)
             have hpd := pending_d d p 0 F w4 (HD3.out.turns (Turns.of_below (F := fun _ => False) ((Below.refl _ w3).drew.trans hb4)) (fun _ _ e => e))
             rw [hpe] at hpd
             unfold ptr at hpd
             have HPD := Lib.hid hpd
             have HB4 := Lib.hid hbw4
             clear hpd hbw4 ho4 hb4)
          | (go_at_call 19
             with_reducible refine HPD.out.mono ?_
             rintro e w5 ⟨rfl, rfl⟩))
      all_goals
        go_wp2
        go_ret
        exact ⟨rfl, HB4.out⟩
    · obtain ⟨r, hr⟩ : ∃ r, r = l - 1 := ⟨_, rfl⟩
      have hr7 : 7 ≤ r ∧ r ≤ 1023 := by omega
      have hsr : s + r < d.stable.length := by omega
      have hsl : s + l ≤ n := by omega
      have r1 := recover_ok s l d p 0 F w2 hD (by omega) h8 hl hs hkk
      rw [← hr] at r1
      obtain ⟨k1, d1, hd1, hn1, hf1, hp1, hc1⟩ : ∃ (k1 : Nat) (d1 : Dk.Dk), d1 = recD d s r ∧ k1 = (chainD d s r).length ∧ d1.fuse = none ∧ d1.pend = [] ∧ chainD d1 s r = [] := by
        have hi := recD_calm d hok s r hfu
        exact ⟨_, _, rfl, rfl, hi.1, hi.2, recD_none d hok s r (by omega) (by omega) hsr⟩
      have hok1 : d1.Ok := hd1 ▸ recD_ok d hok s r (by omega) hsr
      have hkk1 : okH (d1.read s) r = true := hd1 ▸ (recD_head d hok s r (by omega) (by omega) hsr).1
      have hsz1 : d1.stable.length = n := by rw [hd1, recD_size]; exact hsz
      rw [← hd1, ← hn1] at r1
      have hsr1 : s + r < d1.stable.length := by omega
      obtain ⟨d2, hd2, hf2, hp2, hc2⟩ : ∃ (d2 : Dk.Dk), d2 = recD d1 s r ∧ d2.fuse = none ∧ d2.pend = [] ∧ chainD d2 s r = [] := by
        have hi := recD_calm d1 hok1 s r hf1
        exact ⟨_, rfl, hi.1, hi.2, recD_none d1 hok1 s r (by omega) (by omega) hsr1⟩
      have hkk2 : okH (d2.read s) r = true := hd2 ▸ (recD_head d1 hok1 s r (by omega) (by omega) hsr1).1
      have hsz2 : d2.stable.length = n := by rw [hd2, recD_size]; exact hsz1
      have R1 := Lib.hid r1; clear r1 hD
      have HR := Lib.hid hr; clear hr
      have KK1 := Lib.hid hkk1; clear hkk1 hkk
      have KK2 := Lib.hid hkk2; clear hkk2
      have HD1 := Lib.hid hd1; clear hd1
      have HD2 := Lib.hid hd2; clear hd2
      have HC1 := Lib.hid hc1; clear hc1
      have HC2 := Lib.hid hc2; clear hc2
      have HP2 := Lib.hid hp2; clear hp2 hp1 hn1
      clear hpe hgh hfu hsz
      go_wp2_with fail
      with_reducible refine R1.out.mono ?_
      rintro e w3 ⟨rfl, hh3⟩
      clear R1
      have hb3 := HB2.out.trans (hh3.turns.below HFW.out HB2.out.size)
      obtain ⟨F3, hD3, hF3, -⟩ := hh3
      have hF3w : ∀ q, F3 q → w.heap.size ≤ q := fun q e => by
        rcases hF3 q e with e | e
        · exact HFW.out q e
        · have := HB2.out.size; omega
      have r2 := recover_ok s l d1 p (0 + 62464) F3 w3 hD3 (by omega) h8 hl (by omega) (HR.out ▸ KK1.out)
      rw [← HR.out, HC1.out, ← HD2.out] at r2
      have r2' : Calls Try.prog 54 #[.pointer (some ⟨p, 0, none⟩), .int .i64 (s : Int), .int .i64 (l : Int)] w3 fun e w' => e = .returned (.tuple #[.int .i64 0, .int .i64 0]) ∧ Homing w3 p F3 w' d2 (0 + 62464 + 62464) := r2
      have R2 := Lib.hid r2'; clear r2 r2'
      have HB3 := Lib.hid hb3; clear hb3 hD3 hF3
      go_wp2_with fail
      with_reducible refine R2.out.mono ?_
      rintro e w4 ⟨rfl, hh4⟩
      clear R2
      have hb4 := HB3.out.trans (hh4.turns.below hF3w HB3.out.size)
      obtain ⟨F4, hD4, hF4, -⟩ := hh4
      have sc := scan_ok s l d2 p _ F4 w4 hD4 (by omega) h8 hl (by omega) (HR.out ▸ KK2.out)
      rw [← HR.out, HC2.out] at sc
      have sc' : Calls Try.prog 50 #[.pointer (some ⟨p, 0, none⟩), .int .i64 (s : Int), .int .i64 (l : Int)] w4 fun e w' => ∃ A c', e = .returned (.tuple #[.slice A 0 c', .int .i64 0]) ∧ Below w4.heap.size w4 w' := sc.mono fun e w' ⟨A, c', _, h1, _, _, _, h5⟩ => ⟨A, c', h1, h5⟩
      have SC := Lib.hid sc'; clear sc sc'
      have HD4 := Lib.hid hD4; clear hD4 hF4
      have HB4 := Lib.hid hb4; clear hb4
      go_wp2_with fail
      with_reducible refine SC.out.mono ?_
      rintro e w5 ⟨A5, c5, rfl, hb5⟩
      clear SC
      have hpd := pending_d d2 p _ F4 w5 (HD4.out.turns (Turns.of_below (F := fun _ => False) hb5) (fun _ _ e => e))
      rw [HP2.out] at hpd
      unfold ptr at hpd
      have HPD := Lib.hid hpd; clear hpd
      have HB5 := Lib.hid (HB4.out.trans (hb5.mono HB4.out.size)); clear hb5
      go_wp2_with fail
      with_reducible refine HPD.out.mono ?_
      rintro e w6 ⟨rfl, rfl⟩
      go_wp2
      go_ret
      exact ⟨rfl, HB5.out⟩

theorem walks : Walks 13 Try.f13 All := by
  intro H enc W base args ds p hval hA hsz _
  rw [Try.params13] at hA hval hsz
  obtain ⟨v0, vs0, d0, ds0, p0, q0, hargs, rfl, rfl, h0, r0⟩ := trodAll_cons hA
  obtain ⟨v1, vs1, d1, ds1, p1, q1, rfl, rfl, rfl, h1, r1⟩ := trodAll_cons r0
  obtain ⟨v2, vs2, d2, ds2, p2, q2, rfl, rfl, rfl, h2, r2⟩ := trodAll_cons r1
  obtain ⟨rfl, rfl, rfl⟩ := trodAll_nil r2
  obtain rfl : args = #[v0, v1, v2] := by cases args; simp_all
  obtain ⟨A, n, c, bs, rfl, hb, hn, hc⟩ := open_bytesC (hval 0 _ v0 rfl rfl) h0 _ (reach_bytes hsz (j := 0) rfl rfl)
  obtain ⟨x1, rfl, rfl, rfl, hx1⟩ := open_int Try.underlying3 (hval 1 _ v1 rfl rfl) h1
  obtain ⟨x2, rfl, rfl, rfl, hx2⟩ := open_int Try.underlying3 (hval 2 _ v2 rfl rfl) h2
  exact walk A n c bs x1 x2 W hb hn (by omega)

set_option maxRecDepth 100000 in
theorem proved : Rows.ReplayOnceSaid :=
  OpenClaim.holds_of_wide 13 Try.f13 rfl rfl rfl rfl rfl rfl rfl ⟨rfl, rfl, rfl, rfl, rfl⟩ rfl rfl rfl rfl rfl (by kernel_rfl) Try.func13 (by kernel_rfl)
    (of_decide_eq_true (by kernel_rfl)) (by unfold Func.isWrapper; first | (rw [if_pos (by decide +kernel)]; kernel_rfl) | (rw [if_neg (by decide +kernel)]; exact ⟨rfl, rfl⟩))
    (fun os started H enc _ => lifted (s := Rows.replayOnceSpec) walks (by kernel_rfl) rfl rfl (fun H ds hl => by match ds, hl with | [d1, d2, d3], _ => rfl) (by kernel_rfl) Try.func13 os started H enc
      (ChangeSpec.witness6 (enc := enc) (C := Try.checked) false ⟨#[], #[.slice none 0 0, .int .i64 0, .int .i64 0], []⟩ 8 (by kernel_rfl) (by kernel_rfl) (by kernel_rfl) (by kernel_rfl)))
#print axioms proved
end Go.Proofs.Ytelnoibfamcnmaa.ReplayOnce
