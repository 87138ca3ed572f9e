/- A record whose blocks are changed within 32 bits side by side is not read: proved for every record, every place and every pattern of 32 bits. -/
import Derived.Test.YtlbalophmicmfaaRcLaws
import Derived.Test.YtlbalophmicmfaaRcBurst
namespace Go.Proofs.Ytlbalophmicmfaa.RecordTorn
open Go.ChangeShapes Go.WideShapes Go.ChangeAt Go.RowKit
open Go.Proofs.Ytlbalophmicmfaa.Mem Go.Proofs.Ytlbalophmicmfaa.Rec Go.Proofs.Ytlbalophmicmfaa.Lift Go.Proofs.Ytlbalophmicmfaa.Crc

set_option maxRecDepth 100000 in
set_option maxHeartbeats 1000000 in
theorem walk (t : Tx) (Aw Ar : Option Addr) (nw cw nr cr : Nat) (a : Int) (burst : Nat) (w : World) (ht : TxAt w w.heap.size t Aw nw cw Ar nr cr) (hu : burst < 4294967296) :
    Calls Try.prog 7 #[.agg #[.int .u64 (t.seq : Int), .slice Aw nw cw, .slice Ar nr cr], .int .i64 a, .int .u32 (burst : Int)] w fun e w' => e = .returned (.bool true) ∧ Below w.heap.size w w' := by
  have HSQ := Lib.hid ht.seq
  have HT := Lib.hid ht; clear ht
  obtain ⟨cur, hcur⟩ : ∃ c, c = #[Value.int .u64 (t.seq : Int), .slice Aw nw cw, .slice Ar nr cr] := ⟨_, rfl⟩
  have HB0 := Lib.hid ((Below.refl w.heap.size w).alloc (Nat.le_refl _) (.cells cur 26))
  have HBK := Lib.hid (heap_alloc_new w (.cells cur 26))
  have HS0 : Hid (w.heap.size < (w.alloc (.cells cur 26)).heap.size) := Lib.hid (by simp)
  obtain ⟨W, hW⟩ : ∃ W, W = w.alloc (.cells cur 26) := ⟨_, rfl⟩
  rw [← hW] at HB0 HBK HS0
  go_enter Try.func7, Try.ntmps7
  go_wp2_with fail
  rw [← hcur, ← hW]
  have HCUR := Lib.hid hcur; clear hcur
  clear hW
  refine (alive_any W).mono ?_
  rintro e w1 ⟨rfl, hb1⟩
  have P0 : Hid (∀ v, Below W.heap.size W v → v.cell? ⟨w.heap.size, 0, none⟩ = some (.int .u64 (t.seq : Int)) ∧ v.cell? ⟨w.heap.size, 1, none⟩ = some (.slice Aw nw cw) ∧ v.cell? ⟨w.heap.size, 2, none⟩ = some (.slice Ar nr cr)) := Lib.hid (fun v hv => by
    have hh : v.heap[w.heap.size]? = some (.cells cur 26) := (hv.block _ HS0.out).trans HBK.out
    rw [HCUR.out] at hh
    exact ⟨cell_of_row _ _ _ _ _ _ hh, cell_of_row _ _ _ _ _ _ hh, cell_of_row _ _ _ _ _ _ hh⟩)
  have hb1' := HB0.out.trans (hb1.mono HB0.out.size)
  obtain ⟨p0, p1, p2⟩ := P0.out w1 hb1
  cases hm : t.mayB
  · have HC := Lib.hid (enc_unfit t Aw Ar nw cw nr cr w.heap.size w1 (HT.out.below hb1') hb1'.size hm)
    have HB1 := Lib.hid hb1'; clear hb1 hb1'
    go_wp2_with fail
    refine HC.out.mono ?_
    rintro e w2 ⟨rfl, hb2⟩
    have HB2 := Lib.hid (HB1.out.trans (hb2.mono HB1.out.size)); clear hb2
    go_wp2
    go_ret
    exact ⟨rfl, HB2.out⟩
  · have HC := Lib.hid (enc_fits t Aw Ar nw cw nr cr w.heap.size w1 (HT.out.below hb1') hb1'.size hm)
    have HB1 := Lib.hid hb1; clear hb1
    have HBw := Lib.hid hb1'; clear hb1'
    go_wp2_with fail
    refine HC.out.mono ?_
    rintro e w2 ⟨b, off, cb, rfl, ho, -, -, hb2⟩
    clear p0 p1 p2 HC
    have hlen := enc_len t ((mayB_iff t).1 hm)
    have hhi := ((mayB_iff t).1 hm).hi
    have hE1 : 512 ≤ t.enc.length := by omega
    have hE2 : t.enc.length ≤ 15360 := by omega
    clear hlen hhi
    obtain ⟨g, cap, e', hg1, hg2, hcap, -⟩ := Owned.row ho (by omega)
    simp only [Value.slice.injEq, Option.some.injEq, Addr.mk.injEq, and_true, true_and] at e'
    obtain ⟨⟨rfl, rfl⟩, rfl⟩ := e'
    have HO := Lib.hid ho; clear ho
    have HB2 := Lib.hid hb2; clear hb2
    clear hg1 hg2
    obtain ⟨L, hL⟩ : ∃ L, L = t.enc := ⟨_, rfl⟩
    rw [← hL] at hE1 hE2 HO ⊢
    have HL := Lib.hid hL; clear hL
    obtain ⟨first, hk, hK⟩ := place a (8 * (L.length : Int)) (by omega) (by omega)
    have hne : ((L.length : Int) == 0) = false := beq_eq_false_iff_ne.2 (by omega)
    go_wp2_with fail
    go_loopw [10, 11, 12] (fun tt i _ wr => ∃ k : Nat, k ≤ 32 ∧ i = .int .i64 k ∧ tt = .bool (marked burst first L.length k) ∧ Owned wr w1.heap.size (.slice (some ⟨b, 0, none⟩) L.length cb) (turnTo burst first L k) ∧ Below w1.heap.size w1 wr) (fun _ i _ _ => 32 - (intOf i).toNat)
    case atStart => exact ⟨0, by omega, rfl, rfl, HO.out, HB2.out⟩
    case round =>
      obtain ⟨k, hk32, rfl, rfl, hown, hbr⟩ := hrel
      by_cases hlt : k < 32
      · have HO2 := Lib.hid hown
        clear hown
        have hB := bit_bits burst k hu
        rcases Nat.mod_two_eq_zero_or_one (burst / 2 ^ k) with hbit | hbit
        · rw [hbit] at hB
          have hmiss : hit burst first L.length k = false := by simp [hit, hbit]
          have E1 := Lib.hid (marked_miss _ _ _ _ hmiss)
          have E2 := Lib.hid (turn_miss _ _ _ _ hmiss)
          clear hbit hmiss
          go_wp2
          go_roundw
          case rel => exact ⟨k + 1, by omega, by go_num, by rw [E1.out], by rw [E2.out]; exact HO2.out, hbr⟩
          case measure => simp [intOf]; omega
        · rw [hbit] at hB
          by_cases hin : first + k < 8 * L.length
          · have hhit : hit burst first L.length k = true := by simp [hit, hbit, hin]
            have E1 := Lib.hid (marked_hit _ _ _ _ hhit)
            have hinI : (first : Int) + (k : Int) < 8 * (L.length : Int) := by omega
            obtain ⟨P, hP⟩ : ∃ P, first + k = P := ⟨_, rfl⟩
            have hPI : (first : Int) + (k : Int) = (P : Int) := by omega
            have hJ : P / 8 < L.length := by omega
            obtain ⟨g', cap', e', -, hgl, -, hrow⟩ := Owned.row HO2.out (by rw [turn_len]; omega)
            rw [turn_len] at e'
            simp only [Value.slice.injEq, Option.some.injEq, Addr.mk.injEq, and_true, true_and] at e'
            obtain ⟨rfl, rfl⟩ := e'
            obtain ⟨hc, hf, hst⟩ := hrow (P / 8) (by rw [turn_len]; exact hJ)
            clear hrow hbit
            obtain ⟨v, hv⟩ : ∃ v, (turnTo burst first L k)[P / 8]'(by rw [turn_len]; exact hJ) = v := ⟨_, rfl⟩
            rw [hv] at hc
            have E2 := Lib.hid (turn_hit burst first L k hhit v (by rw [hP]; simp [List.getD, turn_len, hJ, hv]))
            have hP' := Lib.hid hP
            have Hst := Lib.hid hst
            unfold byteV at hc
            clear hP hhit hv hst
            go_wp2_with fail
            go_region
            go_wp2
            go_roundw
            case rel =>
              obtain ⟨q1, q2⟩ := Hst.out (v ^^^ UInt8.ofNat (2 ^ (P % 8)))
              rw [cell_bits v (P % 8) (by omega)]
              refine ⟨k + 1, by omega, by go_num, by rw [E1.out], ?_, (hbr.trans q2).drew⟩
              rw [E2.out, hP'.out]
              exact q1
            case measure => simp [intOf]; omega
          · have hmiss : hit burst first L.length k = false := by simp [hit, hin]
            have E1 := Lib.hid (marked_miss _ _ _ _ hmiss)
            have E2 := Lib.hid (turn_miss _ _ _ _ hmiss)
            have hinI : ¬ ((first : Int) + (k : Int) < 8 * (L.length : Int)) := by omega
            clear hbit hmiss hin
            go_wp2
            go_roundw
            case rel => exact ⟨k + 1, by omega, by go_num, by rw [E1.out], by rw [E2.out]; exact HO2.out, hbr⟩
            case measure => simp [intOf]; omega
      · obtain rfl : k = 32 := by omega
        have hBr : Below W.heap.size W wr := HB1.out.trans (hbr.mono HB1.out.size)
        have hBrw : Below w.heap.size w wr := HB0.out.trans (hBr.mono HB0.out.size)
        have hh := Owned.reads hown
        obtain ⟨hf1, hf2⟩ := Owned.fits hown
        obtain ⟨p0, _, _⟩ := P0.out wr hBr
        by_cases hmk : mask burst first L.length 32 = 0
        · have hmf : marked burst first L.length 32 = false := by unfold marked; simp [hmk]
          rw [hmf]
          rw [turn_none burst first L hmk] at hh
          have HD := Lib.hid (dec_fits t [] (some ⟨b, 0, none⟩) L.length cb wr.heap.size wr (by rw [List.append_nil, ← HL.out]; exact hh) (Nat.le_refl _) hf1 hf2 HSQ.out hm)
          have HBR := Lib.hid hBrw
          clear hown hh hmk hmf hBr hBrw hbr
          go_wp2_with fail
          refine HD.out.mono ?_
          rintro e w4 ⟨Ax, cx, Ay, cy, rfl, -, hb4⟩
          have HB4 := Lib.hid (HBR.out.trans (hb4.mono HBR.out.size)); clear hb4
          clear HD p0
          go_wp2
          go_ret
          exact ⟨rfl, HB4.out.alloc HB4.out.size _⟩
        · have hmt : marked burst first L.length 32 = true := by unfold marked; simp [hmk]
          have hno : decB (turnTo burst first L 32) t.seq = false := by
            rw [HL.out] at hmk hk ⊢
            exact turn_torn burst first t ((mayB_iff t).1 hm) (by omega) t.seq hmk
          rw [hmt]
          have HD := Lib.hid (dec_not _ _ t.seq rfl (some ⟨b, 0, none⟩) L.length cb wr.heap.size wr hh (Nat.le_refl _) hf1 hf2 HSQ.out hno)
          have HBR := Lib.hid hBrw
          clear hown hh hmk hmt hBr hBrw hbr hno
          go_wp2_with fail
          refine HD.out.mono ?_
          rintro e w4 ⟨rfl, hb4⟩
          have HB4 := Lib.hid (HBR.out.trans (hb4.mono HBR.out.size)); clear hb4
          clear HD p0
          go_wp2
          go_ret
          exact ⟨rfl, HB4.out.alloc HB4.out.size _⟩

theorem walks : Walks 7 Try.f7 All := by
  intro H enc W base args ds p hval hA hsz _
  rw [Try.params7] at hA hval hsz
  obtain ⟨v0, vs0, d0, ds0, p0, q0, hargs, rfl, rfl, h0, r0⟩ := trodAll_cons hA
  obtain ⟨v1, vs1, d1, ds1, p1, q1, rfl, rfl, rfl, h1, r1⟩ := trodAll_cons r0
  obtain ⟨v2, vs2, d2, ds2, p2, q2, rfl, rfl, rfl, h2, r2⟩ := trodAll_cons r1
  obtain ⟨rfl, rfl, rfl⟩ := trodAll_nil r2
  obtain rfl : args = #[v0, v1, v2] := by cases args; simp_all
  obtain ⟨t, Aw, nw, cw, Ar, nr, cr, rfl, ht⟩ := txn_open (hval 0 _ v0 rfl rfl) h0 (txn_weights hsz (j := 0) rfl rfl)
  obtain ⟨x, rfl, rfl, rfl, hx⟩ := open_int Try.underlying3 (hval 1 _ v1 rfl rfl) h1
  obtain ⟨y, rfl, rfl, rfl, hy⟩ := open_int Try.underlying39 (hval 2 _ v2 rfl rfl) h2
  have bY := bounds_u32 hy
  obtain ⟨u, rfl⟩ := Int.eq_ofNat_of_zero_le bY.1
  exact walk t Aw Ar nw cw nr cr x u W ht (by omega)

set_option maxRecDepth 100000 in
theorem proved : Rows.RecordTornSaid :=
  OpenClaim.holds_of_wide 7 Try.f7 rfl rfl rfl rfl rfl rfl rfl ⟨rfl, rfl, rfl, rfl, rfl⟩ rfl rfl rfl rfl rfl (by kernel_rfl) Try.func7 (by kernel_rfl)
    (of_decide_eq_true (by kernel_rfl)) (by unfold Func.isWrapper; first | (rw [if_pos (by decide +kernel)]; kernel_rfl) | (rw [if_neg (by decide +kernel)]; exact ⟨rfl, rfl⟩))
    (fun os started H enc _ => lifted (s := Rows.recordTornSpec) walks (by kernel_rfl) rfl rfl (fun H ds hl => by match ds, hl with | [d1, d2, d3], _ => rfl) (by kernel_rfl) Try.func7 os started H enc
      (ChangeSpec.witness6 (enc := enc) (C := Try.checked) false ⟨#[], #[.agg #[.int .u64 0, .slice none 0 0, .slice none 0 0], .int .i64 0, .int .u32 0], []⟩ 8 (by kernel_rfl) (by kernel_rfl) (by kernel_rfl) (by kernel_rfl)))
#print axioms proved
end Go.Proofs.Ytlbalophmicmfaa.RecordTorn
