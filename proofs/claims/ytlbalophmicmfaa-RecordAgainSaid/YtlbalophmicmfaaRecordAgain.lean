/- What is read out of blocks makes these very blocks again: proved for every bytes and every number. -/
import Derived.Test.YtlbalophmicmfaaRcAlive
import Derived.Test.YtlbalophmicmfaaRcLift
import Derived.Test.YtlbalophmicmfaaRfSame
namespace Go.Proofs.Ytlbalophmicmfaa.RecordAgain
open Go.ChangeShapes Go.WideShapes Go.ChangeAt Go.RowKit
open Go.Proofs.Ytlbalophmicmfaa.Mem Go.Proofs.Ytlbalophmicmfaa.Rec Go.Proofs.Ytlbalophmicmfaa.Lift

set_option maxRecDepth 100000 in
theorem walk (A : Option Addr) (n c : Nat) (bs : List UInt8) (seq : Nat) (w : World) (h : Holds w w.heap.size A n bs) (hc : n ≤ c) (hm : c ≤ 9223372036854775807) (hseq : seq < 18446744073709551616) :
    Calls Try.prog 6 #[.slice A n c, .int .u64 (seq : Int)] w fun e w' => e = .returned (.bool true) ∧ Below w.heap.size w w' := by
  have H := Lib.hid h; clear h
  have HSQ := Lib.hid hseq; clear hseq
  go_enter Try.func6, Try.ntmps6
  go_wp2_with fail
  refine (alive_any w).mono ?_
  rintro e w1 ⟨rfl, hb1⟩
  have h1 := H.out.below hb1
  have HD := Lib.hid (dec_any A n c w.heap.size bs seq w1 h1 hb1.size hc hm HSQ.out)
  have H1 := Lib.hid h1; clear h1
  have HB1 := Lib.hid hb1; clear hb1
  go_wp2_with fail
  refine HD.out.mono ?_
  clear HD
  rintro e w2 (⟨hd, Aw, cw, Ar, cr, vs, rfl, ho, hb2⟩ | ⟨hd, rfl, hb2⟩)
  · have ht := ho.holds HSQ.out
    obtain ⟨hmay, htk⟩ := dec_again bs seq hd
    have hlen := enc_len _ hmay
    have hlw : (tellL bs seq).ws.length = nW bs := (tellL_lens bs seq).1
    have hle : (tellL bs seq).enc.length ≤ bs.length := by rw [← htk, List.length_take]; omega
    rw [hlw] at hlen
    have hbl := H.out.1
    have HT := Lib.hid ht; clear ht
    have HM := Lib.hid hmay; clear hmay
    have HTK := Lib.hid htk; clear htk
    have HB2 := Lib.hid hb2; clear hb2
    clear ho hd hlw
    obtain ⟨kW, hkW⟩ : ∃ k, k = nW bs := ⟨_, rfl⟩
    rw [← hkW] at hlen ⊢
    have HKW := Lib.hid hkW; clear hkW
    obtain ⟨E, hE⟩ : ∃ E, E = (tellL bs seq).enc.length := ⟨_, rfl⟩
    rw [← hE] at hlen hle
    have HTK2 : Hid (bs.take E = (tellL bs seq).enc) := Lib.hid (by rw [hE]; exact HTK.out)
    have hkb : kW ≤ 58 := by
      have h58 := HM.out.hi
      have := (tellL_lens bs seq).1
      rw [HKW.out]
      omega
    have hb3 := (Below.refl w2.heap.size w2).alloc (Nat.le_refl _) (.cells #[.int .u64 (seq : Int), .slice Aw kW cw, .slice Ar (nR bs) cr] 26)
    have HC : Hid (Calls Try.prog 13 #[.agg #[.int .u64 (seq : Int), .slice Aw kW cw, .slice Ar (nR bs) cr]] (w2.alloc (.cells #[.int .u64 (seq : Int), .slice Aw kW cw, .slice Ar (nR bs) cr] 26)) (Go.Proofs.Ytlbalophmicmfaa.Rec.Told (w2.alloc (.cells #[.int .u64 (seq : Int), .slice Aw kW cw, .slice Ar (nR bs) cr] 26)) (tellL bs seq))) := Lib.hid (by
      have ht := HT.out
      rw [← HKW.out] at ht
      exact enc_any (tellL bs seq) Aw Ar kW cw (nR bs) cr w2.heap.size _ (ht.below hb3) (by simp))
    have hcur := heap_alloc_new w2 (.cells #[.int .u64 (seq : Int), .slice Aw kW cw, .slice Ar (nR bs) cr] 26)
    have HCUR := Lib.hid hcur; clear hcur
    have hs3 : w2.heap.size < (w2.alloc (.cells #[.int .u64 (seq : Int), .slice Aw kW cw, .slice Ar (nR bs) cr] 26)).heap.size := by simp
    have HS3 := Lib.hid hs3; clear hs3
    have HB3 := Lib.hid hb3; clear hb3
    have HH := Lib.hid hE; clear hE
    obtain ⟨b, off, hA⟩ := Go.Proofs.Ytlbalophmicmfaa.Rec.Holds.addr H.out (by have := H.out.1; omega)
    subst hA
    go_wp2_with fail
    refine HC.out.mono ?_
    clear HC
    generalize w2.alloc (.cells #[.int .u64 (seq : Int), .slice Aw kW cw, .slice Ar (nR bs) cr] 26) = W at HCUR HS3 HB3 ⊢
    rintro e w3 (⟨hn, _⟩ | ⟨_, A', c', rfl, ho, hb4⟩)
    · rw [(mayB_iff _).2 HM.out] at hn; cases hn
    · rw [← HH.out] at ho ⊢
      have tA := fun k => run_text (w3.drewN k) _ _ _ c' _ ((Owned.reads ho).below ((Below.refl w3.heap.size w3).drewN k))
      have tA0 := run_text w3 _ _ _ c' _ (Owned.reads ho)
      have hB : Below w.heap.size w w3 := HB1.out.trans ((HB2.out.trans (HB3.out.trans (hb4.mono (by have := HB3.out.size; omega)) |>.mono (by have := HB2.out.size; omega))).mono HB1.out.size)
      have tB := fun k => run_text (w3.drewN k) _ _ _ c _ ((H.out.below (hB.drewN k)).take (k := E) (by omega))
      have tB0 := run_text w3 _ _ _ c _ ((H.out.below hB).take (k := E) (by omega))
      rw [HTK2.out] at tB0
      simp only [HTK2.out] at tB
      have p0 : w3.cell? ⟨w2.heap.size, 0, none⟩ = some (.int .u64 (seq : Int)) := by rw [cell_of_row _ _ _ _ _ _ ((hb4.block _ HS3.out).trans HCUR.out)]; rfl
      have hEI : IntKind.i64.wrap (256 * ((kW : Int) + 2)) = (E : Int) := by rw [IntWalk.i64_in _ (by omega)]; omega
      have hEc : E ≤ c := by have := H.out.1; omega
      have hEn : E ≤ n := by have := H.out.1; omega
      have HB := Lib.hid hB
      clear hB hb4 ho hle hlen hbl
      go_wp2
      go_quiet (fail)
      all_goals
        go_wp2
        go_ret
        exact ⟨rfl, by first | exact HB.out.drewN _ | exact (HB.out.drewN _).drewN _⟩
  · have HB2 := Lib.hid hb2; clear hb2
    clear hd
    unfold zeroTx
    go_wp2
    go_ret
    exact ⟨rfl, (HB1.out.trans (HB2.out.mono HB1.out.size)).alloc (by have := HB1.out.size; have := HB2.out.size; omega) _⟩
theorem walks : Walks 6 Try.f6 All := by
  intro H enc W base args ds p hval hA hsz _
  rw [Try.params6] at hA hval
  obtain ⟨v0, vs0, d0, ds0, p0, q0, hargs, rfl, rfl, h0, r0⟩ := trodAll_cons hA
  obtain ⟨v1, vs1, d1, ds1, p1, q1, rfl, rfl, rfl, h1, r1⟩ := trodAll_cons r0
  obtain ⟨rfl, rfl, rfl⟩ := trodAll_nil r1
  obtain rfl : args = #[v0, v1] := by cases args; simp_all
  obtain ⟨A, n, c, rfl⟩ := okWide_slice Try.underlying29 (hval 0 _ v0 rfl rfl)
  obtain ⟨fuel, hf⟩ := h0
  obtain ⟨A3, n3, c3, bs, hv, hb, hn, hc⟩ := bytes_part hf
  injection hv with e1 e2 e3
  subst e1 e2 e3
  obtain ⟨x, rfl, rfl, rfl, hx⟩ := open_int Try.underlying22 (hval 1 _ v1 rfl rfl) h1
  have bx := wf_u64 hx
  obtain ⟨v, rfl⟩ := Int.eq_ofNat_of_zero_le bx.1
  exact walk A n c bs v W hb hn hc (by omega)

set_option maxRecDepth 100000 in
theorem proved : Rows.RecordAgainSaid :=
  OpenClaim.holds_of_wide 6 Try.f6 rfl rfl rfl rfl rfl rfl rfl ⟨rfl, rfl, rfl, rfl, rfl⟩ rfl rfl rfl rfl rfl (by kernel_rfl) Try.func6 (by kernel_rfl)
    (of_decide_eq_true (by kernel_rfl)) (by unfold Func.isWrapper; first | (rw [if_pos (by decide +kernel)]; kernel_rfl) | (rw [if_neg (by decide +kernel)]; exact ⟨rfl, rfl⟩))
    (fun os started H enc _ => lifted (s := Rows.recordAgainSpec) walks (by kernel_rfl) rfl rfl (fun H ds hl => by match ds, hl with | [d1, d2], _ => rfl) (by kernel_rfl) Try.func6 os started H enc
      (ChangeSpec.witness6 (enc := enc) (C := Try.checked) false ⟨#[], #[.slice none 0 0, .int .u64 0], []⟩ 8 (by kernel_rfl) (by kernel_rfl) (by kernel_rfl) (by kernel_rfl)))
#print axioms proved
end Go.Proofs.Ytlbalophmicmfaa.RecordAgain
