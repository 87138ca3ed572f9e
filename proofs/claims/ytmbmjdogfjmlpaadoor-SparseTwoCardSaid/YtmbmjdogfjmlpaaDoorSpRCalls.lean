/- The document's calls: Of, Put, Zero, Bytes, End. -/
import Derived.Test.YtmbmjdogfjmlpaaDoorSpRGather
import Derived.Test.YtmbmjdogfjmlpaaDoorSpBytes
import Derived.Lib.ConvBytes
namespace Go.Proofs.YtmbmjdogfjmlpaaDoor.Sp
set_option maxRecDepth 20000
open Go.RowKit
open Go.Proofs.YtmbmjdogfjmlpaaDoor.Mem Go.Proofs.YtmbmjdogfjmlpaaDoor.Rec Go.Proofs.YtmbmjdogfjmlpaaDoor.Reg
attribute [local go_sem ↓] ldX_eq stX_eq

def cvS (s : Value) : Sem Value := convert 9 41 s
theorem cvS_eq (s : Value) : convert 9 41 s = cvS s := rfl
theorem conv_any (S : ByteArray) (V : World) : ∃ c V', S.size ≤ c ∧ (cvS (.string S)).run Tryd.prog V = .ok (.slice (some ⟨V.heap.size, 0, none⟩) S.size c) V' ∧ Holds V' V'.heap.size (some ⟨V.heap.size, 0, none⟩) S.size S.data.toList ∧ Below V.heap.size V V' := by
  refine ⟨_, _, grownCap_ge _ _ _ _, Lib.run_convert_string_bytes V _ _ 5 S Tryd.underlying9 Tryd.underlying41 Tryd.underlying5, ⟨by simp, fun hn => ⟨V.heap.size, 0, rfl, by rw [Lib.bytesWorld_size]; omega, fun j hj => ?_⟩⟩, ⟨rfl, rfl, rfl, by rw [Lib.bytesWorld_size]; omega, fun j hj => Lib.bytesWorld_at_old V _ S j hj⟩⟩
  have hj' : j < S.size := by simpa using hj
  rw [Nat.zero_add, Lib.bytesWorld_cell V _ S j hj']
  simp [List.getD, hj']
attribute [local go_sem ↓] cvS_eq
set_option maxHeartbeats 4000000 in
theorem rOf_any (t : List UInt8) (ht : t.length ≤ maxLen) (w : World) :
    Calls Tryd.prog 14 #[.string ⟨t.toArray⟩] w (Runs2 w (ofA t)) := by
  obtain ⟨post, hpost⟩ : ∃ post, post = Runs2 w (ofA t) := ⟨_, rfl⟩
  rw [← hpost]
  have HP := Lib.hid hpost; clear hpost
  have hs : (⟨t.toArray⟩ : ByteArray).size = t.length := text_size t
  unfold maxLen at ht
  by_cases h : t.length ≤ 65536
  · have he : ofA t = (gat 0 t, 0) := by unfold ofA; rw [if_pos h]
    rw [he] at HP
    obtain ⟨c1, w1, hc1, hrun, hh1, hb1⟩ := conv_any ⟨t.toArray⟩ w
    have hg := rgather_any (some ⟨w.heap.size, 0, none⟩) t.length c1 w1.heap.size t w1 (by rw [hs] at hh1; exact hh1) (Nat.le_refl _) h (by rw [← hs]; exact hc1)
    rw [hs] at hrun
    clear he hc1 hh1
    generalize (⟨t.toArray⟩ : ByteArray) = T at *
    generalize gat 0 t = l at *
    have HG := Lib.hid hg; clear hg
    have HB1 := Lib.hid hb1; clear hb1
    have h1 : ¬ (65536 : Int) < (T.size : Int) := by omega
    go_enter Tryd.func14, Tryd.ntmps14
    go_wp2_with fail
    with_reducible refine HG.out.mono ?_
    rintro E w2 ⟨A2, c2, rfl, ho2, hb2⟩
    have HO2 := Lib.hid (OwnX.mono ho2 HB1.out.size); clear ho2
    have HB2 := Lib.hid (HB1.out.trans (hb2.mono HB1.out.size)); clear hb2 hrun
    go_wp2
    rw [HP.out]
    exact ⟨A2, c2, rfl, HO2.out, HB2.out⟩
  · have he : ofA t = ([], 10) := by unfold ofA; rw [if_neg h]
    rw [he] at HP
    clear he
    generalize (⟨t.toArray⟩ : ByteArray) = T at *
    have h1 : (65536 : Int) < (T.size : Int) := by omega
    go_enter Tryd.func14, Tryd.ntmps14
    go_wp2
    rw [HP.out]
    exact ⟨none, 0, rfl, OwnX.nil _ _, Below.refl _ _⟩

theorem wpList_copy2 {w : World} {ops : Array Oper} {rest : List Oper} {o : Oper} {a : Act} {Q : Exit → Act → World → Prop} (hgd : o.guard = none) (d x : Operand) (dT sT : TypeId)
    (ho : o.op = .call { callee := .builtin .copy, args := #[d, x], argTypes := #[dT, sT] }) (vd vx : Value) (hd : a.eval d = vd) (hx : a.eval x = vx) (v : Value) (w' : World) (hrun : (Builtin.copy_ #[dT, sT] o.type #[vd, vx]).run Tryd.prog w = .ok v w')
    (h : wpList Tryd.prog ops Q rest (a.put o.dst v) w') : wpList Tryd.prog ops Q (o :: rest) a w := by
  subst hd hx
  exact wpList_copyrun hgd d x dT sT ho v w' hrun h
theorem over_rput (b : List UInt8) (p : Nat) (d : List UInt8) (z : Nat) (hz : z = p + d.length - b.length) : over (b ++ List.replicate z 0) p d = rput b p d := by
  unfold over rput
  rw [hz, List.append_assoc]
theorem rput_none (b : List UInt8) (p : Nat) (z : Nat) (hz : z = p - b.length) : b ++ List.replicate z 0 = rput b p [] := by
  unfold rput
  rw [List.append_nil, List.length_nil, Nat.add_zero, List.take_append_drop, hz]
/-- Bytes of one's own, cut from a place on: where they lie. -/
theorem owned_form {w : World} {base n c : Nat} {A : Option Addr} {bs : List UInt8} (h : Owned w base (.slice A n c) bs) (h0 : 0 < n) : ∃ g, A = some ⟨g, 0, none⟩ := by
  rcases h.2 with ⟨e, hz⟩ | ⟨g, cap, cur, e, _⟩
  · injection e with e1 e2 e3; omega
  · injection e with e1 e2 e3
    exact ⟨g, e1⟩
set_option maxRecDepth 100000 in
set_option maxHeartbeats 16000000 in
theorem rPut_any (A : Option Addr) (n c B : Nat) (l : List Rn) (p : Int) (d : List UInt8) (w : World) (h : HoldsX w B A n l) (hB : B ≤ w.heap.size) (hn : n ≤ 8796093022208) (hrep : ∀ x ∈ l, x.rep)
    (hp : -9223372036854775808 ≤ p ∧ p ≤ 9223372036854775807) (hd : d.length ≤ maxLen) :
    Calls Tryd.prog 12 #[.slice A n c, .int .i64 p, .string ⟨d.toArray⟩] w (Runs2 w (putA l p d)) := by
  obtain ⟨post, hpost⟩ : ∃ post, post = Runs2 w (putA l p d) := ⟨_, rfl⟩
  rw [← hpost]
  have HP := Lib.hid hpost; clear hpost
  have hs : (⟨d.toArray⟩ : ByteArray).size = d.length := text_size d
  unfold maxLen at hd
  have hck := rcheck_any A n c B l w h hn hrep
  cases hr : right l with
  | false =>
    have he : putA l p d = ([], 1) := by unfold putA; rw [if_pos (.inr hr)]
    rw [he] at HP
    rw [hr, if_neg (by decide)] at hck
    clear he h hr
    have HCK := Lib.hid hck; clear hck
    go_enter Tryd.func12, Tryd.ntmps12
    go_wp2_with fail
    with_reducible refine HCK.out.mono ?_
    rintro E w1 ⟨rfl, rfl⟩
    go_wp2
    rw [HP.out]
    exact ⟨none, 0, rfl, OwnX.nil _ _, Below.refl _ _⟩
  | true =>
  rw [hr, if_pos rfl] at hck
  rcases Int.lt_or_le p 0 with h1 | h1
  · have he : putA l p d = ([], 1) := by unfold putA; rw [if_pos (.inl h1)]
    rw [he] at HP
    clear he h hr
    have HCK := Lib.hid hck; clear hck
    go_enter Tryd.func12, Tryd.ntmps12
    go_wp2_with fail
    with_reducible refine HCK.out.mono ?_
    rintro E w1 ⟨rfl, rfl⟩
    go_wp2
    rw [HP.out]
    exact ⟨none, 0, rfl, OwnX.nil _ _, Below.refl _ _⟩
  have h1' : ¬ p < 0 := by omega
  rcases Int.lt_or_le (65536 - p) (d.length : Int) with h2 | h2
  · have he : putA l p d = ([], 10) := by unfold putA; rw [if_neg (by rw [hr]; simp; omega), if_pos h2]
    rw [he] at HP
    rw [← hs] at h2
    clear he h hr
    have hd2 : (⟨d.toArray⟩ : ByteArray).size ≤ 9223372036854775807 := by omega
    clear hs hd
    generalize (⟨d.toArray⟩ : ByteArray) = D at *
    have HCK := Lib.hid hck; clear hck
    rcases Nat.lt_or_ge 65536 D.size with h3 | h3
    · have h3' : (65536 : Int) < (D.size : Int) := by omega
      go_enter Tryd.func12, Tryd.ntmps12
      go_wp2_with fail
      with_reducible refine HCK.out.mono ?_
      rintro E w1 ⟨rfl, rfl⟩
      go_wp2
      rw [HP.out]
      exact ⟨none, 0, rfl, OwnX.nil _ _, Below.refl _ _⟩
    · have h3' : ¬ (65536 : Int) < (D.size : Int) := by omega
      have h4 : 65536 - (D.size : Int) < p := by omega
      go_enter Tryd.func12, Tryd.ntmps12
      go_wp2_with fail
      with_reducible refine HCK.out.mono ?_
      rintro E w1 ⟨rfl, rfl⟩
      go_wp2
      rw [HP.out]
      exact ⟨none, 0, rfl, OwnX.nil _ _, Below.refl _ _⟩
  · obtain ⟨q, rfl⟩ : ∃ q : Nat, p = (q : Int) := ⟨p.toNat, by omega⟩
    have hd2 : q + d.length ≤ 65536 := by omega
    have he : putA l (q : Int) d = (gat 0 (rput (spr [] l) q d), 0) := by unfold putA; rw [if_neg (by rw [hr]; simp), if_neg (by omega), put_is hr hd2]
    rw [he] at HP
    have hnn : n ≤ 65538 := by rw [← h.1]; exact right_len hr
    have hsp := rspread_any A n c B l w h hB (by omega) hr
    have hsl := (spr0 hr).1
    have hrl := rput_len (spr [] l) q d
    have hcopy := fun (W : World) (base g n cap : Nat) (bs : List UInt8) (dl dc : Nat) (hO : Owned W base (.slice (some ⟨g, 0, none⟩) n cap) bs) (h0 : 0 < d.length) (h1 : d.length ≤ dl) (h2 : q + d.length ≤ n) => run_copy_text W 3 base g n cap bs d q dl dc hO h0 h1 h2
    have hempty := fun (W : World) (dd : Option Addr) (dl dc : Nat) (h0 : d.length = 0) => Lib.run_copy_empty_string (P := Tryd.prog) W 41 9 3 5 dd dl dc ⟨d.toArray⟩ Tryd.underlying41 (by kernel_rfl) (by rw [hs]; exact h0)
    have h3' : ¬ (65536 : Int) < ((⟨d.toArray⟩ : ByteArray).size : Int) := by rw [hs]; omega
    have h4 : ¬ 65536 - ((⟨d.toArray⟩ : ByteArray).size : Int) < (q : Int) := by rw [hs]; omega
    have hsum : (q : Int) + ((⟨d.toArray⟩ : ByteArray).size : Int) = ((q + d.length : Nat) : Int) := by rw [hs]; omega
    generalize hb0 : spr [] l = b0 at *
    obtain ⟨dl, hdl⟩ : ∃ dl, dl = d.length := ⟨_, rfl⟩
    obtain ⟨tot, htot⟩ : ∃ tot, tot = q + d.length := ⟨_, rfl⟩
    rw [← htot] at hsum hd2
    have hov := fun z (hz : z = q + d.length - b0.length) => over_rput b0 q d z hz
    have hov2 := fun (h0 : d.length = 0) z (hz : z = q + d.length - b0.length) => (show b0 ++ List.replicate z 0 = rput b0 q d by
      obtain rfl : d = [] := List.eq_nil_of_length_eq_zero h0
      exact rput_none b0 q z hz)
    obtain ⟨D, hD⟩ : ∃ D : ByteArray, D = ⟨d.toArray⟩ := ⟨_, rfl⟩
    simp only [← hD] at hcopy hempty h3' h4 hsum ⊢
    rw [← hD] at hs
    rw [← hdl] at htot hs
    simp only [← hdl] at hcopy hempty hov hov2
    rw [← hdl] at hrl
    have HCOPY := Lib.hid hcopy; clear hcopy
    have HEMPTY := Lib.hid hempty; clear hempty
    have HOV := Lib.hid hov; clear hov
    have HOV2 := Lib.hid hov2; clear hov2
    have HSP := Lib.hid hsp; clear hsp
    have HCK := Lib.hid hck; clear hck
    have HRL := Lib.hid hrl; clear hrl
    have HSL := Lib.hid hsl; clear hsl
    have HTOT := Lib.hid htot; clear htot
    have HDS := Lib.hid hs; clear hs
    clear hD hdl he h hr hb0 h2 hd
    obtain ⟨R, hR⟩ : ∃ R, R = rput b0 q d := ⟨_, rfl⟩
    simp only [← hR] at HP HOV HOV2 HRL
    clear hR
    have hq0 : (0 : Int) ≤ (q : Int) := by omega
    go_enter Tryd.func12, Tryd.ntmps12
    go_wp2_with fail
    with_reducible refine HCK.out.mono ?_
    rintro E w1 ⟨rfl, rfl⟩
    go_wp2_with fail
    with_reducible refine HSP.out.mono ?_
    rintro E w2 ⟨A2, c2, rfl, ho2, hb2⟩
    have HO2 := Lib.hid ho2; clear ho2
    have HB2 := Lib.hid hb2; clear hb2
    obtain ⟨bl, hbl⟩ : ∃ bl, bl = b0.length := ⟨_, rfl⟩
    rw [← hbl] at HO2 HSL HRL ⊢
    simp only [← hbl] at HOV HOV2
    have HBL := Lib.hid hbl; clear hbl
    go_wp2
    go_loopw [8] (fun bv wi => ∃ (z : Nat) (Az : Option Addr) (cz zl : Nat), z ≤ tot - bl ∧ zl = bl + z ∧ bv = .slice Az zl cz ∧ Owned wi w1.heap.size (.slice Az zl cz) (b0 ++ List.replicate z 0) ∧ Below w1.heap.size w1 wi) (fun bv _ => match bv with | .slice _ m _ => tot - m | _ => 0)
    case atStart => exact ⟨0, A2, c2, bl, by omega, rfl, rfl, by simpa using HO2.out, HB2.out⟩
    case round =>
      obtain ⟨z, Az, cz, zl, hza, hzl, rfl, hoz, hbz⟩ := hrel
      have HOZ := Lib.hid hoz; clear hoz
      have HBZ := Lib.hid hbz; clear hbz
      have HZL := Lib.hid hzl; clear hzl
      have hlen : (b0 ++ List.replicate z 0).length = zl := by rw [List.length_append, List.length_replicate, ← HBL.out, HZL.out]
      have hsl := HSL.out
      rcases Nat.lt_or_ge zl tot with hlz | hgz
      · have hlz' : (zl : Int) < (tot : Int) := by omega
        obtain ⟨v', W5, hrun, ho5, hb5⟩ := run_addzero wr 41 w1.heap.size _ _ HOZ.out (by rw [hlen]; omega) HBZ.out.size
        obtain ⟨A5, c5, rfl⟩ := Owned.shp ho5
        rw [List.length_append, hlen, List.length_singleton] at ho5 hrun
        have hap : b0 ++ List.replicate z 0 ++ [0] = b0 ++ List.replicate (z + 1) (0 : UInt8) := by
          rw [List.append_assoc, ← List.replicate_succ']
        rw [hap] at ho5
        have HB5 := Lib.hid (HBZ.out.trans hb5)
        have HO5 := Lib.hid ho5; clear ho5 hb5 hlen hap
        go_wp2_with (at_builtin; refine wpList_apprun rfl _ _ _ _ (by rfl) _ _ (by rfl) (by rfl) _ _ hrun ?_)
        go_wp2
        go_roundw
        case rel => exact ⟨z + 1, A5, c5, zl + 1, by have := HZL.out; omega, by have := HZL.out; omega, rfl, HO5.out, HB5.out⟩
        case measure => simp; omega
      · have hlz' : ¬ (zl : Int) < (tot : Int) := by omega
        have hz : z = tot - bl := by have := HZL.out; omega
        have hqz : q ≤ zl := by have := HTOT.out; omega
        have hqz' : (q : Int) ≤ (zl : Int) := by omega
        have hzl6 : zl ≤ 65536 := by have := HZL.out; have := HTOT.out; omega
        have hfit := (Owned.fits HOZ.out).1
        have hqc : (q : Int) ≤ (cz : Int) := by omega
        rcases Nat.eq_zero_or_pos dl with h0 | h0
        · have ho5 : Owned wr w1.heap.size (.slice Az zl cz) R := by
            rw [← HOV2.out h0 z (by rw [hz, HTOT.out])]
            exact HOZ.out
          have hb5 := HBZ.out
          have hem := fun A' dl' dc' => HEMPTY.out wr A' dl' dc' h0
          have HD0 := Lib.hid h0; clear h0
          cases Az with
          | none =>
            have hz0 : zl = 0 ∧ cz = 0 := by
              rcases HOZ.out.2 with ⟨e, _⟩ | ⟨g, cap, cur, e, _⟩
              · injection e with e1 e2 e3; exact ⟨e2, e3⟩
              · cases e
            obtain ⟨rfl, rfl⟩ := hz0
            have hq00 : q = 0 := by omega
            have hro := Owned.reads ho5
            have hgt := rgather_any none 0 0 wr.heap.size R wr hro (Nat.le_refl _) hzl6 hfit
            have HGT := Lib.hid hgt; clear hgt hro ho5
            have HB5 := Lib.hid hb5; clear hb5
            generalize gat 0 R = G at *
            clear hlen hsl
            subst hq00
            go_wp2_with fail
            with_reducible refine HGT.out.mono ?_
            rintro E w6 ⟨A6, c6, rfl, ho6, hb6⟩
            have HO6 := Lib.hid (OwnX.mono ho6 HB5.out.size); clear ho6
            have HB6 := Lib.hid (HB5.out.trans (hb6.mono HB5.out.size)); clear hb6
            go_wp2
            rw [HP.out]
            exact ⟨A6, c6, rfl, HO6.out, HB6.out⟩
          | some ad =>
            obtain ⟨g, hg⟩ : ∃ g, ad = ⟨g, 0, none⟩ := by
              rcases HOZ.out.2 with ⟨e, _⟩ | ⟨g, cap, cur, e, _⟩
              · cases e
              · injection e with e1 e2 e3; injection e1 with e1; exact ⟨g, e1⟩
            subst hg
            have hro := Owned.reads ho5
            have hgt := rgather_any (some ⟨g, 0, none⟩) zl cz wr.heap.size R wr hro (Nat.le_refl _) hzl6 hfit
            have HGT := Lib.hid hgt; clear hgt hro ho5
            have HB5 := Lib.hid hb5; clear hb5
            generalize gat 0 R = G at *
            clear hlen hsl
            by_cases hcq : cz = q
            · subst hcq
              go_wp2_with fail
              with_reducible refine HGT.out.mono ?_
              rintro E w6 ⟨A6, c6, rfl, ho6, hb6⟩
              have HO6 := Lib.hid (OwnX.mono ho6 HB5.out.size); clear ho6
              have HB6 := Lib.hid (HB5.out.trans (hb6.mono HB5.out.size)); clear hb6
              go_wp2
              rw [HP.out]
              exact ⟨A6, c6, rfl, HO6.out, HB6.out⟩
            · go_wp2_with fail
              with_reducible refine HGT.out.mono ?_
              rintro E w6 ⟨A6, c6, rfl, ho6, hb6⟩
              have HO6 := Lib.hid (OwnX.mono ho6 HB5.out.size); clear ho6
              have HB6 := Lib.hid (HB5.out.trans (hb6.mono HB5.out.size)); clear hb6
              go_wp2
              rw [HP.out]
              exact ⟨A6, c6, rfl, HO6.out, HB6.out⟩
        · obtain ⟨g, rfl⟩ := owned_form HOZ.out (by have := HTOT.out; omega)
          obtain ⟨W5, hrun, ho5, hb5, _⟩ := HCOPY.out wr w1.heap.size g zl cz _ (zl - q) (cz - q) HOZ.out h0 (by have := HTOT.out; omega) (by have := HTOT.out; omega)
          rw [HOV.out z (by rw [hz, HTOT.out])] at ho5
          have hb5 := HBZ.out.trans hb5
          have hcq : ¬ cz = q := by have := HTOT.out; omega
          have hro := Owned.reads ho5
          have hgt := rgather_any (some ⟨g, 0, none⟩) zl cz W5.heap.size R W5 hro (Nat.le_refl _) hzl6 hfit
          have HGT := Lib.hid hgt; clear hgt hro ho5
          have HB5 := Lib.hid hb5; clear hb5
          generalize gat 0 R = G at *
          clear hlen hsl
          go_wp2_with (at_builtin; refine wpList_copy2 rfl _ _ _ _ (by rfl) _ _ (by rfl) (by rfl) _ _ hrun ?_)
          go_wp2_with fail
          with_reducible refine HGT.out.mono ?_
          rintro E w6 ⟨A6, c6, rfl, ho6, hb6⟩
          have HO6 := Lib.hid (OwnX.mono ho6 HB5.out.size); clear ho6
          have HB6 := Lib.hid (HB5.out.trans (hb6.mono HB5.out.size)); clear hb6
          go_wp2
          rw [HP.out]
          exact ⟨A6, c6, rfl, HO6.out, HB6.out⟩
end Go.Proofs.YtmbmjdogfjmlpaaDoor.Sp
