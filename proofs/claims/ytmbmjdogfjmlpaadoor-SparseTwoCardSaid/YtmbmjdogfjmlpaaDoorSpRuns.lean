/- Bytes as runs: the program's own way. -/
import Derived.Test.YtmbmjdogfjmlpaaDoorSpCheck
namespace Go.Proofs.YtmbmjdogfjmlpaaDoor.Sp
set_option maxRecDepth 20000
open Go.RowKit
open Go.Proofs.YtmbmjdogfjmlpaaDoor.Mem Go.Proofs.YtmbmjdogfjmlpaaDoor.Rec Go.Proofs.YtmbmjdogfjmlpaaDoor.Reg
attribute [local go_sem ↓] ldX_eq stX_eq

/-- A list of runs that a call made anew. -/
def Runs1 (w : World) (l : List Rn) (e : Ending) (w' : World) : Prop := ∃ A c, e = .returned (.slice A l.length c) ∧ OwnX w' w.heap.size (.slice A l.length c) l ∧ Below w.heap.size w w'
theorem cut_split (t : List UInt8) : ∃ r, t = hd t ++ r ∧ t.drop (hd t).length = r ∧ (∀ c r', r = c :: r' → c = 0) ∧ (hd t).contains 0 = false := by
  have hn := hd_no t
  cases hc : t.contains 0 with
  | false =>
    have := hd_all hc
    exact ⟨[], by rw [this]; simp, by rw [this]; simp, fun c r' h => (by cases h), hn⟩
  | true =>
    have h1 := hd_tl hc
    refine ⟨0 :: tl t, h1, ?_, fun c r' h => by injection h with h _; exact h.symm, hn⟩
    conv => lhs; rw [show t.drop (hd t).length = (hd t ++ 0 :: tl t).drop (hd t).length by rw [← h1]]
    rw [List.drop_left']
    rfl
theorem hd_ne {t : List UInt8} {c : UInt8} {r : List UInt8} (h : t = c :: r) (hc : c ≠ 0) : hd t ≠ [] := by
  subst h
  unfold hd
  rw [List.takeWhile_cons, if_pos (by simpa using hc)]
  simp
/-- A round: what is gathered, and what is left. -/
theorem gat_round {u : List UInt8} {k : Int} (hne : hd (trim u) ≠ []) :
    gat k u = ⟨k + (u.length : Int) - ((trim u).length : Int), hd (trim u)⟩ :: gat (k + (u.length : Int) - (((trim u).drop (hd (trim u)).length).length : Int)) ((trim u).drop (hd (trim u)).length) := by
  obtain ⟨z, h1, h2⟩ := trim_split u
  obtain ⟨r, g1, g2, g3, g4⟩ := cut_split (trim u)
  have e1 : k + (z : Int) = k + (u.length : Int) - ((trim u).length : Int) := by omega
  have hl : (trim u).length = (hd (trim u)).length + r.length := by
    have := congrArg List.length g1
    rwa [List.length_append] at this
  conv => lhs; rw [h1, gat_zeros, e1, g1]
  rw [gat_run _ _ _ hne g4 g3, g2]
  congr 2
  all_goals (try simp only [List.length_append])
  all_goals (try rw [← g1])
  all_goals omega
theorem gat_done {u : List UInt8} {k : Int} (he : hd (trim u) = []) : gat k u = [] ∧ (trim u).drop (hd (trim u)).length = [] := by
  obtain ⟨z, h1, h2⟩ := trim_split u
  cases hu : trim u with
  | nil =>
    refine ⟨?_, by simp⟩
    rw [h1, hu, List.append_nil]
    exact gat_nil_zeros z k
  | cons c r =>
    exact absurd he (hd_ne hu (trim_head hu))
set_option maxRecDepth 100000 in
set_option maxHeartbeats 8000000 in
theorem runs_any (t : List UInt8) (p : Int) (hp : 0 ≤ p) (ht : p + (t.length : Int) ≤ 65536) (w : World) :
    Calls Tryd.prog 27 #[.string ⟨t.toArray⟩, .int .i64 p] w (Runs1 w (gat p t)) := by
  obtain ⟨post, hpost⟩ : ∃ post, post = Runs1 w (gat p t) := ⟨_, rfl⟩
  rw [← hpost]
  have HP := Lib.hid hpost; clear hpost
  have hts : (⟨t.toArray⟩ : ByteArray).size = t.length := text_size t
  have hlen : (gat p t).length ≤ 65538 := by
    have := chk_len (chk_gat t p ht) (by omega)
    omega
  have HLEN := Lib.hid hlen; clear hlen
  obtain ⟨T, hT⟩ : ∃ T : ByteArray, T = ⟨t.toArray⟩ := ⟨_, rfl⟩
  rw [← hT] at hts ⊢
  have HT := Lib.hid hT; clear hT
  obtain ⟨en, hen⟩ : ∃ en : Int, en = p + (t.length : Int) := ⟨_, rfl⟩
  have hsum : p + (T.size : Int) = en := by rw [hts]; exact hen.symm
  have hen1 : 0 ≤ en := by omega
  have hen2 : en ≤ 65536 := by omega
  have hb1 : -9223372036854775808 ≤ p + (T.size : Int) := by omega
  have hb2 : p + (T.size : Int) ≤ 9223372036854775807 := by omega
  have HEN := Lib.hid hen; clear hen
  have HTS := Lib.hid hts; clear hts
  go_enter Tryd.func27, Tryd.ntmps27
  go_wp2
  clear hsum hb1 hb2
  go_loopw [0, 5] (fun d lv wr => ∃ (u : List UInt8) (L : List Rn) (Al : Option Addr) (cl : Nat), d = .string ⟨u.toArray⟩ ∧ u.length ≤ t.length ∧ lv = .slice Al L.length cl ∧ gat p t = L ++ gat (p + (t.length : Int) - (u.length : Int)) u ∧ OwnX wr w.heap.size (.slice Al L.length cl) L ∧ Below w.heap.size w wr) (fun d _ _ => match d with | .string s => s.size | _ => 0)
  case atStart =>
    refine ⟨t, [], none, 0, by rw [HT.out], Nat.le_refl _, rfl, ?_, OwnX.nil _ _, Below.refl _ _⟩
    rw [List.nil_append]
    congr 1
    omega
  case round =>
    obtain ⟨u, L, Al, cl, rfl, hul, rfl, hg, hown, hbr⟩ := hrel
    have HO := Lib.hid hown; clear hown
    have HBR := Lib.hid hbr; clear hbr
    have HG := Lib.hid hg; clear hg
    match hu : u with
    | [] =>
      have hall : gat p t = L := by rw [HG.out]; simp [gat]
      rw [hall] at HP
      obtain ⟨ml, hml⟩ : ∃ ml, ml = L.length := ⟨_, rfl⟩
      rw [← hml] at HO ⊢
      have HML := Lib.hid hml; clear hml hall
      have he : ((⟨([] : List UInt8).toArray⟩ : ByteArray).toList == ([] : List UInt8)) = true := by rw [text_list]; rfl
      go_wp2
      rw [HP.out]
      exact ⟨Al, cl, by rw [← HML.out]; rfl, by rw [← HML.out]; exact HO.out, HBR.out⟩
    | c :: r =>
      rw [← hu] at hul ⊢
      have hne : u ≠ [] := by rw [hu]; simp
      have HG2 : Hid (gat p t = L ++ gat (p + (t.length : Int) - (u.length : Int)) u) := Lib.hid (by rw [hu]; exact HG.out)
      clear HG hu
      have hemp : ((⟨u.toArray⟩ : ByteArray).toList == ([] : List UInt8)) = false := by rw [text_list]; simpa using hne
      have hemp2 : ((⟨u.toArray⟩ : ByteArray).toList != ([] : List UInt8)) = true := by unfold bne; rw [hemp]; rfl
      have htr := fun V => trim_any u V
      obtain ⟨z, hz1, hz2⟩ := trim_split u
      have hup : (trim u).length ≤ maxLen := by unfold maxLen; omega
      have hcut := fun V => cut_any (trim u) hup V
      unfold cutV at hcut
      obtain ⟨rest, k1, k2, k3, k4⟩ := cut_split (trim u)
      have hround := @gat_round u (p + (t.length : Int) - (u.length : Int))
      have hdone := @gat_done u (p + (t.length : Int) - (u.length : Int))
      rw [k2] at hround hdone
      have hkl : (trim u).length = (hd (trim u)).length + rest.length := by
        have := congrArg List.length k1
        rwa [List.length_append] at this
      have hus : (⟨u.toArray⟩ : ByteArray).size = u.length := text_size u
      have hps : (⟨(trim u).toArray⟩ : ByteArray).size = (trim u).length := text_size _
      have hhs : (⟨(hd (trim u)).toArray⟩ : ByteArray).size = (hd (trim u)).length := text_size _
      have hrs : (⟨rest.toArray⟩ : ByteArray).size = rest.length := text_size _
      have hext : (⟨(trim u).toArray⟩ : ByteArray).extract (hd (trim u)).length (trim u).length = ⟨rest.toArray⟩ := by
        have := ext_back ⟨(trim u).toArray⟩ (hd (trim u)).length
        rw [hps] at this
        rw [this]
        show (⟨((trim u).drop (hd (trim u)).length).toArray⟩ : ByteArray) = _
        rw [k2]
      have hhe : ((⟨(hd (trim u)).toArray⟩ : ByteArray).toList == ([] : List UInt8)) = (hd (trim u)).isEmpty := by rw [text_list]; cases hd (trim u) <;> rfl
      have hlu : 0 < u.length := by
        rcases Nat.eq_zero_or_pos u.length with h | h
        · exact absurd (List.eq_nil_of_length_eq_zero h) hne
        · exact h
      have hgrow : (hd (trim u)) = [] → rest = [] := fun h => by
        have := (hdone h).2
        exact this
      obtain ⟨h, hh⟩ : ∃ h, h = hd (trim u) := ⟨_, rfl⟩
      obtain ⟨v, hv⟩ : ∃ v, v = trim u := ⟨_, rfl⟩
      rw [← hv] at hz2 hup
      rw [← hh] at hkl hround hdone hhs hext hhe hgrow
      rw [← hv] at hkl hround hps hext
      simp only [← hh] at hcut
      simp only [← hv] at hcut htr
      clear hh hv hz1 k1 k2 k3 k4 hne
      obtain ⟨H, hH⟩ : ∃ H : ByteArray, H = ⟨h.toArray⟩ := ⟨_, rfl⟩
      obtain ⟨V, hV⟩ : ∃ V : ByteArray, V = ⟨v.toArray⟩ := ⟨_, rfl⟩
      obtain ⟨R, hR⟩ : ∃ R : ByteArray, R = ⟨rest.toArray⟩ := ⟨_, rfl⟩
      obtain ⟨U, hU⟩ : ∃ U : ByteArray, U = ⟨u.toArray⟩ := ⟨_, rfl⟩
      rw [← hH] at hhs hhe
      simp only [← hH, ← hV] at hcut
      simp only [← hU, ← hV] at htr
      rw [← hV] at hps hext
      rw [← hR] at hrs hext
      rw [← hU] at hus hemp hemp2 ⊢
      rw [hH] at hhe
      have HCUT := Lib.hid hcut; clear hcut
      have HTR := Lib.hid htr; clear htr
      have HROUND := Lib.hid hround; clear hround
      have HDONE := Lib.hid hdone; clear hdone
      have HR := Lib.hid hR; clear hR
      have HHH := Lib.hid hH
      have HUS := Lib.hid hus; clear hus
      have HRS := Lib.hid hrs; clear hrs
      have HGR := Lib.hid hgrow; clear hgrow
      have HKL := Lib.hid hkl; clear hkl
      rw [← hH] at hhe
      clear hH hV hU
      have hxe2 : V.extract h.length V.size = R := by rw [hps]; exact hext
      have hle1 : (0 : Int) ≤ (h.length : Int) := by omega
      have hle2 : (h.length : Int) ≤ (v.length : Int) := by have := HKL.out; omega
      have HV2 : Hid (v.length ≤ u.length) := Lib.hid (by omega)
      clear hz2
      cases hhx : h with
      | nil =>
        rw [hhx] at hhe
        have hhe' : (H.toList == ([] : List UInt8)) = true := hhe
        have hhe2 : (H.toList != ([] : List UInt8)) = false := by unfold bne; rw [hhe']; rfl
        have hr0 : rest = [] := HGR.out hhx
        have hg0 := (HDONE.out hhx).1
        have hall : gat p t = L ++ gat (p + (t.length : Int) - (rest.length : Int)) rest := by
          rw [HG2.out, hg0, hr0]
          simp [gat]
        have HALL := Lib.hid hall; clear hall hg0
        have hmes : Hid (rest.length < u.length) := Lib.hid (by rw [hr0]; exact hlu)
        clear hr0 hhx
        obtain ⟨ml, hml⟩ : ∃ ml, ml = L.length := ⟨_, rfl⟩
        rw [← hml] at HO ⊢
        have HML := Lib.hid hml; clear hml
        obtain ⟨hln, hhln⟩ : ∃ hln, hln = h.length := ⟨_, rfl⟩
        obtain ⟨vl, hvl⟩ : ∃ vl, vl = v.length := ⟨_, rfl⟩
        rw [← hhln] at hhs hle1 hle2 hext hxe2
        rw [← hvl] at hps hle2 hext
        have HVL := Lib.hid hvl; clear hvl hhln
        go_wp2_with (first | (with_reducible refine (HTR.out _).mono ?_; rintro E w1 ⟨rfl, hb1⟩; have HB1 := Lib.hid (HBR.out.trans (hb1.mono HBR.out.size)); have HO1 := Lib.hid (HO.out.below hb1); clear hb1) | (with_reducible refine (HCUT.out _).mono ?_; rintro E w2 ⟨rfl, hb2⟩; have HB2 := Lib.hid (HB1.out.trans (hb2.mono HB1.out.size)); have HO2 := Lib.hid (HO1.out.below hb2); clear hb2))
        go_roundw
        case rel => exact ⟨rest, L, Al, cl, by rw [HR.out], by have := hmes.out; omega, by rw [HML.out], HALL.out, by rw [← HML.out]; exact HO2.out, HB2.out⟩
        case measure =>
          show R.size < U.size
          rw [HRS.out, HUS.out]
          exact hmes.out
      | cons hc hr =>
        rw [hhx] at hhe
        have hhe' : (H.toList == ([] : List UInt8)) = false := hhe
        have hhe2 : (H.toList != ([] : List UInt8)) = true := by unfold bne; rw [hhe']; rfl
        have hlp : 0 < h.length := by rw [hhx]; simp
        have hg1 := HROUND.out (by rw [hhx]; simp)
        have hL1 : L.length + 1 ≤ 65538 := by
          have := HLEN.out
          rw [HG2.out, hg1, List.length_append, List.length_cons] at this
          omega
        have hall : gat p t = (L ++ [⟨p + (t.length : Int) - (v.length : Int), h⟩]) ++ gat (p + (t.length : Int) - (rest.length : Int)) rest := by
          rw [HG2.out, hg1, List.append_assoc, show p + (t.length : Int) - (u.length : Int) + (u.length : Int) - (v.length : Int) = p + (t.length : Int) - (v.length : Int) by omega, show p + (t.length : Int) - (u.length : Int) + (u.length : Int) - (rest.length : Int) = p + (t.length : Int) - (rest.length : Int) by omega]
          rfl
        have HALL := Lib.hid hall; clear hall hg1
        have hmes : Hid (rest.length < u.length) := Lib.hid (by have := HKL.out; have := HV2.out; omega)
        clear hhx
        obtain ⟨x, hx⟩ : ∃ x : Rn, x = ⟨p + (t.length : Int) - (v.length : Int), h⟩ := ⟨_, rfl⟩
        rw [← hx] at HALL
        have hxa : x.a = en - (v.length : Int) := by rw [hx, HEN.out]
        have hxt : (⟨x.t.toArray⟩ : ByteArray) = H := by rw [hx, HHH.out]
        clear hx
        have happ := fun (W : World) (hO : OwnX W w.heap.size (.slice Al L.length cl) L) (hW : w.heap.size ≤ W.heap.size) => run_appX W w.heap.size _ _ hO x 22 (by omega) hW
        rw [hxt, hxa] at happ
        have HAPP := Lib.hid happ; clear happ hxa hxt
        obtain ⟨ml, hml⟩ : ∃ ml, ml = L.length := ⟨_, rfl⟩
        rw [← hml] at HO HAPP hL1 ⊢
        have HML := Lib.hid hml; clear hml
        obtain ⟨hln, hhln⟩ : ∃ hln, hln = h.length := ⟨_, rfl⟩
        obtain ⟨vl, hvl⟩ : ∃ vl, vl = v.length := ⟨_, rfl⟩
        have hve : (vl : Int) ≤ 65536 := by have := HV2.out; omega
        rw [← hhln] at hhs hle1 hle2 hext hxe2
        rw [← hvl] at hps hle2 hext HAPP
        have HVL := Lib.hid hvl; clear hvl hhln hlp
        go_wp2_with (first | (with_reducible refine (HTR.out _).mono ?_; rintro E w1 ⟨rfl, hb1⟩; have HB1 := Lib.hid (HBR.out.trans (hb1.mono HBR.out.size)); have HO1 := Lib.hid (HO.out.below hb1); clear hb1) | (with_reducible refine (HCUT.out _).mono ?_; rintro E w2 ⟨rfl, hb2⟩; have HB2 := Lib.hid (HB1.out.trans (hb2.mono HB1.out.size)); have HO2 := Lib.hid (HO1.out.below hb2); clear hb2; obtain ⟨v5, w5, hrun, ho5, hg5⟩ := HAPP.out w2 HO2.out HB2.out.size; obtain ⟨A5, c5, rfl⟩ := ho5.shape; have HB5 := Lib.hid (HB2.out.trans (hg5.below HB2.out.size (fun q hq => (HO2.out.lt q hq).1))); have HO5 := Lib.hid ho5; clear ho5 hg5; rw [List.length_append, List.length_singleton, ← HML.out] at hrun HO5) | (at_builtin; refine wpList_apprun rfl _ _ _ _ (by rfl) _ _ (by rfl) (by rfl) _ _ hrun ?_))
        go_roundw
        case rel => exact ⟨rest, L ++ [x], A5, c5, by rw [HR.out], by have := hmes.out; omega, by rw [List.length_append, List.length_singleton, ← HML.out], HALL.out, by rw [List.length_append, List.length_singleton, ← HML.out]; exact HO5.out, HB5.out⟩
        case measure =>
          show R.size < U.size
          rw [HRS.out, HUS.out]
          exact hmes.out
end Go.Proofs.YtmbmjdogfjmlpaaDoor.Sp
