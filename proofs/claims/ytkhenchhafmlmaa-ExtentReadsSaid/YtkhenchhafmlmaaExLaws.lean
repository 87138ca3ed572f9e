/- What follows of Cut, Mark and Put, block by block, in plain words. -/
import Derived.Test.YtkhenchhafmlmaaExCuts
namespace Go.Proofs.Ytkhenchhafmlmaa.Ex
set_option maxRecDepth 20000

theorem bnds_all : bnds 0 256 = true := by decide
/-- What Mark answers where it answers a list. -/
theorem mark_is {l : List X} {f t : Int} (h : (markL l f t).2 = 0) : right l = true ∧ bnds f t = true ∧ markL l f t = (pack (markR (cuts l f t)), 0) ∧ right (markL l f t).1 = true ∧ ∀ b, at_ (markL l f t).1 b = (at_ l b).map fun v => (v.1, v.2 && !decide (f ≤ b ∧ b < t)) := by
  unfold markL at h ⊢
  cases hr : right l with
  | false => rw [hr] at h; simp at h
  | true =>
    cases hb : bnds f t with
    | false => rw [hr, hb] at h; simp at h
    | true =>
      rw [hr, hb] at h
      simp only [Bool.and_self, if_true] at h ⊢
      have hft := (of_decide_eq_true hb).2
      obtain ⟨m1, m2, m3⟩ := mark_ok hr f t hft
      rcases fits_ok m1 m2 m3 with e | ⟨e, hR, hat⟩
      · rw [e] at h; simp at h
      · rw [e]
        exact ⟨trivial, trivial, rfl, hR, fun b => by rw [hat, mark_at (right_lin hr).1 f t hft]⟩
theorem mark_err {l : List X} {f t : Int} (h : (markL l f t).2 ≠ 0) : (markL l f t).1 = [] := by
  unfold markL at h ⊢
  split at h
  · rename_i hc
    rw [if_pos hc]
    unfold fits at h ⊢
    split at h
    · simp at h
    · rename_i h2; rw [if_neg h2]
  · rename_i hc
    rw [if_neg hc]
/-- Two right lists that tell the same of each block are the same. -/
theorem right_same {l m : List X} (hl : right l = true) (hm : right m = true) (h : ∀ b, at_ l b = at_ m b) : l = m :=
  lin_unique l m (right_lin hl).1 (right_lin hl).2.1 (right_lin hm).1 (right_lin hm).2.1 h
/-- What is marked again stays. -/
theorem mark_again {l : List X} {f t : Int} (h : (markL l f t).2 = 0) : markL (markL l f t).1 f t = ((markL l f t).1, 0) := by
  obtain ⟨h1, h2, h3, h4, h5⟩ := mark_is h
  have hft := (of_decide_eq_true h2).2
  obtain ⟨m1, m2, m3⟩ := mark_ok h4 f t hft
  have hat : ∀ b, at_ (pack (markR (cuts (markL l f t).1 f t))) b = at_ (markL l f t).1 b := fun b => by
    rw [(pack_ok _ m1).2.2.1 b, mark_at (right_lin h4).1 f t hft, h5]
    cases at_ l b with
    | none => rfl
    | some v => simp
  have heq : pack (markR (cuts (markL l f t).1 f t)) = (markL l f t).1 := lin_unique _ _ (pack_ok _ m1).1 (pack_ok _ m1).2.1 (right_lin h4).1 (right_lin h4).2.1 hat
  have : markL (markL l f t).1 f t = fits (markR (cuts (markL l f t).1 f t)) := by
    have e : ∀ m, right m = true → markL m f t = fits (markR (cuts m f t)) := fun m hm => by unfold markL; rw [hm, h2]; rfl
    exact e _ h4
  rw [this]
  unfold fits
  rw [heq, if_pos (right_lin h4).2.2.2.2]
theorem clamp_all {x : X} (h : x.ok) : clampI 0 x.a (x.a + x.n) = x.a ∧ clampI 256 x.a (x.a + x.n) = x.a + x.n := by
  obtain ⟨h1, h2, h3⟩ := h
  unfold clampI
  omega
theorem cuts1_all {x : X} (h : x.ok) : cuts1 x 0 256 = [(x, true)] := by
  have hc := clamp_all h
  obtain ⟨h1, h2, h3⟩ := h
  unfold cuts1
  rw [hc.1, hc.2]
  have p0 : (part x x.a x.a).n = 0 := by unfold part; dsimp only; omega
  have p2 : (part x (x.a + x.n) (x.a + x.n)).n = 0 := by unfold part; dsimp only; omega
  have p1 : part x x.a (x.a + x.n) = x := by
    obtain ⟨a, s, n, u⟩ := x
    unfold part
    dsimp only
    rw [show s + a - a = s by omega, show a + n - a = n by omega]
  rw [p1]
  simp only [List.filter_cons, List.filter_nil, p0, p2, Int.lt_irrefl, decide_false, Bool.false_eq_true, if_false]
  rw [if_pos (decide_eq_true (by omega))]
theorem cuts_all {l : List X} (h : Lin l) : cuts l 0 256 = l.map fun x => (x, true) := by
  unfold cuts
  induction l with
  | nil => rfl
  | cons x l ih =>
    rw [List.flatMap_cons, ih h.2.2, cuts1_all h.1]
    rfl
theorem mark_all {l : List X} (h : right l = true) : (markL l 0 256).2 = 0 ∧ ∀ x ∈ (markL l 0 256).1, x.u = false := by
  obtain ⟨h1, h2, h3, h4, h5⟩ := right_lin h
  have e : markL l 0 256 = fits (markR (cuts l 0 256)) := by unfold markL; rw [h, bnds_all]; rfl
  have hlen : (pack (markR (cuts l 0 256))).length ≤ 60 := by
    have h6 := pack_len (markR (cuts l 0 256))
    rw [cuts_all h1] at h6 ⊢
    unfold markR at h6 ⊢
    simp only [List.length_map] at h6
    omega
  have e2 : markL l 0 256 = (pack (markR (cuts l 0 256)), 0) := by rw [e]; unfold fits; rw [if_pos hlen]
  have hz : (markL l 0 256).2 = 0 := by rw [e2]
  refine ⟨hz, fun x hx => ?_⟩
  obtain ⟨_, _, _, hr, hat⟩ := mark_is hz
  have hxl := (right_lin hr).1
  have hxo := hxl.mem x hx
  have h7 := at_of hxl hx (b := x.a) (by omega) (by omega)
  rw [hat] at h7
  cases hv : at_ l x.a with
  | none => rw [hv] at h7; simp at h7
  | some v =>
    rw [hv] at h7
    simp only [Option.map_some, Option.some.injEq, Prod.mk.injEq] at h7
    rw [← h7.2, decide_eq_true ⟨by omega, by omega⟩]
    simp
theorem mark_both {l : List X} {f t : Int} (h : (markL l f t).2 = 0) : markL (markL l f t).1 0 256 = markL l 0 256 := by
  obtain ⟨h1, h2, h3, h4, h5⟩ := mark_is h
  have k1 := mark_all h4
  have k2 := mark_all h1
  obtain ⟨_, _, a1, a2, a3⟩ := mark_is k1.1
  obtain ⟨_, _, b1, b2, b3⟩ := mark_is k2.1
  have heq : (markL (markL l f t).1 0 256).1 = (markL l 0 256).1 := right_same a2 b2 fun b => by
    rw [a3, b3, h5]
    cases hv : at_ l b with
    | none => rfl
    | some v =>
      have hr := at_range (right_lin h1).1 hv
      simp only [Option.map_some, Option.some.injEq, Prod.mk.injEq, true_and]
      rw [decide_eq_true (show 0 ≤ b ∧ b < 256 by omega)]
      simp
  exact Prod.ext heq (k1.1.trans k2.1.symm)

/-! ### Cut and Put -/
theorem cut_is {l : List X} {f t : Int} (h : (cutL l f t).2.2 = 0) : right l = true ∧ bnds f t = true ∧ cutL l f t = (pack (leftR (cuts l f t)), gone (cuts l f t), 0) ∧ right (cutL l f t).1 = true ∧ ∀ b, at_ (cutL l f t).1 b = if f ≤ b ∧ b < t then none else at_ l b := by
  unfold cutL at h ⊢
  cases hr : right l with
  | false => rw [hr] at h; simp at h
  | true =>
    cases hb : bnds f t with
    | false => rw [hr, hb] at h; simp at h
    | true =>
      rw [hr, hb] at h
      simp only [Bool.and_self, if_true] at h ⊢
      have hft := (of_decide_eq_true hb).2
      obtain ⟨m1, m2, m3⟩ := left_ok hr f t hft
      by_cases h60 : (pack (leftR (cuts l f t))).length ≤ 60
      · rw [if_pos h60]
        rcases fits_ok m1 m2 m3 with e | ⟨e, hR, hat⟩
        · unfold fits at e
          rw [if_pos h60] at e
          simp at e
        · exact ⟨trivial, trivial, rfl, hR, fun b => by rw [hat, left_at (right_lin hr).1 f t hft]⟩
      · rw [if_neg h60] at h
        simp at h
theorem cut_err {l : List X} {f t : Int} (h : (cutL l f t).2.2 ≠ 0) : (cutL l f t).1 = [] ∧ (cutL l f t).2.1 = [] := by
  unfold cutL at h ⊢
  split at h
  · rename_i hc
    rw [if_pos hc]
    split at h
    · simp at h
    · rename_i h2; rw [if_neg h2]; exact ⟨rfl, rfl⟩
  · rename_i hc
    rw [if_neg hc]; exact ⟨rfl, rfl⟩
theorem put_is {l : List X} {e : X} (h : (putL l e).2 = 0) : right l = true ∧ e.may = true ∧ meets l e = false ∧ right (putL l e).1 = true ∧ (∀ b, at_ (putL l e).1 b = if e.a ≤ b ∧ b < e.a + e.n then some (e.s + b - e.a, e.u) else at_ l b) ∧ ∀ b, e.a ≤ b → b < e.a + e.n → at_ l b = none := by
  unfold putL at h ⊢
  cases hr : right l with
  | false => rw [hr] at h; simp at h
  | true =>
    cases hm : e.may with
    | false => rw [hr, hm] at h; simp at h
    | true =>
      rw [hr, hm] at h
      simp only [Bool.and_self, if_true] at h ⊢
      cases hme : meets l e with
      | true => rw [hme] at h; simp at h
      | false =>
        rw [hme] at h
        simp only [Bool.false_eq_true, if_false] at h ⊢
        obtain ⟨m1, m2, m3, m4⟩ := put_ok hr hm hme
        rcases fits_ok m1 m2 m3 with e1 | ⟨e1, hR, hat⟩
        · rw [e1] at h; simp at h
        · rw [e1]
          refine ⟨trivial, trivial, trivial, hR, fun b => by rw [hat, m4], fun b h1 h2 => ?_⟩
          cases hv : at_ l b with
          | none => rfl
          | some v =>
            have := (meets_iff (right_lin hr).1 ((right_iff l).1 hr).2.1 hm).2 (.inl ⟨b, v, h1, h2, hv⟩)
            rw [hme] at this; cases this
theorem put_err {l : List X} {e : X} (h : (putL l e).2 ≠ 0) : (putL l e).1 = [] := by
  unfold putL at h ⊢
  split at h
  · rename_i hc
    rw [if_pos hc]
    split at h
    · rename_i h2; rw [if_pos h2]
    · rename_i h2
      rw [if_neg h2]
      unfold fits at h ⊢
      split at h
      · simp at h
      · rename_i h3; rw [if_neg h3]
  · rename_i hc
    rw [if_neg hc]
theorem cut_all {l : List X} (h : right l = true) : cutL l 0 256 = ([], l.map (fun x => (x.s, x.n)), 0) := by
  unfold cutL
  rw [h, bnds_all, cuts_all (right_lin h).1]
  have e1 : leftR (l.map fun x => (x, true)) = [] := by
    unfold leftR
    rw [List.filter_eq_nil_iff.2]
    · rfl
    · intro p hp
      obtain ⟨x, _, rfl⟩ := List.mem_map.1 hp
      simp
  have e2 : gone (l.map fun x => (x, true)) = l.map fun x => (x.s, x.n) := by
    unfold gone
    rw [List.filter_eq_self.2]
    · rw [List.map_map]; rfl
    · intro p hp
      obtain ⟨x, _, rfl⟩ := List.mem_map.1 hp
      rfl
  rw [e1, e2]
  rfl
/-- What of an extent lies in the bounds. -/
theorem gone1_eq {x : X} (h : x.ok) {f t : Int} (hft : f ≤ t) : gone (cuts1 x f t) = if max x.a f < min (x.a + x.n) t then [(x.s + max x.a f - x.a, min (x.a + x.n) t - max x.a f)] else [] := by
  obtain ⟨h1, h2, h3⟩ := h
  have e : gone (cuts1 x f t) = if 0 < (part x (clampI f x.a (x.a + x.n)) (clampI t x.a (x.a + x.n))).n then [((part x (clampI f x.a (x.a + x.n)) (clampI t x.a (x.a + x.n))).s, (part x (clampI f x.a (x.a + x.n)) (clampI t x.a (x.a + x.n))).n)] else [] := by
    unfold cuts1 gone
    rw [List.filter_filter]
    simp only [List.filter_cons, List.filter_nil, Bool.false_and, Bool.true_and, Bool.false_eq_true, if_false]
    split
    · rename_i hp; rw [if_pos (by simpa using hp)]; rfl
    · rename_i hp; rw [if_neg (by simpa using hp)]; rfl
  rw [e]
  unfold part clampI
  dsimp only
  by_cases hc : max x.a f < min (x.a + x.n) t
  · rw [if_pos hc, if_pos (by omega)]
    have e1 : min (max f x.a) (x.a + x.n) = max x.a f := by omega
    have e2 : min (max t x.a) (x.a + x.n) = min (x.a + x.n) t := by omega
    rw [e1, e2]
  · rw [if_neg hc, if_neg (by omega)]
theorem gone_cons (x : X) (l : List X) (f t : Int) : gone (cuts (x :: l) f t) = gone (cuts1 x f t) ++ gone (cuts l f t) := by
  have e : cuts (x :: l) f t = cuts1 x f t ++ cuts l f t := by unfold cuts; rw [List.flatMap_cons]
  rw [e, gone_append]
theorem gone_none {l : List X} (hl : Lin l) {f t : Int} (hft : f ≤ t) (h : ∀ x ∈ l, t ≤ x.a) : gone (cuts l f t) = [] := by
  induction l with
  | nil => rfl
  | cons x l ih =>
    rw [gone_cons, ih hl.2.2 (fun y hy => h y (List.mem_cons_of_mem _ hy)), gone1_eq hl.1 hft, if_neg (by have := h x List.mem_cons_self; omega)]
    rfl
/-- Bounds within which the device's blocks go on are one span. -/
theorem gone_run : ∀ {l : List X}, Lin l → NoGo l → ∀ {f t s : Int} {u : Bool}, f < t → (∀ b, f ≤ b → b < t → at_ l b = some (s + b - f, u)) → gone (cuts l f t) = [(s, t - f)]
  | [], _, _, f, t, s, u, hft, h => by have := h f (by omega) hft; cases this
  | x :: l, hl, hn, f, t, s, u, hft, h => by
    have hx := hl.1
    have e2 : ∀ b, at_ (x :: l) b = if x.a ≤ b ∧ b < x.a + x.n then some (x.s + b - x.a, x.u) else at_ l b := fun _ => rfl
    rw [gone_cons, gone1_eq hx (by omega)]
    by_cases h1 : x.a + x.n ≤ f
    · rw [if_neg (by omega), List.nil_append]
      refine gone_run hl.2.2 hn.tail hft (u := u) (fun b hb1 hb2 => ?_)
      have := h b hb1 hb2
      rwa [e2, if_neg (by omega)] at this
    · have hf := h f (by omega) hft
      have hxf : x.a ≤ f := by
        rcases Int.lt_or_le f x.a with hlt | hle
        · obtain ⟨y, hy, k1, k2, _⟩ := at_some hf
          rcases List.mem_cons.1 hy with e | e
          · rw [e] at k1; omega
          · have := hl.2.1 y e; omega
        · exact hle
      rw [e2, if_pos (by omega)] at hf
      injection hf with hf
      have hs := congrArg Prod.fst hf
      have hu := congrArg Prod.snd hf
      dsimp only at hs hu
      have ht : t ≤ x.a + x.n := by
        rcases Int.lt_or_le (x.a + x.n) t with hlt | hle
        · exfalso
          have hm := h (x.a + x.n) (by omega) hlt
          rw [e2, if_neg (by omega)] at hm
          obtain ⟨y, hy, k1, k2, k3⟩ := at_some hm
          cases l with
          | nil => cases hy
          | cons z l =>
            have g1 := hl.2.1 z List.mem_cons_self
            have hyz : y = z := by
              rcases List.mem_cons.1 hy with e | e
              · exact e
              · have := hl.2.2.2.1 y e
                have := hl.2.2.1
                omega
            subst hyz
            have hg := hn.1
            unfold goes at hg
            rw [decide_eq_false_iff_not] at hg
            have k4 := congrArg Prod.fst k3
            have k5 := congrArg Prod.snd k3
            dsimp only at k4 k5
            exact hg ⟨by omega, by omega, by rw [← k5, ← hu]⟩
        · exact hle
      rw [if_pos (by omega), gone_none hl.2.2 (by omega) (fun y hy => by have := hl.2.1 y hy; omega), List.append_nil]
      have e3 : max x.a f = f := by omega
      have e4 : min (x.a + x.n) t = t := by omega
      rw [e3, e4]
      rw [show x.s + f - x.a = s by omega]
theorem put_cut {l : List X} {e : X} (h : (putL l e).2 = 0) : cutL (putL l e).1 e.a (e.a + e.n) = (l, [(e.s, e.n)], 0) := by
  obtain ⟨h1, h2, h3, h4, h5, h6⟩ := put_is h
  have hem := may_iff.1 h2
  have hb : bnds e.a (e.a + e.n) = true := decide_eq_true (by omega)
  obtain ⟨a1, a2, _, _, a5⟩ := right_lin h4
  obtain ⟨l1, l2, _, _, l5⟩ := right_lin h1
  have hlin := left_lin a1 e.a (e.a + e.n) (by omega)
  have heq : pack (leftR (cuts (putL l e).1 e.a (e.a + e.n))) = l := lin_unique _ _ (pack_ok _ hlin).1 (pack_ok _ hlin).2.1 l1 l2 fun b => by
    rw [(pack_ok _ hlin).2.2.1, left_at a1 e.a (e.a + e.n) (by omega), h5]
    by_cases hc : e.a ≤ b ∧ b < e.a + e.n
    · rw [if_pos hc, h6 b hc.1 hc.2]
    · rw [if_neg hc, if_neg hc]
  have hgone : gone (cuts (putL l e).1 e.a (e.a + e.n)) = [(e.s, e.n)] := by
    rw [gone_run a1 a2 (by omega) (s := e.s) (u := e.u) (fun b hb1 hb2 => by rw [h5, if_pos ⟨hb1, hb2⟩])]
    rw [show e.a + e.n - e.a = e.n by omega]
  have e1 : ∀ m, right m = true → cutL m e.a (e.a + e.n) = if (pack (leftR (cuts m e.a (e.a + e.n)))).length ≤ 60 then (pack (leftR (cuts m e.a (e.a + e.n))), gone (cuts m e.a (e.a + e.n)), 0) else ([], [], 9) := fun m hm => by unfold cutL; rw [hm, hb]; rfl
  rw [e1 _ h4, heq, hgone, if_pos l5]

/-! ### The spans tell the device's blocks in their order -/
def runL (s : Int) : Nat → List Int
  | 0 => []
  | n + 1 => s :: runL (s + 1) n
theorem runL_len (s : Int) : ∀ n, (runL s n).length = n
  | 0 => rfl
  | n + 1 => by simp [runL, runL_len (s + 1) n]
theorem runL_add (s : Int) : ∀ (n m : Nat), runL s (n + m) = runL s n ++ runL (s + n) m
  | 0, m => by simp [runL]
  | n + 1, m => by
    rw [show n + 1 + m = (n + m) + 1 by omega]
    show s :: runL (s + 1) (n + m) = s :: runL (s + 1) n ++ _
    rw [runL_add (s + 1) n m, show s + 1 + (n : Int) = s + ((n + 1 : Nat) : Int) by omega]
    rfl
def flatS (S : List (Int × Int)) : List Int := S.flatMap fun p => runL p.1 p.2.toNat
theorem flatS_append (a b : List (Int × Int)) : flatS (a ++ b) = flatS a ++ flatS b := by simp [flatS]
def hd (l : List X) (b : Int) : List Int := match at_ l b with | some v => [v.1] | none => []
theorem hd_some {l : List X} {b : Int} {v : Int × Bool} (h : at_ l b = some v) : hd l b = [v.1] := by unfold hd; rw [h]
theorem hd_none {l : List X} {b : Int} (h : at_ l b = none) : hd l b = [] := by unfold hd; rw [h]
/-- The device's blocks of the n blocks of the file from b on. -/
def devs (l : List X) (b : Int) : Nat → List Int
  | 0 => []
  | n + 1 => hd l b ++ devs l (b + 1) n
theorem devs_succ (l : List X) (b : Int) (n : Nat) : devs l b (n + 1) = hd l b ++ devs l (b + 1) n := rfl
theorem devs_add (l : List X) : ∀ (b : Int) (n m : Nat), devs l b (n + m) = devs l b n ++ devs l (b + n) m
  | b, 0, m => by simp [devs]
  | b, n + 1, m => by
    rw [show n + 1 + m = (n + m) + 1 by omega, devs_succ, devs_succ, devs_add l (b + 1) n m, show b + 1 + (n : Int) = b + ((n + 1 : Nat) : Int) by omega, List.append_assoc]
theorem devs_none (l : List X) : ∀ (b : Int) (n : Nat), (∀ c, b ≤ c → c < b + n → at_ l c = none) → devs l b n = []
  | _, 0, _ => rfl
  | b, n + 1, h => by
    rw [devs_succ, hd_none (h b (by omega) (by omega)), devs_none l (b + 1) n (fun c h1 h2 => h c (by omega) (by omega))]
    rfl
theorem devs_run (l : List X) : ∀ (s b : Int) (n : Nat), (∀ c, b ≤ c → c < b + n → ∃ u, at_ l c = some (s + c - b, u)) → devs l b n = runL s n
  | _, _, 0, _ => rfl
  | s, b, n + 1, h => by
    obtain ⟨u, hu⟩ := h b (by omega) (by omega)
    rw [devs_succ, hd_some hu, devs_run l (s + 1) (b + 1) n (fun c h1 h2 => by
      obtain ⟨u, hu⟩ := h c (by omega) (by omega)
      exact ⟨u, by rw [hu]; congr 2; omega⟩)]
    dsimp only
    rw [show s + b - b = s by omega]
    rfl
theorem devs_cons_skip (x : X) (l : List X) : ∀ (b : Int) (n : Nat), (∀ c, b ≤ c → c < b + n → ¬ (x.a ≤ c ∧ c < x.a + x.n)) → devs (x :: l) b n = devs l b n
  | _, 0, _ => rfl
  | b, n + 1, h => by
    have e2 : at_ (x :: l) b = if x.a ≤ b ∧ b < x.a + x.n then some (x.s + b - x.a, x.u) else at_ l b := rfl
    have e3 : hd (x :: l) b = hd l b := by
      unfold hd
      rw [e2, if_neg (h b (by omega) (by omega))]
    rw [devs_succ, devs_succ, e3, devs_cons_skip x l (b + 1) n (fun c h1 h2 => h c (by omega) (by omega))]
theorem flat_gone : ∀ {l : List X}, Lin l → ∀ (f t : Int) (n : Nat), t = f + n → flatS (gone (cuts l f t)) = devs l f n
  | [], _, f, t, n, _ => by
    rw [devs_none [] f n (fun c _ _ => rfl)]; rfl
  | x :: l, hl, f, t, n, htn => by
    have hx := hl.1
    have e2 : ∀ b, at_ (x :: l) b = if x.a ≤ b ∧ b < x.a + x.n then some (x.s + b - x.a, x.u) else at_ l b := fun _ => rfl
    rw [gone_cons, flatS_append, gone1_eq hx (by omega), flat_gone hl.2.2 f t n htn]
    have hlow : ∀ (b : Int) (m : Nat), b + m ≤ x.a + x.n → devs l b m = [] := fun b m hbm => devs_none l b m (fun c h1 h2 => at_none fun y hy => by have := hl.2.1 y hy; omega)
    by_cases hc : max x.a f < min (x.a + x.n) t
    · rw [if_pos hc]
      obtain ⟨p, hp⟩ : ∃ p : Nat, f + p = max x.a f := ⟨(max x.a f - f).toNat, by omega⟩
      obtain ⟨q, hq⟩ : ∃ q : Nat, max x.a f + q = min (x.a + x.n) t := ⟨(min (x.a + x.n) t - max x.a f).toNat, by omega⟩
      obtain ⟨r, hr⟩ : ∃ r : Nat, min (x.a + x.n) t + r = t := ⟨(t - min (x.a + x.n) t).toNat, by omega⟩
      have hn : n = p + q + r := by omega
      rw [hn, devs_add, devs_add, devs_add, devs_add]
      have z1 : devs (x :: l) f p = [] := devs_none _ _ _ (fun c h1 h2 => at_none fun y hy => by
        rcases List.mem_cons.1 hy with e | e
        · rw [e]; omega
        · have := hl.2.1 y e; omega)
      have z2 : devs (x :: l) (f + p) q = runL (x.s + max x.a f - x.a) q := devs_run _ _ _ _ (fun c h1 h2 => ⟨x.u, by rw [e2, if_pos (by omega)]; congr 2; omega⟩)
      have z3 : devs (x :: l) (f + ((p + q : Nat) : Int)) r = devs l (f + ((p + q : Nat) : Int)) r := by
        rcases Int.lt_or_le t (x.a + x.n) with h' | h'
        · have : r = 0 := by omega
          subst this; rfl
        · exact devs_cons_skip x l _ r (fun c h1 h2 => by omega)
      have z4 := hlow f p (by omega)
      have z5 := hlow (f + p) q (by omega)
      rw [z1, z2, z3, z4, z5]
      show runL (x.s + max x.a f - x.a) (min (x.a + x.n) t - max x.a f).toNat ++ [] ++ _ = _
      rw [show (min (x.a + x.n) t - max x.a f).toNat = q by omega]
      simp
    · rw [if_neg hc]
      show [] ++ devs l f n = _
      rw [List.nil_append]
      by_cases h1 : t ≤ x.a ∨ x.a + x.n ≤ f
      · exact (devs_cons_skip x l f n (fun c h1 h2 => by omega)).symm
      · have : n = 0 := by omega
        subst this; rfl
theorem gone_pos {l : List X} (hl : Lin l) {f t : Int} (hft : f ≤ t) : ∀ p ∈ gone (cuts l f t), 1 ≤ p.2 := by
  induction l with
  | nil => intro p hp; cases hp
  | cons x l ih =>
    rw [gone_cons, gone1_eq hl.1 hft]
    intro p hp
    rcases List.mem_append.1 hp with h | h
    · split at h
      · rw [List.mem_singleton.1 h]; dsimp only; omega
      · cases h
    · exact ih hl.2.2 p h
/-- Behind some blocks, k spans were begun, of the last of which left blocks are to come. -/
def Told (S : List (Int × Int)) (D : List Int) (k : Nat) (left : Int) : Prop := k ≤ S.length ∧ 0 ≤ left ∧ (left = 0 ∧ flatS (S.take k) = D ∨ ∃ j p, k = j + 1 ∧ S[j]? = some p ∧ 1 ≤ left ∧ left ≤ p.2 ∧ flatS (S.take k) = D ++ runL (p.1 + p.2 - left) left.toNat)
theorem told_zero (S : List (Int × Int)) : Told S [] 0 0 := ⟨Nat.zero_le _, Int.le_refl _, .inl ⟨rfl, rfl⟩⟩
theorem flat_take (S : List (Int × Int)) (k : Nat) : flatS S = flatS (S.take k) ++ flatS (S.drop k) := by rw [← flatS_append, List.take_append_drop]
/-- One more block, where nothing is left: a span begins with it. -/
theorem told_new {S : List (Int × Int)} {D R : List Int} {k : Nat} {x : Int} (hp : ∀ p ∈ S, 1 ≤ p.2) (h : Told S D k 0) (hx : flatS S = D ++ x :: R) : ∃ p, S[k]? = some p ∧ p.1 = x ∧ 1 ≤ p.2 ∧ Told S (D ++ [x]) (k + 1) (p.2 - 1) := by
  obtain ⟨h1, h2, h3⟩ := h
  have h4 : flatS (S.take k) = D := by
    rcases h3 with ⟨_, e⟩ | ⟨j, p, _, _, e, _⟩
    · exact e
    · omega
  have h5 : flatS (S.drop k) = x :: R := by
    rw [flat_take S k, h4] at hx
    exact List.append_cancel_left hx
  have hk : k < S.length := by
    rcases Nat.lt_or_ge k S.length with h | h
    · exact h
    · rw [List.drop_of_length_le h] at h5; cases h5
  have hpk := hp S[k] (List.getElem_mem hk)
  rw [List.drop_eq_getElem_cons hk] at h5
  obtain ⟨m, hm⟩ : ∃ m : Nat, (S[k]).2.toNat = m + 1 := ⟨(S[k]).2.toNat - 1, by omega⟩
  have h6 : runL (S[k]).1 (S[k]).2.toNat ++ flatS (S.drop (k + 1)) = x :: R := h5
  rw [hm] at h6
  have h7 : (S[k]).1 = x := by
    have := congrArg List.head? h6
    simpa [runL] using this
  refine ⟨S[k], List.getElem?_eq_getElem hk, h7, hpk, by omega, by omega, ?_⟩
  have h8 : flatS (S.take (k + 1)) = D ++ runL (S[k]).1 (S[k]).2.toNat := by
    rw [List.take_succ_eq_append_getElem hk, flatS_append, h4]
    simp [flatS]
  rw [hm] at h8
  by_cases hz : (S[k]).2 - 1 = 0
  · left
    refine ⟨hz, ?_⟩
    have : m = 0 := by omega
    subst this
    rw [h8, h7]
    rfl
  · right
    refine ⟨k, S[k], rfl, List.getElem?_eq_getElem hk, by omega, by omega, ?_⟩
    rw [h8]
    show D ++ ((S[k]).1 :: runL ((S[k]).1 + 1) m) = _
    rw [h7, List.append_assoc]
    rw [show ((S[k]).2 - 1).toNat = m by omega, show x + (S[k]).2 - ((S[k]).2 - 1) = x + 1 by omega]
    rfl
/-- One more block, where some are left: it is the next of the span. -/
theorem told_old {S : List (Int × Int)} {D R : List Int} {k : Nat} {x left : Int} (h : Told S D k left) (h0 : left ≠ 0) (hx : flatS S = D ++ x :: R) : ∃ j p, k = j + 1 ∧ S[j]? = some p ∧ x = p.1 + p.2 - left ∧ left ≤ p.2 ∧ Told S (D ++ [x]) k (left - 1) := by
  obtain ⟨h1, h2, h3⟩ := h
  rcases h3 with ⟨e, _⟩ | ⟨j, p, hj, hp, hl1, hl2, hf⟩
  · exact absurd e h0
  · obtain ⟨m, hm⟩ : ∃ m : Nat, left.toNat = m + 1 := ⟨left.toNat - 1, by omega⟩
    rw [hm] at hf
    have h5 : runL (p.1 + p.2 - left) (m + 1) ++ flatS (S.drop k) = x :: R := by
      rw [flat_take S k, hf, List.append_assoc] at hx
      exact List.append_cancel_left hx
    have h7 : p.1 + p.2 - left = x := by
      have := congrArg List.head? h5
      simpa [runL] using this
    refine ⟨j, p, hj, hp, h7.symm, hl2, h1, by omega, ?_⟩
    by_cases hz : left - 1 = 0
    · left
      have : m = 0 := by omega
      subst this
      refine ⟨hz, ?_⟩
      rw [hf, h7]; rfl
    · right
      refine ⟨j, p, hj, hp, by omega, by omega, ?_⟩
      rw [hf]
      show D ++ ((p.1 + p.2 - left) :: runL (p.1 + p.2 - left + 1) m) = _
      rw [h7, List.append_assoc, show (left - 1).toNat = m by omega, show p.1 + p.2 - (left - 1) = x + 1 by omega]
      rfl
/-- At the end nothing is left. -/
theorem told_end {S : List (Int × Int)} {k : Nat} {left : Int} (hp : ∀ p ∈ S, 1 ≤ p.2) (h : Told S (flatS S) k left) : left = 0 ∧ k = S.length := by
  obtain ⟨h1, h2, h3⟩ := h
  have hsp := flat_take S k
  rcases h3 with ⟨e, hf⟩ | ⟨j, p, _, _, hl1, _, hf⟩
  · refine ⟨e, ?_⟩
    rw [hf] at hsp
    have h4 : flatS (S.drop k) = [] := by
      have := congrArg List.length hsp
      rw [List.length_append] at this
      exact List.eq_nil_of_length_eq_zero (by omega)
    rcases Nat.lt_or_ge k S.length with hk | hk
    · rw [List.drop_eq_getElem_cons hk] at h4
      have h5 : runL (S[k]).1 (S[k]).2.toNat ++ flatS (S.drop (k + 1)) = [] := h4
      have h6 := congrArg List.length h5
      rw [List.length_append, runL_len] at h6
      have := hp S[k] (List.getElem_mem hk)
      simp at h6
      omega
    · omega
  · exfalso
    rw [hf] at hsp
    have := congrArg List.length hsp
    rw [List.length_append, List.length_append, runL_len] at this
    omega
end Go.Proofs.Ytkhenchhafmlmaa.Ex
