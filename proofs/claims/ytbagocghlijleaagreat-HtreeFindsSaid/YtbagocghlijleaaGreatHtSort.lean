/- The library's sort, of entries and of names: laid over this program, and told of rows of the call's own. -/
import Derived.Test.YtbagocghlijleaaGreatHtEnt
import Derived.Shelf.SlSortCmp.NoneTotal
namespace Go.Proofs.YtbagocghlijleaaGreat.Ht
set_option maxRecDepth 20000
open Go.RowKit
open Go.Proofs.YtbagocghlijleaaGreat.Mem Go.Proofs.YtbagocghlijleaaGreat.Crc Go.Proofs.YtbagocghlijleaaGreat.Rec Go.Proofs.YtbagocghlijleaaGreat.Reg Go.Proofs.YtbagocghlijleaaGreat.Lf

def srtE_ren : Go.Shelf.Ren := ⟨fun | 6 => 61 | 14 => 89 | 15 => 77 | 20 => 115 | 21 => 116 | 22 => 117 | 23 => 118 | 24 => 119 | 25 => 120 | 26 => 121 | 27 => 122 | 28 => 107 | 29 => 108 | 46 => 133 | 47 => 129 | 48 => 130 | 49 => 134 | 50 => 135 | 57 => 140 | n => n, fun | 22 => 62 | 24 => 68 | 25 => 81 | 3 => 3 | 39 => 51 | 0 => 0 | 53 => 61 | 55 => 99 | 4 => 4 | 46 => 144 | 45 => 143 | 50 => 45 | 5 => 5 | 9 => 9 | 66 => 168 | 70 => 172 | 76 => 178 | 77 => 179 | n => n, fun n => n⟩
theorem srtE_lay : SlLaysF0.n6 Tryz.prog srtE_ren where
  mixed := by kernel_rfl
  f6 := ⟨Tryz.f61.name, by kernel_rfl, Tryz.func61.trans (congrArg some (by kernel_rfl))⟩
  f14 := ⟨Tryz.f89.name, by kernel_rfl, Tryz.func89.trans (congrArg some (by kernel_rfl))⟩
  f15 := Tryz.func77.trans (congrArg some (by kernel_rfl))
  f20 := ⟨Tryz.f115.name, by kernel_rfl, Tryz.func115.trans (congrArg some (by kernel_rfl))⟩
  f21 := ⟨Tryz.f116.name, by kernel_rfl, Tryz.func116.trans (congrArg some (by kernel_rfl))⟩
  f22 := ⟨Tryz.f117.name, by kernel_rfl, Tryz.func117.trans (congrArg some (by kernel_rfl))⟩
  f23 := ⟨Tryz.f118.name, by kernel_rfl, Tryz.func118.trans (congrArg some (by kernel_rfl))⟩
  f24 := ⟨Tryz.f119.name, by kernel_rfl, Tryz.func119.trans (congrArg some (by kernel_rfl))⟩
  f25 := ⟨Tryz.f120.name, by kernel_rfl, Tryz.func120.trans (congrArg some (by kernel_rfl))⟩
  f26 := ⟨Tryz.f121.name, by kernel_rfl, Tryz.func121.trans (congrArg some (by kernel_rfl))⟩
  f27 := ⟨Tryz.f122.name, by kernel_rfl, Tryz.func122.trans (congrArg some (by kernel_rfl))⟩
  f28 := Tryz.func107.trans (congrArg some (by kernel_rfl))
  f29 := Tryz.func108.trans (congrArg some (by kernel_rfl))
  f46 := ⟨Tryz.f133.name, by kernel_rfl, Tryz.func133.trans (congrArg some (by kernel_rfl))⟩
  f47 := Tryz.func129.trans (congrArg some (by kernel_rfl))
  f48 := Tryz.func130.trans (congrArg some (by kernel_rfl))
  f49 := ⟨Tryz.f134.name, by kernel_rfl, Tryz.func134.trans (congrArg some (by kernel_rfl))⟩
  f50 := ⟨Tryz.f135.name, by kernel_rfl, Tryz.func135.trans (congrArg some (by kernel_rfl))⟩
  f57 := ⟨Tryz.f140.name, by kernel_rfl, Tryz.func140.trans (congrArg some (by kernel_rfl))⟩
  t0 := Tryz.underlying0
  a0 := Tryz.isAgg0
  z0 := Tryz.sizeOf0
  v0 := Tryz.zeroValue0
  t3 := Tryz.underlying3
  a3 := Tryz.isAgg3
  z3 := Tryz.sizeOf3
  v3 := Tryz.zeroValue3
  t4 := Tryz.underlying4
  a4 := Tryz.isAgg4
  z4 := Tryz.sizeOf4
  v4 := Tryz.zeroValue4
  t5 := Tryz.underlying5
  a5 := Tryz.isAgg5
  z5 := Tryz.sizeOf5
  v5 := Tryz.zeroValue5
  t9 := Tryz.underlying9
  a9 := Tryz.isAgg9
  z9 := Tryz.sizeOf9
  v9 := Tryz.zeroValue9
  t22 := Tryz.underlying62
  a22 := Tryz.isAgg62
  z22 := Tryz.sizeOf62
  v22 := Tryz.zeroValue62
  t25 := Tryz.underlying81
  a25 := Tryz.isAgg81
  z25 := Tryz.sizeOf81
  v25 := Tryz.zeroValue81
  t39 := Tryz.underlying51
  a39 := Tryz.isAgg51
  z39 := Tryz.sizeOf51
  v39 := Tryz.zeroValue51
  t45 := Tryz.underlying143
  a45 := Tryz.isAgg143
  z45 := Tryz.sizeOf143
  v45 := Tryz.zeroValue143
  t46 := Tryz.underlying144
  a46 := Tryz.isAgg144
  z46 := Tryz.sizeOf144
  v46 := Tryz.zeroValue144
  t50 := Tryz.underlying45
  a50 := Tryz.isAgg45
  z50 := Tryz.sizeOf45
  v50 := Tryz.zeroValue45
  t53 := Tryz.underlying61
  a53 := Tryz.isAgg61
  z53 := Tryz.sizeOf61
  v53 := Tryz.zeroValue61
  t55 := Tryz.underlying99
  a55 := Tryz.isAgg99
  z55 := Tryz.sizeOf99
  v55 := Tryz.zeroValue99
  t66 := Tryz.underlying168
  a66 := Tryz.isAgg168
  z66 := Tryz.sizeOf168
  v66 := Tryz.zeroValue168
  t70 := Tryz.underlying172
  a70 := Tryz.isAgg172
  z70 := Tryz.sizeOf172
  v70 := Tryz.zeroValue172
  t76 := Tryz.underlying178
  a76 := Tryz.isAgg178
  z76 := Tryz.sizeOf178
  v76 := Tryz.zeroValue178
  t77 := Tryz.underlying179
  a77 := Tryz.isAgg179
  z77 := Tryz.sizeOf179
  v77 := Tryz.zeroValue179
def srtX_ren : Go.Shelf.Ren := ⟨fun | 6 => 48 | 14 => 76 | 15 => 77 | 20 => 99 | 21 => 100 | 22 => 101 | 23 => 102 | 24 => 103 | 25 => 104 | 26 => 105 | 27 => 106 | 28 => 107 | 29 => 108 | 46 => 128 | 47 => 129 | 48 => 130 | 49 => 131 | 50 => 132 | 57 => 139 | n => n, fun | 22 => 38 | 24 => 48 | 25 => 96 | 3 => 3 | 39 => 51 | 0 => 0 | 53 => 61 | 55 => 99 | 4 => 4 | 46 => 144 | 45 => 143 | 50 => 45 | 5 => 5 | 9 => 9 | 66 => 168 | 70 => 172 | 76 => 178 | 77 => 179 | n => n, fun n => n⟩
theorem srtX_lay : SlLaysF0.n6 Tryz.prog srtX_ren where
  mixed := by kernel_rfl
  f6 := ⟨Tryz.f48.name, by kernel_rfl, Tryz.func48.trans (congrArg some (by kernel_rfl))⟩
  f14 := ⟨Tryz.f76.name, by kernel_rfl, Tryz.func76.trans (congrArg some (by kernel_rfl))⟩
  f15 := Tryz.func77.trans (congrArg some (by kernel_rfl))
  f20 := ⟨Tryz.f99.name, by kernel_rfl, Tryz.func99.trans (congrArg some (by kernel_rfl))⟩
  f21 := ⟨Tryz.f100.name, by kernel_rfl, Tryz.func100.trans (congrArg some (by kernel_rfl))⟩
  f22 := ⟨Tryz.f101.name, by kernel_rfl, Tryz.func101.trans (congrArg some (by kernel_rfl))⟩
  f23 := ⟨Tryz.f102.name, by kernel_rfl, Tryz.func102.trans (congrArg some (by kernel_rfl))⟩
  f24 := ⟨Tryz.f103.name, by kernel_rfl, Tryz.func103.trans (congrArg some (by kernel_rfl))⟩
  f25 := ⟨Tryz.f104.name, by kernel_rfl, Tryz.func104.trans (congrArg some (by kernel_rfl))⟩
  f26 := ⟨Tryz.f105.name, by kernel_rfl, Tryz.func105.trans (congrArg some (by kernel_rfl))⟩
  f27 := ⟨Tryz.f106.name, by kernel_rfl, Tryz.func106.trans (congrArg some (by kernel_rfl))⟩
  f28 := Tryz.func107.trans (congrArg some (by kernel_rfl))
  f29 := Tryz.func108.trans (congrArg some (by kernel_rfl))
  f46 := ⟨Tryz.f128.name, by kernel_rfl, Tryz.func128.trans (congrArg some (by kernel_rfl))⟩
  f47 := Tryz.func129.trans (congrArg some (by kernel_rfl))
  f48 := Tryz.func130.trans (congrArg some (by kernel_rfl))
  f49 := ⟨Tryz.f131.name, by kernel_rfl, Tryz.func131.trans (congrArg some (by kernel_rfl))⟩
  f50 := ⟨Tryz.f132.name, by kernel_rfl, Tryz.func132.trans (congrArg some (by kernel_rfl))⟩
  f57 := ⟨Tryz.f139.name, by kernel_rfl, Tryz.func139.trans (congrArg some (by kernel_rfl))⟩
  t0 := Tryz.underlying0
  a0 := Tryz.isAgg0
  z0 := Tryz.sizeOf0
  v0 := Tryz.zeroValue0
  t3 := Tryz.underlying3
  a3 := Tryz.isAgg3
  z3 := Tryz.sizeOf3
  v3 := Tryz.zeroValue3
  t4 := Tryz.underlying4
  a4 := Tryz.isAgg4
  z4 := Tryz.sizeOf4
  v4 := Tryz.zeroValue4
  t5 := Tryz.underlying5
  a5 := Tryz.isAgg5
  z5 := Tryz.sizeOf5
  v5 := Tryz.zeroValue5
  t9 := Tryz.underlying9
  a9 := Tryz.isAgg9
  z9 := Tryz.sizeOf9
  v9 := Tryz.zeroValue9
  t22 := Tryz.underlying38
  a22 := Tryz.isAgg38
  z22 := Tryz.sizeOf38
  v22 := Tryz.zeroValue38
  t25 := Tryz.underlying96
  a25 := Tryz.isAgg96
  z25 := Tryz.sizeOf96
  v25 := Tryz.zeroValue96
  t39 := Tryz.underlying51
  a39 := Tryz.isAgg51
  z39 := Tryz.sizeOf51
  v39 := Tryz.zeroValue51
  t45 := Tryz.underlying143
  a45 := Tryz.isAgg143
  z45 := Tryz.sizeOf143
  v45 := Tryz.zeroValue143
  t46 := Tryz.underlying144
  a46 := Tryz.isAgg144
  z46 := Tryz.sizeOf144
  v46 := Tryz.zeroValue144
  t50 := Tryz.underlying45
  a50 := Tryz.isAgg45
  z50 := Tryz.sizeOf45
  v50 := Tryz.zeroValue45
  t53 := Tryz.underlying61
  a53 := Tryz.isAgg61
  z53 := Tryz.sizeOf61
  v53 := Tryz.zeroValue61
  t55 := Tryz.underlying99
  a55 := Tryz.isAgg99
  z55 := Tryz.sizeOf99
  v55 := Tryz.zeroValue99
  t66 := Tryz.underlying168
  a66 := Tryz.isAgg168
  z66 := Tryz.sizeOf168
  v66 := Tryz.zeroValue168
  t70 := Tryz.underlying172
  a70 := Tryz.isAgg172
  z70 := Tryz.sizeOf172
  v70 := Tryz.zeroValue172
  t76 := Tryz.underlying178
  a76 := Tryz.isAgg178
  z76 := Tryz.sizeOf178
  v76 := Tryz.zeroValue178
  t77 := Tryz.underlying179
  a77 := Tryz.isAgg179
  z77 := Tryz.sizeOf179
  v77 := Tryz.zeroValue179

instance : Inhabited Nm := ⟨n0⟩
theorem sorted_perm {cf : Nm → Nm → Int} {l : List Nm} {d' : Array Nm} (hp : Sort.PermIn 0 l.toArray.size l.toArray d') (hs : Sort.SortedIn (ltOf cf) 0 l.toArray.size d') :
    d'.size = l.length ∧ d'.toList.Perm l ∧ d'.toList.Pairwise (fun a b => ltOf cf b a = false) := by
  have h1 : d'.size = l.length := by simpa using hp.1
  refine ⟨h1, ?_, ?_⟩
  · have := hp.2.2
    rw [Array.extract_eq_self_of_le (by simp [h1]), Array.extract_eq_self_of_le (by simp)] at this
    exact this
  · rw [List.pairwise_iff_getElem]
    intro i j hi hj hij
    have := hs i j (Nat.zero_le _) hij (by simpa [h1] using hj)
    rw [getElem!_pos d' j (by simpa using hj), getElem!_pos d' i (by simpa using hi)] at this
    simpa using this
/-- What a sort leaves of names that are all apart: sortR. -/
theorem sorted_is {o : Nm → Nm → Bool} (ht : ∀ a b c, o a b = true → o b c = true → o a c = true) (hi : ∀ a, o a a = false) {l m : List Nm} (hl : l.Pairwise (fun a b => o a b = true ∨ o b a = true)) (hp : m.Perm l) (hs : m.Pairwise (fun a b => o b a = false)) : m = sortR o l := by
  refine pair_unique ht hi m (sortR o l) ?_ (sortR_pair ht l hl) fun y => by rw [sortR_mem, hp.mem_iff]
  have hsym : m.Pairwise (fun a b => o a b = true ∨ o b a = true) := (hp.pairwise_iff (fun h => h.symm)).2 hl
  have := hs.and hsym
  refine this.imp ?_
  intro a b ⟨h1, h2⟩
  rcases h2 with h2 | h2
  · exact h2
  · rw [h1] at h2; cases h2

theorem sortE_any (base : Nat) (A : Option Addr) (n c : Nat) (l : List Nm) (w : World) (h : OwnC EN w base (.slice A n c) l) (hn : n ≤ 1099511627776) (hl : apart l) :
    Calls Tryz.prog 61 #[.slice A n c, .func (.func 39) #[] #[]] w fun e w' => e = .returned (.tuple #[]) ∧ OwnC EN w' base (.slice A n c) (sortR ordB l) ∧ w.grownBy w' (Value.slice A n c).ownBlock := by
  have hln := h.fits.1
  subst hln
  rcases Nat.eq_zero_or_pos l.length with h0 | h0
  · have hnil : l = [] := List.eq_nil_of_length_eq_zero h0
    have hcon := AnyF.slices_SortFunc_none srtE_lay A c (.func (.func 39) #[] #[]) w
    change Calls Tryz.prog 61 _ _ _ at hcon
    rw [h0] at h ⊢
    refine hcon.mono ?_
    rintro e w' ⟨rfl, rfl⟩
    refine ⟨rfl, ?_, World.grownBy.refl _ _⟩
    rw [hnil] at h ⊢
    exact h
  · obtain ⟨g, rfl, h1, h2, _⟩ := h.form h0
    have eg : ∀ args w, (callFunc 39 args).run Tryz.prog w = .ok (.enter 39 args) w := enters_of Tryz.func39 (by kernel_rfl) rfl
    have hcon := AnyQ.slices_SortFunc srtE_lay 3 Tryz.isAgg68 Tryz.sizeOf68 eL (fun _ => rfl) (EN_ok.one) cmpE swo_E 39 #[] g 0 c l.toArray w eg (fun _ _ _ _ x y => order_any x y _) (h.holdsK EN_ok) h2 (by simp; omega)
    change Calls Tryz.prog 61 _ _ _ at hcon
    rw [show l.toArray.size = l.length by simp] at hcon
    refine hcon.mono ?_
    rintro e w' ⟨rfl, d', m, os, hp, hs, rfl⟩
    obtain ⟨hd, hperm, hpair⟩ := sorted_perm (cf := cmpE) (l := l) hp (by simpa using hs)
    rw [cmpE_lt] at hpair
    obtain ⟨k1, k2⟩ := h.sorted EN_ok d' hd m os
    rw [sorted_is ordB_trans (fun a => bel_irrefl a.t) (apart_B hl) hperm hpair] at k1
    exact ⟨rfl, k1, k2⟩
theorem sortX_any (base : Nat) (A : Option Addr) (n c : Nat) (l : List Nm) (w : World) (h : OwnX w base (.slice A n c) l) (hn : n ≤ 1099511627776) (hl : apart l) :
    Calls Tryz.prog 48 #[.slice A n c, .func (.func 49) #[] #[]] w fun e w' => e = .returned (.tuple #[]) ∧ OwnX w' base (.slice A n c) (sortR ordN l) ∧ w.grownBy w' (Value.slice A n c).ownBlock := by
  rw [ownX_C] at h
  have hln := h.fits.1
  subst hln
  rcases Nat.eq_zero_or_pos l.length with h0 | h0
  · have hnil : l = [] := List.eq_nil_of_length_eq_zero h0
    have hcon := AnyF.slices_SortFunc_none srtX_lay A c (.func (.func 49) #[] #[]) w
    change Calls Tryz.prog 48 _ _ _ at hcon
    rw [h0] at h ⊢
    refine hcon.mono ?_
    rintro e w' ⟨rfl, rfl⟩
    refine ⟨rfl, ?_, World.grownBy.refl _ _⟩
    rw [hnil] at h ⊢
    exact h
  · obtain ⟨g, rfl, h1, h2, _⟩ := h.form h0
    have eg : ∀ args w, (callFunc 49 args).run Tryz.prog w = .ok (.enter 49 args) w := enters_of Tryz.func49 (by kernel_rfl) rfl
    have hcon := AnyQ.slices_SortFunc srtX_lay 2 Tryz.isAgg48 Tryz.sizeOf48 Nm.cl (fun _ => rfl) (XK_ok.one) cmpX swo_X 49 #[] g 0 c l.toArray w eg (fun _ _ _ _ x y => cmpX_any x y _) (h.holdsK XK_ok) h2 (by simp; omega)
    change Calls Tryz.prog 48 _ _ _ at hcon
    rw [show l.toArray.size = l.length by simp] at hcon
    refine hcon.mono ?_
    rintro e w' ⟨rfl, d', m, os, hp, hs, rfl⟩
    obtain ⟨hd, hperm, hpair⟩ := sorted_perm (cf := cmpX) (l := l) hp (by simpa using hs)
    rw [cmpX_lt] at hpair
    obtain ⟨k1, k2⟩ := h.sorted XK_ok d' hd m os
    rw [sorted_is ordN_trans (fun a => less_irrefl a.t) (apart_N hl) hperm hpair] at k1
    exact ⟨rfl, k1, k2⟩
end Go.Proofs.YtbagocghlijleaaGreat.Ht
