/- Two disks beside each other, the program's and the document's, through deeds: what each round of a law leaves. -/
import Derived.Test.YtkgpdpmdkkmifaaDkBothV
import Derived.Test.YtkgpdpmdkkmifaaDkCopy
import Derived.Test.YtkgpdpmdkkmifaaDkWide
namespace Go.Proofs.Ytkgpdpmdkkmifaa.Disk
set_option maxRecDepth 20000
open Go.ChangeShapes Go.WideShapes Go.ChangeAt Go.RowKit Go.Deep
open Go.Proofs.Ytkgpdpmdkkmifaa.Mem Go.Proofs.Ytkgpdpmdkkmifaa.Lift

/-- The stable bytes of the document's disk, as its field holds them. -/
theorem RefDisk.bytes {w : World} {r c : Nat} {d : Dk.Dk} {F : Nat → Prop} (h : RefDisk w r d c F) : ∃ A n cp, w.cell? ⟨r, 0, none⟩ = some (.slice A n cp) ∧ Holds w w.heap.size A n d.stable.flatten := by
  obtain ⟨R, vb, vw, vg, hA, hR, _, _, _⟩ := h
  have h0 := hA.f0
  obtain ⟨A, cp, rfl, hh⟩ := hA.st.holds
  exact ⟨A, _, cp, h0, by rw [← hR.st]; exact hh⟩
/-- As many Writes as are pending. -/
theorem RefDisk.count {w : World} {r c : Nat} {d : Dk.Dk} {F : Nat → Prop} (h : RefDisk w r d c F) : ∃ A cp, w.cell? ⟨r, 1, none⟩ = some (.slice A d.pend.length cp) := by
  obtain ⟨R, vb, vw, vg, hA, hR, _, _, _⟩ := h
  have h1 : w.cell? ⟨r, 1, none⟩ = some vw := cell_of_row w r 1 _ _ _ hA.head
  obtain ⟨A, cp, rfl⟩ := hA.ws.shape
  have e : R.ws.length = d.pend.length := by rw [← hR.ws, List.length_map]
  exact ⟨A, cp, by rw [← e]; exact h1⟩

structure Duo (w W : World) (p r : Nat) (d : Dk.Dk) (c : Nat) (F G : Nat → Prop) : Prop where
  one : DiskAt W p d c F
  two : RefDisk W r d c G
  apart : ∀ k, F k → ¬ G k
  lowF : ∀ k, F k → w.heap.size ≤ k
  lowG : ∀ k, G k → w.heap.size ≤ k
  below : Below w.heap.size w W
theorem Duo.turns {w W W' : World} {p r c : Nat} {d : Dk.Dk} {F G : Nat → Prop} (h : Duo w W p r d c F G) (ht : Turns (fun _ => False) W W') : Duo w W' p r d c F G :=
  ⟨h.one.turns ht (fun _ _ e => e), h.two.turns ht (fun _ _ e => e), h.apart, h.lowF, h.lowG, h.below.trans (ht.below (fun _ e => e.elim) h.below.size)⟩
theorem Duo.below' {w W W' : World} {p r c : Nat} {d : Dk.Dk} {F G : Nat → Prop} (h : Duo w W p r d c F G) (hb : Below W.heap.size W W') : Duo w W' p r d c F G := h.turns (Turns.of_below hb)
theorem Duo.step {w W W' : World} {p r c c' : Nat} {d d' : Dk.Dk} {F G F' G' : Nat → Prop} (h : Duo w W p r d c F G) (hb : Both W W' p r d' c' w.heap.size F G F' G') : Duo w W' p r d' c' F' G' :=
  ⟨hb.one, hb.two, hb.apart, hb.lowF, hb.lowG, h.below.trans (hb.turns.below (fun k e => e.elim (h.lowF k) (h.lowG k)) h.below.size)⟩

/-- A deed done to both. -/
theorem duo_both (x : DeedR) {w W : World} {p r c : Nat} {d : Dk.Dk} {F G : Nat → Prop} (h : Duo w W p r d c F G) (hx : x.Is w w.heap.size) (hn : x.n ≤ 140737488351232) (hc : c < 1048576) :
    Calls Try.prog 9 #[ptr p, ptr r, .agg #[.int .i64 x.op, .int .i64 x.blk, .int .u8 (x.fill.toNat : Int), .bool x.short, .slice x.A x.n x.c]] W fun e W' => e = .returned (.bool true) ∧ ∃ d' F' G', Duo w W' p r d' (c + 1) F' G' := by
  refine (both_d x.op x.blk x.fill x.short x.A x.n x.c w.heap.size x.bs d p r c F G W h.one h.two hc h.apart h.lowF h.lowG (hx.bits.below h.below) h.below.size (by omega) hx.blk.2).mono ?_
  rintro e W' ⟨he, F', G', hb⟩
  exact ⟨he, _, F', G', h.step hb⟩

theorem duo_both' (x : DeedR) {w W : World} {p r c : Nat} {d : Dk.Dk} {F G : Nat → Prop} (h : Duo w W p r d c F G) (hx : x.Is w w.heap.size) (hn : x.n ≤ 140737488351232) (hc : c < 1048576) :
    Calls Try.prog 9 #[.pointer (some ⟨p, 0, none⟩), .pointer (some ⟨r, 0, none⟩), .agg #[.int .i64 x.op, .int .i64 x.blk, .int .u8 (x.fill.toNat : Int), .bool x.short, .slice x.A x.n x.c]] W fun e W' => e = .returned (.bool true) ∧ Below w.heap.size W W' ∧ ∃ d' F' G', Duo w W' p r d' (c + 1) F' G' := by
  refine (both_d x.op x.blk x.fill x.short x.A x.n x.c w.heap.size x.bs d p r c F G W h.one h.two hc h.apart h.lowF h.lowG (hx.bits.below h.below) h.below.size (by omega) hx.blk.2).mono ?_
  rintro e W' ⟨he, F', G', hb⟩
  exact ⟨he, hb.turns.below (fun k e => e.elim (h.lowF k) (h.lowG k)) h.below.size, _, F', G', h.step hb⟩

/-- Both, new. -/
theorem duo_new {w W1 W2 : World} {p r n : Nat} {F G : Nat → Prop} (hd : DiskAt W1 p (Dk.Dk.new n) 0 F) (hF : ∀ k, F k → w.heap.size ≤ k) (hb : Below w.heap.size w W1) (hr : RefDisk W2 r (Dk.Dk.new n) 0 G) (hG : ∀ k, G k → W1.heap.size ≤ k) (hb2 : Below W1.heap.size W1 W2) : Duo w W2 p r (Dk.Dk.new n) 0 F G :=
  ⟨hd.turns (Turns.of_below (F := fun _ => False) hb2) (fun _ _ e => e), hr, fun k e e' => by have := hd.lt k e; have := hG k e'; omega, hF, fun k e => by have := hG k e; have := hb.size; omega, hb.trans (hb2.mono hb.size)⟩

/-- The copy in the disk's place. -/
theorem duo_copy {w W W' : World} {p q r c : Nat} {d : Dk.Dk} {F G F' : Nat → Prop} (h : Duo w W p r d c F G) (hd : DiskAt W' q d c F') (hF : ∀ k, F' k → W.heap.size ≤ k) (hb : Below W.heap.size W W') : Duo w W' q r d c F' G :=
  ⟨hd, h.two.turns (Turns.of_below (F := fun _ => False) hb) (fun _ _ e => e), fun k e e' => by have := h.two.lt k e'; have := hF k e; omega, fun k e => by have := hF k e; have := h.below.size; omega, h.lowG, h.below.trans (hb.mono h.below.size)⟩

theorem deeds_weights {H : Type} {ts : List TypeId} {ds : List (DataW H)} (h : (DataW.weightsEach Try.prog ts ds).all (· ≤ reachBytes) = true) {j : Nat} {d : DataW H} (ht : ts[j]? = some 22) (hd : ds[j]? = some d) :
    ∀ n ∈ d.weights Try.prog 22, n ≤ reachBytes := fun x hx => by
  simpa using List.all_eq_true.1 h _ (DataW.weights_mem_each ht hd x hx)
/-- What Read answers for whatever number of a block. -/
def rdBy (d : Dk.Dk) (i : Int) : List UInt8 := if hasB d.stable.length i then d.read i.toNat else []
def rdErr (d : Dk.Dk) (i : Int) : Int := if hasB d.stable.length i then 0 else 16
def RdAt (w : World) (bs : List UInt8) (er : Int) (e : Ending) (w' : World) : Prop := ∃ A n cp, e = .returned (.tuple #[.slice A n cp, .int .i64 er]) ∧ Holds w' w'.heap.size A n bs ∧ Below w.heap.size w w'
theorem holds_none (w : World) (B : Nat) : Holds w B none 0 [] := ⟨rfl, fun h => absurd h (by omega)⟩
theorem readA_d (i : Int) (d : Dk.Dk) (p c : Nat) (F : Nat → Prop) (w : World) (h : DiskAt w p d c F) (hc : c ≤ 1048576) :
    Calls Try.prog 11 #[ptr p, .int .i64 i] w (RdAt w (rdBy d i) (rdErr d i)) := by
  unfold rdBy rdErr
  cases hi : hasB d.stable.length i
  · refine (read_hasnt_d i d p c F w h hi).mono ?_
    rintro e w' ⟨he, rfl⟩
    exact ⟨none, 0, 0, he, holds_none _ _, Below.refl _ _⟩
  · obtain ⟨e1, e2⟩ := hasB_nat hi
    refine (read_d i i.toNat e1 d p c F w h e2 hc).mono ?_
    rintro e w' ⟨he, hl, rfl⟩
    refine ⟨_, _, _, he, ?_, (Below.refl _ w).alloc (Nat.le_refl _) _⟩
    have := holds_lit w (d.read i.toNat) _ rfl
    rw [hl] at this
    exact this.more (by simp)
theorem rreadA_d (i : Int) (d : Dk.Dk) (r c : Nat) (F : Nat → Prop) (w : World) (h : RefDisk w r d c F) (hc : c ≤ 1048576) :
    Calls Try.prog 12 #[ptr r, .int .i64 i] w (RdAt w (rdBy d i) (rdErr d i)) := by
  unfold rdBy rdErr
  cases hi : hasB d.stable.length i
  · obtain ⟨R, vb, vw, vg, hA, hR, h1, h2, hF⟩ := h
    refine (refRead_hasnt i d.stable.length R r vb vw vg (Own R) w hA hR.size hR.big.2 hi).mono ?_
    rintro e w' ⟨he, rfl⟩
    exact ⟨none, 0, 0, he, holds_none _ _, Below.refl _ _⟩
  · obtain ⟨e1, e2⟩ := hasB_nat hi
    have hcall := rread_d i.toNat d r c F w h hc e2
    rw [← e1] at hcall
    refine hcall.mono ?_
    rintro e w' ⟨v, he, ho, hb⟩
    obtain ⟨A, cp, rfl, hh⟩ := ho.holds
    exact ⟨A, _, cp, he, hh, hb⟩

theorem rnew_bad (i : Int) (w : World) (hb : mayB i = false) : Calls Try.prog 7 #[.int .i64 i] w fun e w' => e = .returned (.tuple #[.pointer none, .int .i64 1]) ∧ w = w' := by
  by_cases h0 : i < 1
  · clear hb
    go_enter Try.func7, Try.ntmps7
    go_wp2
    go_ret2
    exact ⟨rfl, rfl⟩
  · have h1 : (1024 : Int) < i := by simp [mayB] at hb; omega
    clear hb
    go_enter Try.func7, Try.ntmps7
    go_wp2
    go_ret2
    exact ⟨rfl, rfl⟩
theorem rsize_d (d : Dk.Dk) (r c : Nat) (F : Nat → Prop) (w : World) (h : RefDisk w r d c F) : Calls Try.prog 22 #[.pointer (some ⟨r, 0, none⟩)] w fun e w' => e = .returned (.int .i64 (d.stable.length : Int)) ∧ w = w' := by
  obtain ⟨R, vb, vw, vg, hA, hR, h1, h2, hF⟩ := h
  exact refSize_any R r d.stable.length vb vw vg (Own R) w hA hR.size hR.big.2
theorem Duo.beside {w W W' : World} {p r c : Nat} {d : Dk.Dk} {F G H : Nat → Prop} (h : Duo w W p r d c F G) (ht : Turns H W W') (hF : ∀ k, F k → ¬ H k) (hG : ∀ k, G k → ¬ H k) (hH : ∀ k, H k → w.heap.size ≤ k) : Duo w W' p r d c F G :=
  ⟨h.one.turns ht hF, h.two.turns ht hG, h.apart, h.lowF, h.lowG, h.below.trans (ht.below hH h.below.size)⟩
theorem DiskAt.later {w V : World} {p c : Nat} {d : Dk.Dk} {F : Nat → Prop} (h : DiskAt w p d c F) (hV : Below w.heap.size w V) : DiskAt V p d c F := h.turns (Turns.of_below (F := fun _ => False) hV) (fun _ _ e => e)
theorem RefDisk.later {w V : World} {p c : Nat} {d : Dk.Dk} {F : Nat → Prop} (h : RefDisk w p d c F) (hV : Below w.heap.size w V) : RefDisk V p d c F := h.turns (Turns.of_below (F := fun _ => False) hV) (fun _ _ e => e)

/-- Bytes that a call makes, and the text of them whatever comes then. -/
def Texts (V : World) (S : ByteArray) (e : Ending) (V' : World) : Prop := ∃ A n c, e = .returned (.slice A n c) ∧ Below V.heap.size V V' ∧ ∀ V2, Below V'.heap.size V' V2 → (convert 33 9 (.slice A n c)).run Try.prog V2 = .ok (.string S) V2
def txt (bs : List UInt8) : ByteArray := ⟨bs.toArray⟩
theorem image_t {d : Dk.Dk} {p c : Nat} {F : Nat → Prop} {w : World} (h : DiskAt w p d c F) (hc : c ≤ 1048576) : ∀ V, Below w.heap.size w V → Calls Try.prog 14 #[.pointer (some ⟨p, 0, none⟩)] V (Texts V (txt d.image.flatten)) := fun V hV => by
  refine (image_d d p c F V (h.later hV) hc).mono ?_
  rintro e V' ⟨A, cp, rfl, ho, hb⟩
  exact ⟨A, _, cp, rfl, hb, fun V2 h2 => run_text V2 _ A _ cp _ ((owned_holds ho).below h2)⟩
theorem stable_t {d : Dk.Dk} {p c : Nat} {F : Nat → Prop} {w : World} (h : DiskAt w p d c F) : ∀ V, Below w.heap.size w V → Calls Try.prog 16 #[.pointer (some ⟨p, 0, none⟩)] V (Texts V (txt d.stable.flatten)) := fun V hV => by
  refine (stable_d d p c F V (h.later hV)).mono ?_
  rintro e V' ⟨A, cp, rfl, ho, hb⟩
  exact ⟨A, _, cp, rfl, hb, fun V2 h2 => run_text V2 _ A _ cp _ ((owned_holds ho).below h2)⟩
theorem rimage_t {d : Dk.Dk} {p c : Nat} {F : Nat → Prop} {w : World} (h : RefDisk w p d c F) (hc : c ≤ 1048576) : ∀ V, Below w.heap.size w V → Calls Try.prog 15 #[.pointer (some ⟨p, 0, none⟩)] V (Texts V (txt d.image.flatten)) := fun V hV => by
  refine (rimage_d d p c F V (h.later hV) hc).mono ?_
  rintro e V' ⟨v, rfl, ho, hb⟩
  obtain ⟨A, cp, rfl, hh⟩ := ho.holds
  exact ⟨A, _, cp, rfl, hb, fun V2 h2 => run_text V2 _ A _ cp _ (hh.below h2)⟩
theorem pending_t {d : Dk.Dk} {p c : Nat} {F : Nat → Prop} {w : World} (h : DiskAt w p d c F) : ∀ V, Below w.heap.size w V → Calls Try.prog 10 #[.pointer (some ⟨p, 0, none⟩)] V fun e V' => e = .returned (.int .i64 (d.pend.length : Int)) ∧ V = V' := fun V hV => pending_d d p c F V (h.later hV)
/-- What is read of the fields of the document's disk. -/
theorem RefDisk.fields {w : World} {r c : Nat} {d : Dk.Dk} {F : Nat → Prop} (h : RefDisk w r d c F) : ∃ A0 n0 c0 A1 c1, ∀ V, Below w.heap.size w V → (V.cell? ⟨r, 0, none⟩ = some (.slice A0 n0 c0) ∧ V.cell? ⟨r, 1, none⟩ = some (.slice A1 d.pend.length c1) ∧ (convert 33 9 (.slice A0 n0 c0)).run Try.prog V = .ok (.string (txt d.stable.flatten)) V) := by
  obtain ⟨A0, n0, c0, hy0, hh0⟩ := h.bytes
  obtain ⟨A1, c1, hy1⟩ := h.count
  refine ⟨A0, n0, c0, A1, c1, fun V hV => ?_⟩
  have hr : r < w.heap.size := block_lt_of_cell hy0
  exact ⟨(hV.cell (p := ⟨r, 0, none⟩) hr).trans hy0, (hV.cell (p := ⟨r, 1, none⟩) hr).trans hy1, run_text V w.heap.size A0 n0 c0 _ (hh0.below hV)⟩
end Go.Proofs.Ytkgpdpmdkkmifaa.Disk
