/- The fixed fact of layer 14, and the calls' contracts in the form in which a law takes them. -/
import Derived.Test.YtamhbjpoganhnaaPhSplit
import Derived.Test.YtamhbjpoganhnaaPhRSplit
import Derived.Test.YtamhbjpoganhnaaPhJoins
import Derived.Test.YtamhbjpoganhnaaPhSame
namespace Go.Proofs.Ytamhbjpoganhnaa.Ph
set_option maxRecDepth 20000
open Go.RowKit
open Go.Proofs.Ytamhbjpoganhnaa.Lf Go.Proofs.Ytamhbjpoganhnaa.Mem Go.Proofs.Ytamhbjpoganhnaa.Reg

def SplitS (f : Nat) : Prop := ∀ (p : List UInt8) (w : World), p.length ≤ maxLen → Calls Try.prog f #[.string ⟨p.toArray⟩] w fun E w' => ∃ A c, E = .returned (.tuple #[.slice A (splitP p).1.length c, .bool (splitP p).2.1, .int .i64 (splitP p).2.2]) ∧ OwnC SK w' w.heap.size (.slice A (splitP p).1.length c) (splitP p).1 ∧ Below w.heap.size w w'
theorem split_S : SplitS 9 := fun p w hp => (split_any p hp w).mono fun E w' ⟨v, h1, h2, h3⟩ => by
  obtain ⟨A, c, rfl⟩ := h2.shape
  exact ⟨A, c, h1, h2, h3⟩
theorem rsplit_S : SplitS 10 := fun p w hp => (rsplit_any p hp w).mono fun E w' ⟨v, h1, h2, h3⟩ => by
  obtain ⟨A, c, rfl⟩ := h2.shape
  exact ⟨A, c, h1, h2, h3⟩
def PlainS (f : Nat) : Prop := ∀ (A : Option Addr) (n c B : Nat) (l : List (List UInt8)) (w : World), HoldsC SK w B A n l → B ≤ w.heap.size → n ≤ 8796093021952 → Calls Try.prog f #[.slice A n c] w fun E w' => ∃ A' c', E = .returned (.slice A' (plainP l).length c') ∧ OwnC SK w' w.heap.size (.slice A' (plainP l).length c') (plainP l) ∧ Below w.heap.size w w'
theorem plain_S : PlainS 14 := fun A n c B l w h hB hn => (plain_any A n c B l w h hB hn).mono fun E w' ⟨v, h1, h2, h3⟩ => by
  obtain ⟨A', c', rfl⟩ := h2.shape
  exact ⟨A', c', h1, h2, h3⟩
theorem rplain_S : PlainS 15 := fun A n c B l w h hB hn => (rplain_any A n c B l w h hB hn).mono fun E w' ⟨v, h1, h2, h3⟩ => by
  obtain ⟨A', c', rfl⟩ := h2.shape
  exact ⟨A', c', h1, h2, h3⟩
def onePath : List UInt8 := [47, 97, 47, 47, 98, 47, 46]
theorem one_split : splitP onePath = ([[97], [98]], true, 0) := by decide +kernel
theorem one_join : joinP [[97], [98]] = ([47, 97, 47, 98], 0) := by decide +kernel
set_option maxRecDepth 100000 in
set_option maxHeartbeats 2000000 in
theorem alive_any (w : World) :
    Calls Try.prog 8 #[] w fun e w' => e = .returned (.bool true) ∧ Below w.heap.size w w' := by
  have hs := split_S onePath w (by unfold maxLen onePath; decide)
  rw [one_split] at hs
  have HS : Hid (Calls Try.prog 9 #[.string ⟨#[47, 97, 47, 47, 98, 47, 46]⟩] w _) := Lib.hid hs
  clear hs
  go_enter Try.func8, Try.ntmps8
  go_wp2_with fail
  with_reducible refine HS.out.mono ?_
  rintro E w1 ⟨A, c, rfl, ho, hb1⟩
  dsimp only [List.length_cons, List.length_nil] at ho ⊢
  have hj := join_any A 2 c w1.heap.size [[97], [98]] w1 (ho.reads skOk) (Nat.le_refl _) (by omega) ho.fits.2.1 (fun x hx => by
    have : x = [97] ∨ x = [98] := by simpa using hx
    rcases this with rfl | rfl <;> (unfold maxLen; decide))
  unfold Join2 at hj
  rw [one_join] at hj
  have HJ : Hid (Calls Try.prog 12 #[.slice A 2 c] w1 fun E w' => E = .returned (.tuple #[.string ⟨#[47, 97, 47, 98]⟩, .int .i64 0]) ∧ Below w1.heap.size w1 w') := Lib.hid hj
  clear hj
  have HO := Lib.hid ho; clear ho HS
  have HB1 := Lib.hid hb1; clear hb1
  go_wp2_with fail
  with_reducible refine HJ.out.mono ?_
  rintro E w2 ⟨rfl, hb2⟩
  have hh := (HO.out.reads skOk).below hb2
  obtain ⟨b, off, rfl, -⟩ := hh.addr (by omega)
  have hc1 : w2.cell? ⟨b, off + 1, none⟩ = some (.string ⟨#[98]⟩) := sk_cell hh 1 (by decide)
  have HB2 : Hid (Below w.heap.size w w2) := Lib.hid (HB1.out.trans (hb2.mono HB1.out.size))
  clear hh HO HJ hb2
  go_wp2
  go_ret
  exact ⟨rfl, HB2.out⟩
end Go.Proofs.Ytamhbjpoganhnaa.Ph
