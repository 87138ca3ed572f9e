/- The document's recovery: what its Load, Chain, Scan and Recover make of a disk. -/
import Derived.Test.YtelnoibfamcnmaaGreatRpArg
import Derived.Test.YtelnoibfamcnmaaGreatDkLoad
import Derived.Test.YtelnoibfamcnmaaGreatLgDocP
import Derived.Test.YtelnoibfamcnmaaGreatRfDec
namespace Go.Proofs.YtelnoibfamcnmaaGreat.Rp
set_option maxRecDepth 20000
open Go.RowKit
open Go.Proofs.YtelnoibfamcnmaaGreat.Mem Go.Proofs.YtelnoibfamcnmaaGreat.Crc Go.Proofs.YtelnoibfamcnmaaGreat.Disk Go.Proofs.YtelnoibfamcnmaaGreat.Log
open Go.Proofs.YtelnoibfamcnmaaGreat.Rec (Tx Wt TxAt OwnsT OwnsT.holds OwnsT.kept decB tellL nW nR tellL_lens refdec_any DecPost Decoded Undecoded zeroTx)

theorem nil_of (S L : Int) (w : World) :
    Calls Tryz.prog 49 #[.pointer none, .int .i64 S, .int .i64 L] w fun e w' => e = .returned (.tuple #[noArea, .bool false]) ∧ Below w.heap.size w w' := by
  have hh : ∀ o, (w.alloc (.cells #[.pointer none, .int .i64 0, .int .i64 0] 66 o)).heap[w.heap.size]? = some (.cells #[.pointer none, .int .i64 0, .int .i64 0] 66 o) := fun o => heap_alloc_new w _
  have HH := Lib.hid hh; clear hh
  unfold noArea
  by_cases g1 : L < 8
  · go_enter Tryz.func49, Tryz.ntmps49
    go_wp2
    have q0 := cell_of_row _ w.heap.size 0 _ _ _ (HH.out (0, 0))
    have q1 := cell_of_row _ w.heap.size 1 _ _ _ (HH.out (0, 0))
    have q2 := cell_of_row _ w.heap.size 2 _ _ _ (HH.out (0, 0))
    refine bodyPost_ret (v := .tuple #[.agg #[.pointer none, .int .i64 0, .int .i64 0], .bool false]) (by simp [results, go_sem, q0, q1, q2]) rfl ?_
    exact ⟨rfl, (Below.refl _ w).alloc (Nat.le_refl _) _⟩
  by_cases g2 : (1024 : Int) < L
  · go_enter Tryz.func49, Tryz.ntmps49
    go_wp2
    have q0 := cell_of_row _ w.heap.size 0 _ _ _ (HH.out (0, 0))
    have q1 := cell_of_row _ w.heap.size 1 _ _ _ (HH.out (0, 0))
    have q2 := cell_of_row _ w.heap.size 2 _ _ _ (HH.out (0, 0))
    refine bodyPost_ret (v := .tuple #[.agg #[.pointer none, .int .i64 0, .int .i64 0], .bool false]) (by simp [results, go_sem, q0, q1, q2]) rfl ?_
    exact ⟨rfl, (Below.refl _ w).alloc (Nat.le_refl _) _⟩
  by_cases g3 : S < 0
  · go_enter Tryz.func49, Tryz.ntmps49
    go_wp2
    have q0 := cell_of_row _ w.heap.size 0 _ _ _ (HH.out (0, 0))
    have q1 := cell_of_row _ w.heap.size 1 _ _ _ (HH.out (0, 0))
    have q2 := cell_of_row _ w.heap.size 2 _ _ _ (HH.out (0, 0))
    refine bodyPost_ret (v := .tuple #[.agg #[.pointer none, .int .i64 0, .int .i64 0], .bool false]) (by simp [results, go_sem, q0, q1, q2]) rfl ?_
    exact ⟨rfl, (Below.refl _ w).alloc (Nat.le_refl _) _⟩
  have g4 : (0 : Int) - L < S := by omega
  go_enter Tryz.func49, Tryz.ntmps49
  go_wp2_with fail
  refine (size_nil _).mono ?_
  rintro e w' ⟨rfl, rfl⟩
  go_wp2
  have q0 := cell_of_row _ w.heap.size 0 _ _ _ (HH.out (0, 0))
  have q1 := cell_of_row _ w.heap.size 1 _ _ _ (HH.out (0, 0))
  have q2 := cell_of_row _ w.heap.size 2 _ _ _ (HH.out (0, 0))
  refine bodyPost_ret (v := .tuple #[.agg #[.pointer none, .int .i64 0, .int .i64 0], .bool false]) (by simp [results, go_sem, q0, q1, q2]) rfl ?_
  exact ⟨rfl, (Below.refl _ w).alloc (Nat.le_refl _) _⟩

set_option maxHeartbeats 1000000 in
theorem nil_open (S L : Int) (w : World) :
    Calls Tryz.prog 19 #[.pointer none, .int .i64 S, .int .i64 L] w fun e w' => e = .returned (.tuple #[.pointer none, .int .i64 1]) ∧ Below w.heap.size w w' := by
  have hof := nil_of S L w
  unfold noArea at *
  have HOF := Lib.hid hof; clear hof
  go_enter Tryz.func19, Tryz.ntmps19
  go_wp2_with fail
  with_reducible refine HOF.out.mono ?_
  rintro e w1 ⟨rfl, hb1⟩
  clear HOF
  have HB1 := Lib.hid hb1; clear hb1
  go_wp2
  go_ret2
  exact ⟨rfl, HB1.out.alloc HB1.out.size _⟩
theorem rload_d (a : Addr) (N n c B : Nat) (bs : List UInt8) (w : World) (hn : N = 256 * n) (h1 : 1 ≤ n) (h2 : n ≤ 1024) (h : Holds w B (some a) N bs) (hB : B ≤ w.heap.size) (d : Dk.Dk) (hd : bs = d.stable.flatten) (hdn : d.stable.length = n) (hdo : d.Ok) (hdf : d.fuse = none) (hdp : d.pend = []) :
    Calls Tryz.prog 9 #[.slice (some a) N c] w fun e w' => ∃ r F, e = .returned (.tuple #[.pointer (some ⟨r, 0, none⟩), .int .i64 0]) ∧ RefDisk w' r d 0 F ∧ (∀ k, F k → w.heap.size ≤ k) ∧ Below w.heap.size w w' := by
  refine (refload_ok a N n c B bs w hn h1 h2 h hB).mono ?_
  rintro e w' ⟨r, A, c, rfl, hrow, hown, hr, hb⟩
  have hno : ∀ k, ¬ Disk.Own ⟨bs, [], [], false, 0⟩ k := by
    rintro k ⟨x, hx, _⟩
    simp at hx
  have hbase := Owned.base_le hown
  have hg := hdo.none d (not_blown hdf)
  have hA : RefAt w' r ⟨bs, [], [], false, 0⟩ (.slice A bs.length c) (.slice none 0 0) (.slice none 0 0) (Disk.Own ⟨bs, [], [], false, 0⟩) :=
    ⟨hrow, (show Row w' 5 1 (.slice A bs.length c) bs.length (bs.map byteV) from World.ownsRow.mono hown (Nat.zero_le _)), World.ownsRow_nil _ _ _ _, World.ownsRow_nil _ _ _ _, hno r, fun x hx => by simp at hx⟩
  refine ⟨r, fun k => k = r ∨ (Value.slice A bs.length c).ownBlock = some k, rfl, ⟨_, _, _, _, hA, ⟨hd, by rw [hdp]; rfl, by rw [hg]; rfl, by rw [hdf]; rfl, by rw [hdf]; rfl, hdo, by omega, Nat.le_refl _, by show (0 : Nat) ≤ _; omega⟩, fun k hk => absurd hk (hno k), fun k hk => by simp [Value.ownBlock] at hk, fun k => ⟨fun e => e.elim .inl (fun e => .inr (.inl e)), fun e => ?_⟩⟩, fun k hk => ?_, hb⟩
  · rcases e with e | e | e | e | e
    · exact .inl e
    · exact .inr e
    · simp [Value.ownBlock] at e
    · simp [Value.ownBlock] at e
    · exact absurd e (hno k)
  · rcases hk with e | e
    · omega
    · exact hbase k e

/-- A list of records of its own, with one more that lies in memory made since the world V0. -/
theorem live_append {V0 V : World} {B0 n s r nl q0 : Nat} {v : Value} {L : List LiveRec} (x : LiveRec) (ty : TypeId) (h : Live V0 (fun q => q < B0 ∨ v.ownBlock = some q) n s r v nl L) (hB : B0 ≤ V0.heap.size) (hb : Below V0.heap.size V0 V)
    (hnew : V.heap[q0]? = some (.cells #[.int .u64 (x.t.seq : Int), .slice x.Aw x.t.ws.length x.cw, .slice x.Ar x.t.rs.length x.cr] 63 (0, 0))) (hst : ∀ W, Turns (fun q => q < V0.heap.size) V W → x.At W) (hf : x.t.mayB = true ∧ takesB n s r x.t = true) (hl : nl < 1048576) :
    ∃ A' c' V', (Builtin.append_ #[24, 24] ty #[v, .slice (some ⟨q0, 0, none⟩) 1 1]).run Tryz.prog V = .ok (.slice A' (nl + 1) c') V' ∧ Live V' (fun q => q < B0 ∨ (Value.slice A' (nl + 1) c').ownBlock = some q) n s r (.slice A' (nl + 1) c') (nl + 1) (L ++ [x]) ∧
      (∀ q, (Value.slice A' (nl + 1) c').ownBlock = some q → v.ownBlock = some q ∨ V.heap.size ≤ q) ∧ Turns (fun q => v.ownBlock = some q) V0 V' := by
  have hcnt := h.cnt
  have hrow := h.row.turns (Turns.of_below (F := fun _ => False) hb) (fun _ _ e => e)
  obtain ⟨i0, hi, hz0, hz1, hz2⟩ := info_parts info_txn
  obtain ⟨v9, V', hrun, hrow9, hgrow, -, hob⟩ := run_append_own_at (P := Tryz.prog) (w := V) 0 24 ty 63 i0 (.agg #[.int .u64 0, .slice none 0 0, .slice none 0 0]) 3 56 Tryz.underlying24 hi hz0 hz1 hz2 rfl (by decide) v nl (L.flatMap LiveRec.cells) hrow ⟨q0, 0, none⟩ 1 1 x.cells rfl (fun j u hu => by
    have hadd : (⟨q0, 0, none⟩ : Addr).add j = ⟨q0, j, none⟩ := by unfold Addr.add; split <;> simp_all
    rw [hadd, cell_of_row _ _ _ _ _ _ hnew]
    simpa [LiveRec.cells] using hu) (by intro u hu; simp [LiveRec.cells] at hu; rcases hu with rfl | rfl | rfl <;> rfl) (by unfold maxLen; omega) (by omega) (Nat.zero_le _)
  obtain ⟨A', c', rfl⟩ : ∃ A' c', v9 = .slice A' (nl + 1) c' := by
    rcases hrow9.2 with ⟨e, h0⟩ | ⟨g', cap', cur', e, _⟩
    · exact ⟨none, 0, by rw [e, h0]⟩
    · exact ⟨_, _, e⟩
  have hvV : ∀ q, v.ownBlock = some q → q < V0.heap.size := fun q e => h.row.lt e
  have hsz := hb.size
  have hTX : Turns (fun q => v.ownBlock = some q) V0 V' := (Turns.of_below (F := fun q => v.ownBlock = some q) hb).grown hgrow (fun q e _ => e)
  have hobc : ∀ q, (Value.slice A' (nl + 1) c').ownBlock = some q → v.ownBlock = some q ∨ V.heap.size ≤ q := fun q e => by
    rcases hob with e' | e'
    · exact .inl (e' ▸ e)
    · rw [e'] at e; injection e with e; exact .inr (by omega)
  refine ⟨A', c', V', hrun, ?_, hobc, hTX⟩
  refine h.more (hTX.mono (fun q _ e => .inr e)) (fun i hi e => ?_) hrow9 hf (fun W hW => hst W ?_)
  · rcases e with e | e
    · exact .inl e
    · rcases hobc i e with e | e
      · exact .inr e
      · omega
  · have hT1 : Turns (fun q => q < V0.heap.size) V V' := (Turns.refl (fun q => q < V0.heap.size) V).grown hgrow (fun q e _ => hvV q e)
    refine hT1.trans hW (fun i hi e => ?_)
    rcases e with e | e
    · exact Nat.lt_of_lt_of_le e hB
    · rcases hobc i e with e | e
      · exact hvV i e
      · omega

/-- What the document's chain tells. -/
def ChainAt (w : World) (d : Dk.Dk) (s r : Nat) (e : Ending) (w' : World) : Prop :=
  ∃ A c' L, e = .returned (.tuple #[.slice A (chainD d s r).length c', .int .u64 (((seqH (d.read s) + (chainD d s r).length) % 18446744073709551616 : Nat) : Int), .int .i64 (backD d s r : Int)]) ∧
    Live w' (fun q => q < w.heap.size) d.stable.length s r (.slice A (chainD d s r).length c') (chainD d s r).length L ∧ L.map (·.t) = chainD d s r ∧ (∀ q, (Value.slice A (chainD d s r).length c').ownBlock = some q → w.heap.size ≤ q) ∧ Below w.heap.size w w'

/-- Between two rounds of the document's walk along the chain. -/
def ChainI (w : World) (d : Dk.Dk) (s r pl sq : Nat) (ts : List Tx) (g cap : Nat) (wv : World) (sv pv bv lv : Value) : Prop :=
  ∃ (off sq' N' cc : Nat) (A' Al : Option Addr) (cl : Nat) (L : List LiveRec), sv = .int .u64 (sq' : Int) ∧ pv = .int .i64 (((pl + sumT (L.map (·.t))) % r : Nat) : Int) ∧ bv = .slice A' N' cc ∧ lv = .slice Al L.length cl ∧ sq' < 18446744073709551616 ∧ sq' = (sq + L.length) % 18446744073709551616 ∧
    N' + 256 * off = 256 * r ∧ N' ≤ cc ∧ cc ≤ cap ∧ (N' = 0 ∨ A' = some ⟨g, 256 * off, none⟩) ∧ off = sumT (L.map (·.t)) ∧ L.length ≤ off ∧ off ≤ r ∧
    ts = L.map (·.t) ++ chainL d.stable.length s r (r - L.length) ((ringB d s r pl).drop (256 * off)) sq' ∧ Live wv (fun q => q < w.heap.size ∨ (Value.slice Al L.length cl).ownBlock = some q) d.stable.length s r (.slice Al L.length cl) L.length L ∧
    (∀ q, (Value.slice Al L.length cl).ownBlock = some q → w.heap.size ≤ q ∧ q ≠ g) ∧ RowOf wv g (ringB d s r pl) ∧ Below w.heap.size w wv

set_option maxRecDepth 100000 in
set_option maxHeartbeats 8000000 in
theorem chainr_any (s l : Nat) (d : Dk.Dk) (p c : Nat) (F : Nat → Prop) (w : World) (h : RefDisk w p d c F) (hc : c ≤ 1048576) (h8 : 8 ≤ l) (hl : l ≤ 1024) (hs : s + l ≤ d.stable.length) (hok : okH (d.read s) (l - 1) = true) :
    Calls Tryz.prog 39 #[.pointer (some ⟨p, 0, none⟩), .int .i64 (s : Int), .int .i64 (l : Int)] w (ChainAt w d s (l - 1)) := by
  have hdo : d.Ok ∧ d.stable.length ≤ 1024 := by
    obtain ⟨R, _, _, _, _, hR, _⟩ := h
    exact ⟨hR.ok, hR.big.2⟩
  obtain ⟨hdo, hn⟩ := hdo
  have hpl : plH (d.read s) < l - 1 := by
    unfold okH at hok
    rw [Bool.and_eq_true] at hok
    exact of_decide_eq_true hok.1
  have hsq : seqH (d.read s) < 18446744073709551616 := seqH_lt _
  have hrd := rreadB_d s d p c F w h hc (by omega)
  have hro := fun b cp V hV hcp => readr_ok b cp l (d.read s) V hV hcp ⟨h8, hl⟩ hok
  have hdk : ∀ V, Below w.heap.size w V → RefDisk V p d c F := fun V hV => h.later hV
  obtain ⟨r, hr⟩ : ∃ r, r = l - 1 := ⟨_, rfl⟩
  have hbk : backD d s r = (plH (d.read s) + sumT (chainD d s r)) % r := rfl
  have hch : chainD d s r = chainL d.stable.length s r r (ringB d s r (plH (d.read s))) (seqH (d.read s)) := rfl
  have hlen : ∀ pl k, (ringK d s r pl k).length = 256 * k := fun pl => ringK_len d hdo s r pl (by omega) (by omega)
  rw [← hr] at hpl ⊢
  obtain ⟨bk, hbke⟩ : ∃ bk, bk = backD d s r := ⟨_, rfl⟩
  obtain ⟨ts, hts⟩ : ∃ ts, ts = chainD d s r := ⟨_, rfl⟩
  unfold ChainAt
  rw [← hbke, ← hts]
  rw [← hts] at hbk hch
  rw [← hbke] at hbk
  obtain ⟨sq, hsqe⟩ : ∃ sq, sq = seqH (d.read s) := ⟨_, rfl⟩
  obtain ⟨pl, hple⟩ : ∃ pl, pl = plH (d.read s) := ⟨_, rfl⟩
  rw [← hsqe] at hsq hch hro ⊢
  rw [← hple] at hpl hch hbk hro
  have hlr : (l : Int) - 1 = (r : Int) := by omega
  have hlw : IntKind.i64.wrap ((l : Int) - 1) = (r : Int) := by rw [hlr]; exact wrap_i64 _ (by omega)
  have hr0 : 0 < r := by omega
  have hr2 : r ≤ 1023 := by omega
  have hsr : s + r < d.stable.length := by omega
  have HRD := Lib.hid hrd; clear hrd h
  have HRO := Lib.hid hro; clear hro
  have HDK := Lib.hid hdk; clear hdk
  have HBK := Lib.hid hbk; clear hbk
  have HCH := Lib.hid hch; clear hch
  have HLEN := Lib.hid hlen; clear hlen
  have HR := Lib.hid hr; clear hr
  have HSR := Lib.hid hsr; clear hsr
  clear hok hbke hts hsqe hple
  go_enter Tryz.func39, Tryz.ntmps39
  go_wp2_with fail
  with_reducible refine HRD.out.mono ?_
  rintro e V1 ⟨b1, cp1, rfl, hh1, hcp1, hb1⟩
  clear HRD
  have hcall := HRO.out b1 cp1 V1 hh1 hcp1
  have HB1 := Lib.hid hb1; clear hb1
  have HC := Lib.hid hcall; clear HRO hcall hh1 hcp1
  go_wp2_with fail
  with_reducible refine HC.out.mono ?_
  rintro e V2 ⟨rfl, hb2⟩
  clear HC
  have HB2 := Lib.hid (HB1.out.trans (hb2.mono HB1.out.size)); clear hb2 HB1
  go_wp2_with fail
  go_loopw [14, 15] (fun bv kv wr => ∃ (k : Nat) (A : Option Addr) (c' N : Nat), k ≤ r ∧ N = 256 * k ∧ kv = .int .i64 (k : Int) ∧ bv = .slice A N c' ∧ Owned wr w.heap.size (.slice A N c') (ringK d s r pl k) ∧ Below w.heap.size w wr) (fun _ kv _ => r - (intOf kv).toNat)
  case atStart => exact ⟨0, none, 0, 0, Nat.zero_le _, rfl, rfl, rfl, World.ownsRow_nil _ _ _ _, HB2.out⟩
  case round =>
    obtain ⟨k, A, c', N, hk, hN, rfl, rfl, hown, hbr⟩ := hrel
    rcases Nat.lt_or_ge k r with hlt | hge
    · have hkr : (k : Int) < (r : Int) := by omega
      have HOWN := Lib.hid hown; clear hown
      have HBR := Lib.hid hbr; clear hbr
      have HN := Lib.hid hN; clear hN
      have hmod := Nat.mod_lt (pl + k) hr0
      obtain ⟨q, hqe⟩ : ∃ q, q = (pl + k) % r := ⟨_, rfl⟩
      rw [← hqe] at hmod
      have hqi : ((pl : Int) + (k : Int)) % (r : Int) = (q : Int) := by rw [hqe]; simp
      have hcall := rreadB_d (s + 1 + q) d p c F wr (HDK.out wr HBR.out) hc (by have := HSR.out; omega)
      rw [show ((s + 1 + q : Nat) : Int) = (s : Int) + 1 + (q : Int) by omega] at hcall
      have HQE := Lib.hid hqe; clear hqe
      have HCL := Lib.hid hcall; clear hcall
      go_wp2_with fail
      with_reducible refine HCL.out.mono ?_
      rintro e V3 ⟨b3, cp3, rfl, hh3, hcp3, hb3⟩
      clear HCL
      have hbr3 := HBR.out.trans (hb3.mono HBR.out.size)
      have hown3 := HOWN.out.keep hb3 (Nat.le_refl _)
      have hL := HLEN.out pl k
      have HO3 := Lib.hid hown3; clear hown3
      have HH3 := Lib.hid hh3; clear hh3
      have HBR3 := Lib.hid hbr3; clear hbr3 hb3
      go_wp2_with (at_builtin; refine wpList_addall rfl _ _ rfl w.heap.size _ (ringK d s r pl k) rfl HO3.out V3.heap.size _ 256 cp3 (d.read (s + 1 + q)) rfl HH3.out (by rw [hL]; omega) HBR3.out.size ?_)
      intro v' w' ho' hb'
      obtain ⟨A4, c4, rfl⟩ := Go.Proofs.YtelnoibfamcnmaaGreat.Rec.Owned.shape ho'
      have hk1 : ringK d s r pl k ++ d.read (s + 1 + q) = ringK d s r pl (k + 1) := by rw [ringK_succ, HQE.out]
      rw [hk1] at ho' ⊢
      have hL1 := HLEN.out pl (k + 1)
      rw [hL1] at ho' ⊢
      have hbr4 : Below w.heap.size w w' := HBR3.out.trans hb'
      obtain ⟨N4, hN4⟩ : ∃ N4, N4 = 256 * (k + 1) := ⟨_, rfl⟩
      rw [← hN4] at ho' ⊢
      clear hk1 hL hL1
      have HO4 := Lib.hid ho'; clear ho'
      go_wp2
      go_roundw
      case rel => exact ⟨k + 1, A4, c4, N4, by omega, hN4, by go_num, rfl, HO4.out, hbr4⟩
      case measure => simp [intOf]; omega
    · obtain rfl : k = r := by omega
      obtain ⟨g, cap, cur, hA1, hg1, hg2, hgc, hcap, hcm, hcs, hct⟩ := Go.Proofs.YtelnoibfamcnmaaGreat.Rec.Owned.cut hown (by rw [HLEN.out]; omega)
      rw [HLEN.out] at hA1 hcap
      injection hA1 with hA1 hA2 hc1
      subst hA1 hc1
      clear hA2
      have hrow : RowOf wr g (ringB d s k pl) := ⟨cur, hgc, hct⟩
      rw [← hN] at hcap
      have hcap9 : c' ≤ 9223372036854775807 := by unfold maxLen at hcm; omega
      have HN := Lib.hid hN; clear hN hgc hct hcs hcm hown
      have HROW := Lib.hid hrow; clear hrow
      have HBR := Lib.hid hbr; clear hbr
      have hkk : ¬ (k : Int) < (k : Int) := by omega
      have hstart : ChainI w d s k pl sq ts g c' wr (.int .u64 (sq : Int)) (.int .i64 (pl : Int)) (.slice (some ⟨g, 0, none⟩) N c') (.slice none 0 0) :=
        ⟨0, sq, N, c', _, none, 0, [], rfl, by simp [sumT, Nat.mod_eq_of_lt hpl], rfl, rfl, hsq, by simp [Nat.mod_eq_of_lt hsq], by have := HN.out; omega, hcap, Nat.le_refl _, .inr rfl, by simp [sumT], Nat.le_refl _, Nat.zero_le _, by rw [Nat.mul_zero, List.drop_zero]; exact HCH.out, Live.none _ _ _ _ _, (fun q e => by cases e), HROW.out, HBR.out⟩
      have HST := Lib.hid hstart; clear hstart
      go_wp2_with fail
      go_loopw [11, 12, 14, 18] (fun sv pv bv lv wv => ChainI w d s k pl sq ts g c' wv sv pv bv lv) (fun _ _ bv _ _ => match bv with | .slice _ N _ => N | _ => 0)
      case atStart => exact HST.out
      case round =>
        obtain ⟨off, sq', N', cc, A', Al, cl, L, rfl, rfl, rfl, rfl, hsq', hsqe, hN', hNc, hcc, hA', hoff, hLo, hor, hch, hlive, hown, hrow, hbr⟩ := hrel
        have hrl : (ringB d s k pl).length = 256 * k := HLEN.out pl k
        obtain ⟨bs, hbs⟩ : ∃ bs, bs = (ringB d s k pl).drop (256 * off) := ⟨_, rfl⟩
        rw [← hbs] at hch
        have hbl : bs.length = N' := by rw [hbs, List.length_drop, hrl]; omega
        have hh : Holds wr (g + 1) A' N' bs := hbs ▸ hrow.holds hA' (by rw [hrl]; omega)
        have hgl : g + 1 ≤ wr.heap.size := by
          obtain ⟨cur, hc, _⟩ := hrow
          exact (Array.getElem?_eq_some_iff.1 hc).1
        have hdec := refdec_any A' N' cc (g + 1) bs sq' wr hh hgl hNc (by omega) hsq'
        obtain ⟨pv, hpv⟩ : ∃ pv, pv = (pl + sumT (L.map (·.t))) % k := ⟨_, rfl⟩
        rw [← hpv]
        have hpvk : pv < k := by rw [hpv]; exact Nat.mod_lt _ hr0
        obtain ⟨nl, hnl⟩ : ∃ nl, nl = L.length := ⟨_, rfl⟩
        rw [← hnl] at hsqe hLo hch hlive hown ⊢
        -- how the walk ends
        have hend : inB d.stable.length s k bs sq' = false → ∀ V, Below wr.heap.size wr V → ∃ A c' L', Ending.returned (.tuple #[.slice Al nl cl, .int .u64 (sq' : Int), .int .i64 (pv : Int)]) = .returned (.tuple #[.slice A ts.length c', .int .u64 (((sq + ts.length) % 18446744073709551616 : Nat) : Int), .int .i64 (bk : Int)]) ∧
            Live V (fun q => q < w.heap.size) d.stable.length s k (.slice A ts.length c') ts.length L' ∧ L'.map (·.t) = ts ∧ (∀ q, (Value.slice A ts.length c').ownBlock = some q → w.heap.size ≤ q) ∧ Below w.heap.size w V := fun hno V hV => by
          have h1 : ts = L.map (·.t) := by rw [hch, chain_not hno, List.append_nil]
          have h2 : ts.length = nl := by rw [h1, List.length_map, hnl]
          rw [h2]
          refine ⟨Al, cl, L, ?_, (hlive.turns (Turns.of_below hV) (fun _ _ e => e)).mono (fun q _ e => .inl e), h1.symm, fun q e => (hown q e).1, hbr.trans (hV.mono hbr.size)⟩
          rw [← hsqe, hpv, HBK.out, h1]
        have HEND := Lib.hid hend; clear hend
        have HROWR := Lib.hid hrow; clear hrow
        have HCHR := Lib.hid hch; clear hch
        have HLIVE := Lib.hid hlive; clear hlive
        have HOWN := Lib.hid hown; clear hown
        have HBRR := Lib.hid hbr; clear hbr
        have HBS := Lib.hid hbs; clear hbs
        have HBL := Lib.hid hbl; clear hbl
        have HNN := Lib.hid hN'; clear hN'
        have HA := Lib.hid hA'; clear hA' hh
        have HNL := Lib.hid hnl; clear hnl
        have HPV := Lib.hid hpv; clear hpv
        have HOFF := Lib.hid hoff; clear hoff
        have HSQ := Lib.hid hsqe; clear hsqe
        clear hrl
        cases hdb : decB bs sq' with
        | false =>
          have hd2 : Calls Tryz.prog 67 #[.slice A' N' cc, .int .u64 (sq' : Int)] wr (Undecoded wr) := hdec.mono fun e w' h => by
            rcases h with ⟨e1, -⟩ | ⟨-, h⟩
            · rw [hdb] at e1; cases e1
            · exact h
          have HD2 := Lib.hid hd2; clear hd2 hdec
          go_wp2_with fail
          with_reducible refine HD2.out.mono ?_
          rintro e w2 ⟨rfl, hb2⟩
          clear HD2
          unfold zeroTx
          have hb3 : Below wr.heap.size wr ((w2.alloc (.cells #[.int .u64 0, .slice none 0 0, .slice none 0 0] 63)).drew) := (hb2.alloc hb2.size _).drew
          have HB3 := Lib.hid hb3; clear hb3 hb2
          go_wp2_with fail
          go_region
          all_goals
            go_wp2
            go_ret3
            exact HEND.out (by unfold inB; rw [hdb]; rfl) _ HB3.out
        | true =>
          have hd2 : Calls Tryz.prog 67 #[.slice A' N' cc, .int .u64 (sq' : Int)] wr (Decoded wr bs sq') := hdec.mono fun e w' h => by
            rcases h with ⟨-, h⟩ | ⟨e1, -⟩
            · exact h
            · rw [hdb] at e1; cases e1
          have hmay := (dec_parts hdb).1
          have hlens := tellL_lens bs sq'
          have hlong := dec_long hdb
          rw [HBL.out] at hlong
          have HD2 := Lib.hid hd2; clear hd2 hdec
          go_wp2_with fail
          with_reducible refine HD2.out.mono ?_
          rintro e w2 ⟨Aw, cw, Ar, cr, vs, rfl, hot, hb2⟩
          clear HD2
          obtain ⟨t0, ht0⟩ : ∃ t0, t0 = tellL bs sq' := ⟨_, rfl⟩
          obtain ⟨nw, hnw⟩ : ∃ nw, nw = nW bs := ⟨_, rfl⟩
          obtain ⟨nr, hnr⟩ : ∃ nr, nr = nR bs := ⟨_, rfl⟩
          rw [← hnw, ← hnr, ← ht0] at hlens
          rw [← hnw] at hlong
          rw [← ht0] at hmay
          rw [← hnw, ← hnr, show ((nw + 2 : Nat) : Int) = (nw : Int) + 2 by omega]
          have hsq0 : t0.seq = sq' := by rw [ht0]; rfl
          obtain ⟨wa, hwa⟩ : ∃ wa, wa = w2.alloc (.cells #[.int .u64 (sq' : Int), .slice Aw nw cw, .slice Ar nr cr] 63) := ⟨_, rfl⟩
          have hb3 : Below w2.heap.size w2 wa.drew := hwa ▸ ((Below.refl _ w2).alloc (Nat.le_refl _) _).drew
          have hbr3 : Below wr.heap.size wr wa.drew := hb2.trans (hb3.mono hb2.size)
          have hv3 : wa.drew.heap[w2.heap.size]? = some (.cells #[.int .u64 (sq' : Int), .slice Aw nw cw, .slice Ar nr cr] 63 (0, 0)) := hwa ▸ heap_alloc_new w2 _
          have hstay : ∀ V, Turns (fun q => q < wr.heap.size) wa.drew V → TxAt V V.heap.size t0 Aw nw cw Ar nr cr := fun V hV => by
            have h1 : OwnsT V wr.heap.size (tellL bs sq') Aw cw Ar cr vs := hot.kept (fun q h1 h2 => by
              have h3 := hb3.block q h2
              exact (hV.block q (by have := hb3.size; omega) (by show ¬ q < wr.heap.size; omega)).trans h3)
            have h2 := OwnsT.holds h1 hsq'
            rw [← ht0, ← hnw, ← hnr] at h2
            exact h2
          have hS3 : wa.drew.cell? ⟨w2.heap.size, 0, none⟩ = some (.int .u64 (sq' : Int)) ∧ wa.drew.cell? ⟨w2.heap.size, 1, none⟩ = some (.slice Aw nw cw) ∧ wa.drew.cell? ⟨w2.heap.size, 2, none⟩ = some (.slice Ar nr cr) := ⟨cell_of_row wa.drew _ 0 _ _ _ hv3, cell_of_row wa.drew _ 1 _ _ _ hv3, cell_of_row wa.drew _ 2 _ _ _ hv3⟩
          have hkeep : ∀ V, Below wa.drew.heap.size wa.drew V → V.cell? ⟨w2.heap.size, 0, none⟩ = some (.int .u64 (sq' : Int)) ∧ V.cell? ⟨w2.heap.size, 1, none⟩ = some (.slice Aw nw cw) ∧ V.cell? ⟨w2.heap.size, 2, none⟩ = some (.slice Ar nr cr) := fun V hV => by
            have e := (hV.block _ (Array.getElem?_eq_some_iff.1 hv3).1).trans hv3
            exact ⟨cell_of_row V _ 0 _ _ _ e, cell_of_row V _ 1 _ _ _ e, cell_of_row V _ 2 _ _ _ e⟩
          have hsz := rsize_d d p c F wa.drew (HDK.out wa.drew (HBRR.out.trans (hbr3.mono HBRR.out.size)))
          have hfr := fairr_any t0 Aw Ar nw cw nr cr wa.drew.heap.size wa.drew (hstay wa.drew (Turns.refl _ _)) (Nat.le_refl _) d.stable.length s l (s : Int) rfl h8 hl (by have := HSR.out; omega)
          rw [hmay, Bool.true_and, ← HR.out, hsq0] at hfr
          have HSTAY := Lib.hid hstay; clear hstay
          have HKEEP := Lib.hid hkeep; clear hkeep hv3
          have HSZ := Lib.hid hsz; clear hsz
          have HLONG := Lib.hid hlong; clear hlong
          have HLENS := Lib.hid hlens; clear hlens
          have HT0 := Lib.hid ht0; clear ht0
          have HNW := Lib.hid hnw; clear hnw
          have HNR := Lib.hid hnr; clear hnr
          have HMAY := Lib.hid hmay; clear hmay
          have HBR3 := Lib.hid hbr3; clear hbr3 hb2 hb3 hot
          have HWA := Lib.hid hwa; clear hwa
          cases htb : takesB d.stable.length s k t0 with
          | false =>
            rw [htb] at hfr
            have HFR := Lib.hid hfr; clear hfr
            have hno : inB d.stable.length s k bs sq' = false := by unfold inB; rw [← HT0.out, htb, Bool.and_false]
            go_wp2_with fail
            rw [← HWA.out]
            go_region_held (fun V => V.cell? ⟨w2.heap.size, 0, none⟩ = some (.int .u64 (sq' : Int)) ∧ V.cell? ⟨w2.heap.size, 1, none⟩ = some (.slice Aw nw cw) ∧ V.cell? ⟨w2.heap.size, 2, none⟩ = some (.slice Ar nr cr)) (assumption)
              (first
                | (go_at_call 45
                   with_reducible refine HSZ.out.mono ?_
                   rintro e w4 ⟨rfl, rfl⟩)
                | (go_at_call 68
                   with_reducible refine HFR.out.mono ?_
                   rintro e w5 ⟨rfl, hb5⟩
                   have hS5 := HKEEP.out w5 hb5
                   have HB5 := Lib.hid (HBR3.out.trans (hb5.mono HBR3.out.size))
                   clear hb5))
            all_goals
              go_wp2
              go_ret3
              exact HEND.out hno _ HB5.out
          | true =>
            rw [htb] at hfr
            have HFR := Lib.hid hfr; clear hfr
            have hin : inB d.stable.length s k bs sq' = true := by unfold inB; rw [← HT0.out, hdb, htb]; rfl
            have HIN := Lib.hid hin; clear hin
            go_wp2_with fail
            rw [← HWA.out]
            go_region_held (fun V => V.cell? ⟨w2.heap.size, 0, none⟩ = some (.int .u64 (sq' : Int)) ∧ V.cell? ⟨w2.heap.size, 1, none⟩ = some (.slice Aw nw cw) ∧ V.cell? ⟨w2.heap.size, 2, none⟩ = some (.slice Ar nr cr)) (assumption)
              (first
                | (go_at_call 45
                   with_reducible refine HSZ.out.mono ?_
                   rintro e w4 ⟨rfl, rfl⟩)
                | (go_at_call 68
                   with_reducible refine HFR.out.mono ?_
                   rintro e w5 ⟨rfl, hb5⟩
                   have hS5 := HKEEP.out w5 hb5
                   have HB35 := Lib.hid hb5
                   have HB5 := Lib.hid (HBR3.out.trans (hb5.mono HBR3.out.size))
                   clear hb5))
            all_goals
              clear hS3
              obtain ⟨y0, y1, y2⟩ := hS5
              obtain ⟨bx, hbx⟩ : ∃ bx, bx = Obj.cells #[.int .u64 (sq' : Int), .slice Aw nw cw, .slice Ar nr cr] 63 (0, 0) := ⟨_, rfl⟩
              have hbV : Below wr.heap.size wr (w5.alloc bx) := HB5.out.alloc HB5.out.size bx
              have hnew : (w5.alloc bx).heap[w5.heap.size]? = some bx := heap_alloc_new w5 bx
              obtain ⟨A9, c9, V9, hrun, hlive9, hown9, hT9⟩ := live_append (V0 := wr) (V := w5.alloc bx) (B0 := w.heap.size) (q0 := w5.heap.size) ⟨t0, Aw, cw, Ar, cr⟩ 24 HLIVE.out HBRR.out.size hbV
                (by rw [hnew, hbx]; show _ = some (Obj.cells #[.int .u64 (t0.seq : Int), .slice Aw t0.ws.length cw, .slice Ar t0.rs.length cr] _ _); rw [HLENS.out.1, HLENS.out.2, hsq0])
                (fun V hV => by
                  show TxAt V V.heap.size t0 Aw t0.ws.length cw Ar t0.rs.length cr
                  rw [HLENS.out.1, HLENS.out.2]
                  exact HSTAY.out V (((Turns.of_below (F := fun q => q < wr.heap.size) HB35.out).trans (Turns.of_below (F := fun q => q < wr.heap.size) ((Below.refl w5.heap.size w5).alloc (Nat.le_refl _) bx)) (fun _ _ e => e)).trans hV (fun _ _ e => e))) ⟨HMAY.out, htb⟩ (by have := HNN.out; omega)
              rw [hbx] at hrun
              have hg9 : RowOf V9 g (ringB d s k pl) := by
                obtain ⟨cu, hg3, hg4⟩ := HROWR.out
                exact ⟨cu, (hT9.block g (Array.getElem?_eq_some_iff.1 hg3).1 (fun e => (HOWN.out g e).2 rfl)).trans hg3, hg4⟩
              have hb9 : Below w.heap.size w V9 := HBRR.out.trans (hT9.below (fun q e => (HOWN.out q e).1) HBRR.out.size)
              have hown9' : ∀ q, (Value.slice A9 (nl + 1) c9).ownBlock = some q → w.heap.size ≤ q ∧ q ≠ g := fun q e => by
                rcases hown9 q e with e | e
                · exact HOWN.out q e
                · have := HBRR.out.size; have := hbV.size; omega
              obtain ⟨q, hq⟩ : ∃ q, q = 256 * (nw + 2) := ⟨_, rfl⟩
              have hqN : q ≤ N' := by have := HLONG.out; omega
              obtain ⟨A'', hsl, hA''⟩ := run_from V9 A' g (256 * off) N' cc q HA.out hqN hNc
              have hqe : ((nw : Int) + 2) * 256 = (q : Int) := by omega
              rw [← hqe] at hsl
              have hw1 : (-9223372036854775808 : Int) ≤ ((nw : Int) + 2) * 256 ∧ ((nw : Int) + 2) * 256 ≤ 9223372036854775807 := by have := HLONG.out; omega
              have HL9 := Lib.hid hlive9; clear hlive9
              have HO9 := Lib.hid hown9'; clear hown9' hown9 hT9 hbV hnew hbx bx
              have HG9 := Lib.hid hg9; clear hg9
              have HB9 := Lib.hid hb9; clear hb9
              have HQ := Lib.hid hq; clear hq hqe
              have HA2 := Lib.hid hA''; clear hA''
              obtain ⟨pv2, hpv2⟩ : ∃ pv2, pv2 = (pv + (nw + 2)) % k := ⟨_, rfl⟩
              have hpi : ((pv : Int) + ((nw : Int) + 2)) % (k : Int) = (pv2 : Int) := by rw [hpv2]; simp
              have HPV2 := Lib.hid hpv2; clear hpv2
              have hnw58 := HLONG.out.2.1
              go_wp2_with (at_builtin; refine wpList_apprun rfl _ _ 24 24 rfl _ _ rfl rfl _ V9 hrun ?_)
              clear hrun y0 y1 y2
              go_wp2
              have hlg := HLONG.out
              have hqv := HQ.out
              have hnn := HNN.out
              have hmp : (L ++ [(⟨t0, Aw, cw, Ar, cr⟩ : LiveRec)]).map (·.t) = L.map (·.t) ++ [t0] := by rw [List.map_append]; rfl
              have hsm : sumT ((L ++ [(⟨t0, Aw, cw, Ar, cr⟩ : LiveRec)]).map (·.t)) = off + (nw + 2) := by rw [hmp, sumT_snoc, HLENS.out.1, ← HOFF.out]
              have hln : (L ++ [(⟨t0, Aw, cw, Ar, cr⟩ : LiveRec)]).length = nl + 1 := by rw [List.length_append, List.length_singleton, HNL.out]
              refine ⟨⟨off + (nw + 2), (sq' + 1) % 18446744073709551616, N' - q, cc - q, A'', A9, c9, L ++ [⟨t0, Aw, cw, Ar, cr⟩], by rw [wrap_up], ?_, rfl, by rw [hln], Nat.mod_lt _ (by omega), ?_, by omega, by omega, by omega, ?_, hsm.symm, by rw [hln]; omega, by omega, ?_, ?_, ?_, HG9.out, HB9.out⟩, by show N' - q < N'; omega⟩
              · rw [hpi, HPV2.out, hsm, HPV.out, ← HOFF.out, Nat.mod_add_mod, Nat.add_assoc]
              · rw [hln, HSQ.out]; omega
              · rw [show 256 * (off + (nw + 2)) = 256 * off + q by omega]
                exact HA2.out
              · rw [HCHR.out, hmp, hln, List.append_assoc]
                congr 1
                rw [show k - nl = (k - (nl + 1)) + 1 by omega, step_in HIN.out, HT0.out, HBS.out, List.drop_drop, ← HBS.out, ← HNW.out, show 256 * off + 256 * (nw + 2) = 256 * (off + (nw + 2)) by omega]
                rfl
              · rw [hln]; exact HL9.out
              · rw [hln]; exact HO9.out

set_option maxHeartbeats 1000000 in
theorem may5_any (s l : Nat) (d : Dk.Dk) (p c : Nat) (F : Nat → Prop) (w : World) (h : RefDisk w p d c F) (hc : c ≤ 1048576) (h8 : 8 ≤ l) (hs : s + l ≤ d.stable.length) (hok : okH (d.read s) (l - 1) = true) :
    Calls Tryz.prog 38 #[.pointer (some ⟨p, 0, none⟩), .int .i64 (s : Int), .int .i64 (l : Int)] w fun e w' => e = .returned (.int .i64 0) ∧ Below w.heap.size w w' := by
  have hn : d.stable.length ≤ 1024 := by
    obtain ⟨R, _, _, _, _, hR, _⟩ := h
    exact hR.big.2
  have hop : Calls Tryz.prog 65 #[.pointer (some ⟨p, 0, none⟩), .int .i64 (s : Int), .int .i64 (l : Int)] w fun e w' => ∃ m, e = .returned (.tuple #[.pointer (some ⟨m, 0, none⟩), .int .i64 0]) ∧ Below w.heap.size w w' :=
    (openr_d s l _ _ rfl rfl d p c F w h hc h8 hn hs hok).mono fun e w' ⟨m, h1, _, _, h4⟩ => ⟨m, h1, h4⟩
  have HOP := Lib.hid hop; clear hop h
  go_enter Tryz.func38, Tryz.ntmps38
  go_wp2_with fail
  with_reducible refine HOP.out.mono ?_
  rintro e w2 ⟨m, rfl, hb2⟩
  clear HOP
  have HB2 := Lib.hid hb2; clear hb2
  go_wp2
  go_ret
  exact ⟨rfl, HB2.out⟩

set_option maxRecDepth 100000 in
set_option maxHeartbeats 2000000 in
theorem scanr_ok (s l : Nat) (d : Dk.Dk) (p c : Nat) (F : Nat → Prop) (w : World) (h : RefDisk w p d c F) (hc : c ≤ 1048576) (h8 : 8 ≤ l) (hl : l ≤ 1024) (hs : s + l ≤ d.stable.length) (hok : okH (d.read s) (l - 1) = true) :
    Calls Tryz.prog 11 #[.pointer (some ⟨p, 0, none⟩), .int .i64 (s : Int), .int .i64 (l : Int)] w (ScanAt w d.stable.length s (l - 1) (chainD d s (l - 1))) := by
  have hmy := may5_any s l d p c F w h hc h8 hs hok
  have hcn : ∀ V, Below w.heap.size w V → _ := fun V hV => chainr_any s l d p c F V (h.later hV) hc h8 hl hs hok
  unfold ChainAt at hcn
  obtain ⟨ts, hts⟩ : ∃ ts, ts = chainD d s (l - 1) := ⟨_, rfl⟩
  obtain ⟨q1, hq1⟩ : ∃ q1, q1 = (seqH (d.read s) + (chainD d s (l - 1)).length) % 18446744073709551616 := ⟨_, rfl⟩
  obtain ⟨bk, hbk⟩ : ∃ bk, bk = backD d s (l - 1) := ⟨_, rfl⟩
  obtain ⟨nl, hnl⟩ : ∃ nl, nl = (chainD d s (l - 1)).length := ⟨_, rfl⟩
  rw [← hq1, ← hbk, ← hnl, ← hts] at hcn
  rw [← hts]
  obtain ⟨n, hn⟩ : ∃ n, n = d.stable.length := ⟨_, rfl⟩
  rw [← hn] at hcn ⊢
  have hnt : ts.length = nl := by rw [hts, hnl]
  have HMY := Lib.hid hmy; clear hmy h
  have HCN := Lib.hid hcn; clear hcn
  have HNT := Lib.hid hnt; clear hnt hq1 hbk hnl hts hn hok
  go_enter Tryz.func11, Tryz.ntmps11
  go_wp2_with fail
  with_reducible refine HMY.out.mono ?_
  rintro e w2 ⟨rfl, hb2⟩
  clear HMY
  have hcc := HCN.out w2 hb2
  have HCC := Lib.hid hcc; clear hcc HCN
  have HB2 := Lib.hid hb2; clear hb2
  go_wp2_with fail
  refine HCC.out.mono ?_
  rintro e w3 ⟨A, c', L, rfl, hlive, hmap, hown, hb3⟩
  clear HCC
  have HLV := Lib.hid hlive; clear hlive
  have HMP := Lib.hid hmap; clear hmap
  have HOW := Lib.hid hown; clear hown
  have HB3 := Lib.hid hb3; clear hb3
  go_wp2
  go_ret2
  have hz := HB2.out.size
  refine ⟨A, c', L, by rw [HNT.out]; rfl, ?_, HMP.out, ?_, HB2.out.trans (HB3.out.mono hz)⟩
  · rw [HNT.out]; exact HLV.out.mono (fun q _ hq => by omega)
  · rw [HNT.out]; intro q hq; have := HOW.out q hq; omega

set_option maxRecDepth 100000 in
set_option maxHeartbeats 4000000 in
theorem recoverr_ok (s l : Nat) (d : Dk.Dk) (p c : Nat) (F : Nat → Prop) (w : World) (h : RefDisk w p d c F) (hc : c + 62464 < 1048576) (h8 : 8 ≤ l) (hl : l ≤ 1024) (hs : s + l ≤ d.stable.length) (hok : okH (d.read s) (l - 1) = true) (hrise : Rising (chainD d s (l - 1))) :
    Calls Tryz.prog 14 #[.pointer (some ⟨p, 0, none⟩), .int .i64 (s : Int), .int .i64 (l : Int)] w fun e w' => e = .returned (.tuple #[.int .i64 ((chainD d s (l - 1)).length : Int), .int .i64 0]) ∧ RHoming w p F w' (recD d s (l - 1)) (c + 62464) := by
  have hdo : d.Ok ∧ d.stable.length ≤ 1024 := by
    obtain ⟨R, _, _, _, _, hR, _⟩ := h
    exact ⟨hR.ok, hR.big.2⟩
  have hmy := may5_any s l d p c F w h (by omega) h8 hs hok
  have hdk : ∀ V, Below w.heap.size w V → RefDisk V p d c F := fun V hV => h.later hV
  have hlt : ∀ q, F q → q < w.heap.size := fun q hq => h.lt q hq
  obtain ⟨r, hr⟩ : ∃ r, r = l - 1 := ⟨_, rfl⟩
  have hsum := chainD_sum d hdo.1 s r (by omega) (by omega)
  have hrec : recD d s r = (((homeL (revsOf (chainD d s r)) d (chainD d s r)).flush.write (s + 1 + backD d s r) (List.replicate 256 0)).write s (headH (seqD d s r) (backD d s r))).flush := rfl
  have hsq2 : seqD d s r = (seqH (d.read s) + (chainD d s r).length + (r + 1)) % 18446744073709551616 := rfl
  have hbr : backD d s r < r := Nat.mod_lt _ (by omega)
  rw [← hr] at hrise ⊢
  rw [← apply_home (chainD d s r) hrise d] at hrec
  obtain ⟨ts, hts⟩ : ∃ ts, ts = chainD d s r := ⟨_, rfl⟩
  obtain ⟨q1, hq1⟩ : ∃ q1, q1 = (seqH (d.read s) + (chainD d s r).length) % 18446744073709551616 := ⟨_, rfl⟩
  obtain ⟨bk, hbk⟩ : ∃ bk, bk = backD d s r := ⟨_, rfl⟩
  obtain ⟨nl, hnl⟩ : ∃ nl, nl = (chainD d s r).length := ⟨_, rfl⟩
  obtain ⟨q2, hq2⟩ : ∃ q2, q2 = seqD d s r := ⟨_, rfl⟩
  obtain ⟨dr, hdr⟩ : ∃ dr, dr = recD d s r := ⟨_, rfl⟩
  obtain ⟨n, hn⟩ : ∃ n, n = d.stable.length := ⟨_, rfl⟩
  have hcn : ∀ V, Below w.heap.size w V → Calls Tryz.prog 39 #[.pointer (some ⟨p, 0, none⟩), .int .i64 (s : Int), .int .i64 (l : Int)] V fun e w' => ∃ A c' L, e = .returned (.tuple #[.slice A nl c', .int .u64 (q1 : Int), .int .i64 (bk : Int)]) ∧
      Live w' (fun q => q < V.heap.size) n s r (.slice A nl c') nl L ∧ L.map (·.t) = ts ∧ (∀ q, (Value.slice A nl c').ownBlock = some q → V.heap.size ≤ q) ∧ Below V.heap.size V w' := fun V hV => by
    have h1 := chainr_any s l d p c F V (h.later hV) (by omega) h8 hl hs hok
    unfold ChainAt at h1
    rw [← hr, ← hq1, ← hbk, ← hnl, ← hts, ← hn] at h1
    exact h1
  rw [← hdr, ← hbk, ← hq2, ← hts] at hrec
  rw [← hdr, ← hnl]
  rw [← hbk] at hbr
  rw [← hnl, ← hts] at hsum
  rw [← hq2] at hsq2
  have hq12 : q2 = (q1 + l) % 18446744073709551616 := by rw [hsq2, hq1, show r + 1 = l by omega]; omega
  have hnt : ts.length = nl := by rw [hts, hnl]
  rw [hnt] at hrec
  have hsz : n ≤ 1024 := hn ▸ hdo.2
  have hsr : s + r < n := by omega
  have hr2 : r ≤ 1023 := by omega
  rw [← hn] at hs
  have hnl2 : 2 * nl ≤ r := by have := hsum.2; omega
  have HMY := Lib.hid hmy; clear hmy h
  have HCN := Lib.hid hcn; clear hcn
  have HREC := Lib.hid hrec; clear hrec
  have HQ12 := Lib.hid hq12; clear hq12 hsq2 hsum
  have HLT := Lib.hid hlt; clear hlt
  have HDK := Lib.hid hdk; clear hdk
  have HN := Lib.hid hn; clear hn hdo hrise hok hdr hq2 hnl hbk hq1 hts
  have HNT := Lib.hid hnt; clear hnt
  have HR := Lib.hid hr; clear hr
  go_enter Tryz.func14, Tryz.ntmps14
  go_wp2_with fail
  with_reducible refine HMY.out.mono ?_
  rintro e w2 ⟨rfl, hb2⟩
  clear HMY
  have hcc := HCN.out w2 hb2
  have HCC := Lib.hid hcc; clear hcc HCN
  have HB2 := Lib.hid hb2; clear hb2
  go_wp2_with fail
  refine HCC.out.mono ?_
  rintro e w3 ⟨A, c', L, rfl, hlive, hmap, hown, hb3⟩
  clear HCC
  have hb3w := HB2.out.trans (hb3.mono HB2.out.size)
  have hst : RHoming w3 p F w3 d c := RHoming.start (HDK.out w3 hb3w)
  have hap := RHoming.area hlive hst HN.out.symm (fun q hq => by have := HLT.out q hq; have := HB2.out.size; omega) (fun q hq e => by have := hown q hq; have := HLT.out q e; have := HB2.out.size; omega) (by omega) (by omega)
  rw [hmap] at hap
  obtain ⟨d5, hd5⟩ : ∃ d5, d5 = applyN ts d nl := ⟨_, rfl⟩
  have hsz5 : d5.stable.length = n := by rw [hd5, applyN_size]; exact HN.out.symm
  have HREC2 : Hid (dr = ((d5.flush.write (s + 1 + bk) (List.replicate 256 0)).write s (headH q2 bk)).flush) := Lib.hid (by rw [hd5]; exact HREC.out)
  rw [← hd5] at hap
  have HAP := Lib.hid hap; clear hap hst hlive hmap hown hd5 HREC
  have HB3 := Lib.hid hb3w; clear hb3w hb3
  go_wp2_with fail
  with_reducible refine HAP.out.mono ?_
  rintro e w4 ⟨rfl, hh4⟩
  clear HAP
  have hfl := hh4.flush (by omega)
  have HFL := Lib.hid hfl; clear hfl hh4
  go_wp2_with fail
  with_reducible refine HFL.out.mono ?_
  rintro e w5 ⟨rfl, hh5⟩
  clear HFL
  have HH5 := Lib.hid hh5; clear hh5
  have hmk : ∀ W, (Instr.makeSlice 25 (.int .i64 256) (.int .i64 256)).run Tryz.prog W = .ok (.slice (some ⟨W.heap.size, 0, none⟩) 256 256) (W.alloc (.cells ((List.replicate 256 (0 : UInt8)).map byteV).toArray 5)) := fun W => Go.Proofs.YtelnoibfamcnmaaGreat.Rec.run_makeZ 256 (by omega) W
  obtain ⟨bx, hbx⟩ : ∃ bx, bx = Obj.cells ((List.replicate 256 (0 : UInt8)).map byteV).toArray 5 := ⟨_, rfl⟩
  rw [← hbx] at hmk
  have hb6 : Below w5.heap.size w5 (w5.alloc bx) := (Below.refl _ w5).alloc (Nat.le_refl _) _
  have hh6 := HH5.out.later hb6
  have hz6 : Holds (w5.alloc bx) (w5.heap.size + 1) (some ⟨w5.heap.size, 0, none⟩) 256 (List.replicate 256 0) := by
    have h1 := owned_made w5 (List.replicate 256 0) w5.heap.size (Nat.le_refl _) (by unfold maxLen; simp)
    have h2 := Go.Proofs.YtelnoibfamcnmaaGreat.Rec.Owned.reads h1
    rw [hbx]
    simpa using h2
  have hw1 := hh6.write ((s : Int) + 1 + (bk : Int)) (by omega) (some ⟨w5.heap.size, 0, none⟩) 256 (w5.heap.size + 1) (List.replicate 256 0) (by rw [Dk.size_flush, hsz5]; omega) hz6 (by simp) (by omega)
  rw [show ((s : Int) + 1 + (bk : Int)).toNat = s + 1 + bk by omega] at hw1
  have HW1 := Lib.hid hw1; clear hw1 hh6 hz6 hb6
  have HBX := Lib.hid hbx; clear hbx
  go_wp2_with fail
  with_reducible refine HW1.out.mono ?_
  rintro e w6 ⟨rfl, hh7⟩
  clear HW1 hmk
  have hwl := wrap_is l (by omega)
  have hw2 : IntKind.u64.wrap ((q1 : Int) + (l : Int)) = (q2 : Int) := by rw [wrap_add, HQ12.out]
  have hhd := headr_any q2 bk w6 (by omega)
  have HHD := Lib.hid hhd; clear hhd
  have HH7 := Lib.hid hh7; clear hh7
  go_wp2_with fail
  with_reducible refine HHD.out.mono ?_
  rintro e w7 ⟨A7, c7, rfl, ho7, hb7⟩
  clear HHD hwl hw2
  have hw2 := (HH7.out.later hb7).write (s : Int) (by omega) A7 c7 w7.heap.size (headH q2 bk) (by rw [write_size, Dk.size_flush, hsz5]; omega) (Go.Proofs.YtelnoibfamcnmaaGreat.Rec.Owned.reads ho7) (Nat.le_refl _) (by omega)
  rw [show (s : Int).toNat = s by omega] at hw2
  have HW2 := Lib.hid hw2; clear hw2 ho7 hb7
  go_wp2_with fail
  with_reducible refine HW2.out.mono ?_
  rintro e w8 ⟨rfl, hh8⟩
  clear HW2
  have hf8 := hh8.flush (by omega)
  have HF8 := Lib.hid hf8; clear hf8 hh8
  go_wp2_with fail
  with_reducible refine HF8.out.mono ?_
  rintro e w9 ⟨rfl, hh9⟩
  clear HF8
  rw [← HREC2.out] at hh9
  have HH9 := Lib.hid hh9; clear hh9
  go_wp2
  go_ret2
  exact ⟨rfl, (RHoming.comp (fun k hk => .inl hk) (Turns.of_below (F := F) HB3.out) HH9.out).more (by omega)⟩
end Go.Proofs.YtelnoibfamcnmaaGreat.Rp
