/-
  The reference's Print: every record with valid levels, at most 4096 of them.
  The program's Print: every record; the text is the reference's. Condition: the table of powers of ten is laid.
-/
import Derived.Test.YtnncmaegmlaabaaGreatDoorProg
import Derived.Test.YtnncmaegmlaabaaGreatDoorT2
import Derived.Test.YtnncmaegmlaabaaGreatDoorY0
import Derived.Test.YtnncmaegmlaabaaGreatDoorMQ
import Derived.Test.YtnncmaegmlaabaaGreatDoorQ3
import Derived.Test.YtnncmaegmlaabaaGreatDoorT0
import Derived.Test.YtnncmaegmlaabaaGreatDoorY4
import Derived.Lib.SmallJoins

namespace Go.Proofs.YtnncmaegmlaabaaGreatDoor
open Go.RowKit
attribute [local go_sem] Oper.semAt_some

/-- The decimal text. -/
def itB (n : Int) : ByteArray := ⟨(Lib.itoa n).toArray⟩
/-- The text of a record's first ticks. -/
def txB (nm : ByteArray) (st : Int) (bs : List Nat) (gs : List (Int × Int)) : Nat → ByteArray
  | 0 => (⟨#[103, 97, 117, 103, 101, 32]⟩ : ByteArray) ++ nm ++ ⟨#[32]⟩ ++ itB st ++ ⟨#[10]⟩
  | k + 1 => if hasL gs k = true then txB nm st bs gs k ++ ⟨#[45, 10]⟩ else txB nm st bs gs k ++ itB (s16 (bs.getD k 0)) ++ ⟨#[10]⟩
theorem itB_size (n : Int) : (itB n).size ≤ n.natAbs + 2 := itoa_size n
theorem txB_size (nm : ByteArray) (st : Int) (bs : List Nat) (gs : List (Int × Int)) (hst : -1000000000 ≤ st ∧ st ≤ 1000000000) (hlev : ∀ i, i < bs.length → chkLev (bs.getD i 0) = 0) (hnm : nm.size ≤ 1000) : ∀ k, k ≤ bs.length → (txB nm st bs gs k).size ≤ 1000002010 + 1100 * k
  | 0, _ => by
    have := itB_size st
    rw [txB]
    simp only [ByteArray.size_append]
    have e1 : (⟨#[103, 97, 117, 103, 101, 32]⟩ : ByteArray).size = 6 := rfl
    have e2 : (⟨#[32]⟩ : ByteArray).size = 1 := rfl
    have e3 : (⟨#[10]⟩ : ByteArray).size = 1 := rfl
    omega
  | k + 1, hk => by
    have ih := txB_size nm st bs gs hst hlev hnm k (by omega)
    have h1 := hlev k (by omega)
    obtain ⟨-, t1, t2⟩ := sixt_of (show levOK (bs.getD k 0) = true by rw [levOK_iff]; simpa using h1)
    have h2 := itB_size (s16 (bs.getD k 0))
    have e3 : (⟨#[10]⟩ : ByteArray).size = 1 := rfl
    have e4 : (⟨#[45, 10]⟩ : ByteArray).size = 2 := rfl
    rw [txB]
    split
    · simp only [ByteArray.size_append]; omega
    · simp only [ByteArray.size_append]; omega
/-- The reference's record at its block, and what was there. -/
structure RP (w : World) (REC : Array Value) (W : World) : Prop where
  rcd : W.heap[w.heap.size]? = some (.cells REC 25 (0, 0))
  bel : Below w.heap.size w W
theorem RP.below {w : World} {REC : Array Value} {W V : World} (h : RP w REC W) (hb : Below W.heap.size W V) : RP w REC V :=
  ⟨(hb.block _ (blk_lt h.rcd)).trans h.rcd, h.bel.trans (hb.mono h.bel.size)⟩
theorem RP.drew {w : World} {REC : Array Value} {W : World} (h : RP w REC W) : RP w REC W.drew := ⟨h.rcd, h.bel.drew⟩
set_option maxRecDepth 1000000 in
set_option maxHeartbeats 4000000 in
theorem refPrint_any (nm : ByteArray) (st : Int) (lv gv : Value) (bs : List Nat) (gs : List (Int × Int)) (w : World) (hl : Rd w w.heap.size lv bs.length (flc bs)) (hg : Rd w w.heap.size gv gs.length (spc gs))
    (hst : -1000000000 ≤ st ∧ st ≤ 1000000000) (hlev : ∀ i, i < bs.length → chkLev (bs.getD i 0) = 0) (hn : bs.length ≤ 100000) (hnm : nm.size ≤ 1000) :
    Calls Tryz.prog 12 #[.agg #[.string nm, .int .i64 st, lv, gv]] w fun e w' => e = .returned (.string (txB nm st bs gs bs.length)) ∧ Below w.heap.size w w' := by
  have HL := hd hl
  have HG := hd hg
  have HF := hd hlev
  obtain ⟨A, c, rfl, hc1, hc2, -⟩ := hl
  obtain ⟨A2, c2, rfl, -⟩ := hg
  unfold maxLen at hc2
  obtain ⟨IT, hIT⟩ : ∃ S : ByteArray, S = itB st := ⟨_, rfl⟩
  have z1 : IT.size ≤ 1000000002 := by have := itoa_size st; rw [hIT]; show (⟨(Lib.itoa st).toArray⟩ : ByteArray).size ≤ _; omega
  have HT0 := hd (fun W => by have h := refText_any st hst W; rw [show (⟨(Lib.itoa st).toArray⟩ : ByteArray) = IT from hIT.symm] at h; exact h)
  have HTX := hd (show txB nm st bs gs 0 = (⟨#[103, 97, 117, 103, 101, 32]⟩ : ByteArray) ++ nm ++ ⟨#[32]⟩ ++ IT ++ ⟨#[10]⟩ by rw [txB, hIT])
  have HI0 := hd (show RP w #[.string nm, .int .i64 st, .slice A bs.length c, .slice A2 gs.length c2] (w.alloc (Obj.cells #[.string nm, .int .i64 st, .slice A bs.length c, .slice A2 gs.length c2] 25)) from ⟨blk_new w _ _, (Below.refl w.heap.size w).alloc (Nat.le_refl _) _⟩)
  have HZ := hd (fun k hk => txB_size nm st bs gs hst hlev hnm k hk)
  clear hlev hst hIT
  go_enter Tryz.func12, Tryz.ntmps12
  have k0 := blk_cell HI0.out.rcd 0
  have k1 := blk_cell HI0.out.rcd 1
  simp at k0 k1
  go_wp2_with fail
  go_region_with (first | (go_at_call 59; refine (HT0.out _).mono ?_; rintro e w1 ⟨rfl, hb1⟩; have HI1 := hd (HI0.out.drew.below hb1); have r0 := blk_cell HI1.out.rcd 0; simp at r0; clear hb1))
  all_goals
    go_wp2_with fail
    go_loopw [3, 4] (fun s i wr => ∃ k : Nat, k ≤ bs.length ∧ s = .string (txB nm st bs gs k) ∧ i = .int .i64 k ∧ Hid (RP w #[.string nm, .int .i64 st, .slice A bs.length c, .slice A2 gs.length c2] wr)) (fun _ i _ => bs.length - (intOf i).toNat)
    case atStart => exact ⟨0, Nat.zero_le _, by rw [HTX.out], rfl, HI1⟩
    case round =>
      obtain ⟨k, hk, rfl, rfl, HI⟩ := hrel
      have p2 := blk_cell HI.out.rcd 2
      simp at p2
      have zs := HZ.out k hk
      by_cases hlt : k < bs.length
      · have hki : (k : Int) < (bs.length : Int) := by omega
        have p0 := blk_cell HI.out.rcd 0
        have p1 := blk_cell HI.out.rcd 1
        have p3 := blk_cell HI.out.rcd 3
        simp at p0 p1 p3
        have HRR := hd (refRecorded_any nm st A A2 bs.length c c2 gs k wr ((HG.out.below HI.out.bel (Nat.le_refl _)).mono HI.out.bel.size) hlt)
        cases hh : hasL gs (k : Nat)
        · rw [hh] at HRR
          have HS := hd (show txB nm st bs gs (k + 1) = txB nm st bs gs k ++ itB (s16 (bs.getD k 0)) ++ ⟨#[10]⟩ by rw [txB, if_neg (by rw [hh]; decide)])
          have hlx := HF.out k hlt
          have HSX := hd (fun W => refSixt_any (bs.getD k 0) W hlx)
          obtain ⟨-, t1, t2⟩ := sixt_of (show levOK (bs.getD k 0) = true by rw [levOK_iff]; simpa using hlx)
          have HTT := hd (fun W => refText_any (s16 (bs.getD k 0)) (by omega) W)
          have z2 : (itB (s16 (bs.getD k 0))).size ≤ 2000 := by have := itB_size (s16 (bs.getD k 0)); omega
          have HC := hd (show ∀ V, RP w #[.string nm, .int .i64 st, .slice A bs.length c, .slice A2 gs.length c2] V → ∃ b off, A = some ⟨b, off, none⟩ ∧ V.cell? ⟨b, off + k, none⟩ = some (.float .f32 (bs.getD k 0)) from fun V hV => by
            obtain ⟨A', c', hE, -, -, hcell⟩ := HL.out
            cases hE
            obtain ⟨b, off, hA, hbb, hcell⟩ := hcell (by omega)
            exact ⟨b, off, hA, (hV.bel.cell (p := ⟨b, _, none⟩) hbb).trans ((hcell k (by simpa [flc] using hlt)).trans (flc_at bs k hlt))⟩)
          clear hlx t1 t2 hh
          have HT2 := hd (fun W => by have h := HTT.out W; rw [show (⟨(Lib.itoa (s16 (bs.getD k 0))).toArray⟩ : ByteArray) = itB (s16 (bs.getD k 0)) from rfl] at h; exact h)
          clear HTT
          generalize itB (s16 (bs.getD k 0)) = IX at *
          generalize s16 (bs.getD k 0) = n16 at *
          generalize bs.getD k 0 = x at *
          generalize txB nm st bs gs k = S at *
          go_wp2_with fail
          refine HRR.out.mono ?_
          rintro e w2 ⟨rfl, hb2⟩
          have HI2 := hd (HI.out.below hb2)
          have q2 := blk_cell HI2.out.rcd 2
          simp at q2
          obtain ⟨b, off, rfl, hx⟩ := HC.out w2 HI2.out
          go_wp2_with fail
          refine (HSX.out _).mono ?_
          rintro e w3 ⟨rfl, rfl⟩
          go_wp2_with fail
          refine (HT2.out _).mono ?_
          rintro e w4 ⟨rfl, hb4⟩
          have HI4 := hd (HI2.out.below hb4)
          clear hb4 hx
          go_wp2
          go_roundw
          case rel => exact ⟨k + 1, by omega, by rw [HS.out], by go_num, HI4⟩
          case measure => simp [intOf]; omega
        · rw [hh] at HRR
          have HS := hd (show txB nm st bs gs (k + 1) = txB nm st bs gs k ++ ⟨#[45, 10]⟩ by rw [txB, if_pos hh])
          clear hh
          generalize txB nm st bs gs k = S at *
          go_wp2_with fail
          refine HRR.out.mono ?_
          rintro e w2 ⟨rfl, hb2⟩
          have HI2 := hd (HI.out.below hb2)
          clear hb2
          go_wp2
          go_roundw
          case rel => exact ⟨k + 1, by omega, by rw [HS.out], by go_num, HI2⟩
          case measure => simp [intOf]; omega
      · have hke : k = bs.length := by omega
        subst hke
        go_wp2
        go_ret
        exact ⟨rfl, HI.out.bel⟩
end Go.Proofs.YtnncmaegmlaabaaGreatDoor

namespace Go.Proofs.YtnncmaegmlaabaaGreatDoor
open Go.RowKit Go.Sort
attribute [local go_sem] Oper.semAt_some

theorem dec_short : ∀ k u : Nat, u < 10 ^ (k + 1) → (Lib.decDigits u).length ≤ k + 1
  | 0, u, h => by rw [Lib.decDigits_one (by omega)]; simp
  | k + 1, u, h => by
    by_cases h1 : u < 10
    · rw [Lib.decDigits_one h1]; simp
    · rw [Lib.decDigits, dif_neg h1]
      have := dec_short k (u / 10) (by rw [Nat.pow_succ] at h; omega)
      simp only [List.length_append, List.length_cons, List.length_nil]
      omega
theorem itB_small (n : Int) (h : -1000000 ≤ n ∧ n ≤ 1000000) : (itB n).size ≤ 32 := by
  show (Lib.itoa n).toArray.size ≤ 32
  rw [List.size_toArray]
  unfold Lib.itoa
  split
  · have := dec_short 6 n.natAbs (by omega)
    simp only [List.length_cons]; omega
  · have := dec_short 6 n.toNat (by omega)
    omega
theorem below_dgrow (w : World) (k : Nat) (os : Array Obj) : Below w.heap.size w (grow (w.drewN k) os) :=
  below_grown_sl w.heap.size w k os (Nat.le_refl _)
theorem ita_at (w : World) (n : Int) (h : -1000000 ≤ n ∧ n ≤ 1000000) (HT : ∀ W, Below w.heap.size w W → Lib.TabIs Tryz.prog W "internal/strconv.uint64pow10" .u64 Lib.pow10Tab) : ItaAt w itB n := by
  refine ⟨itB_small n h, fun W hW => (Tryz.strconv_Itoa n (by omega) (by omega) W (HT W hW)).mono ?_⟩
  rintro e w' ⟨rfl, k, os, rfl⟩
  exact ⟨rfl, below_dgrow W k os⟩
theorem bytes_one {a b : ByteArray} (h : a.data.toList = b.data.toList) : a = b := by
  have := bytes_inj (a := [a]) (b := [b]) (by simpa using h)
  simpa using this
theorem txB_text (nm : ByteArray) (st : Int) (bs : List Nat) (gs : List (Int × Int)) (hC : Can gs) : ∀ k, k ≤ bs.length → (txB nm st bs gs k).data.toList = textP itB nm st (knL gs bs.length) bs k
  | 0, _ => by
    rw [txB]
    simp [textP, headP]
  | k + 1, hk => by
    have ih := txB_text nm st bs gs hC k (by omega)
    have hm := knL_at gs bs.length k (by omega)
    rw [cov_has gs k hC] at hm
    rw [txB]
    unfold textP lineP
    rw [← ih, hm]
    cases hh : hasL gs (k : Int)
    · simp
    · simp
/-- The program's Print of a valid record. -/
theorem gPrint_any (nm : ByteArray) (st : Int) (lv gv : Value) (bs : List Nat) (gs : List (Int × Int)) (w : World) (hl : Rd w w.heap.size lv bs.length (flc bs)) (hg : Rd w w.heap.size gv gs.length (spc gs)) (V : Valid nm st bs gs)
    (HT : ∀ W, Below w.heap.size w W → Lib.TabIs Tryz.prog W "internal/strconv.uint64pow10" .u64 Lib.pow10Tab) :
    Calls Tryz.prog 8 #[.agg #[.string nm, .int .i64 st, lv, gv]] w fun e w' => e = .returned (.tuple #[.string (txB nm st bs gs bs.length), .int .i64 0]) ∧ Below w.heap.size w w' := by
  have hst : 0 ≤ st ∧ st ≤ 100000 := V.start
  have e1 : (⟨(textP itB nm st (knL gs bs.length) bs bs.length).toArray⟩ : ByteArray) = txB nm st bs gs bs.length := bytes_one (by rw [txB_text nm st bs gs (can_of gs V.spans) _ (Nat.le_refl _)])
  rw [← e1]
  refine print_at itB nm st lv gv bs gs w hl hg V (ita_at w st (by omega) HT) (fun i hi _ => ita_at w _ ?_ HT)
  obtain ⟨-, t1, t2⟩ := sixt_of (V.lev i hi)
  omega
set_option maxRecDepth 1000000 in
theorem print_bad (nm : ByteArray) (st : Int) (A A2 : Option Addr) (c c2 : Nat) (bs : List Nat) (gs : List (Int × Int)) (E : Int) (w : World) (HL : Hid (Rd w w.heap.size (.slice A bs.length c) bs.length (flc bs))) (HG : Hid (Rd w w.heap.size (.slice A2 gs.length c2) gs.length (spc gs))) (hs : nm.size ≤ maxLen)
    (hE : chkRec nm st bs gs = E) (h0 : (E != 0) = true) :
    Calls Tryz.prog 8 #[.agg #[.string nm, .int .i64 st, .slice A bs.length c, .slice A2 gs.length c2]] w fun e w' => e = .returned (.tuple #[.string ⟨#[]⟩, .int .i64 E]) ∧ Below w.heap.size w w' := by
  have CR := hd (fun W h h' => show Calls Tryz.prog 41 #[.agg #[.string nm, .int .i64 st, .slice A bs.length c, .slice A2 gs.length c2]] W fun e w' => e = .returned (.int .i64 E) ∧ Below W.heap.size W w' from by rw [← hE]; exact chkRec_any nm st _ _ bs gs W h h' hs)
  clear hE hs
  have hb0 : Below w.heap.size w (w.alloc (.cells #[.string nm, .int .i64 st, .slice A bs.length c, .slice A2 gs.length c2] 31)) := (Below.refl _ w).alloc (Nat.le_refl _) _
  have RL := hd ((HL.out.below hb0 (Nat.le_refl _)).mono hb0.size)
  have RG := hd ((HG.out.below hb0 (Nat.le_refl _)).mono hb0.size)
  have HB0 := hd hb0
  clear hb0
  go_enter Tryz.func8, Tryz.ntmps8
  go_wp2_with fail
  refine (CR.out _ RL.out RG.out).mono ?_
  rintro e w1 ⟨rfl, hb1⟩
  have H1 := hd (HB0.out.trans (hb1.mono HB0.out.size))
  clear hb1
  go_wp2_with fail
  go_returns
  exact ⟨rfl, H1.out⟩
end Go.Proofs.YtnncmaegmlaabaaGreatDoor
