/-
  The reference's Print: every record with valid levels, at most 4096 of them.
  The program's Print: every record; the text is the reference's. Condition: the table of powers of ten is laid.
-/
import Derived.Test.YtnncmaegmlaabaaGreatDoorProg
import Derived.Test.YtnncmaegmlaabaaGreatDoorH2
import Derived.Test.YtnncmaegmlaabaaGreatDoorT1
import Derived.Test.YtnncmaegmlaabaaGreatDoorY0
import Derived.Test.YtnncmaegmlaabaaGreatDoorMQ
import Derived.Test.YtnncmaegmlaabaaGreatDoorQ3
import Derived.Test.YtnncmaegmlaabaaGreatDoorT0
import Derived.Test.YtnncmaegmlaabaaGreatDoorY4
import Derived.Lib.SmallJoins

namespace Go.Proofs.YtnncmaegmlaabaaGreatDoor
open Go.RowKit
attribute [local go_sem] Oper.semAt_some

/-- The decimal text. -/
def itB (n : Int) : ByteArray := ⟨(Lib.itoa n).toArray⟩
/-- The text of a record's first ticks. -/
def txB (nm : ByteArray) (st : Int) (bs : List Nat) (gs : List (Int × Int)) : Nat → ByteArray
  | 0 => (⟨#[103, 97, 117, 103, 101, 32]⟩ : ByteArray) ++ nm ++ ⟨#[32]⟩ ++ itB st ++ ⟨#[10]⟩
  | k + 1 => if hasL gs k = true then txB nm st bs gs k ++ ⟨#[45, 10]⟩ else txB nm st bs gs k ++ itB (s16 (bs.getD k 0)) ++ ⟨#[10]⟩
theorem itB_size (n : Int) : (itB n).size ≤ n.natAbs + 2 := itoa_size n
theorem txB_size (nm : ByteArray) (st : Int) (bs : List Nat) (gs : List (Int × Int)) (hst : -1000000000 ≤ st ∧ st ≤ 1000000000) (hlev : ∀ i, i < bs.length → chkLev (bs.getD i 0) = 0) (hnm : nm.size ≤ 1000) : ∀ k, k ≤ bs.length → (txB nm st bs gs k).size ≤ 1000002010 + 1100 * k
  | 0, _ => by
    have := itB_size st
    rw [txB]
    simp only [ByteArray.size_append]
    have e1 : (⟨#[103, 97, 117, 103, 101, 32]⟩ : ByteArray).size = 6 := rfl
    have e2 : (⟨#[32]⟩ : ByteArray).size = 1 := rfl
    have e3 : (⟨#[10]⟩ : ByteArray).size = 1 := rfl
    omega
  | k + 1, hk => by
    have ih := txB_size nm st bs gs hst hlev hnm k (by omega)
    have h1 := hlev k (by omega)
    obtain ⟨-, t1, t2⟩ := sixt_of (show levOK (bs.getD k 0) = true by rw [levOK_iff]; simpa using h1)
    have h2 := itB_size (s16 (bs.getD k 0))
    have e3 : (⟨#[10]⟩ : ByteArray).size = 1 := rfl
    have e4 : (⟨#[45, 10]⟩ : ByteArray).size = 2 := rfl
    rw [txB]
    split
    · simp only [ByteArray.size_append]; omega
    · simp only [ByteArray.size_append]; omega
/-- The reference's record at its block, and what was there. -/
structure RP (w : World) (REC : Array Value) (W : World) : Prop where
  rcd : W.heap[w.heap.size]? = some (.cells REC 25 (0, 0))
  bel : Below w.heap.size w W
end Go.Proofs.YtnncmaegmlaabaaGreatDoor

namespace Go.Proofs.YtnncmaegmlaabaaGreatDoor
open Go.RowKit Go.Sort
attribute [local go_sem] Oper.semAt_some

theorem dec_short : ∀ k u : Nat, u < 10 ^ (k + 1) → (Lib.decDigits u).length ≤ k + 1
  | 0, u, h => by rw [Lib.decDigits_one (by omega)]; simp
  | k + 1, u, h => by
    by_cases h1 : u < 10
    · rw [Lib.decDigits_one h1]; simp
    · rw [Lib.decDigits, dif_neg h1]
      have := dec_short k (u / 10) (by rw [Nat.pow_succ] at h; omega)
      simp only [List.length_append, List.length_cons, List.length_nil]
      omega
theorem itB_small (n : Int) (h : -1000000 ≤ n ∧ n ≤ 1000000) : (itB n).size ≤ 32 := by
  show (Lib.itoa n).toArray.size ≤ 32
  rw [List.size_toArray]
  unfold Lib.itoa
  split
  · have := dec_short 6 n.natAbs (by omega)
    simp only [List.length_cons]; omega
  · have := dec_short 6 n.toNat (by omega)
    omega
theorem below_dgrow (w : World) (k : Nat) (os : Array Obj) : Below w.heap.size w (grow (w.drewN k) os) :=
  below_grown_sl w.heap.size w k os (Nat.le_refl _)
theorem ita_at (w : World) (n : Int) (h : -1000000 ≤ n ∧ n ≤ 1000000) (HT : ∀ W, Below w.heap.size w W → Lib.TabIs Tryz.prog W "internal/strconv.uint64pow10" .u64 Lib.pow10Tab) : ItaAt w itB n := by
  refine ⟨itB_small n h, fun W hW => (Tryz.strconv_Itoa n (by omega) (by omega) W (HT W hW)).mono ?_⟩
  rintro e w' ⟨rfl, k, os, rfl⟩
  exact ⟨rfl, below_dgrow W k os⟩
theorem bytes_one {a b : ByteArray} (h : a.data.toList = b.data.toList) : a = b := by
  have := bytes_inj (a := [a]) (b := [b]) (by simpa using h)
  simpa using this
theorem txB_text (nm : ByteArray) (st : Int) (bs : List Nat) (gs : List (Int × Int)) (hC : Can gs) : ∀ k, k ≤ bs.length → (txB nm st bs gs k).data.toList = textP itB nm st (knL gs bs.length) bs k
  | 0, _ => by
    rw [txB]
    simp [textP, headP]
  | k + 1, hk => by
    have ih := txB_text nm st bs gs hC k (by omega)
    have hm := knL_at gs bs.length k (by omega)
    rw [cov_has gs k hC] at hm
    rw [txB]
    unfold textP lineP
    rw [← ih, hm]
    cases hh : hasL gs (k : Int)
    · simp
    · simp
/-- The program's Print of a valid record. -/
theorem gPrint_any (nm : ByteArray) (st : Int) (lv gv : Value) (bs : List Nat) (gs : List (Int × Int)) (w : World) (hl : Rd w w.heap.size lv bs.length (flc bs)) (hg : Rd w w.heap.size gv gs.length (spc gs)) (V : Valid nm st bs gs)
    (HT : ∀ W, Below w.heap.size w W → Lib.TabIs Tryz.prog W "internal/strconv.uint64pow10" .u64 Lib.pow10Tab) :
    Calls Tryz.prog 8 #[.agg #[.string nm, .int .i64 st, lv, gv]] w fun e w' => e = .returned (.tuple #[.string (txB nm st bs gs bs.length), .int .i64 0]) ∧ Below w.heap.size w w' := by
  have hst : 0 ≤ st ∧ st ≤ 100000 := V.start
  have e1 : (⟨(textP itB nm st (knL gs bs.length) bs bs.length).toArray⟩ : ByteArray) = txB nm st bs gs bs.length := bytes_one (by rw [txB_text nm st bs gs (can_of gs V.spans) _ (Nat.le_refl _)])
  rw [← e1]
  refine print_at itB nm st lv gv bs gs w hl hg V (ita_at w st (by omega) HT) (fun i hi _ => ita_at w _ ?_ HT)
  obtain ⟨-, t1, t2⟩ := sixt_of (V.lev i hi)
  omega
end Go.Proofs.YtnncmaegmlaabaaGreatDoor
