/-
  Plain words of TopSkipperVotes: the vote of two equal gauges and a third one is the two gauges' record, with the same waters. No program.
-/
import Derived.Test.YtibhjdmndlelaaaGreatDoorD2
import Derived.Test.YtibhjdmndlelaaaGreatDoorT1
import Derived.Test.YtibhjdmndlelaaaGreatDoorT5
import Derived.Test.YtibhjdmndlelaaaGreatDoorProg
import Derived.Test.YtibhjdmndlelaaaGreatDoorQ2
import Derived.Test.YtibhjdmndlelaaaGreatDoorMK
import Derived.Test.YtibhjdmndlelaaaGreatDoorZ2
namespace Go.Proofs.YtibhjdmndlelaaaGreatDoor
open Go.RowKit

/-- Two equal ones, and another one at the place p. -/
def tri {α : Type} (p : Nat) (x y : α) (g : Nat) : α := if g = p then y else x
/-- At how many indices ahead of m both are recorded and differ by more than the tolerance. -/
def farF (bs bs' : List Nat) (gs gs' : List (Int × Int)) (tol : Int) : Nat → Int
  | 0 => 0
  | m + 1 => farF bs bs' gs gs' tol m + (if !hasL gs (m : Int) && (!hasL gs' (m : Int) && decide (tol < max (s16 (bs.getD m 0) - s16 (bs'.getD m 0)) (-(s16 (bs.getD m 0) - s16 (bs'.getD m 0))))) then 1 else 0)
section
variable {p : Nat} (hp : p = 0 ∨ p = 2) {bs bs' : List Nat} {gs gs' : List (Int × Int)} {tol : Int} (ht : 0 ≤ tol)
include hp ht
theorem tri_vote (i : Nat) : rvI (tri p bs bs') (tri p gs gs') tol i = if hasL gs (i : Int) = true then (0, false) else (s16 (bs.getD i 0), true) := by
  unfold rvI rSk
  rcases hp with rfl | rfl <;> cases h1 : hasL gs (i : Int) <;> cases h2 : hasL gs' (i : Int) <;> simp [List.range_succ, tri, h1, h2, rvt] <;> omega
theorem tri_dev (i g : Nat) : rDev (tri p bs bs') (tri p gs gs') tol i g = (decide (g = p) && (!hasL gs (i : Int) && (!hasL gs' (i : Int) && decide (tol < max (s16 (bs.getD i 0) - s16 (bs'.getD i 0)) (-(s16 (bs.getD i 0) - s16 (bs'.getD i 0))))))) := by
  unfold rDev
  rw [tri_vote hp ht i]
  by_cases e : g = p
  · subst e
    cases h1 : hasL gs (i : Int)
    · simp only [Bool.false_eq_true, if_false, decide_true, Bool.true_and, Bool.not_false, tri, if_true]
      congr 1
      rw [decide_eq_decide]
      omega
    · simp
  · cases h1 : hasL gs (i : Int)
    · simp only [Bool.false_eq_true, if_false, Bool.true_and, tri, if_neg e, h1, Bool.not_false, decide_eq_false e, Bool.false_and]
      rw [decide_eq_false_iff_not]
      omega
    · simp [e]
theorem tri_cnt (g : Nat) : ∀ m, rCnt (tri p bs bs') (tri p gs gs') tol g m = if g = p then farF bs bs' gs gs' tol m else 0
  | 0 => by simp [rCnt, farF]
  | m + 1 => by
    unfold rCnt
    rw [tri_cnt g m, tri_dev hp ht m g]
    by_cases e : g = p
    · simp only [e, if_true, decide_true, Bool.true_and]
      rfl
    · simp [e]
end
section
variable {p : Nat} {bs bs' : List Nat} {gs gs' : List (Int × Int)} {n : Nat} {tol : Int}
theorem tri_both (h1 : bs.length = n) (h2 : bs'.length = n) (c1 : Can gs) (c2 : Can gs') (l1 : ∀ j, j < n → chkLev (bs.getD j 0) = 0) (l2 : ∀ j, j < n → chkLev (bs'.getD j 0) = 0) : Both (tri p bs bs') (tri p gs gs') n := by
  refine ⟨fun g _ => ?_, fun g _ => ?_, fun g _ j hj => ?_⟩ <;> unfold tri <;> split
  · exact h2
  · exact h1
  · exact c2
  · exact c1
  · exact l2 j hj
  · exact l1 j hj
end
theorem feq_rev {b : Nat} (h : chkLev b = 0) (hz : feqL b 0 = true) : feqL 0 b = true := by
  have h0 : finB 0 = true := by decide +kernel
  rw [feq_num (fin_lev h) h0] at hz
  rw [feq_num h0 (fin_lev h)]
  have := of_decide_eq_true hz
  simp [this]
section
variable {p : Nat} (hp : p = 0 ∨ p = 2) {bs bs' : List Nat} {gs gs' : List (Int × Int)} {tol : Int} (ht : 0 ≤ tol) (B : Both (tri p bs bs') (tri p gs gs') bs.length)
include hp ht B
theorem tri_mrk : vMrk (balF (tri p bs bs') (tri p gs gs') 3) tol bs.length bs.length = (List.range bs.length).map (fun i : Nat => !hasL gs (i : Int)) := by
  rw [B.mrk tol]
  unfold rMrk
  refine List.map_congr_left fun i hi => ?_
  have hi : i < bs.length := by simpa using hi
  rw [tri_vote hp ht i, decide_eq_true hi, Bool.true_and]
  cases hasL gs (i : Int) <;> rfl
end
theorem tri_len (p : Nat) (bs bs' : List Nat) (gs gs' : List (Int × Int)) (tol : Int) : (asmK (vLev (balF (tri p bs bs') (tri p gs gs') 3) tol bs.length bs.length) (vMrk (balF (tri p bs bs') (tri p gs gs') 3) tol bs.length bs.length) bs.length).length = bs.length := by rw [asmK_len, vLev_len]
section
variable {p : Nat} (hp : p = 0 ∨ p = 2) {nm : ByteArray} {st : Int} {bs bs' : List Nat} {gs gs' : List (Int × Int)} {tol : Int} (ht : 0 ≤ tol) (B : Both (tri p bs bs') (tri p gs gs') bs.length) (V : Valid nm st bs gs)
include hp ht B V
theorem tri_gaps (hC : Can gs) : strF (misK (vMrk (balF (tri p bs bs') (tri p gs gs') 3) tol bs.length bs.length) bs.length bs.length) bs.length = gs := by
  rw [tri_mrk hp ht B, misK_not _ _ (by simp)]
  obtain ⟨c1, c2, c3⟩ := str_can (((List.range bs.length).map (fun i : Nat => !hasL gs (i : Int))).map (!·)) bs.length
  have hb := (chkSpans_ok gs V.spans).2.1
  refine can_uniq _ _ c1 hC fun t => ?_
  rw [c3 t]
  by_cases h1 : 0 ≤ t ∧ t < (bs.length : Int)
  · obtain ⟨j, rfl⟩ := Int.eq_ofNat_of_zero_le h1.1
    have hj : j < bs.length := by omega
    have e1 : decide ((0 : Int) ≤ (j : Int)) = true := by simp
    have e2 : decide ((j : Int) < (bs.length : Int)) = true := by simpa using hj
    rw [e1, e2, Int.toNat_natCast, not_getD _ j (by simpa using hj)]
    simp [hj]
  · have e1 : (decide (0 ≤ t) && decide (t < (bs.length : Int))) = false := by
      rw [Bool.and_eq_false_iff, decide_eq_false_iff_not, decide_eq_false_iff_not]; omega
    rw [e1, Bool.false_and]
    symm
    refine hasL_false.2 fun s hs hh => h1 ⟨by have := (hb s hs).1; omega, ?_⟩
    obtain ⟨j, hj, rfl⟩ := List.mem_iff_getElem.1 hs
    have := V.ends j hj
    have e : gs.getD j (0, 0) = gs[j] := by simp [hj]
    rw [e] at this; omega
/-- A level of the vote. -/
theorem tri_lev (hl : ∀ i, i < bs.length → chkLev (bs.getD i 0) = 0) (i : Nat) (hi : i < bs.length) : chkLev ((asmK (vLev (balF (tri p bs bs') (tri p gs gs') 3) tol bs.length bs.length) (vMrk (balF (tri p bs bs') (tri p gs gs') 3) tol bs.length bs.length) bs.length).getD i 0) = 0 ∧ feqL ((asmK (vLev (balF (tri p bs bs') (tri p gs gs') 3) tol bs.length bs.length) (vMrk (balF (tri p bs bs') (tri p gs gs') 3) tol bs.length bs.length) bs.length).getD i 0) (bs.getD i 0) = true ∧ (hasL gs (i : Int) = true → (asmK (vLev (balF (tri p bs bs') (tri p gs gs') 3) tol bs.length bs.length) (vMrk (balF (tri p bs bs') (tri p gs gs') 3) tol bs.length bs.length) bs.length).getD i 0 = 0) := by
  have e1 := asmK_at (vLev (balF (tri p bs bs') (tri p gs gs') 3) tol bs.length bs.length) (vMrk (balF (tri p bs bs') (tri p gs gs') 3) tol bs.length bs.length) i (by rw [vLev_len]; exact hi)
  rw [vLev_len, tri_mrk hp ht B] at e1
  rw [tri_mrk hp ht B, e1]
  have e3 : ((List.range bs.length).map (fun i : Nat => !hasL gs (i : Int))).getD i false = !hasL gs (i : Int) := by simp [hi]
  have e4 : (vLev (balF (tri p bs bs') (tri p gs gs') 3) tol bs.length bs.length).getD i 0 = if (vL (balF (tri p bs bs') (tri p gs gs') 3) tol i).2 then (vL (balF (tri p bs bs') (tri p gs gs') 3) tol i).1 else 0 := by simp [vLev, hi]
  rw [e3, e4]
  obtain ⟨h1, h2⟩ := B.vote tol hi
  rw [tri_vote hp ht i] at h1 h2
  cases hg : hasL gs (i : Int)
  · rw [hg] at h1 h2
    simp only [Bool.false_eq_true, if_false] at h1 h2
    obtain ⟨h3, h4⟩ := h2 h1
    simp only [Bool.not_false, if_true, h1]
    exact ⟨h3, by rw [feq16 h3 (hl i hi), h4]; exact decide_eq_true rfl, fun h => by cases h⟩
  · simp only [Bool.not_true, Bool.false_eq_true, if_false]
    refine ⟨by decide +kernel, ?_, fun _ => trivial⟩
    obtain ⟨s, hs, h3, h4⟩ := hasL_true.1 hg
    obtain ⟨j, hj, rfl⟩ := List.mem_iff_getElem.1 hs
    have e : gs.getD j (0, 0) = gs[j] := by simp [hj]
    have := V.silent j hj i (by rw [e]; exact h3) (by rw [e]; exact h4)
    refine feq_rev (hl i hi) ?_
    unfold feqL
    simpa [bne] using this
theorem tri_same (hl : ∀ i, i < bs.length → chkLev (bs.getD i 0) = 0) : sameF feqL 0 (asmK (vLev (balF (tri p bs bs') (tri p gs gs') 3) tol bs.length bs.length) (vMrk (balF (tri p bs bs') (tri p gs gs') 3) tol bs.length bs.length) bs.length) bs = true :=
  sameF_yes feqL 0 _ _ (tri_len p bs bs' gs gs' tol) fun i hi => (tri_lev hp ht B V hl i (by rw [tri_len p bs bs' gs gs' tol] at hi; exact hi)).2.1
end
end Go.Proofs.YtibhjdmndlelaaaGreatDoor
