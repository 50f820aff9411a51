/-
  Plain words of GaugeMiddle: the vote of three gauges, in whichever order; between which levels it lies; what deviates. No program.
-/
import Derived.Test.YtibhjdmndlelaaaGreatDoorU1
import Derived.Test.YtibhjdmndlelaaaGreatDoorKB
namespace Go.Proofs.YtibhjdmndlelaaaGreatDoor
open Go.RowKit

/-- One of three. -/
def f3 {α : Type} (a b c : α) : Nat → α
  | 0 => a
  | 1 => b
  | _ => c
theorem rvt2_comm (a b tol : Int) : rvt [a, b] tol = rvt [b, a] tol := by
  unfold rvt
  simp only
  rw [Int.max_comm (a - b), Int.max_comm a b]
theorem rvt3_turn (a b c tol : Int) : rvt [c, a, b] tol = rvt [a, b, c] tol := by
  unfold rvt
  simp only
  refine Prod.ext ?_ rfl
  simp only
  omega
section
variable (b0 b1 b2 : List Nat) (g0 g1 g2 : List (Int × Int)) (tol : Int)
/-- What is recorded of three gauges at an index. -/
theorem rS3 (i : Nat) : rSk (f3 b0 b1 b2) (f3 g0 g1 g2) i 3 = (if hasL g0 (i : Int) then [] else [s16 (b0.getD i 0)]) ++ (if hasL g1 (i : Int) then [] else [s16 (b1.getD i 0)]) ++ (if hasL g2 (i : Int) then [] else [s16 (b2.getD i 0)]) := by
  unfold rSk
  cases h0 : hasL g0 (i : Int) <;> cases h1 : hasL g1 (i : Int) <;> cases h2 : hasL g2 (i : Int) <;> simp [List.range_succ, f3, h0, h1, h2]
theorem rv_turn (i : Nat) : rvI (f3 b2 b0 b1) (f3 g2 g0 g1) tol i = rvI (f3 b0 b1 b2) (f3 g0 g1 g2) tol i := by
  unfold rvI
  rw [rS3, rS3]
  cases h0 : hasL g0 (i : Int) <;> cases h1 : hasL g1 (i : Int) <;> cases h2 : hasL g2 (i : Int) <;> simp only [if_true, Bool.false_eq_true, if_false, List.nil_append, List.append_nil, List.cons_append]
  · exact rvt3_turn _ _ _ _
  · exact rvt2_comm _ _ _
  · exact rvt2_comm _ _ _
theorem dev_turn (i : Nat) : rDev (f3 b2 b0 b1) (f3 g2 g0 g1) tol i 0 = rDev (f3 b0 b1 b2) (f3 g0 g1 g2) tol i 2 ∧ rDev (f3 b2 b0 b1) (f3 g2 g0 g1) tol i 1 = rDev (f3 b0 b1 b2) (f3 g0 g1 g2) tol i 0 ∧ rDev (f3 b2 b0 b1) (f3 g2 g0 g1) tol i 2 = rDev (f3 b0 b1 b2) (f3 g0 g1 g2) tol i 1 := by
  unfold rDev
  rw [rv_turn]
  exact ⟨rfl, rfl, rfl⟩
theorem cnt_turn : ∀ m, rCnt (f3 b2 b0 b1) (f3 g2 g0 g1) tol 0 m = rCnt (f3 b0 b1 b2) (f3 g0 g1 g2) tol 2 m ∧ rCnt (f3 b2 b0 b1) (f3 g2 g0 g1) tol 1 m = rCnt (f3 b0 b1 b2) (f3 g0 g1 g2) tol 0 m ∧ rCnt (f3 b2 b0 b1) (f3 g2 g0 g1) tol 2 m = rCnt (f3 b0 b1 b2) (f3 g0 g1 g2) tol 1 m
  | 0 => ⟨rfl, rfl, rfl⟩
  | m + 1 => by
    obtain ⟨h0, h1, h2⟩ := cnt_turn m
    obtain ⟨d0, d1, d2⟩ := dev_turn b0 b1 b2 g0 g1 g2 tol m
    unfold rCnt
    rw [h0, h1, h2, d0, d1, d2]
    exact ⟨rfl, rfl, rfl⟩
end
section
variable {bs : Nat → List Nat} {gs : Nat → List (Int × Int)} {n : Nat}
/-- By the greatest tolerance nothing deviates. -/
theorem cnt_never (B : Both bs gs n) (g : Nat) (hg : g < 3) : ∀ m, m ≤ n → rCnt bs gs 2048 g m = 0
  | 0, _ => rfl
  | m + 1, hm => by
    unfold rCnt
    rw [cnt_never B g hg m (by omega), if_neg, Int.add_zero]
    intro h
    unfold rDev at h
    rw [Bool.and_eq_true, Bool.and_eq_true, decide_eq_true_eq] at h
    have h1 := B.val 2048 (show m < n by omega) h.1
    have h2 := s16_in (B.lev g hg m (by omega))
    have := h.2.2
    omega
variable (B : Both bs gs n) (tol : Int)
include B
/-- The marks of a vote. -/
theorem mid_mrk : vMrk (balF bs gs 3) tol n n = (List.range n).map (fun i => (rvI bs gs tol i).2) := by
  rw [B.mrk tol]
  unfold rMrk
  refine List.map_congr_left fun i hi => ?_
  have hi : i < n := by simpa using hi
  rw [decide_eq_true hi, Bool.true_and]
/-- A level of a vote. -/
theorem mid_lev (i : Nat) (hi : i < n) : chkLev ((asmK (vLev (balF bs gs 3) tol n n) (vMrk (balF bs gs 3) tol n n) n).getD i 0) = 0 ∧ ((rvI bs gs tol i).2 = true → s16 ((asmK (vLev (balF bs gs 3) tol n n) (vMrk (balF bs gs 3) tol n n) n).getD i 0) = (rvI bs gs tol i).1) ∧ ((rvI bs gs tol i).2 = false → (asmK (vLev (balF bs gs 3) tol n n) (vMrk (balF bs gs 3) tol n n) n).getD i 0 = 0) := by
  have e1 := asmK_at (vLev (balF bs gs 3) tol n n) (vMrk (balF bs gs 3) tol n n) i (by rw [vLev_len]; exact hi)
  rw [vLev_len, mid_mrk B tol] at e1
  rw [mid_mrk B tol, e1]
  have e3 : ((List.range n).map (fun i => (rvI bs gs tol i).2)).getD i false = (rvI bs gs tol i).2 := by simp [hi]
  have e4 : (vLev (balF bs gs 3) tol n n).getD i 0 = if (vL (balF bs gs 3) tol i).2 then (vL (balF bs gs 3) tol i).1 else 0 := by simp [vLev, hi]
  rw [e3, e4]
  obtain ⟨h1, h2⟩ := B.vote tol hi
  cases hv : (rvI bs gs tol i).2
  · simp only [Bool.false_eq_true, if_false]
    exact ⟨by decide +kernel, fun h => h.elim, fun _ => trivial⟩
  · rw [hv] at h1
    obtain ⟨h3, h4⟩ := h2 h1
    simp only [if_true, h1]
    exact ⟨h3, fun _ => h4, fun h => by cases h⟩
theorem mid_has (i : Nat) (hi : i < n) : hasL (strF (misK (vMrk (balF bs gs 3) tol n n) n n) n) (i : Int) = !(rvI bs gs tol i).2 := by
  rw [mid_mrk B tol, misK_not _ _ (by simp)]
  obtain ⟨-, -, c3⟩ := str_can (((List.range n).map (fun i => (rvI bs gs tol i).2)).map (!·)) n
  rw [c3 (i : Int)]
  have e1 : decide ((0 : Int) ≤ (i : Int)) = true := by simp
  have e2 : decide ((i : Int) < (n : Int)) = true := by simpa using hi
  rw [e1, e2, Int.toNat_natCast, not_getD _ i (by simpa using hi)]
  simp [hi]
/-- A vote is a valid record. -/
theorem mid_chk (nm : ByteArray) (st : Int) (h1 : rec1 nm st n = 0) (hn : n ≤ 4096) : chkRec nm st (asmK (vLev (balF bs gs 3) tol n n) (vMrk (balF bs gs 3) tol n n) n) (strF (misK (vMrk (balF bs gs 3) tol n n) n n) n) = 0 := by
  have hlen : (asmK (vLev (balF bs gs 3) tol n n) (vMrk (balF bs gs 3) tol n n) n).length = n := by rw [asmK_len, vLev_len]
  have hlev := fun i hi => mid_lev B tol i hi
  have hhas := fun i hi => mid_has B tol i hi
  obtain ⟨c1, c2, -⟩ := str_can (misK (vMrk (balF bs gs 3) tol n n) n n) n
  have hfew := str_few (misK (vMrk (balF bs gs 3) tol n n) n n) n hn
  generalize strF (misK (vMrk (balF bs gs 3) tol n n) n n) n = G at *
  generalize asmK (vLev (balF bs gs 3) tol n n) (vMrk (balF bs gs 3) tol n n) n = X at *
  have hch : chkSpans G = 0 := chk_can _ c1 (fun s hs => ⟨(c2 s hs).1, by have := (c2 s hs).2; omega⟩) hfew
  have hl0 : fst0 (levErr X) = 0 := by
    apply fst0_all
    intro j hj
    have hj : j < X.length := by simpa [levErr] using hj
    rw [levErr_at _ j hj]
    exact (hlev j (by omega)).1
  have h2 := rec2_fine hl0 hch (fun j hj => by rw [hlen]; exact (c2 _ (getD_mem _ j hj)).2)
  have h3 : silB X G = true := by
    refine (silB_true _ _ (fun s hs => by rw [hlen]; exact (c2 s hs).2)).2 ?_
    intro j hj i hi1 hi2
    have hm := getD_mem G j hj
    have hb := c2 _ hm
    have hi : i < n := by omega
    have hh : hasL G (i : Int) = true := hasL_true.2 ⟨_, hm, hi1, hi2⟩
    rw [hhas i hi] at hh
    rw [(hlev i hi).2.2 (by simpa using hh)]
    decide +kernel
  unfold chkRec
  rw [hlen, if_pos h1, if_pos h2, h3]
  rfl
end
/-- Votes that find the same are the same, as levels are compared. -/
theorem mid_same {bs bs' : Nat → List Nat} {gs gs' : Nat → List (Int × Int)} {n : Nat} (B : Both bs gs n) (B' : Both bs' gs' n) (tol : Int) (h : ∀ i, rvI bs' gs' tol i = rvI bs gs tol i) :
    sameF feqL 0 (asmK (vLev (balF bs gs 3) tol n n) (vMrk (balF bs gs 3) tol n n) n) (asmK (vLev (balF bs' gs' 3) tol n n) (vMrk (balF bs' gs' 3) tol n n) n) = true ∧ strF (misK (vMrk (balF bs gs 3) tol n n) n n) n = strF (misK (vMrk (balF bs' gs' 3) tol n n) n n) n := by
  have hm : vMrk (balF bs' gs' 3) tol n n = vMrk (balF bs gs 3) tol n n := by
    rw [mid_mrk B, mid_mrk B']
    exact List.map_congr_left fun i _ => by rw [h i]
  refine ⟨?_, by rw [hm]⟩
  refine sameF_yes feqL 0 _ _ (by rw [asmK_len, asmK_len, vLev_len, vLev_len]) fun i hi => ?_
  rw [asmK_len, vLev_len] at hi
  obtain ⟨h1, h2, h3⟩ := mid_lev B tol i hi
  obtain ⟨k1, k2, k3⟩ := mid_lev B' tol i hi
  rw [h i] at k2 k3
  cases hv : (rvI bs gs tol i).2
  · rw [h3 hv, k3 hv]
    decide +kernel
  · rw [feq16 h1 k1, h2 hv, k2 hv]
    exact decide_eq_true rfl
/-- The least and the greatest of what the first gauges have recorded. -/
def mnF (bs : Nat → List Nat) (gs : Nat → List (Int × Int)) (i : Nat) : Nat → Int
  | 0 => 0
  | k + 1 => if hasL (gs k) (i : Int) then mnF bs gs i k else if (rSk bs gs i k).length = 0 then s16 ((bs k).getD i 0) else min (s16 ((bs k).getD i 0)) (mnF bs gs i k)
def mxF (bs : Nat → List Nat) (gs : Nat → List (Int × Int)) (i : Nat) : Nat → Int
  | 0 => 0
  | k + 1 => if hasL (gs k) (i : Int) then mxF bs gs i k else if (rSk bs gs i k).length = 0 then s16 ((bs k).getD i 0) else max (s16 ((bs k).getD i 0)) (mxF bs gs i k)
/-- What the law asks of a tick. -/
theorem mid_tick (b0 b1 b2 : List Nat) (g0 g1 g2 : List (Int × Int)) (tol : Int) (i : Nat) :
    (rvI (f3 b0 b1 b2) (f3 g0 g1 g2) tol i).2 = ((rSk (f3 b0 b1 b2) (f3 g0 g1 g2) i 3).length == 3 || ((rSk (f3 b0 b1 b2) (f3 g0 g1 g2) i 3).length == 2 && decide (mxF (f3 b0 b1 b2) (f3 g0 g1 g2) i 3 - mnF (f3 b0 b1 b2) (f3 g0 g1 g2) i 3 ≤ tol))) ∧
    ((rvI (f3 b0 b1 b2) (f3 g0 g1 g2) tol i).2 = true → mnF (f3 b0 b1 b2) (f3 g0 g1 g2) i 3 ≤ (rvI (f3 b0 b1 b2) (f3 g0 g1 g2) tol i).1 ∧ (rvI (f3 b0 b1 b2) (f3 g0 g1 g2) tol i).1 ≤ mxF (f3 b0 b1 b2) (f3 g0 g1 g2) i 3 ∧ ((rSk (f3 b0 b1 b2) (f3 g0 g1 g2) i 3).length = 2 → (rvI (f3 b0 b1 b2) (f3 g0 g1 g2) tol i).1 = mxF (f3 b0 b1 b2) (f3 g0 g1 g2) i 3)) := by
  have e0 : (rSk (f3 b0 b1 b2) (f3 g0 g1 g2) i 0) = [] := rfl
  unfold rvI
  cases h0 : hasL g0 (i : Int) <;> cases h1 : hasL g1 (i : Int) <;> cases h2 : hasL g2 (i : Int) <;>
    simp [mnF, mxF, rSk, List.range_succ, f3, h0, h1, h2, rvt]
  · omega
  all_goals
    split
    · rename_i hc
      refine ⟨(decide_eq_true (by omega)).symm, fun _ => ?_⟩
      simp only
      omega
    · rename_i hc
      exact ⟨(decide_eq_false (by omega)).symm, fun h => by cases h⟩
end Go.Proofs.YtibhjdmndlelaaaGreatDoor
