/-
  Plain words on gaps: the stretches of marks are canonical and have just the marked ticks; the gaps of two records, one behind the other. No program.
-/
import Derived.Test.YtnncmaegmlaabaaGreatDoorZ2
namespace Go.Proofs.YtnncmaegmlaabaaGreatDoor
open Go.RowKit

theorem str_can (bs : List Bool) : ∀ k : Nat, Can (strF bs k) ∧ (∀ s ∈ strF bs k, 0 ≤ s.1 ∧ s.2 ≤ (k : Int)) ∧ ∀ x : Int, hasL (strF bs k) x = (decide (0 ≤ x) && decide (x < (k : Int)) && bs.getD x.toNat false)
  | 0 => by
    refine ⟨⟨.nil, fun s hs => by cases hs⟩, fun s hs => (by cases hs), fun x => ?_⟩
    show false = _
    by_cases h : 0 ≤ x
    · have : ¬ x < ((0 : Nat) : Int) := by omega
      simp only [this, decide_false, Bool.and_false, Bool.false_and]
    · simp only [h, decide_false, Bool.false_and]
  | k + 1 => by
    obtain ⟨h1, h2, h3⟩ := str_can bs k
    have key : ∀ x : Int, x ≠ k → (decide (x < ((k + 1 : Nat) : Int))) = decide (x < (k : Int)) := fun x hx => by
      rw [decide_eq_decide]; omega
    rw [strF]
    by_cases hb : bs.getD k false = true
    · rw [if_pos hb]
      obtain ⟨e1, e2, e3⟩ := ext_can (strF bs k) k (k + 1) h1 (fun s hs => (h2 s hs).2) (by omega)
      refine ⟨e1, fun s hs => ?_, fun x => ?_⟩
      · obtain ⟨e4, e5⟩ := e3 s hs
        refine ⟨?_, by push_cast; exact e5⟩
        rcases e4 with e4 | ⟨s', hs', e4⟩
        · omega
        · rw [e4]; exact (h2 s' hs').1
      · rw [e2, h3]
        by_cases hx : x = k
        · subst hx
          have a1 : ¬ (k : Int) < (k : Int) := by omega
          have a2 : (k : Int) < ((k + 1 : Nat) : Int) := by omega
          have a3 : (0 : Int) ≤ (k : Int) := by omega
          have a4 : (k : Int) < (k : Int) + 1 := by omega
          have hb' : bs.getD ((k : Int)).toNat false = true := by simpa using hb
          rw [hb']
          simp only [a1, a2, a3, a4, decide_true, decide_false, Bool.and_true, Bool.and_false, Bool.false_or, Int.le_refl]
        · rw [key x hx]
          have : (decide ((k : Int) ≤ x) && decide (x < (k : Int) + 1)) = false := by
            rw [Bool.and_eq_false_iff, decide_eq_false_iff_not, decide_eq_false_iff_not]; omega
          rw [this, Bool.or_false]
    · have hb' : bs.getD k false = false := by simpa using hb
      rw [if_neg hb]
      refine ⟨h1, fun s hs => ⟨(h2 s hs).1, by have := (h2 s hs).2; push_cast; omega⟩, fun x => ?_⟩
      rw [h3]
      by_cases hx : x = k
      · subst hx
        have a1 : ¬ (k : Int) < (k : Int) := by omega
        have hb2 : bs.getD ((k : Int)).toNat false = false := by simpa using hb'
        rw [hb2]
        simp only [Bool.and_false]
      · rw [key x hx]

/-- The gaps of a record of m levels, and the first k of the one behind it. -/
def apK (gs hs : List (Int × Int)) (m : Nat) : Nat → List (Int × Int)
  | 0 => gs
  | k + 1 => ext (apK gs hs m k) ((hs.getD k (0, 0)).1 + m) ((hs.getD k (0, 0)).2 + m)
theorem apK_len (gs hs : List (Int × Int)) (m : Nat) : ∀ k, (apK gs hs m k).length ≤ gs.length + k
  | 0 => by simp [apK]
  | k + 1 => by
    have := apK_len gs hs m k
    have := ext_len (apK gs hs m k) ((hs.getD k (0, 0)).1 + m) ((hs.getD k (0, 0)).2 + m)
    rw [apK]; omega
theorem apK_ok (gs hs : List (Int × Int)) (m : Nat) (h1 : chkSpans gs = 0) (h2 : chkSpans hs = 0) (he : ∀ s ∈ gs, s.2 ≤ (m : Int)) : ∀ k, k ≤ hs.length → Can (apK gs hs m k) ∧ (∀ s ∈ apK gs hs m k, 0 ≤ s.1 ∧ (s.2 ≤ (m : Int) ∨ ∃ j, j < k ∧ s.2 ≤ (hs.getD j (0, 0)).2 + m)) ∧ ∀ x : Int, hasL (apK gs hs m k) x = (hasL gs x || hasL (hs.take k) (x - m))
  | 0, _ => by
    refine ⟨can_of gs h1, fun s hs => ⟨((chkSpans_ok gs h1).2.1 s hs).1, .inl (he s hs)⟩, fun x => ?_⟩
    simp [apK, hasL]
  | k + 1, hk => by
    obtain ⟨c1, c2, c3⟩ := apK_ok gs hs m h1 h2 he k (by omega)
    have hb := (chkSpans_ok hs h2).2.1 _ (getD_mem hs k hk)
    have hasc := asc_of hs h2
    have hle : ∀ s ∈ apK gs hs m k, s.2 ≤ (hs.getD k (0, 0)).1 + m := fun s hs' => by
      rcases (c2 s hs').2 with h | ⟨j, hj, h⟩
      · omega
      · have h3 := List.pairwise_iff_getElem.1 (chkSpans_ok hs h2).2.2 j k (by omega) (by omega) hj
        have e1 : hs.getD j (0, 0) = hs[j] := by simp [show j < hs.length by omega]
        have e2 : hs.getD k (0, 0) = hs[k] := by simp [show k < hs.length by omega]
        rw [e1] at h
        rw [e2]
        omega
    obtain ⟨e1, e2, e3⟩ := ext_can (apK gs hs m k) ((hs.getD k (0, 0)).1 + m) ((hs.getD k (0, 0)).2 + m) c1 hle (by omega)
    rw [apK]
    refine ⟨e1, fun s hs' => ?_, fun x => ?_⟩
    · obtain ⟨e4, e5⟩ := e3 s hs'
      refine ⟨?_, .inr ⟨k, by omega, e5⟩⟩
      rcases e4 with e4 | ⟨s', hs2, e4⟩
      · omega
      · rw [e4]; exact (c2 s' hs2).1
    · rw [e2, c3, List.take_succ_eq_append_getElem (by omega), hasL_append, Bool.or_assoc]
      congr 2
      have e : hs[k] = hs.getD k (0, 0) := by simp [show k < hs.length by omega]
      rw [e]
      simp only [hasL, List.any_cons, List.any_nil, Bool.or_false]
      rw [Bool.eq_iff_iff]
      simp only [Bool.and_eq_true, decide_eq_true_eq]
      omega

/-- Which levels of two records, one behind the other, are recorded. -/
def thereL (gs hs : List (Int × Int)) (m n : Nat) : List Bool := (List.range m).map (fun i : Nat => !hasL gs i) ++ (List.range n).map (fun i : Nat => !hasL hs i)
theorem thereL_len (gs hs : List (Int × Int)) (m n : Nat) : (thereL gs hs m n).length = m + n := by simp [thereL]
theorem apK_str (gs hs : List (Int × Int)) (m n : Nat) (h1 : chkSpans gs = 0) (h2 : chkSpans hs = 0) (he : ∀ s ∈ gs, s.2 ≤ (m : Int)) (hf : ∀ s ∈ hs, s.2 ≤ (n : Int)) :
    apK gs hs m hs.length = strF ((thereL gs hs m n).map (!·)) (m + n) := by
  obtain ⟨c1, _, c3⟩ := apK_ok gs hs m h1 h2 he hs.length (Nat.le_refl _)
  obtain ⟨d1, _, d3⟩ := str_can ((thereL gs hs m n).map (!·)) (m + n)
  refine can_uniq _ _ c1 d1 fun x => ?_
  rw [c3, d3, List.take_length]
  by_cases h0 : 0 ≤ x
  · obtain ⟨j, rfl⟩ := Int.eq_ofNat_of_zero_le h0
    have ej : ((j : Int)).toNat = j := by omega
    rw [ej]
    by_cases hj : j < m
    · have a1 : hasL hs ((j : Int) - m) = false := hasL_false.2 fun s hs' => by
        have := (chkSpans_ok hs h2).2.1 s hs'; omega
      have a2 : (j : Int) < ((m + n : Nat) : Int) := by omega
      rw [a1, Bool.or_false, decide_eq_true h0, decide_eq_true a2]
      simp [thereL, List.getElem?_append, hj]
    · by_cases hj2 : j < m + n
      · have a1 : hasL gs (j : Int) = false := hasL_false.2 fun s hs' => by
          have := he s hs'; omega
        have a2 : (j : Int) < ((m + n : Nat) : Int) := by omega
        have a3 : ((j - m : Nat) : Int) = (j : Int) - m := by omega
        rw [a1, Bool.false_or, decide_eq_true h0, decide_eq_true a2]
        simp [thereL, List.getElem?_append, hj, show j - m < n by omega, a3]
      · have a1 : hasL gs (j : Int) = false := hasL_false.2 fun s hs' => by
          have := he s hs'; omega
        have a3 : hasL hs ((j : Int) - m) = false := hasL_false.2 fun s hs' => by
          have := hf s hs'; omega
        have a2 : ¬ (j : Int) < ((m + n : Nat) : Int) := by omega
        rw [a1, a3, decide_eq_false a2]
        simp
  · have a1 : hasL gs x = false := hasL_false.2 fun s hs' => by
      have := (chkSpans_ok gs h1).2.1 s hs'; omega
    have a3 : hasL hs (x - m) = false := hasL_false.2 fun s hs' => by
      have := (chkSpans_ok hs h2).2.1 s hs'; omega
    rw [a1, a3, decide_eq_false h0]
    simp
end Go.Proofs.YtnncmaegmlaabaaGreatDoor
