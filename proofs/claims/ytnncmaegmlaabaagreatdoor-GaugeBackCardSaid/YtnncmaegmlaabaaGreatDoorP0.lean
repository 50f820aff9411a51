/-
  Plain words on gaps: the stretches of marks are canonical and have just the marked ticks; the gaps of two records, one behind the other. No program.
-/
import Derived.Test.YtnncmaegmlaabaaGreatDoorZ2
namespace Go.Proofs.YtnncmaegmlaabaaGreatDoor
open Go.RowKit

theorem str_can (bs : List Bool) : ∀ k : Nat, Can (strF bs k) ∧ (∀ s ∈ strF bs k, 0 ≤ s.1 ∧ s.2 ≤ (k : Int)) ∧ ∀ x : Int, hasL (strF bs k) x = (decide (0 ≤ x) && decide (x < (k : Int)) && bs.getD x.toNat false)
  | 0 => by
    refine ⟨⟨.nil, fun s hs => by cases hs⟩, fun s hs => (by cases hs), fun x => ?_⟩
    show false = _
    by_cases h : 0 ≤ x
    · have : ¬ x < ((0 : Nat) : Int) := by omega
      simp only [this, decide_false, Bool.and_false, Bool.false_and]
    · simp only [h, decide_false, Bool.false_and]
  | k + 1 => by
    obtain ⟨h1, h2, h3⟩ := str_can bs k
    have key : ∀ x : Int, x ≠ k → (decide (x < ((k + 1 : Nat) : Int))) = decide (x < (k : Int)) := fun x hx => by
      rw [decide_eq_decide]; omega
    rw [strF]
    by_cases hb : bs.getD k false = true
    · rw [if_pos hb]
      obtain ⟨e1, e2, e3⟩ := ext_can (strF bs k) k (k + 1) h1 (fun s hs => (h2 s hs).2) (by omega)
      refine ⟨e1, fun s hs => ?_, fun x => ?_⟩
      · obtain ⟨e4, e5⟩ := e3 s hs
        refine ⟨?_, by push_cast; exact e5⟩
        rcases e4 with e4 | ⟨s', hs', e4⟩
        · omega
        · rw [e4]; exact (h2 s' hs').1
      · rw [e2, h3]
        by_cases hx : x = k
        · subst hx
          have a1 : ¬ (k : Int) < (k : Int) := by omega
          have a2 : (k : Int) < ((k + 1 : Nat) : Int) := by omega
          have a3 : (0 : Int) ≤ (k : Int) := by omega
          have a4 : (k : Int) < (k : Int) + 1 := by omega
          have hb' : bs.getD ((k : Int)).toNat false = true := by simpa using hb
          rw [hb']
          simp only [a1, a2, a3, a4, decide_true, decide_false, Bool.and_true, Bool.and_false, Bool.false_or, Int.le_refl]
        · rw [key x hx]
          have : (decide ((k : Int) ≤ x) && decide (x < (k : Int) + 1)) = false := by
            rw [Bool.and_eq_false_iff, decide_eq_false_iff_not, decide_eq_false_iff_not]; omega
          rw [this, Bool.or_false]
    · have hb' : bs.getD k false = false := by simpa using hb
      rw [if_neg hb]
      refine ⟨h1, fun s hs => ⟨(h2 s hs).1, by have := (h2 s hs).2; push_cast; omega⟩, fun x => ?_⟩
      rw [h3]
      by_cases hx : x = k
      · subst hx
        have a1 : ¬ (k : Int) < (k : Int) := by omega
        have hb2 : bs.getD ((k : Int)).toNat false = false := by simpa using hb'
        rw [hb2]
        simp only [Bool.and_false]
      · rw [key x hx]

end Go.Proofs.YtnncmaegmlaabaaGreatDoor
