/-
  Plain words on the reference's sweep over marked ticks: the spans that it finds are canonical, and have just the marked ticks. No program.
-/
import Derived.Test.YtcekfcefdmejeaaGreatDoorZ1
namespace Go.Proofs.YtcekfcefdmejeaaGreatDoor
open Go.RowKit


/-- One tick of a sweep: the spans so far, and where an open one begins (-1: none is open). -/
def stp (b : Bool) (t : Int) (p : List (Int × Int) × Int) : List (Int × Int) × Int :=
  if b = true then (if p.2 < 0 then (p.1, t) else p) else if p.2 < 0 then p else (p.1 ++ [(p.2, t)], -1)
/-- The spans of the marked ticks below n. -/
def pk (f : Nat → Bool) : Nat → List (Int × Int) × Int
  | 0 => ([], -1)
  | t + 1 => stp (f t) t (pk f t)
theorem stp_len (b : Bool) (t : Int) (p : List (Int × Int) × Int) : (stp b t p).1.length ≤ p.1.length + 1 := by
  unfold stp
  split
  · split <;> simp
  · split <;> simp
theorem pk_len (f : Nat → Bool) : ∀ t, (pk f t).1.length ≤ t
  | 0 => Nat.le_refl _
  | t + 1 => by
    have := pk_len f t
    have := stp_len (f t) t (pk f t)
    rw [pk]; omega
def PkOk (f : Nat → Bool) (t : Nat) (o : List (Int × Int)) (fr : Int) : Prop :=
  Can o ∧ (∀ s ∈ o, s.2 < t) ∧ fr < t ∧ -1 ≤ fr ∧ (∀ s ∈ o, 0 ≤ fr → s.2 < fr) ∧
    ∀ x : Int, (hasL o x || (decide (0 ≤ fr) && decide (fr ≤ x) && decide (x < t))) = (decide (0 ≤ x) && decide (x < t) && f x.toNat)
theorem pkOk_step (f : Nat → Bool) (t : Nat) (o : List (Int × Int)) (fr : Int) (h : PkOk f t o fr) : PkOk f (t + 1) (stp (f t) t (o, fr)).1 (stp (f t) t (o, fr)).2 := by
  obtain ⟨h1, h2, h3, h4, h5, h6⟩ := h
  have key : ∀ x : Int, x ≠ t → (decide (0 ≤ x) && decide (x < ((t + 1 : Nat) : Int)) && f x.toNat) = (decide (0 ≤ x) && decide (x < (t : Int)) && f x.toNat) := by
    intro x hx
    have : x < ((t + 1 : Nat) : Int) ↔ x < (t : Int) := by omega
    simp only [this]
  have hno : hasL o t = false := hasL_false.2 fun s hs => by have := h2 s hs; omega
  unfold stp
  by_cases hf : f t = true
  · rw [if_pos hf]
    by_cases hn : fr < 0
    · rw [if_pos hn]
      refine ⟨h1, fun s hs => by have := h2 s hs; omega, by show (t : Int) < _; omega, by show (-1 : Int) ≤ t; omega, fun s hs _ => h2 s hs, fun x => ?_⟩
      show (hasL o x || (decide (0 ≤ (t : Int)) && decide ((t : Int) ≤ x) && decide (x < ((t + 1 : Nat) : Int)))) = _
      by_cases hx : x = t
      · subst hx
        rw [hno]
        simp [hf]
      · rw [key x hx, ← h6 x]
        congr 1
        rw [Bool.eq_iff_iff]
        simp; omega
    · rw [if_neg hn]
      refine ⟨h1, fun s hs => by have := h2 s hs; omega, by show fr < _; omega, h4, h5, fun x => ?_⟩
      show (hasL o x || (decide (0 ≤ fr) && decide (fr ≤ x) && decide (x < ((t + 1 : Nat) : Int)))) = _
      by_cases hx : x = t
      · subst hx
        have a1 : 0 ≤ fr := by omega
        have a2 : fr ≤ (t : Int) := by omega
        rw [hno]
        simp [hf, a1, a2]
      · rw [key x hx, ← h6 x]
        congr 1
        rw [Bool.eq_iff_iff]
        simp; omega
  · have hf' : f t = false := by simpa using hf
    rw [if_neg hf]
    by_cases hn : fr < 0
    · rw [if_pos hn]
      refine ⟨h1, fun s hs => by have := h2 s hs; omega, by show fr < _; omega, h4, h5, fun x => ?_⟩
      show (hasL o x || (decide (0 ≤ fr) && decide (fr ≤ x) && decide (x < ((t + 1 : Nat) : Int)))) = _
      have a1 : ¬ 0 ≤ fr := by omega
      by_cases hx : x = t
      · subst hx
        rw [hno]
        simp [hf', a1]
      · rw [key x hx, ← h6 x]
        simp [a1]
    · rw [if_neg hn]
      have h5' := fun s hs => h5 s hs (by omega)
      show Can (o ++ [(fr, (t : Int))]) ∧ (∀ s ∈ o ++ [(fr, (t : Int))], s.2 < ((t + 1 : Nat) : Int)) ∧ (-1 : Int) < ((t + 1 : Nat) : Int) ∧ (-1 : Int) ≤ -1 ∧ (∀ s ∈ o ++ [(fr, (t : Int))], (0 : Int) ≤ -1 → s.2 < -1) ∧
        ∀ x : Int, (hasL (o ++ [(fr, (t : Int))]) x || (decide (0 ≤ (-1 : Int)) && decide ((-1 : Int) ≤ x) && decide (x < ((t + 1 : Nat) : Int)))) = (decide (0 ≤ x) && decide (x < ((t + 1 : Nat) : Int)) && f x.toNat)
      refine ⟨⟨?_, ?_⟩, ?_, by omega, by omega, fun s hs h => absurd h (by omega), fun x => ?_⟩
      · rw [List.pairwise_append]
        exact ⟨h1.1, by simp, fun s hs r hr => by rw [List.mem_singleton] at hr; subst hr; exact h5' s hs⟩
      · intro s hs
        rcases List.mem_append.1 hs with h | h
        · exact h1.2 s h
        · rw [List.mem_singleton] at h; subst h; exact h3
      · intro s hs
        rcases List.mem_append.1 hs with h | h
        · have := h2 s h; omega
        · rw [List.mem_singleton] at h; subst h; show (t : Int) < _; omega
      · rw [hasL_append]
        have e : hasL [(fr, (t : Int))] x = (decide (fr ≤ x) && decide (x < (t : Int))) := by simp [hasL]
        rw [e]
        by_cases hx : x = t
        · subst hx
          rw [hno]
          simp [hf']
        · rw [key x hx, ← h6 x]
          have a1 : 0 ≤ fr := by omega
          simp [a1]
theorem pk_ok (f : Nat → Bool) : ∀ t : Nat, PkOk f t (pk f t).1 (pk f t).2
  | 0 => by
    refine ⟨⟨.nil, fun s hs => by cases hs⟩, fun s hs => (by cases hs), by show (-1 : Int) < 0; decide, by show (-1 : Int) ≤ -1; decide, fun s hs => (by cases hs), fun x => ?_⟩
    show (hasL [] x || (decide (0 ≤ (-1 : Int)) && decide ((-1 : Int) ≤ x) && decide (x < ((0 : Nat) : Int)))) = _
    by_cases h : x < 0
    · have : ¬ 0 ≤ x := by omega
      simp [hasL, this]
    · simp [hasL, h]
  | t + 1 => by
    have h := pkOk_step f t (pk f t).1 (pk f t).2 (pk_ok f t)
    exact h
/-- A sweep that ends at a tick that is not marked has closed all. -/
theorem pk_end (f : Nat → Bool) (n : Nat) (h : f n = false) : Can (pk f (n + 1)).1 ∧ ∀ x : Int, hasL (pk f (n + 1)).1 x = (decide (0 ≤ x) && decide (x < n) && f x.toNat) := by
  obtain ⟨h1, h2, h3, h4, h5, h6⟩ := pk_ok f (n + 1)
  have hfr : (pk f (n + 1)).2 = -1 ∨ (pk f (n + 1)).2 < 0 := by
    rw [pk]
    unfold stp
    simp only [h]
    by_cases hn : (pk f n).2 < 0
    · simp [hn]
    · simp [hn]
  have hneg : ¬ 0 ≤ (pk f (n + 1)).2 := by omega
  refine ⟨h1, fun x => ?_⟩
  have := h6 x
  simp only [hneg, decide_false, Bool.false_and, Bool.or_false] at this
  rw [this]
  by_cases hx : x = n
  · subst hx
    simp [h]
  · have : x < ((n + 1 : Nat) : Int) ↔ x < (n : Int) := by omega
    simp only [this]
end Go.Proofs.YtcekfcefdmejeaaGreatDoor
