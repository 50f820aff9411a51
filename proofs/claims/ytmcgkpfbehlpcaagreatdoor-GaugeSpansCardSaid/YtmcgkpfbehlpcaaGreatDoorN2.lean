/-
  Plain words on marked ticks: what the reference's sweep picks is what Join, Meet and Minus choose. No program.
-/
import Derived.Test.YtmcgkpfbehlpcaaGreatDoorZ2
namespace Go.Proofs.YtmcgkpfbehlpcaaGreatDoor
open Go.RowKit

/-- A row of marks, n more where p holds. -/
def stM (f : Nat → Int) (n : Int) (p : Nat → Bool) : Nat → Int := fun u => if p u = true then f u + n else f u
def mkL (N : Nat) (f : Nat → Int) : List Int := (List.range N).map f
theorem mkL_len (N : Nat) (f : Nat → Int) : (mkL N f).length = N := by simp [mkL]
theorem mkL_at (N : Nat) (f : Nat → Int) (u : Nat) (h : u < N) : ((mkL N f).map (Value.int .i64))[u]? = some (.int .i64 (f u)) := by simp [mkL, h]
theorem mkL_congr (N : Nat) (f g : Nat → Int) (h : ∀ u, u < N → f u = g u) : mkL N f = mkL N g := List.map_congr_left fun u hu => h u (by simpa using hu)
theorem mkL_set (N : Nat) (f g : Nat → Int) (u : Nat) (x : Int) (h1 : g u = x) (h2 : ∀ v, v ≠ u → g v = f v) : (mkL N f).set u x = mkL N g := by
  apply List.ext_getElem
  · simp [mkL]
  · intro i hi _
    simp only [mkL, List.getElem_set, List.getElem_map, List.getElem_range]
    by_cases h : u = i
    · subst h; rw [if_pos rfl, h1]
    · rw [if_neg h, h2 i (fun e => h e.symm)]
theorem mkL_zero (N : Nat) : (mkL N fun _ => 0).map (Value.int .i64) = List.replicate N (.int .i64 0) := by
  simp [mkL]
  apply List.ext_getElem <;> simp

/-- Ticks of the first k spans, and those of the next one below T. -/
def pIn (l : List (Int × Int)) (k T : Nat) : Nat → Bool := fun u => hasL (l.take k) u || (decide ((l.getD k (0, 0)).1 ≤ u) && decide (u < T))
theorem pIn_first (l : List (Int × Int)) (k A : Nat) (h : (l.getD k (0, 0)).1 = A) (u : Nat) : pIn l k A u = hasL (l.take k) u := by
  unfold pIn
  rw [h]
  have : (decide ((A : Int) ≤ (u : Int)) && decide (u < A)) = false := by simp
  rw [this, Bool.or_false]
theorem pIn_last (l : List (Int × Int)) (k B : Nat) (hk : k < l.length) (h : (l.getD k (0, 0)).2 = B) (u : Nat) : pIn l k B u = hasL (l.take (k + 1)) u := by
  unfold pIn
  rw [List.take_succ_eq_append_getElem hk, hasL_append]
  have e : l[k] = l.getD k (0, 0) := by simp [hk]
  rw [e]
  have : (decide (u < B)) = decide ((u : Int) < (l.getD k (0, 0)).2) := by rw [h]; simp
  rw [this]
  simp [hasL]
theorem pIn_at (l : List (Int × Int)) (k T : Nat) : pIn l k T T = hasL (l.take k) T := by
  unfold pIn
  simp
theorem pIn_self (l : List (Int × Int)) (k T : Nat) (h : (l.getD k (0, 0)).1 ≤ T) : pIn l k (T + 1) T = true := by
  unfold pIn
  rw [decide_eq_true h, decide_eq_true (Nat.lt_succ_self T)]
  simp
theorem pIn_other (l : List (Int × Int)) (k T u : Nat) (h : u ≠ T) : pIn l k (T + 1) u = pIn l k T u := by
  unfold pIn
  have : decide (u < T + 1) = decide (u < T) := by
    rw [decide_eq_decide]; omega
  rw [this]

/-- The marks of two lists. -/
def mm (a b : List (Int × Int)) : Nat → Int := stM (stM (fun _ => 0) 1 (fun u => hasL a u)) 2 (fun u => hasL b u)
theorem mm_is (a b : List (Int × Int)) (u : Nat) : mm a b u = (if hasL b u = true then 2 else 0) + (if hasL a u = true then 1 else 0) := by
  show (if hasL b u = true then (if hasL a u = true then (0 : Int) + 1 else 0) + 2 else (if hasL a u = true then (0 : Int) + 1 else 0)) = _
  cases hasL a u <;> cases hasL b u <;> rfl
def pkF (kp : Bool → Bool → Bool) (a b : List (Int × Int)) : Nat → Bool := fun u => kp (hasL a u) (hasL b u)
/-- The wanted marks are those of the choice. -/
def Wants (W : List Int) (kp : Bool → Bool → Bool) : Prop := ∀ x y : Bool, W.contains ((if y = true then 2 else 0) + (if x = true then (1 : Int) else 0)) = kp x y
theorem wants_join : Wants [1, 2, 3] (fun x y => x || y) := by intro x y; cases x <;> cases y <;> decide
theorem wants_meet : Wants [3] (fun x y => x && y) := by intro x y; cases x <;> cases y <;> decide
theorem wants_minus : Wants [1] (fun x y => x && !y) := by intro x y; cases x <;> cases y <;> decide
theorem wants_at {W : List Int} {kp : Bool → Bool → Bool} (h : Wants W kp) (a b : List (Int × Int)) (u : Nat) : W.contains (mm a b u) = pkF kp a b u := by
  rw [mm_is]; exact h _ _

theorem has_in (l : List (Int × Int)) (h : chkSpans l = 0) (x : Int) (hx : ¬ (0 ≤ x ∧ x < 100000)) : hasL l x = false := by
  rw [hasL_false]
  intro s hs hh
  have := (chkSpans_ok l h).2.1 s hs
  omega
theorem pick_is (kp : Bool → Bool → Bool) (h0 : kp false false = false) (a b : List (Int × Int)) (ha : chkSpans a = 0) (hb : chkSpans b = 0) (N : Nat) (hN : (N : Int) = 100000) : (pk (pkF kp a b) (N + 1)).1 = choice kp a b := by
  have hf : pkF kp a b N = false := by
    unfold pkF
    rw [has_in a ha _ (by omega), has_in b hb _ (by omega), h0]
  obtain ⟨h1, h2⟩ := pk_end (pkF kp a b) N hf
  refine choice_is kp h0 a b _ ha hb h1 fun t => ?_
  rw [h2]
  by_cases hr : 0 ≤ t ∧ t < (N : Int)
  · have e : (t.toNat : Int) = t := Int.toNat_of_nonneg hr.1
    simp only [hr.1, hr.2, decide_true, Bool.true_and]
    unfold pkF
    rw [e]
  · rw [has_in a ha _ (by omega), has_in b hb _ (by omega), h0]
    have : (decide (0 ≤ t) && decide (t < (N : Int))) = false := by
      rw [Bool.and_eq_false_iff, decide_eq_false_iff_not, decide_eq_false_iff_not]; omega
    rw [this, Bool.false_and]
end Go.Proofs.YtmcgkpfbehlpcaaGreatDoor
