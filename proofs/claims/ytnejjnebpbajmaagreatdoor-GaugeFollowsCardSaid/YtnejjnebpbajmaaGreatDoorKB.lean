/-
  Plain words of GaugeKeeps: a cleaned record is valid, and what the law asks of each of its levels. No program.
-/
import Derived.Test.YtnejjnebpbajmaaGreatDoorK4
import Derived.Test.YtnejjnebpbajmaaGreatDoorML
import Derived.Test.YtnejjnebpbajmaaGreatDoorT1
import Derived.Test.YtnejjnebpbajmaaGreatDoorProg
import Derived.Test.YtnejjnebpbajmaaGreatDoorT5
import Derived.Test.YtnejjnebpbajmaaGreatDoorMS
import Derived.Test.YtnejjnebpbajmaaGreatDoorME
import Derived.Test.YtnejjnebpbajmaaGreatDoorMI
import Derived.Test.YtnejjnebpbajmaaGreatDoorH2
import Derived.Test.YtnejjnebpbajmaaGreatDoorQ4
namespace Go.Proofs.YtnejjnebpbajmaaGreatDoor
open Go.RowKit

theorem can_count : ∀ (l : List (Int × Int)) (lo hi : Int), Can l → (∀ s ∈ l, lo ≤ s.1 ∧ s.2 ≤ hi) → l ≠ [] → lo + 2 * (l.length : Int) ≤ hi + 1
  | [], _, _, _, _, h => absurd rfl h
  | [s], lo, hi, hC, hb, _ => by
    have h1 := hb s (List.mem_cons_self ..)
    have h2 := hC.2 s (List.mem_cons_self ..)
    simp only [List.length_cons, List.length_nil]
    omega
  | s :: r :: l, lo, hi, hC, hb, _ => by
    obtain ⟨c1, c2, c3⟩ := can_tail hC
    have h1 := hb s (List.mem_cons_self ..)
    have ih := can_count (r :: l) (s.2 + 1) hi c1 (fun x hx => ⟨by have := c2 x hx; omega, (hb x (List.mem_cons_of_mem _ hx)).2⟩) (by simp)
    simp only [List.length_cons] at ih ⊢
    push_cast at ih ⊢
    omega
theorem fst0_all : ∀ (l : List Int), (∀ j, j < l.length → l.getD j 0 = 0) → fst0 l = 0
  | [], _ => rfl
  | x :: l, h => by
    have h0 := h 0 (by simp)
    have : x = 0 := by simpa using h0
    unfold fst0
    rw [if_pos this]
    exact fst0_all l (fun j hj => by have := h (j + 1) (by simpa using hj); simpa using this)
end Go.Proofs.YtnejjnebpbajmaaGreatDoor
