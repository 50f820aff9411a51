/-
  Contract of the reference's Short: every record.
-/
import Derived.Test.YtnncmaegmlaabaaGreatDoorProg
import Derived.Test.YtnncmaegmlaabaaGreatDoorME
import Derived.Test.YtnncmaegmlaabaaGreatDoorMI
import Derived.Test.YtnncmaegmlaabaaGreatDoorH2
namespace Go.Proofs.YtnncmaegmlaabaaGreatDoor
open Go.RowKit
attribute [local go_sem] Oper.semAt_some

def shortR (s n m : Nat) : Bool := decide (s ≤ 60) && (decide (n ≤ 40) || decide (n = 4097)) && (decide ((m : Int) ≤ 8) || decide (m = 2049))

set_option maxRecDepth 1000000 in
set_option maxHeartbeats 2000000 in
theorem short_any (nm : ByteArray) (st : Int) (A A2 : Option Addr) (n c m c2 : Nat) (w : World) :
    Calls Tryz.prog 7 #[.agg #[.string nm, .int .i64 st, .slice A n c, .slice A2 m c2]] w fun e w' => e = .returned (.bool (shortR nm.size n m)) ∧ Below w.heap.size w w' := by
  have HB := hd (show Below w.heap.size w (w.alloc (Obj.cells #[.string nm, .int .i64 st, .slice A n c, .slice A2 m c2] 25)) from (Below.refl _ w).alloc (Nat.le_refl _) _)
  by_cases h1 : nm.size ≤ 60
  · have h1' : (nm.size : Int) ≤ 60 := by omega
    by_cases h2 : n ≤ 40
    · have h2' : (n : Int) ≤ 40 := by omega
      have HR := hd (show shortR nm.size n m = (decide ((m : Int) ≤ 8) || decide (m = 2049)) from by unfold shortR; simp [h1, h2])
      go_enter Tryz.func7, Tryz.ntmps7
      go_wp2_with fail
      refine (shortSpans_any _ m _ 8 _).mono ?_
      rintro e w' ⟨rfl, rfl⟩
      go_wp2_with fail
      go_returns
      exact ⟨by rw [HR.out]; rfl, HB.out⟩
    · have h2a : ¬ (n : Int) ≤ 40 := by omega
      by_cases h3 : n = 4097
      · subst h3
        clear h2a h2
        have HR := hd (show shortR nm.size 4097 m = (decide ((m : Int) ≤ 8) || decide (m = 2049)) from by unfold shortR; simp [h1])
        go_enter Tryz.func7, Tryz.ntmps7
        go_wp2_with fail
        refine (shortSpans_any _ m _ 8 _).mono ?_
        rintro e w' ⟨rfl, rfl⟩
        go_wp2_with fail
        go_returns
        exact ⟨by rw [HR.out]; rfl, HB.out⟩
      · have h3' : ((n : Int) == 4097) = false := by rw [beq_eq_false_iff_ne]; omega
        have HR := hd (show shortR nm.size n m = false from by unfold shortR; simp [h1, h2, h3])
        go_enter Tryz.func7, Tryz.ntmps7
        go_wp2_with fail
        go_returns
        exact ⟨by rw [HR.out]; rfl, HB.out⟩
  · have h1' : ¬ (nm.size : Int) ≤ 60 := by omega
    have HR := hd (show shortR nm.size n m = false from by unfold shortR; simp [h1])
    go_enter Tryz.func7, Tryz.ntmps7
    go_wp2_with fail
    go_returns
    exact ⟨by rw [HR.out]; rfl, HB.out⟩
end Go.Proofs.YtnncmaegmlaabaaGreatDoor
