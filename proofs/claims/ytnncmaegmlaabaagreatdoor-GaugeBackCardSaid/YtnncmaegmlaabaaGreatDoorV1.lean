/-
  Contracts of the three choices of Join, Meet and Minus, and of gauge.fit. No condition but that the records are slices.
-/
import Derived.Test.YtnncmaegmlaabaaGreatDoorProg
import Derived.Test.YtnncmaegmlaabaaGreatDoorMJ
namespace Go.Proofs.YtnncmaegmlaabaaGreatDoor
open Go.RowKit

theorem joinClo_any (a b : Bool) (w : World) : Calls Tryz.prog 81 #[.bool a, .bool b] w fun e w' => e = .returned (.bool (a || b)) ∧ Below w.heap.size w w' := by
  cases a <;> cases b
  all_goals
    go_enter Tryz.func81, Tryz.ntmps81
    go_wp2
    go_ret
    exact ⟨rfl, by go_grown⟩
theorem meetClo_any (a b : Bool) (w : World) : Calls Tryz.prog 82 #[.bool a, .bool b] w fun e w' => e = .returned (.bool (a && b)) ∧ Below w.heap.size w w' := by
  cases a <;> cases b
  all_goals
    go_enter Tryz.func82, Tryz.ntmps82
    go_wp2
    go_ret
    exact ⟨rfl, by go_grown⟩
theorem minusClo_any (a b : Bool) (w : World) : Calls Tryz.prog 83 #[.bool a, .bool b] w fun e w' => e = .returned (.bool (a && !b)) ∧ Below w.heap.size w w' := by
  cases a <;> cases b
  all_goals
    go_enter Tryz.func83, Tryz.ntmps83
    go_wp2
    go_ret
    exact ⟨rfl, by go_grown⟩

/-- A function that chooses by two marks. -/
structure Keeps2 (g : Nat) (kp : Bool → Bool → Bool) : Prop where
  enter : ∀ (args : Array Value) (w : World), (callFunc g args).run Tryz.prog w = .ok (.enter g args) w
  any : ∀ (a b : Bool) (w : World), Calls Tryz.prog g #[.bool a, .bool b] w fun e w' => e = .returned (.bool (kp a b)) ∧ Below w.heap.size w w'
theorem keeps_join : Keeps2 81 (fun a b => a || b) := ⟨fun args w => by kernel_rfl, joinClo_any⟩
theorem keeps_meet : Keeps2 82 (fun a b => a && b) := ⟨fun args w => by kernel_rfl, meetClo_any⟩
theorem keeps_minus : Keeps2 83 (fun a b => a && !b) := ⟨fun args w => by kernel_rfl, minusClo_any⟩

set_option maxRecDepth 100000 in
theorem fit_any (nm nm2 : ByteArray) (st st2 : Int) (A1 A2 A3 A4 : Option Addr) (n c n2 c2 n3 c3 n4 c4 : Nat) (w : World) :
    Calls Tryz.prog 86 #[.agg #[.string nm, .int .i64 st, .slice A1 n c, .slice A2 n2 c2], .agg #[.string nm2, .int .i64 st2, .slice A3 n3 c3, .slice A4 n4 c4]] w fun e w' => e = .returned (.bool (decide (st = st2) && decide (n = n3))) ∧ Below w.heap.size w w' := by
  by_cases h1 : st = st2
  · subst h1
    by_cases h2 : n = n3
    · subst h2
      go_enter Tryz.func86, Tryz.ntmps86
      go_wp2
      go_ret
      exact ⟨by simp, by go_grown⟩
    · have E := hd (show decide (n = n3) = false by simp [h2])
      have h2' : ((n : Int) == (n3 : Int)) = false := by simp; omega
      go_enter Tryz.func86, Tryz.ntmps86
      go_wp2
      go_ret
      exact ⟨by simp [E.out], by go_grown⟩
  · have E := hd (show (decide (st = st2) && decide (n = n3)) = false by simp [h1])
    have h1' : (st == st2) = false := by simpa using h1
    go_enter Tryz.func86, Tryz.ntmps86
    go_wp2
    go_ret
    exact ⟨by rw [E.out]; rfl, by go_grown⟩

end Go.Proofs.YtnncmaegmlaabaaGreatDoor
