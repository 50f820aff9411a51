/-
  What the examples' walk gives, as a condition; a list of integers is the same as itself.
-/
import Derived.Test.YtnncmaegmlaabaaGreatDoorProg
import Derived.Test.YtnncmaegmlaabaaGreatDoorMI
namespace Go.Proofs.YtnncmaegmlaabaaGreatDoor
open Go.RowKit

/-- The document's examples come out as they must. -/
def Awake : Prop := ∀ w : World, Calls Tryz.prog 6 #[] w fun e w' => e = .returned (.bool true) ∧ Below w.heap.size w w'

theorem sameF_refl (l : List Int) : sameF (fun x y : Int => x == y) 0 l l = true := sameF_yes (fun x y : Int => x == y) 0 l l rfl (fun j _ => by simp)
end Go.Proofs.YtnncmaegmlaabaaGreatDoor
