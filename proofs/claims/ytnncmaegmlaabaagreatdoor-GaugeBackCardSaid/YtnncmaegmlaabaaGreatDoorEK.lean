/-
  Plain words on rules and what they remove, and the contract of the reference's Kept. Conditions: written at each.
-/
import Derived.Test.YtnncmaegmlaabaaGreatDoorK4
import Derived.Test.YtnncmaegmlaabaaGreatDoorML
import Derived.Test.YtnncmaegmlaabaaGreatDoorT0
import Derived.Test.YtnncmaegmlaabaaGreatDoorT1
import Derived.Test.YtnncmaegmlaabaaGreatDoorP0
import Derived.Test.YtnncmaegmlaabaaGreatDoorProg
import Derived.Test.YtnncmaegmlaabaaGreatDoorH2
import Derived.Test.YtnncmaegmlaabaaGreatDoorMS
import Derived.Test.YtnncmaegmlaabaaGreatDoorME
import Derived.Test.YtnncmaegmlaabaaGreatDoorMI
import Derived.Test.YtnncmaegmlaabaaGreatDoorQ4
import Derived.Deep.RegionHeld3
import Derived.Deep.Cut
import Derived.OwnWalk

namespace Go.Proofs.YtnncmaegmlaabaaGreatDoor
open Go.RowKit

/-- That a rule removes a level, of those that are there, and of those that it has left so far. -/
def rmB (x : Ru) (bs : List Nat) (T L : List Bool) (i : Nat) : Bool :=
  bif x.1 == sRange then decide (s16 (bs.getD i 0) < x.2.1) || decide (x.2.2 < s16 (bs.getD i 0))
  else bif x.1 == sJump then decide (0 < i) && L.getD (i - 1) false && decide (x.2.1 < dst (bs.getD i 0) (bs.getD (i - 1) 0))
  else decide (x.2.1 ≤ (i : Int)) && (List.range (i + 1)).all (fun k => decide ((k : Int) < (i : Int) - x.2.1) || (T.getD k false && feqL (bs.getD k 0) (bs.getD i 0)))
theorem ext_getD {α : Type} (l m : List α) (d : α) (h : l.length = m.length) (he : ∀ j, j < l.length → l.getD j d = m.getD j d) : l = m := by
  apply List.ext_getElem h
  intro j h1 h2
  have := he j h1
  rw [List.getD_eq_getElem?_getD, List.getD_eq_getElem?_getD, List.getElem?_eq_getElem h1, List.getElem?_eq_getElem h2] at this
  exact this
end Go.Proofs.YtnncmaegmlaabaaGreatDoor

namespace Go.Proofs.YtnncmaegmlaabaaGreatDoor
open Go.RowKit

theorem asmK_at (bs : List Nat) (T : List Bool) (j : Nat) (hj : j < bs.length) : (asmK bs T bs.length).getD j 0 = if T.getD j false = true then bs.getD j 0 else 0 := by
  unfold asmK
  rw [List.getD_eq_getElem?_getD, List.getElem?_map, List.getElem?_range hj]
  simp only [Option.map_some, Option.getD_some]
  cases T.getD j false <;> simp [hj]
theorem not_getD (T : List Bool) (j : Nat) (h : j < T.length) : (T.map (!·)).getD j false = !T.getD j false := by simp [h]
section
variable {x : Ru} {bs : List Nat} {T : List Bool}

end

theorem misK_not (T : List Bool) (n : Nat) (h : T.length = n) : misK T n n = T.map (!·) := by
  apply ext_getD _ _ false
  · rw [misK_len, List.length_map, h]
  · intro j hj
    rw [misK_len] at hj
    rw [not_getD T j (by omega)]
    simp [misK, hj]
end Go.Proofs.YtnncmaegmlaabaaGreatDoor

namespace Go.Proofs.YtnncmaegmlaabaaGreatDoor
open Go.RowKit
attribute [local go_sem] Oper.semAt_some

section
variable {w W1 V : World} {REC Z : Array Value} {nm : ByteArray} {st : Int} {R L : Nat} {gv : Value} {n : Nat} {ls : List Nat} {G : List (Int × Int)}
end

end Go.Proofs.YtnncmaegmlaabaaGreatDoor
