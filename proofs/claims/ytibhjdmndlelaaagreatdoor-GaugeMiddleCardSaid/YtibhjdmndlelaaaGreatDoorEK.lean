/-
  Plain words on rules and what they remove, and the contract of the reference's Kept. Conditions: written at each.
-/
import Derived.Test.YtibhjdmndlelaaaGreatDoorK4
import Derived.Test.YtibhjdmndlelaaaGreatDoorML
import Derived.Test.YtibhjdmndlelaaaGreatDoorT1
import Derived.Test.YtibhjdmndlelaaaGreatDoorProg
import Derived.Test.YtibhjdmndlelaaaGreatDoorH2
import Derived.Test.YtibhjdmndlelaaaGreatDoorMS
import Derived.Test.YtibhjdmndlelaaaGreatDoorME
import Derived.Test.YtibhjdmndlelaaaGreatDoorMI
import Derived.Test.YtibhjdmndlelaaaGreatDoorQ4
import Derived.Deep.RegionHeld3
import Derived.Deep.Cut
import Derived.OwnWalk

namespace Go.Proofs.YtibhjdmndlelaaaGreatDoor
open Go.RowKit

theorem ext_getD {α : Type} (l m : List α) (d : α) (h : l.length = m.length) (he : ∀ j, j < l.length → l.getD j d = m.getD j d) : l = m := by
  apply List.ext_getElem h
  intro j h1 h2
  have := he j h1
  rw [List.getD_eq_getElem?_getD, List.getD_eq_getElem?_getD, List.getElem?_eq_getElem h1, List.getElem?_eq_getElem h2] at this
  exact this
end Go.Proofs.YtibhjdmndlelaaaGreatDoor

namespace Go.Proofs.YtibhjdmndlelaaaGreatDoor
open Go.RowKit

theorem asmK_at (bs : List Nat) (T : List Bool) (j : Nat) (hj : j < bs.length) : (asmK bs T bs.length).getD j 0 = if T.getD j false = true then bs.getD j 0 else 0 := by
  unfold asmK
  rw [List.getD_eq_getElem?_getD, List.getElem?_map, List.getElem?_range hj]
  simp only [Option.map_some, Option.getD_some]
  cases T.getD j false <;> simp [hj]
theorem not_getD (T : List Bool) (j : Nat) (h : j < T.length) : (T.map (!·)).getD j false = !T.getD j false := by simp [h]
section
variable {x : Ru} {bs : List Nat} {T : List Bool}

end

theorem misK_not (T : List Bool) (n : Nat) (h : T.length = n) : misK T n n = T.map (!·) := by
  apply ext_getD _ _ false
  · rw [misK_len, List.length_map, h]
  · intro j hj
    rw [misK_len] at hj
    rw [not_getD T j (by omega)]
    simp [misK, hj]
end Go.Proofs.YtibhjdmndlelaaaGreatDoor

namespace Go.Proofs.YtibhjdmndlelaaaGreatDoor
open Go.RowKit
attribute [local go_sem] Oper.semAt_some

section
variable {w W1 V : World} {REC Z : Array Value} {nm : ByteArray} {st : Int} {R L : Nat} {gv : Value} {n : Nat} {ls : List Nat} {G : List (Int × Int)}
end

end Go.Proofs.YtibhjdmndlelaaaGreatDoor
