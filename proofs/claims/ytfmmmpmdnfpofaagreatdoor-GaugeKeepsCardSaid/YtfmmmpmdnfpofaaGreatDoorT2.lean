/-
  Contracts of the reference's Recorded and gaps. Conditions: the index is below the number of levels; at most 100000 marks.
  Contracts of the reference's Sixteenths and Above, at valid records.
-/
import Derived.Test.YtfmmmpmdnfpofaaGreatDoorProg
import Derived.Test.YtfmmmpmdnfpofaaGreatDoorH2
import Derived.Test.YtfmmmpmdnfpofaaGreatDoorT1
import Derived.OwnWalk

namespace Go.Proofs.YtfmmmpmdnfpofaaGreatDoor
open Go.RowKit
attribute [local go_sem] Oper.semAt_some

theorem not_at (ts : List Bool) (k : Nat) (hk : k < ts.length) : (ts.map (!·)).getD k false = !ts.getD k false := by simp [hk]
theorem strF_next (bs : List Bool) (k : Nat) : strF bs (k + 1) = if bs.getD k false then ext (strF bs k) k (k + 1) else strF bs k := rfl

end Go.Proofs.YtfmmmpmdnfpofaaGreatDoor

namespace Go.Proofs.YtfmmmpmdnfpofaaGreatDoor
open Go.RowKit
attribute [local go_sem] Oper.semAt_some

theorem fle_num {a b : Nat} (ha : finB a = true) (hb : finB b = true) : (FloatKind.f32.format.order a b == some .lt || FloatKind.f32.format.order a b == some .eq) = !decide (num b < num a) := by
  rw [ord_num ha hb, cmp_lt, cmp_eq, ← Bool.decide_or, ← decide_not, decide_eq_decide]
  omega

/-- The marks of the levels that are not above one, as the reference sets them one by one. -/
def blwL (bs : List Nat) (gs : List (Int × Int)) (lev k : Nat) : List Bool := (List.range bs.length).map fun i => decide (i < k) && !(!hasL gs (i : Nat) && decide (num lev < num (bs.getD i 0)))
theorem blwL_len (bs : List Nat) (gs : List (Int × Int)) (lev k : Nat) : (blwL bs gs lev k).length = bs.length := by simp [blwL]
theorem blwL_zero (bs : List Nat) (gs : List (Int × Int)) (lev : Nat) : (blwL bs gs lev 0).map Value.bool = List.replicate bs.length (.bool false) := by
  apply List.ext_getElem
  · simp [blwL]
  · intro i h1 h2
    simp [blwL]
theorem blwL_set (bs : List Nat) (gs : List (Int × Int)) (lev k : Nat) : ((blwL bs gs lev k).map Value.bool).set k (.bool (!(!hasL gs (k : Nat) && decide (num lev < num (bs.getD k 0))))) = (blwL bs gs lev (k + 1)).map Value.bool := by
  apply List.ext_getElem
  · simp [blwL]
  · intro i h1 h2
    rw [List.getElem_set]
    by_cases e : k = i
    · subst e
      simp [blwL]
    · rw [if_neg e]
      have : (i < k + 1) ↔ (i < k) := by omega
      simp [blwL, this]
/-- The marks of the levels above one. -/
def abvL (bs : List Nat) (gs : List (Int × Int)) (lev : Nat) : List Bool := (List.range bs.length).map fun i => !hasL gs (i : Nat) && decide (num lev < num (bs.getD i 0))
theorem blwL_not (bs : List Nat) (gs : List (Int × Int)) (lev : Nat) : (blwL bs gs lev bs.length).map (!·) = abvL bs gs lev := by
  unfold blwL abvL
  rw [List.map_map]
  apply List.map_congr_left
  intro i hi
  have : i < bs.length := by simpa using hi
  simp [this]

end Go.Proofs.YtfmmmpmdnfpofaaGreatDoor
