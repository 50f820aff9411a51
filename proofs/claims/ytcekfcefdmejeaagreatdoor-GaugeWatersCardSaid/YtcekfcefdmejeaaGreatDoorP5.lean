/-
  Plain words on levels that are kept: a valid level is the same as itself, and a record's levels in gaps are the same as 0. No program.
-/
import Derived.Test.YtcekfcefdmejeaaGreatDoorQ2
import Derived.Test.YtcekfcefdmejeaaGreatDoorP0
import Derived.Test.YtcekfcefdmejeaaGreatDoorMI
namespace Go.Proofs.YtcekfcefdmejeaaGreatDoor
open Go.RowKit

theorem feq_self {b : Nat} (h : chkLev b = 0) : feqL b b = true := by
  unfold chkLev at h
  cases hd : FloatKind.f32.decode b with
  | nan s t => rw [hd] at h; cases h
  | infinity s => rw [hd] at h; cases h
  | number s m e =>
    have hr : FloatKind.f32.format.read b = .number s m e := hd
    unfold feqL Ieee.Format.order
    rw [hr]
    simp [Ieee.Datum.order]
theorem feq_zero {b : Nat} (h : zeroF b = true) : feqL b 0 = true := by
  have := zeroF_true.1 h
  unfold feqL
  simpa [bne] using this

/-- The levels that are kept: the marked ones, the others are 0. -/
def keptL (bs : List Nat) (ts : List Bool) : List Nat := (List.range bs.length).map fun i => if ts.getD i false = true then bs.getD i 0 else 0
theorem keptL_len (bs : List Nat) (ts : List Bool) : (keptL bs ts).length = bs.length := by simp [keptL]
theorem keptL_at (bs : List Nat) (ts : List Bool) (i : Nat) (h : i < bs.length) : (keptL bs ts).getD i 0 = if ts.getD i false = true then bs.getD i 0 else 0 := by simp [keptL, h]
theorem lev_each {bs : List Nat} (h : fst0 (levErr bs) = 0) (i : Nat) (hi : i < bs.length) : chkLev (bs.getD i 0) = 0 := by
  have := fst0_each h i (by simpa [levErr] using hi)
  rwa [levErr_at bs i hi] at this
/-- A record's levels are the same as those that are kept. -/
theorem kept_same (bs : List Nat) (ts : List Bool) (hl : ∀ i, i < bs.length → chkLev (bs.getD i 0) = 0) (hz : ∀ i, i < bs.length → ts.getD i false = false → zeroF (bs.getD i 0) = true) : sameF feqL 0 bs (keptL bs ts) = true := by
  refine sameF_yes feqL 0 _ _ (keptL_len bs ts).symm fun i hi => ?_
  rw [keptL_at bs ts i hi]
  by_cases h : ts.getD i false = true
  · rw [if_pos h]; exact feq_self (hl i hi)
  · rw [if_neg h]; exact feq_zero (hz i hi (by simpa using h))
end Go.Proofs.YtcekfcefdmejeaaGreatDoor
