/-
  Plain words on levels that are kept: a valid level is the same as itself, and a record's levels in gaps are the same as 0. No program.
  Plain words on valid levels as numbers: how they compare, what 1 and -1 times them are, the lesser and the greater of two. No program.
-/

import Derived.Test.YtnncmaegmlaabaaGreatDoorQ2
import Derived.Test.YtnncmaegmlaabaaGreatDoorP0
import Derived.Test.YtnncmaegmlaabaaGreatDoorMI
import Derived.Test.YtnncmaegmlaabaaGreatDoorMK
namespace Go.Proofs.YtnncmaegmlaabaaGreatDoor
open Go.RowKit

theorem feq_self {b : Nat} (h : chkLev b = 0) : feqL b b = true := by
  unfold chkLev at h
  cases hd : FloatKind.f32.decode b with
  | nan s t => rw [hd] at h; cases h
  | infinity s => rw [hd] at h; cases h
  | number s m e =>
    have hr : FloatKind.f32.format.read b = .number s m e := hd
    unfold feqL Ieee.Format.order
    rw [hr]
    simp [Ieee.Datum.order]
end Go.Proofs.YtnncmaegmlaabaaGreatDoor

namespace Go.Proofs.YtnncmaegmlaabaaGreatDoor
open Go.RowKit
open Ieee (Format Datum)

/-- The value of a float32, in units of its least place; 0 of what is no number. -/
def num (b : Nat) : Int := match FloatKind.f32.decode b with
  | .number s m e => sgnI s (magOf sgl m e)
  | _ => 0
/-- The bits of a finite float32. -/
def finB (b : Nat) : Bool := match FloatKind.f32.decode b with
  | .number _ _ _ => true
  | _ => false
theorem fin_parts {b : Nat} (h : finB b = true) : ∃ s m e, Fin sgl b s m e ∧ e ≤ 104 ∧ num b = sgnI s (magOf sgl m e) := by
  unfold finB at h
  cases hd : FloatKind.f32.decode b with
  | nan s t => rw [hd] at h; cases h
  | infinity s => rw [hd] at h; cases h
  | number s m e =>
    obtain ⟨hf, he⟩ := f32_top hd
    exact ⟨s, m, e, hf, he, by unfold num; rw [hd]⟩
theorem fin_lev {b : Nat} (h : chkLev b = 0) : finB b = true := by
  unfold chkLev at h
  unfold finB
  cases hd : FloatKind.f32.decode b with
  | nan s t => rw [hd] at h; cases h
  | infinity s => rw [hd] at h; cases h
  | number s m e => rfl
theorem ord_num {a b : Nat} (ha : finB a = true) (hb : finB b = true) : FloatKind.f32.format.order a b = some (compare (num a) (num b)) := by
  obtain ⟨s, m, e, h1, -, e1⟩ := fin_parts ha
  obtain ⟨t, n, j, h2, -, e2⟩ := fin_parts hb
  rw [e1, e2]
  exact order_eq h1 h2
theorem feq_num {a b : Nat} (ha : finB a = true) (hb : finB b = true) : feqL a b = decide (num a = num b) := by
  unfold feqL; rw [ord_num ha hb, cmp_eq]

end Go.Proofs.YtnncmaegmlaabaaGreatDoor
