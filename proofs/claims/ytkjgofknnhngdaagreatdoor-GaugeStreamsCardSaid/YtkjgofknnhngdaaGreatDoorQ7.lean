/-
  The reference's CheckRule and CheckRules, Short and ShortRules.
-/
import Derived.Test.YtkjgofknnhngdaaGreatDoorProg
import Derived.Test.YtkjgofknnhngdaaGreatDoorME
import Derived.Test.YtkjgofknnhngdaaGreatDoorMI
import Derived.Test.YtkjgofknnhngdaaGreatDoorH2
namespace Go.Proofs.YtkjgofknnhngdaaGreatDoor
open Go.RowKit
attribute [local go_sem] Oper.semAt_some

theorem str_eq (kd : ByteArray) (a : Array UInt8) (b : Bool) (h : (kd == ⟨a⟩) = b) : (kd.toList == a.toList) = b := by
  have e : (kd == ⟨a⟩) = (kd.data == a) := by cases kd; rfl
  rw [← h, e, ByteArray.toList_eq, Bool.eq_iff_iff, beq_iff_eq, beq_iff_eq]
  exact Array.toList_inj

end Go.Proofs.YtkjgofknnhngdaaGreatDoor
