/-
  Contracts of the reference's water and Waters, at valid records.
  Contracts of the reference's Waters and Summary, at valid records.
  Contract of the reference's Summary, at valid records.
-/
import Derived.Test.YtibhjdmndlelaaaGreatDoorProg
import Derived.Test.YtibhjdmndlelaaaGreatDoorH2
import Derived.Test.YtibhjdmndlelaaaGreatDoorT1
import Derived.Test.YtibhjdmndlelaaaGreatDoorMN
import Derived.BigQuiet
import Derived.Deep.RegionHeld3

namespace Go.Proofs.YtibhjdmndlelaaaGreatDoor
open Go.RowKit
attribute [local go_sem] Oper.semAt_some

/-- A level times 1 or -1. -/
def sv (neg : Bool) (b : Nat) : Int := if neg = true then -num b else num b
end Go.Proofs.YtibhjdmndlelaaaGreatDoor

namespace Go.Proofs.YtibhjdmndlelaaaGreatDoor
open Go.RowKit
attribute [local go_sem] Oper.semAt_some

end Go.Proofs.YtibhjdmndlelaaaGreatDoor

namespace Go.Proofs.YtibhjdmndlelaaaGreatDoor
open Go.RowKit
attribute [local go_sem] Oper.semAt_some

section
variable {w : World} {nm : ByteArray} {st : Int} {lv gv : Value} {cs : Array Value} {W W' : World}
end

end Go.Proofs.YtibhjdmndlelaaaGreatDoor
