/-
  DERIVED. GIVEN WITH THE SEED: THE CARDS: each row of YtibhjdmndlelaaaGreatDoorRows.lean that lists a variable, with what it lists TIED to the program's text (the seventh form; the later family's looks); each row that meets fmt, with fmt's text TOLD by the authors' own Lean function (tested against real Go, not proved from fmt's source: count such statements apart). THE CARD IS WHAT COUNTS. Prove the row's statement (the work); the ties are given (YtibhjdmndlelaaaGreatDoorTie.lean); close each card by the builder's one call (the guide's Derived/Test/ToyasCard.lean, 'card_holds'). Laid BY PROGRAM, IN A SANDBOX (cutbox-door.mjs). By AI agents, Wed Nov 11 2026. No macro, syntax, notation, axiom, sorry.
-/
import Derived.Test.YtibhjdmndlelaaaGreatDoorRows
import GoSem.ClaimSeven
namespace Go.Proofs.YtibhjdmndlelaaaGreatDoor
namespace Rows

/-- THE TIED CARD OF 'tidewaylaw01.GaugeMiddle'. -/
def gaugeMiddleCard : Claim7 := { stood := { row := gaugeMiddleRow, standIns := [], harness := (true, "30f1af2673b8bb9d08fa0c2d4fed60b9766b8c144cab8e87047abe3e8191d3d9"), looks := false }, kinds := [], alts := [], laidByText := true, laidKinds := [.data, .data, .data], laidTests := true, laidLooks := .later }
def GaugeMiddleCardSaid : Prop := Claim7.holds Tryz.pinned (.plain (OpenSpec.ofChange gaugeMiddleSpec)) gaugeMiddleCard

/-- THE TIED CARD OF 'tidewaylaw01.GaugeFollows'. -/
def gaugeFollowsCard : Claim7 := { stood := { row := gaugeFollowsRow, standIns := [], harness := (true, "30f1af2673b8bb9d08fa0c2d4fed60b9766b8c144cab8e87047abe3e8191d3d9"), looks := false }, kinds := [], alts := [], laidByText := true, laidKinds := [.data, .data, .data], laidTests := true, laidLooks := .later }
def GaugeFollowsCardSaid : Prop := Claim7.holds Tryz.pinned (.plain (OpenSpec.ofChange gaugeFollowsSpec)) gaugeFollowsCard

/-- THE SECOND FORM's CARD OF 'tidewaylaw01.GaugeMiddle'. -/
def gaugeMiddleUptoCard : Claim7 := { stood := { row := gaugeMiddleUptoRow, standIns := [], harness := (true, "30f1af2673b8bb9d08fa0c2d4fed60b9766b8c144cab8e87047abe3e8191d3d9"), looks := false }, kinds := [], alts := [], laidByText := true, laidKinds := [.data, .data, .data], laidTests := true, laidLooks := .later }
def GaugeMiddleUptoCardSaid : Prop := Claim7.holds Tryz.pinned (.plain (OpenSpec.upto gaugeMiddleSpec)) gaugeMiddleUptoCard

/-- THE SECOND FORM's CARD OF 'tidewaylaw01.GaugeFollows'. -/
def gaugeFollowsUptoCard : Claim7 := { stood := { row := gaugeFollowsUptoRow, standIns := [], harness := (true, "30f1af2673b8bb9d08fa0c2d4fed60b9766b8c144cab8e87047abe3e8191d3d9"), looks := false }, kinds := [], alts := [], laidByText := true, laidKinds := [.data, .data, .data], laidTests := true, laidLooks := .later }
def GaugeFollowsUptoCardSaid : Prop := Claim7.holds Tryz.pinned (.plain (OpenSpec.upto gaugeFollowsSpec)) gaugeFollowsUptoCard
end Rows
end Go.Proofs.YtibhjdmndlelaaaGreatDoor
