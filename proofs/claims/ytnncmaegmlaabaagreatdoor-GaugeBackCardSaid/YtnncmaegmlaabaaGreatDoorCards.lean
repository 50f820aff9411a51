/-
  DERIVED. GIVEN WITH THE SEED: THE CARDS: each row of YtnncmaegmlaabaaGreatDoorRows.lean that lists a variable, with what it lists TIED to the program's text (the seventh form; the later family's looks); each row that meets fmt, with fmt's text TOLD by the authors' own Lean function (tested against real Go, not proved from fmt's source: count such statements apart). THE CARD IS WHAT COUNTS. Prove the row's statement (the work); the ties are given (YtnncmaegmlaabaaGreatDoorTie.lean); close each card by the builder's one call (the guide's Derived/Test/ToyasCard.lean, 'card_holds'). Laid BY PROGRAM, IN A SANDBOX (cutbox-door.mjs). By AI agents, Wed Nov 11 2026. No macro, syntax, notation, axiom, sorry.
-/
import Derived.Test.YtnncmaegmlaabaaGreatDoorRows
import GoSem.ClaimSeven
namespace Go.Proofs.YtnncmaegmlaabaaGreatDoor
namespace Rows

/-- THE TIED CARD OF 'tidewaylaw01.GaugeTexts'. -/
def gaugeTextsCard : Claim7 := { stood := { row := gaugeTextsRow, standIns := [], harness := (true, "bbee303f417b5fecf44f3860c80dd4b76ab3a056c82a749920830982b0dc032a"), looks := false }, kinds := [], alts := [], laidByText := true, laidKinds := [.data, .data, .data, .data, .pinned], laidTests := true, laidLooks := .later }
def GaugeTextsCardSaid : Prop := Claim7.holds Tryz.pinned (.plain (OpenSpec.ofChange gaugeTextsSpec)) gaugeTextsCard

/-- THE TIED CARD OF 'tidewaylaw01.GaugeBack'. -/
def gaugeBackCard : Claim7 := { stood := { row := gaugeBackRow, standIns := [], harness := (true, "bbee303f417b5fecf44f3860c80dd4b76ab3a056c82a749920830982b0dc032a"), looks := false }, kinds := [], alts := [], laidByText := true, laidKinds := [.data, .data, .data, .data, .pinned], laidTests := true, laidLooks := .later }
def GaugeBackCardSaid : Prop := Claim7.holds Tryz.pinned (.plain (OpenSpec.ofChange gaugeBackSpec)) gaugeBackCard

/-- THE TIED CARD OF 'tidewaytop.TopSkipperRecords'. -/
def topSkipperRecordsCard : Claim7 := { stood := { row := topSkipperRecordsRow, standIns := [], harness := (true, "bbee303f417b5fecf44f3860c80dd4b76ab3a056c82a749920830982b0dc032a"), looks := false }, kinds := [], alts := [], laidByText := true, laidKinds := [.data, .data, .data, .data, .pinned], laidTests := true, laidLooks := .later }
def TopSkipperRecordsCardSaid : Prop := Claim7.holds Tryz.pinned (.plain (OpenSpec.ofChange topSkipperRecordsSpec)) topSkipperRecordsCard

/-- THE SECOND FORM's CARD OF 'tidewaylaw01.GaugeTexts'. -/
def gaugeTextsUptoCard : Claim7 := { stood := { row := gaugeTextsUptoRow, standIns := [], harness := (true, "bbee303f417b5fecf44f3860c80dd4b76ab3a056c82a749920830982b0dc032a"), looks := false }, kinds := [], alts := [], laidByText := true, laidKinds := [.data, .data, .data, .data, .pinned], laidTests := true, laidLooks := .later }
def GaugeTextsUptoCardSaid : Prop := Claim7.holds Tryz.pinned (.plain (OpenSpec.upto gaugeTextsSpec)) gaugeTextsUptoCard

/-- THE SECOND FORM's CARD OF 'tidewaylaw01.GaugeBack'. -/
def gaugeBackUptoCard : Claim7 := { stood := { row := gaugeBackUptoRow, standIns := [], harness := (true, "bbee303f417b5fecf44f3860c80dd4b76ab3a056c82a749920830982b0dc032a"), looks := false }, kinds := [], alts := [], laidByText := true, laidKinds := [.data, .data, .data, .data, .pinned], laidTests := true, laidLooks := .later }
def GaugeBackUptoCardSaid : Prop := Claim7.holds Tryz.pinned (.plain (OpenSpec.upto gaugeBackSpec)) gaugeBackUptoCard

/-- THE SECOND FORM's CARD OF 'tidewaytop.TopSkipperRecords'. -/
def topSkipperRecordsUptoCard : Claim7 := { stood := { row := topSkipperRecordsUptoRow, standIns := [], harness := (true, "bbee303f417b5fecf44f3860c80dd4b76ab3a056c82a749920830982b0dc032a"), looks := false }, kinds := [], alts := [], laidByText := true, laidKinds := [.data, .data, .data, .data, .pinned], laidTests := true, laidLooks := .later }
def TopSkipperRecordsUptoCardSaid : Prop := Claim7.holds Tryz.pinned (.plain (OpenSpec.upto topSkipperRecordsSpec)) topSkipperRecordsUptoCard
end Rows
end Go.Proofs.YtnncmaegmlaabaaGreatDoor
