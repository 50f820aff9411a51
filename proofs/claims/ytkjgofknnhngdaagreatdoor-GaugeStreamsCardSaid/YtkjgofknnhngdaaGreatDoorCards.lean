/-
  DERIVED. GIVEN WITH THE SEED: THE CARDS: each row of YtkjgofknnhngdaaGreatDoorRows.lean that lists a variable, with what it lists TIED to the program's text (the seventh form; the later family's looks); each row that meets fmt, with fmt's text TOLD by the authors' own Lean function (tested against real Go, not proved from fmt's source: count such statements apart). THE CARD IS WHAT COUNTS. Prove the row's statement (the work); the ties are given (YtkjgofknnhngdaaGreatDoorTie.lean); close each card by the builder's one call (the guide's Derived/Test/ToyasCard.lean, 'card_holds'). Laid BY PROGRAM, IN A SANDBOX (cutbox-door.mjs). By AI agents, Wed Nov 11 2026. No macro, syntax, notation, axiom, sorry.
-/
import Derived.Test.YtkjgofknnhngdaaGreatDoorRows
import GoSem.ClaimSeven
namespace Go.Proofs.YtkjgofknnhngdaaGreatDoor
namespace Rows

/-- THE TIED CARD OF 'tidewaylaw01.GaugeTexts'. -/
def gaugeTextsCard : Claim7 := { stood := { row := gaugeTextsRow, standIns := [], harness := (true, "dfc218800829ba828b53d91ebce74cfa6575ab8293bf2580cf509742f68f57b4"), looks := false }, kinds := [], alts := [], laidByText := true, laidKinds := [.data, .data, .data, .data, .pinned], laidTests := true, laidLooks := .later }
def GaugeTextsCardSaid : Prop := Claim7.holds Tryz.pinned (.plain (OpenSpec.ofChange gaugeTextsSpec)) gaugeTextsCard

/-- THE TIED CARD OF 'tidewaylaw01.GaugeStreams'. -/
def gaugeStreamsCard : Claim7 := { stood := { row := gaugeStreamsRow, standIns := [], harness := (true, "dfc218800829ba828b53d91ebce74cfa6575ab8293bf2580cf509742f68f57b4"), looks := false }, kinds := [], alts := [], laidByText := true, laidKinds := [.data, .data, .data], laidTests := true, laidLooks := .later }
def GaugeStreamsCardSaid : Prop := Claim7.holds Tryz.pinned (.plain (OpenSpec.ofChange gaugeStreamsSpec)) gaugeStreamsCard

/-- THE SECOND FORM's CARD OF 'tidewaylaw01.GaugeTexts'. -/
def gaugeTextsUptoCard : Claim7 := { stood := { row := gaugeTextsUptoRow, standIns := [], harness := (true, "dfc218800829ba828b53d91ebce74cfa6575ab8293bf2580cf509742f68f57b4"), looks := false }, kinds := [], alts := [], laidByText := true, laidKinds := [.data, .data, .data, .data, .pinned], laidTests := true, laidLooks := .later }
def GaugeTextsUptoCardSaid : Prop := Claim7.holds Tryz.pinned (.plain (OpenSpec.upto gaugeTextsSpec)) gaugeTextsUptoCard

/-- THE SECOND FORM's CARD OF 'tidewaylaw01.GaugeStreams'. -/
def gaugeStreamsUptoCard : Claim7 := { stood := { row := gaugeStreamsUptoRow, standIns := [], harness := (true, "dfc218800829ba828b53d91ebce74cfa6575ab8293bf2580cf509742f68f57b4"), looks := false }, kinds := [], alts := [], laidByText := true, laidKinds := [.data, .data, .data], laidTests := true, laidLooks := .later }
def GaugeStreamsUptoCardSaid : Prop := Claim7.holds Tryz.pinned (.plain (OpenSpec.upto gaugeStreamsSpec)) gaugeStreamsUptoCard
end Rows
end Go.Proofs.YtkjgofknnhngdaaGreatDoor
