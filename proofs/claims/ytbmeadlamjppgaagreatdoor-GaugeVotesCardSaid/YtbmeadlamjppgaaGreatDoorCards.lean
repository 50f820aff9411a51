/-
  DERIVED. GIVEN WITH THE SEED: THE CARDS: each row of YtbmeadlamjppgaaGreatDoorRows.lean that lists a variable, with what it lists TIED to the program's text (the seventh form; the later family's looks); each row that meets fmt, with fmt's text TOLD by the authors' own Lean function (tested against real Go, not proved from fmt's source: count such statements apart). THE CARD IS WHAT COUNTS. Prove the row's statement (the work); the ties are given (YtbmeadlamjppgaaGreatDoorTie.lean); close each card by the builder's one call (the guide's Derived/Test/ToyasCard.lean, 'card_holds'). Laid BY PROGRAM, IN A SANDBOX (cutbox-door.mjs). By AI agents, Wed Nov 11 2026. No macro, syntax, notation, axiom, sorry.
-/
import Derived.Test.YtbmeadlamjppgaaGreatDoorRows
import GoSem.ClaimSeven
namespace Go.Proofs.YtbmeadlamjppgaaGreatDoor
namespace Rows

/-- THE TIED CARD OF 'tidewaylaw01.GaugeVotes'. -/
def gaugeVotesCard : Claim7 := { stood := { row := gaugeVotesRow, standIns := [], harness := (true, "a2ac7721fc906230f79feafd50f46457db167e4d414d7038bf9df98469f3c56c"), looks := false }, kinds := [], alts := [], laidByText := true, laidKinds := [.data, .data, .data], laidTests := true, laidLooks := .later }
def GaugeVotesCardSaid : Prop := Claim7.holds Tryz.pinned (.plain (OpenSpec.ofChange gaugeVotesSpec)) gaugeVotesCard

/-- THE TIED CARD OF 'tidewaylaw01.GaugeWaters'. -/
def gaugeWatersCard : Claim7 := { stood := { row := gaugeWatersRow, standIns := [], harness := (true, "a2ac7721fc906230f79feafd50f46457db167e4d414d7038bf9df98469f3c56c"), looks := false }, kinds := [], alts := [], laidByText := true, laidKinds := [.data, .data, .data], laidTests := true, laidLooks := .later }
def GaugeWatersCardSaid : Prop := Claim7.holds Tryz.pinned (.plain (OpenSpec.ofChange gaugeWatersSpec)) gaugeWatersCard

/-- THE TIED CARD OF 'tidewaylaw01.GaugeAppends'. -/
def gaugeAppendsCard : Claim7 := { stood := { row := gaugeAppendsRow, standIns := [], harness := (true, "a2ac7721fc906230f79feafd50f46457db167e4d414d7038bf9df98469f3c56c"), looks := false }, kinds := [], alts := [], laidByText := true, laidKinds := [.data, .data, .data], laidTests := true, laidLooks := .later }
def GaugeAppendsCardSaid : Prop := Claim7.holds Tryz.pinned (.plain (OpenSpec.ofChange gaugeAppendsSpec)) gaugeAppendsCard

/-- THE TIED CARD OF 'tidewaylaw01.GaugeKeeps'. -/
def gaugeKeepsCard : Claim7 := { stood := { row := gaugeKeepsRow, standIns := [], harness := (true, "a2ac7721fc906230f79feafd50f46457db167e4d414d7038bf9df98469f3c56c"), looks := false }, kinds := [], alts := [], laidByText := true, laidKinds := [.data, .data, .data], laidTests := true, laidLooks := .later }
def GaugeKeepsCardSaid : Prop := Claim7.holds Tryz.pinned (.plain (OpenSpec.ofChange gaugeKeepsSpec)) gaugeKeepsCard

/-- THE SECOND FORM's CARD OF 'tidewaylaw01.GaugeVotes'. -/
def gaugeVotesUptoCard : Claim7 := { stood := { row := gaugeVotesUptoRow, standIns := [], harness := (true, "a2ac7721fc906230f79feafd50f46457db167e4d414d7038bf9df98469f3c56c"), looks := false }, kinds := [], alts := [], laidByText := true, laidKinds := [.data, .data, .data], laidTests := true, laidLooks := .later }
def GaugeVotesUptoCardSaid : Prop := Claim7.holds Tryz.pinned (.plain (OpenSpec.upto gaugeVotesSpec)) gaugeVotesUptoCard

/-- THE SECOND FORM's CARD OF 'tidewaylaw01.GaugeWaters'. -/
def gaugeWatersUptoCard : Claim7 := { stood := { row := gaugeWatersUptoRow, standIns := [], harness := (true, "a2ac7721fc906230f79feafd50f46457db167e4d414d7038bf9df98469f3c56c"), looks := false }, kinds := [], alts := [], laidByText := true, laidKinds := [.data, .data, .data], laidTests := true, laidLooks := .later }
def GaugeWatersUptoCardSaid : Prop := Claim7.holds Tryz.pinned (.plain (OpenSpec.upto gaugeWatersSpec)) gaugeWatersUptoCard

/-- THE SECOND FORM's CARD OF 'tidewaylaw01.GaugeAppends'. -/
def gaugeAppendsUptoCard : Claim7 := { stood := { row := gaugeAppendsUptoRow, standIns := [], harness := (true, "a2ac7721fc906230f79feafd50f46457db167e4d414d7038bf9df98469f3c56c"), looks := false }, kinds := [], alts := [], laidByText := true, laidKinds := [.data, .data, .data], laidTests := true, laidLooks := .later }
def GaugeAppendsUptoCardSaid : Prop := Claim7.holds Tryz.pinned (.plain (OpenSpec.upto gaugeAppendsSpec)) gaugeAppendsUptoCard

/-- THE SECOND FORM's CARD OF 'tidewaylaw01.GaugeKeeps'. -/
def gaugeKeepsUptoCard : Claim7 := { stood := { row := gaugeKeepsUptoRow, standIns := [], harness := (true, "a2ac7721fc906230f79feafd50f46457db167e4d414d7038bf9df98469f3c56c"), looks := false }, kinds := [], alts := [], laidByText := true, laidKinds := [.data, .data, .data], laidTests := true, laidLooks := .later }
def GaugeKeepsUptoCardSaid : Prop := Claim7.holds Tryz.pinned (.plain (OpenSpec.upto gaugeKeepsSpec)) gaugeKeepsUptoCard
end Rows
end Go.Proofs.YtbmeadlamjppgaaGreatDoor
