/-
  DERIVED. GIVEN WITH THE SEED: THE CARDS: each row of YtmcgkpfbehlpcaaGreatDoorRows.lean that lists a variable, with what it lists TIED to the program's text (the seventh form; the later family's looks); each row that meets fmt, with fmt's text TOLD by the authors' own Lean function (tested against real Go, not proved from fmt's source: count such statements apart). THE CARD IS WHAT COUNTS. Prove the row's statement (the work); the ties are given (YtmcgkpfbehlpcaaGreatDoorTie.lean); close each card by the builder's one call (the guide's Derived/Test/ToyasCard.lean, 'card_holds'). Laid BY PROGRAM, IN A SANDBOX (cutbox-door.mjs). By AI agents, Wed Nov 11 2026. No macro, syntax, notation, axiom, sorry.
-/
import Derived.Test.YtmcgkpfbehlpcaaGreatDoorRows
import GoSem.ClaimSeven
namespace Go.Proofs.YtmcgkpfbehlpcaaGreatDoor
namespace Rows

/-- THE TIED CARD OF 'tidewaylaw01.GaugeChecks'. -/
def gaugeChecksCard : Claim7 := { stood := { row := gaugeChecksRow, standIns := [], harness := (true, "402f8e3334ee9a0783c3f6a5770b53eee9757ea6fe013d20926b16b3e92d9c3f"), looks := false }, kinds := [], alts := [], laidByText := true, laidKinds := [.data, .data, .data], laidTests := true, laidLooks := .later }
def GaugeChecksCardSaid : Prop := Claim7.holds Tryz.pinned (.plain (OpenSpec.ofChange gaugeChecksSpec)) gaugeChecksCard

/-- THE TIED CARD OF 'tidewaylaw01.GaugeSpans'. -/
def gaugeSpansCard : Claim7 := { stood := { row := gaugeSpansRow, standIns := [], harness := (true, "402f8e3334ee9a0783c3f6a5770b53eee9757ea6fe013d20926b16b3e92d9c3f"), looks := false }, kinds := [], alts := [], laidByText := true, laidKinds := [.data, .data, .data], laidTests := true, laidLooks := .later }
def GaugeSpansCardSaid : Prop := Claim7.holds Tryz.pinned (.plain (OpenSpec.ofChange gaugeSpansSpec)) gaugeSpansCard

/-- THE TIED CARD OF 'tidewaylaw01.GaugeSets'. -/
def gaugeSetsCard : Claim7 := { stood := { row := gaugeSetsRow, standIns := [], harness := (true, "402f8e3334ee9a0783c3f6a5770b53eee9757ea6fe013d20926b16b3e92d9c3f"), looks := false }, kinds := [], alts := [], laidByText := true, laidKinds := [.data, .data, .data], laidTests := true, laidLooks := .later }
def GaugeSetsCardSaid : Prop := Claim7.holds Tryz.pinned (.plain (OpenSpec.ofChange gaugeSetsSpec)) gaugeSetsCard

/-- THE SECOND FORM's CARD OF 'tidewaylaw01.GaugeChecks'. -/
def gaugeChecksUptoCard : Claim7 := { stood := { row := gaugeChecksUptoRow, standIns := [], harness := (true, "402f8e3334ee9a0783c3f6a5770b53eee9757ea6fe013d20926b16b3e92d9c3f"), looks := false }, kinds := [], alts := [], laidByText := true, laidKinds := [.data, .data, .data], laidTests := true, laidLooks := .later }
def GaugeChecksUptoCardSaid : Prop := Claim7.holds Tryz.pinned (.plain (OpenSpec.upto gaugeChecksSpec)) gaugeChecksUptoCard

/-- THE SECOND FORM's CARD OF 'tidewaylaw01.GaugeSpans'. -/
def gaugeSpansUptoCard : Claim7 := { stood := { row := gaugeSpansUptoRow, standIns := [], harness := (true, "402f8e3334ee9a0783c3f6a5770b53eee9757ea6fe013d20926b16b3e92d9c3f"), looks := false }, kinds := [], alts := [], laidByText := true, laidKinds := [.data, .data, .data], laidTests := true, laidLooks := .later }
def GaugeSpansUptoCardSaid : Prop := Claim7.holds Tryz.pinned (.plain (OpenSpec.upto gaugeSpansSpec)) gaugeSpansUptoCard

/-- THE SECOND FORM's CARD OF 'tidewaylaw01.GaugeSets'. -/
def gaugeSetsUptoCard : Claim7 := { stood := { row := gaugeSetsUptoRow, standIns := [], harness := (true, "402f8e3334ee9a0783c3f6a5770b53eee9757ea6fe013d20926b16b3e92d9c3f"), looks := false }, kinds := [], alts := [], laidByText := true, laidKinds := [.data, .data, .data], laidTests := true, laidLooks := .later }
def GaugeSetsUptoCardSaid : Prop := Claim7.holds Tryz.pinned (.plain (OpenSpec.upto gaugeSetsSpec)) gaugeSetsUptoCard
end Rows
end Go.Proofs.YtmcgkpfbehlpcaaGreatDoor
