/-
  DERIVED. GIVEN WITH THE SEED: THE CARDS: each row of YtnejjnebpbajmaaGreatDoorRows.lean that lists a variable, with what it lists TIED to the program's text (the seventh form; the later family's looks); each row that meets fmt, with fmt's text TOLD by the authors' own Lean function (tested against real Go, not proved from fmt's source: count such statements apart). THE CARD IS WHAT COUNTS. Prove the row's statement (the work); the ties are given (YtnejjnebpbajmaaGreatDoorTie.lean); close each card by the builder's one call (the guide's Derived/Test/ToyasCard.lean, 'card_holds'). Laid BY PROGRAM, IN A SANDBOX (cutbox-door.mjs). By AI agents, Wed Nov 11 2026. No macro, syntax, notation, axiom, sorry.
-/
import Derived.Test.YtnejjnebpbajmaaGreatDoorRows
import GoSem.ClaimSeven
namespace Go.Proofs.YtnejjnebpbajmaaGreatDoor
namespace Rows

/-- THE TIED CARD OF 'tidewaylaw01.GaugeFollows'. -/
def gaugeFollowsCard : Claim7 := { stood := { row := gaugeFollowsRow, standIns := [], harness := (true, "38562ecc35a4805bbef5412a868c0146d8dcd7cf33dbc577c0ef5fe7ee9840c9"), looks := false }, kinds := [], alts := [], laidByText := true, laidKinds := [.data, .data, .data], laidTests := true, laidLooks := .later }
def GaugeFollowsCardSaid : Prop := Claim7.holds Tryz.pinned (.plain (OpenSpec.ofChange gaugeFollowsSpec)) gaugeFollowsCard

/-- THE SECOND FORM's CARD OF 'tidewaylaw01.GaugeFollows'. -/
def gaugeFollowsUptoCard : Claim7 := { stood := { row := gaugeFollowsUptoRow, standIns := [], harness := (true, "38562ecc35a4805bbef5412a868c0146d8dcd7cf33dbc577c0ef5fe7ee9840c9"), looks := false }, kinds := [], alts := [], laidByText := true, laidKinds := [.data, .data, .data], laidTests := true, laidLooks := .later }
def GaugeFollowsUptoCardSaid : Prop := Claim7.holds Tryz.pinned (.plain (OpenSpec.upto gaugeFollowsSpec)) gaugeFollowsUptoCard
end Rows
end Go.Proofs.YtnejjnebpbajmaaGreatDoor
