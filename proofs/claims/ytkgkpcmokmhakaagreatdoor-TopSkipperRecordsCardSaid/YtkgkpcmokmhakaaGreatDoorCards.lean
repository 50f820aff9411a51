/-
  DERIVED. GIVEN WITH THE SEED: THE CARDS: each row of YtkgkpcmokmhakaaGreatDoorRows.lean that lists a variable, with what it lists TIED to the program's text (the seventh form; the later family's looks); each row that meets fmt, with fmt's text TOLD by the authors' own Lean function (tested against real Go, not proved from fmt's source: count such statements apart). THE CARD IS WHAT COUNTS. Prove the row's statement (the work); the ties are given (YtkgkpcmokmhakaaGreatDoorTie.lean); close each card by the builder's one call (the guide's Derived/Test/ToyasCard.lean, 'card_holds'). Laid BY PROGRAM, IN A SANDBOX (cutbox-door.mjs). By AI agents, Wed Nov 11 2026. No macro, syntax, notation, axiom, sorry.
-/
import Derived.Test.YtkgkpcmokmhakaaGreatDoorRows
import GoSem.ClaimSeven
namespace Go.Proofs.YtkgkpcmokmhakaaGreatDoor
namespace Rows

/-- THE TIED CARD OF 'tidewaytop.TopSkipperRecords'. -/
def topSkipperRecordsCard : Claim7 := { stood := { row := topSkipperRecordsRow, standIns := [], harness := (true, "f17fa68cce89f1a2c36f50d5acfccaad0e2e3fbe54cea8b8fd84eaa2b2fffa1b"), looks := false }, kinds := [], alts := [], laidByText := true, laidKinds := [.data, .data, .data, .data, .pinned], laidTests := true, laidLooks := .later }
def TopSkipperRecordsCardSaid : Prop := Claim7.holds Tryz.pinned (.plain (OpenSpec.ofChange topSkipperRecordsSpec)) topSkipperRecordsCard

/-- THE SECOND FORM's CARD OF 'tidewaytop.TopSkipperRecords'. -/
def topSkipperRecordsUptoCard : Claim7 := { stood := { row := topSkipperRecordsUptoRow, standIns := [], harness := (true, "f17fa68cce89f1a2c36f50d5acfccaad0e2e3fbe54cea8b8fd84eaa2b2fffa1b"), looks := false }, kinds := [], alts := [], laidByText := true, laidKinds := [.data, .data, .data, .data, .pinned], laidTests := true, laidLooks := .later }
def TopSkipperRecordsUptoCardSaid : Prop := Claim7.holds Tryz.pinned (.plain (OpenSpec.upto topSkipperRecordsSpec)) topSkipperRecordsUptoCard
end Rows
end Go.Proofs.YtkgkpcmokmhakaaGreatDoor
