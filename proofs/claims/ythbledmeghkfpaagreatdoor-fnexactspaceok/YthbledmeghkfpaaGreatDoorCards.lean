/-
  DERIVED. GIVEN WITH THE SEED: THE CARDS: each row of YthbledmeghkfpaaGreatDoorRows.lean that lists a variable, with what it lists TIED to the program's text (the seventh form; the later family's looks); each row that meets fmt, with fmt's text TOLD by the authors' own Lean function (tested against real Go, not proved from fmt's source: count such statements apart). THE CARD IS WHAT COUNTS. Prove the row's statement (the work); the ties are given (YthbledmeghkfpaaGreatDoorTie.lean); close each card by the builder's one call (the guide's Derived/Test/ToyasCard.lean, 'card_holds'). Laid BY PROGRAM, IN A SANDBOX (cutbox-door.mjs). By AI agents, Wed Nov 11 2026. No macro, syntax, notation, axiom, sorry.
-/
import Derived.Test.YthbledmeghkfpaaGreatDoorRows
import GoSem.ClaimSeven
namespace Go.Proofs.YthbledmeghkfpaaGreatDoor
namespace Rows

/-- THE TIED CARD OF 'laws.FnExactSpaceOk'. -/
def fnExactSpaceOkCard : Claim7 := { stood := { row := fnExactSpaceOkRow, standIns := [], harness := (true, "8326c5dac641fec5f7f137db57efcaed1fa8c3d7f8e2c7e7460684f37dd7e4f6"), looks := true }, kinds := [], alts := [], laidByText := true, laidKinds := [.data, .data, .data, .data, .sentinel, .sentinel, .data, .pinned], laidTests := true, laidLooks := .later }
def FnExactSpaceOkCardSaid : Prop := Claim7.holds Tryz.pinned (.plain (OpenSpec.ofChange fnExactSpaceOkSpec)) fnExactSpaceOkCard

/-- THE SECOND FORM's CARD OF 'laws.FnExactSpaceOk'. -/
def fnExactSpaceOkUptoCard : Claim7 := { stood := { row := fnExactSpaceOkUptoRow, standIns := [], harness := (true, "8326c5dac641fec5f7f137db57efcaed1fa8c3d7f8e2c7e7460684f37dd7e4f6"), looks := true }, kinds := [], alts := [], laidByText := true, laidKinds := [.data, .data, .data, .data, .sentinel, .sentinel, .data, .pinned], laidTests := true, laidLooks := .later }
def FnExactSpaceOkUptoCardSaid : Prop := Claim7.holds Tryz.pinned (.plain (OpenSpec.upto fnExactSpaceOkSpec)) fnExactSpaceOkUptoCard
end Rows
end Go.Proofs.YthbledmeghkfpaaGreatDoor
