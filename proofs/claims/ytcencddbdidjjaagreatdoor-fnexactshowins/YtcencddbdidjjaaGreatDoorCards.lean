/-
  DERIVED. GIVEN WITH THE SEED: THE CARDS: each row of YtcencddbdidjjaaGreatDoorRows.lean that lists a variable, with what it lists TIED to the program's text (the seventh form; the later family's looks); each row that meets fmt, with fmt's text TOLD by the authors' own Lean function (tested against real Go, not proved from fmt's source: count such statements apart). THE CARD IS WHAT COUNTS. Prove the row's statement (the work); the ties are given (YtcencddbdidjjaaGreatDoorTie.lean); close each card by the builder's one call (the guide's Derived/Test/ToyasCard.lean, 'card_holds'). Laid BY PROGRAM, IN A SANDBOX (cutbox-door.mjs). By AI agents, Wed Nov 11 2026. No macro, syntax, notation, axiom, sorry.
-/
import Derived.Test.YtcencddbdidjjaaGreatDoorRows
import GoSem.ClaimSeven
namespace Go.Proofs.YtcencddbdidjjaaGreatDoor
namespace Rows

/-- THE TIED CARD OF 'laws.FnExactShowIns'. -/
def fnExactShowInsCard : Claim7 := { stood := { row := fnExactShowInsRow, standIns := [], harness := (true, "332a1d8eb9291946355fd4b38adbb42ff8de3d5c72214dc06becb0e7a1067d24"), looks := false }, kinds := [], alts := [], laidByText := true, laidKinds := [.data, .data, .data, .data, .pinned], laidTests := true, laidLooks := .later }
def FnExactShowInsCardSaid : Prop := Claim7.holds Tryz.pinned (.plain (OpenSpec.ofChange fnExactShowInsSpec)) fnExactShowInsCard

/-- THE SECOND FORM's CARD OF 'laws.FnExactShowIns'. -/
def fnExactShowInsUptoCard : Claim7 := { stood := { row := fnExactShowInsUptoRow, standIns := [], harness := (true, "332a1d8eb9291946355fd4b38adbb42ff8de3d5c72214dc06becb0e7a1067d24"), looks := false }, kinds := [], alts := [], laidByText := true, laidKinds := [.data, .data, .data, .data, .pinned], laidTests := true, laidLooks := .later }
def FnExactShowInsUptoCardSaid : Prop := Claim7.holds Tryz.pinned (.plain (OpenSpec.upto fnExactShowInsSpec)) fnExactShowInsUptoCard
end Rows
end Go.Proofs.YtcencddbdidjjaaGreatDoor
