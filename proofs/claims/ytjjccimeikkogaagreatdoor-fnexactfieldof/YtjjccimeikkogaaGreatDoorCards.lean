/-
  DERIVED. GIVEN WITH THE SEED: THE CARDS: each row of YtjjccimeikkogaaGreatDoorRows.lean that lists a variable, with what it lists TIED to the program's text (the seventh form; the later family's looks); each row that meets fmt, with fmt's text TOLD by the authors' own Lean function (tested against real Go, not proved from fmt's source: count such statements apart). THE CARD IS WHAT COUNTS. Prove the row's statement (the work); the ties are given (YtjjccimeikkogaaGreatDoorTie.lean); close each card by the builder's one call (the guide's Derived/Test/ToyasCard.lean, 'card_holds'). Laid BY PROGRAM, IN A SANDBOX (cutbox-door.mjs). By AI agents, Wed Nov 11 2026. No macro, syntax, notation, axiom, sorry.
-/
import Derived.Test.YtjjccimeikkogaaGreatDoorRows
import GoSem.ClaimSeven
namespace Go.Proofs.YtjjccimeikkogaaGreatDoor
namespace Rows

/-- THE TIED CARD OF 'laws.FnExactAbove'. -/
def fnExactAboveCard : Claim7 := { stood := { row := fnExactAboveRow, standIns := [], harness := (true, "344b7c955b509c9a2e8339cd0ad1d20bceb7a81ec1da88900824f9d0e1c02742"), looks := true }, kinds := [], alts := [], laidByText := true, laidKinds := [.data, .data, .data, .data, .sentinel, .sentinel, .data, .pinned], laidTests := true, laidLooks := .later }
def FnExactAboveCardSaid : Prop := Claim7.holds Tryz.pinned (.plain (OpenSpec.ofChange fnExactAboveSpec)) fnExactAboveCard

/-- THE TIED CARD OF 'laws.FnExactIsA'. -/
def fnExactIsACard : Claim7 := { stood := { row := fnExactIsARow, standIns := [], harness := (true, "344b7c955b509c9a2e8339cd0ad1d20bceb7a81ec1da88900824f9d0e1c02742"), looks := true }, kinds := [], alts := [], laidByText := true, laidKinds := [.data, .data, .data, .data, .sentinel, .sentinel, .data, .pinned], laidTests := true, laidLooks := .later }
def FnExactIsACardSaid : Prop := Claim7.holds Tryz.pinned (.plain (OpenSpec.ofChange fnExactIsASpec)) fnExactIsACard

/-- THE TIED CARD OF 'laws.FnExactFits'. -/
def fnExactFitsCard : Claim7 := { stood := { row := fnExactFitsRow, standIns := [], harness := (true, "344b7c955b509c9a2e8339cd0ad1d20bceb7a81ec1da88900824f9d0e1c02742"), looks := true }, kinds := [], alts := [], laidByText := true, laidKinds := [.data, .data, .data, .data, .sentinel, .sentinel, .data, .pinned], laidTests := true, laidLooks := .later }
def FnExactFitsCardSaid : Prop := Claim7.holds Tryz.pinned (.plain (OpenSpec.ofChange fnExactFitsSpec)) fnExactFitsCard

/-- THE TIED CARD OF 'laws.FnExactFieldOf'. -/
def fnExactFieldOfCard : Claim7 := { stood := { row := fnExactFieldOfRow, standIns := [], harness := (true, "344b7c955b509c9a2e8339cd0ad1d20bceb7a81ec1da88900824f9d0e1c02742"), looks := true }, kinds := [], alts := [], laidByText := true, laidKinds := [.data, .data, .data, .data, .sentinel, .sentinel, .data, .pinned], laidTests := true, laidLooks := .later }
def FnExactFieldOfCardSaid : Prop := Claim7.holds Tryz.pinned (.plain (OpenSpec.ofChange fnExactFieldOfSpec)) fnExactFieldOfCard

/-- THE SECOND FORM's CARD OF 'laws.FnExactAbove'. -/
def fnExactAboveUptoCard : Claim7 := { stood := { row := fnExactAboveUptoRow, standIns := [], harness := (true, "344b7c955b509c9a2e8339cd0ad1d20bceb7a81ec1da88900824f9d0e1c02742"), looks := true }, kinds := [], alts := [], laidByText := true, laidKinds := [.data, .data, .data, .data, .sentinel, .sentinel, .data, .pinned], laidTests := true, laidLooks := .later }
def FnExactAboveUptoCardSaid : Prop := Claim7.holds Tryz.pinned (.plain (OpenSpec.upto fnExactAboveSpec)) fnExactAboveUptoCard

/-- THE SECOND FORM's CARD OF 'laws.FnExactIsA'. -/
def fnExactIsAUptoCard : Claim7 := { stood := { row := fnExactIsAUptoRow, standIns := [], harness := (true, "344b7c955b509c9a2e8339cd0ad1d20bceb7a81ec1da88900824f9d0e1c02742"), looks := true }, kinds := [], alts := [], laidByText := true, laidKinds := [.data, .data, .data, .data, .sentinel, .sentinel, .data, .pinned], laidTests := true, laidLooks := .later }
def FnExactIsAUptoCardSaid : Prop := Claim7.holds Tryz.pinned (.plain (OpenSpec.upto fnExactIsASpec)) fnExactIsAUptoCard

/-- THE SECOND FORM's CARD OF 'laws.FnExactFits'. -/
def fnExactFitsUptoCard : Claim7 := { stood := { row := fnExactFitsUptoRow, standIns := [], harness := (true, "344b7c955b509c9a2e8339cd0ad1d20bceb7a81ec1da88900824f9d0e1c02742"), looks := true }, kinds := [], alts := [], laidByText := true, laidKinds := [.data, .data, .data, .data, .sentinel, .sentinel, .data, .pinned], laidTests := true, laidLooks := .later }
def FnExactFitsUptoCardSaid : Prop := Claim7.holds Tryz.pinned (.plain (OpenSpec.upto fnExactFitsSpec)) fnExactFitsUptoCard

/-- THE SECOND FORM's CARD OF 'laws.FnExactFieldOf'. -/
def fnExactFieldOfUptoCard : Claim7 := { stood := { row := fnExactFieldOfUptoRow, standIns := [], harness := (true, "344b7c955b509c9a2e8339cd0ad1d20bceb7a81ec1da88900824f9d0e1c02742"), looks := true }, kinds := [], alts := [], laidByText := true, laidKinds := [.data, .data, .data, .data, .sentinel, .sentinel, .data, .pinned], laidTests := true, laidLooks := .later }
def FnExactFieldOfUptoCardSaid : Prop := Claim7.holds Tryz.pinned (.plain (OpenSpec.upto fnExactFieldOfSpec)) fnExactFieldOfUptoCard
end Rows
end Go.Proofs.YtjjccimeikkogaaGreatDoor
