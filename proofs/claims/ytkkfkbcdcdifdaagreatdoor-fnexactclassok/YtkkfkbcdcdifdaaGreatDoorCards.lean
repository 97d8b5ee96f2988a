/-
  DERIVED. GIVEN WITH THE SEED: THE CARDS: each row of YtkkfkbcdcdifdaaGreatDoorRows.lean that lists a variable, with what it lists TIED to the program's text (the seventh form; the later family's looks); each row that meets fmt, with fmt's text TOLD by the authors' own Lean function (tested against real Go, not proved from fmt's source: count such statements apart). THE CARD IS WHAT COUNTS. Prove the row's statement (the work); the ties are given (YtkkfkbcdcdifdaaGreatDoorTie.lean); close each card by the builder's one call (the guide's Derived/Test/ToyasCard.lean, 'card_holds'). Laid BY PROGRAM, IN A SANDBOX (cutbox-door.mjs). By AI agents, Wed Nov 11 2026. No macro, syntax, notation, axiom, sorry.
-/
import Derived.Test.YtkkfkbcdcdifdaaGreatDoorRows
import GoSem.ClaimSeven
namespace Go.Proofs.YtkkfkbcdcdifdaaGreatDoor
namespace Rows

/-- THE TIED CARD OF 'laws.FnExactMethodOk'. -/
def fnExactMethodOkCard : Claim7 := { stood := { row := fnExactMethodOkRow, standIns := [], harness := (true, "d4e33d1aa6fdefdca26b8ca9cbd2b1ee98768a94207332af2d733d0aef1301b6"), looks := true }, kinds := [], alts := [], laidByText := true, laidKinds := [.data, .data, .data, .data, .sentinel, .sentinel, .pinned], laidTests := true, laidLooks := .later }
def FnExactMethodOkCardSaid : Prop := Claim7.holds Tryz.pinned (.plain (OpenSpec.ofChange fnExactMethodOkSpec)) fnExactMethodOkCard

/-- THE TIED CARD OF 'laws.FnExactClassOk'. -/
def fnExactClassOkCard : Claim7 := { stood := { row := fnExactClassOkRow, standIns := [], harness := (true, "d4e33d1aa6fdefdca26b8ca9cbd2b1ee98768a94207332af2d733d0aef1301b6"), looks := true }, kinds := [], alts := [], laidByText := true, laidKinds := [.data, .data, .data, .data, .sentinel, .sentinel, .pinned], laidTests := true, laidLooks := .later }
def FnExactClassOkCardSaid : Prop := Claim7.holds Tryz.pinned (.plain (OpenSpec.ofChange fnExactClassOkSpec)) fnExactClassOkCard

/-- THE SECOND FORM's CARD OF 'laws.FnExactMethodOk'. -/
def fnExactMethodOkUptoCard : Claim7 := { stood := { row := fnExactMethodOkUptoRow, standIns := [], harness := (true, "d4e33d1aa6fdefdca26b8ca9cbd2b1ee98768a94207332af2d733d0aef1301b6"), looks := true }, kinds := [], alts := [], laidByText := true, laidKinds := [.data, .data, .data, .data, .sentinel, .sentinel, .pinned], laidTests := true, laidLooks := .later }
def FnExactMethodOkUptoCardSaid : Prop := Claim7.holds Tryz.pinned (.plain (OpenSpec.upto fnExactMethodOkSpec)) fnExactMethodOkUptoCard

/-- THE SECOND FORM's CARD OF 'laws.FnExactClassOk'. -/
def fnExactClassOkUptoCard : Claim7 := { stood := { row := fnExactClassOkUptoRow, standIns := [], harness := (true, "d4e33d1aa6fdefdca26b8ca9cbd2b1ee98768a94207332af2d733d0aef1301b6"), looks := true }, kinds := [], alts := [], laidByText := true, laidKinds := [.data, .data, .data, .data, .sentinel, .sentinel, .pinned], laidTests := true, laidLooks := .later }
def FnExactClassOkUptoCardSaid : Prop := Claim7.holds Tryz.pinned (.plain (OpenSpec.upto fnExactClassOkSpec)) fnExactClassOkUptoCard
end Rows
end Go.Proofs.YtkkfkbcdcdifdaaGreatDoor
