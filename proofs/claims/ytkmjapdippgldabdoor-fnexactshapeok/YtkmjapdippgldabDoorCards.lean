/-
  DERIVED. GIVEN WITH THE SEED: THE CARDS: each row of YtkmjapdippgldabDoorRows.lean that lists a variable, with what it lists TIED to the program's text (the seventh form; the later family's looks); each row that meets fmt, with fmt's text TOLD by the authors' own Lean function (tested against real Go, not proved from fmt's source: count such statements apart). THE CARD IS WHAT COUNTS. Prove the row's statement (the work); the ties are given (YtkmjapdippgldabDoorTie.lean); close each card by the builder's one call (the guide's Derived/Test/ToyasCard.lean, 'card_holds'). Laid BY PROGRAM, IN A SANDBOX (cutbox-door.mjs). By AI agents, Wed Nov 11 2026. No macro, syntax, notation, axiom, sorry.
-/
import Derived.Test.YtkmjapdippgldabDoorRows
import GoSem.ClaimSeven
namespace Go.Proofs.YtkmjapdippgldabDoor
namespace Rows

/-- THE TIED CARD OF 'laws.FnExactShapeOk'. -/
def fnExactShapeOkCard : Claim7 := { stood := { row := fnExactShapeOkRow, standIns := [], harness := (true, "d3113c4367c8fb1e89b53d1a166ddc9ea1c3a3f13c29969044376a1ee6e48fee"), looks := true }, kinds := [], alts := [], laidByText := true, laidKinds := [.data, .data, .data, .data, .sentinel, .sentinel, .pinned], laidTests := true, laidLooks := .later }
def FnExactShapeOkCardSaid : Prop := Claim7.holds Tryd.pinned (.plain (OpenSpec.ofChange fnExactShapeOkSpec)) fnExactShapeOkCard

/-- THE SECOND FORM's CARD OF 'laws.FnExactShapeOk'. -/
def fnExactShapeOkUptoCard : Claim7 := { stood := { row := fnExactShapeOkUptoRow, standIns := [], harness := (true, "d3113c4367c8fb1e89b53d1a166ddc9ea1c3a3f13c29969044376a1ee6e48fee"), looks := true }, kinds := [], alts := [], laidByText := true, laidKinds := [.data, .data, .data, .data, .sentinel, .sentinel, .pinned], laidTests := true, laidLooks := .later }
def FnExactShapeOkUptoCardSaid : Prop := Claim7.holds Tryd.pinned (.plain (OpenSpec.upto fnExactShapeOkSpec)) fnExactShapeOkUptoCard
end Rows
end Go.Proofs.YtkmjapdippgldabDoor
