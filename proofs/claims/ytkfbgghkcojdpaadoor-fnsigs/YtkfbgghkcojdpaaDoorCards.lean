/-
  DERIVED. GIVEN WITH THE SEED: THE CARDS: each row of YtkfbgghkcojdpaaDoorRows.lean that lists a variable, with what it lists TIED to the program's text (the seventh form; the later family's looks); each row that meets fmt, with fmt's text TOLD by the authors' own Lean function (tested against real Go, not proved from fmt's source: count such statements apart). THE CARD IS WHAT COUNTS. Prove the row's statement (the work); the ties are given (YtkfbgghkcojdpaaDoorTie.lean); close each card by the builder's one call (the guide's Derived/Test/ToyasCard.lean, 'card_holds'). Laid BY PROGRAM, IN A SANDBOX (cutbox-door.mjs). By AI agents, Wed Nov 11 2026. No macro, syntax, notation, axiom, sorry.
-/
import Derived.Test.YtkfbgghkcojdpaaDoorRows
import GoSem.ClaimSeven
namespace Go.Proofs.YtkfbgghkcojdpaaDoor
namespace Rows

/-- THE TIED CARD OF 'laws.FnSigs'. -/
def fnSigsCard : Claim7 := { stood := { row := fnSigsRow, standIns := [], harness := (true, "080c31fd0d3e214eaabf1e3e7c57034345c40291d6d32c33ff797bf5379036f1"), looks := false }, kinds := [], alts := [], laidByText := true, laidKinds := [.data, .pinned], laidTests := true, laidLooks := .later }
def FnSigsCardSaid : Prop := Claim7.holds Tryd.pinned (.plain (OpenSpec.ofChange fnSigsSpec)) fnSigsCard

/-- THE SECOND FORM's CARD OF 'laws.FnSigs'. -/
def fnSigsUptoCard : Claim7 := { stood := { row := fnSigsUptoRow, standIns := [], harness := (true, "080c31fd0d3e214eaabf1e3e7c57034345c40291d6d32c33ff797bf5379036f1"), looks := false }, kinds := [], alts := [], laidByText := true, laidKinds := [.data, .pinned], laidTests := true, laidLooks := .later }
def FnSigsUptoCardSaid : Prop := Claim7.holds Tryd.pinned (.plain (OpenSpec.upto fnSigsSpec)) fnSigsUptoCard
end Rows
end Go.Proofs.YtkfbgghkcojdpaaDoor
