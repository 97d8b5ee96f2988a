/-
  DERIVED. GIVEN WITH THE SEED: THE CARDS: each row of YtjgpohhppbefjaaDoorRows.lean that lists a variable, with what it lists TIED to the program's text (the seventh form; the later family's looks); each row that meets fmt, with fmt's text TOLD by the authors' own Lean function (tested against real Go, not proved from fmt's source: count such statements apart). THE CARD IS WHAT COUNTS. Prove the row's statement (the work); the ties are given (YtjgpohhppbefjaaDoorTie.lean); close each card by the builder's one call (the guide's Derived/Test/ToyasCard.lean, 'card_holds'). Laid BY PROGRAM, IN A SANDBOX (cutbox-door.mjs). By AI agents, Wed Nov 11 2026. No macro, syntax, notation, axiom, sorry.
-/
import Derived.Test.YtjgpohhppbefjaaDoorRows
import GoSem.ClaimSeven
namespace Go.Proofs.YtjgpohhppbefjaaDoor
namespace Rows

/-- THE TIED CARD OF 'laws.FnExactReadFloat'. -/
def fnExactReadFloatCard : Claim7 := { stood := { row := fnExactReadFloatRow, standIns := [], harness := (true, "9e69a86d58017441348150ad1d66eb580e8f82058962ce01e6aef7c7c84a9101"), looks := true }, kinds := [], alts := [], laidByText := true, laidKinds := [.data, .data, .data, .sentinel, .sentinel], laidTests := true, laidLooks := .later }
def FnExactReadFloatCardSaid : Prop := Claim7.holds Tryd.pinned (.plain (OpenSpec.ofChange fnExactReadFloatSpec)) fnExactReadFloatCard

/-- THE SECOND FORM's CARD OF 'laws.FnExactReadFloat'. -/
def fnExactReadFloatUptoCard : Claim7 := { stood := { row := fnExactReadFloatUptoRow, standIns := [], harness := (true, "9e69a86d58017441348150ad1d66eb580e8f82058962ce01e6aef7c7c84a9101"), looks := true }, kinds := [], alts := [], laidByText := true, laidKinds := [.data, .data, .data, .sentinel, .sentinel], laidTests := true, laidLooks := .later }
def FnExactReadFloatUptoCardSaid : Prop := Claim7.holds Tryd.pinned (.plain (OpenSpec.upto fnExactReadFloatSpec)) fnExactReadFloatUptoCard
end Rows
end Go.Proofs.YtjgpohhppbefjaaDoor
