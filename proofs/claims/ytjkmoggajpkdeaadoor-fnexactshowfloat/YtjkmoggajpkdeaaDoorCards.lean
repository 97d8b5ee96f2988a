/-
  DERIVED. GIVEN WITH THE SEED: THE CARDS: each row of YtjkmoggajpkdeaaDoorRows.lean that lists a variable, with what it lists TIED to the program's text (the seventh form; the later family's looks); each row that meets fmt, with fmt's text TOLD by the authors' own Lean function (tested against real Go, not proved from fmt's source: count such statements apart). THE CARD IS WHAT COUNTS. Prove the row's statement (the work); the ties are given (YtjkmoggajpkdeaaDoorTie.lean); close each card by the builder's one call (the guide's Derived/Test/ToyasCard.lean, 'card_holds'). Laid BY PROGRAM, IN A SANDBOX (cutbox-door.mjs). By AI agents, Wed Nov 11 2026. No macro, syntax, notation, axiom, sorry.
-/
import Derived.Test.YtjkmoggajpkdeaaDoorRows
import GoSem.ClaimSeven
namespace Go.Proofs.YtjkmoggajpkdeaaDoor
namespace Rows

/-- THE TIED CARD OF 'laws.FnExactShowFloat'. -/
def fnExactShowFloatCard : Claim7 := { stood := { row := fnExactShowFloatRow, standIns := [], harness := (true, "5e9ef87a912f14283401af082aef884788b914562ca3520a3975bca3096cf689"), looks := true }, kinds := [], alts := [], laidByText := true, laidKinds := [.data, .data, .data], laidTests := true, laidLooks := .later }
def FnExactShowFloatCardSaid : Prop := Claim7.holds Tryd.pinned (.plain (OpenSpec.ofChange fnExactShowFloatSpec)) fnExactShowFloatCard

/-- THE TIED CARD OF 'laws.FnExactReadFloat'. -/
def fnExactReadFloatCard : Claim7 := { stood := { row := fnExactReadFloatRow, standIns := [], harness := (true, "5e9ef87a912f14283401af082aef884788b914562ca3520a3975bca3096cf689"), looks := true }, kinds := [], alts := [], laidByText := true, laidKinds := [.data, .data, .data, .sentinel, .sentinel], laidTests := true, laidLooks := .later }
def FnExactReadFloatCardSaid : Prop := Claim7.holds Tryd.pinned (.plain (OpenSpec.ofChange fnExactReadFloatSpec)) fnExactReadFloatCard

/-- THE SECOND FORM's CARD OF 'laws.FnExactShowFloat'. -/
def fnExactShowFloatUptoCard : Claim7 := { stood := { row := fnExactShowFloatUptoRow, standIns := [], harness := (true, "5e9ef87a912f14283401af082aef884788b914562ca3520a3975bca3096cf689"), looks := true }, kinds := [], alts := [], laidByText := true, laidKinds := [.data, .data, .data], laidTests := true, laidLooks := .later }
def FnExactShowFloatUptoCardSaid : Prop := Claim7.holds Tryd.pinned (.plain (OpenSpec.upto fnExactShowFloatSpec)) fnExactShowFloatUptoCard

/-- THE SECOND FORM's CARD OF 'laws.FnExactReadFloat'. -/
def fnExactReadFloatUptoCard : Claim7 := { stood := { row := fnExactReadFloatUptoRow, standIns := [], harness := (true, "5e9ef87a912f14283401af082aef884788b914562ca3520a3975bca3096cf689"), looks := true }, kinds := [], alts := [], laidByText := true, laidKinds := [.data, .data, .data, .sentinel, .sentinel], laidTests := true, laidLooks := .later }
def FnExactReadFloatUptoCardSaid : Prop := Claim7.holds Tryd.pinned (.plain (OpenSpec.upto fnExactReadFloatSpec)) fnExactReadFloatUptoCard
end Rows
end Go.Proofs.YtjkmoggajpkdeaaDoor
