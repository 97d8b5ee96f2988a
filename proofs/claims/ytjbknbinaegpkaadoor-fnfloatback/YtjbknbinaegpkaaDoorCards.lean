/-
  DERIVED. GIVEN WITH THE SEED: THE CARDS: each row of YtjbknbinaegpkaaDoorRows.lean that lists a variable, with what it lists TIED to the program's text (the seventh form; the later family's looks); each row that meets fmt, with fmt's text TOLD by the authors' own Lean function (tested against real Go, not proved from fmt's source: count such statements apart). THE CARD IS WHAT COUNTS. Prove the row's statement (the work); the ties are given (YtjbknbinaegpkaaDoorTie.lean); close each card by the builder's one call (the guide's Derived/Test/ToyasCard.lean, 'card_holds'). Laid BY PROGRAM, IN A SANDBOX (cutbox-door.mjs). By AI agents, Wed Nov 11 2026. No macro, syntax, notation, axiom, sorry.
-/
import Derived.Test.YtjbknbinaegpkaaDoorRows
import GoSem.ClaimSeven
namespace Go.Proofs.YtjbknbinaegpkaaDoor
namespace Rows

/-- THE TIED CARD OF 'laws.FnFloatBack'. -/
def fnFloatBackCard : Claim7 := { stood := { row := fnFloatBackRow, standIns := [], harness := (true, "a5836ea1405dab990d7a35a34f2dc78cddcf0c69b3cb242992af85cd350835c6"), looks := true }, kinds := [], alts := [], laidByText := true, laidKinds := [.data, .data, .data, .sentinel, .sentinel], laidTests := true, laidLooks := .later }
def FnFloatBackCardSaid : Prop := Claim7.holds Tryd.pinned (.plain (OpenSpec.ofChange fnFloatBackSpec)) fnFloatBackCard

/-- THE TIED CARD OF 'laws.FnFloatOrder'. -/
def fnFloatOrderCard : Claim7 := { stood := { row := fnFloatOrderRow, standIns := [], harness := (true, "a5836ea1405dab990d7a35a34f2dc78cddcf0c69b3cb242992af85cd350835c6"), looks := true }, kinds := [], alts := [], laidByText := true, laidKinds := [.data, .data, .data, .sentinel, .sentinel], laidTests := true, laidLooks := .later }
def FnFloatOrderCardSaid : Prop := Claim7.holds Tryd.pinned (.plain (OpenSpec.ofChange fnFloatOrderSpec)) fnFloatOrderCard

/-- THE SECOND FORM's CARD OF 'laws.FnFloatBack'. -/
def fnFloatBackUptoCard : Claim7 := { stood := { row := fnFloatBackUptoRow, standIns := [], harness := (true, "a5836ea1405dab990d7a35a34f2dc78cddcf0c69b3cb242992af85cd350835c6"), looks := true }, kinds := [], alts := [], laidByText := true, laidKinds := [.data, .data, .data, .sentinel, .sentinel], laidTests := true, laidLooks := .later }
def FnFloatBackUptoCardSaid : Prop := Claim7.holds Tryd.pinned (.plain (OpenSpec.upto fnFloatBackSpec)) fnFloatBackUptoCard

/-- THE SECOND FORM's CARD OF 'laws.FnFloatOrder'. -/
def fnFloatOrderUptoCard : Claim7 := { stood := { row := fnFloatOrderUptoRow, standIns := [], harness := (true, "a5836ea1405dab990d7a35a34f2dc78cddcf0c69b3cb242992af85cd350835c6"), looks := true }, kinds := [], alts := [], laidByText := true, laidKinds := [.data, .data, .data, .sentinel, .sentinel], laidTests := true, laidLooks := .later }
def FnFloatOrderUptoCardSaid : Prop := Claim7.holds Tryd.pinned (.plain (OpenSpec.upto fnFloatOrderSpec)) fnFloatOrderUptoCard
end Rows
end Go.Proofs.YtjbknbinaegpkaaDoor
