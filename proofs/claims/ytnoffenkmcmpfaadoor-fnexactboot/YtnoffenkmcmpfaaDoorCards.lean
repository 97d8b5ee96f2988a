/-
  DERIVED. GIVEN WITH THE SEED: THE CARDS: each row of YtnoffenkmcmpfaaDoorRows.lean that lists a variable, with what it lists TIED to the program's text (the seventh form; the later family's looks); each row that meets fmt, with fmt's text TOLD by the authors' own Lean function (tested against real Go, not proved from fmt's source: count such statements apart). THE CARD IS WHAT COUNTS. Prove the row's statement (the work); the ties are given (YtnoffenkmcmpfaaDoorTie.lean); close each card by the builder's one call (the guide's Derived/Test/ToyasCard.lean, 'card_holds'). Laid BY PROGRAM, IN A SANDBOX (cutbox-door.mjs). By AI agents, Wed Nov 11 2026. No macro, syntax, notation, axiom, sorry.
-/
import Derived.Test.YtnoffenkmcmpfaaDoorRows
import GoSem.ClaimSeven
namespace Go.Proofs.YtnoffenkmcmpfaaDoor
namespace Rows

/-- THE TIED CARD OF 'laws.FnExactBoot'. -/
def fnExactBootCard : Claim7 := { stood := { row := fnExactBootRow, standIns := [], harness := (true, "bdc848d318ce7c5b6aa78a302f96784d0cf043404fc29fed2db65f068a9f2922"), looks := false }, kinds := [], alts := [], laidByText := true, laidKinds := [.data], laidTests := true, laidLooks := .later }
def FnExactBootCardSaid : Prop := Claim7.holds Tryd.pinned (.plain (OpenSpec.ofChange fnExactBootSpec)) fnExactBootCard

/-- THE SECOND FORM's CARD OF 'laws.FnExactBoot'. -/
def fnExactBootUptoCard : Claim7 := { stood := { row := fnExactBootUptoRow, standIns := [], harness := (true, "bdc848d318ce7c5b6aa78a302f96784d0cf043404fc29fed2db65f068a9f2922"), looks := false }, kinds := [], alts := [], laidByText := true, laidKinds := [.data], laidTests := true, laidLooks := .later }
def FnExactBootUptoCardSaid : Prop := Claim7.holds Tryd.pinned (.plain (OpenSpec.upto fnExactBootSpec)) fnExactBootUptoCard
end Rows
end Go.Proofs.YtnoffenkmcmpfaaDoor
