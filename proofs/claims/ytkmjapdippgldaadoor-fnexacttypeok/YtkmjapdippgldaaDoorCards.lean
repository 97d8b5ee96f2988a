/-
  DERIVED. GIVEN WITH THE SEED: THE CARDS: each row of YtkmjapdippgldaaDoorRows.lean that lists a variable, with what it lists TIED to the program's text (the seventh form; the later family's looks); each row that meets fmt, with fmt's text TOLD by the authors' own Lean function (tested against real Go, not proved from fmt's source: count such statements apart). THE CARD IS WHAT COUNTS. Prove the row's statement (the work); the ties are given (YtkmjapdippgldaaDoorTie.lean); close each card by the builder's one call (the guide's Derived/Test/ToyasCard.lean, 'card_holds'). Laid BY PROGRAM, IN A SANDBOX (cutbox-door.mjs). By AI agents, Wed Nov 11 2026. No macro, syntax, notation, axiom, sorry.
-/
import Derived.Test.YtkmjapdippgldaaDoorRows
import GoSem.ClaimSeven
namespace Go.Proofs.YtkmjapdippgldaaDoor
namespace Rows

/-- THE TIED CARD OF 'laws.FnExactTypeOk'. -/
def fnExactTypeOkCard : Claim7 := { stood := { row := fnExactTypeOkRow, standIns := [], harness := (true, "dfe946a5cce1c52a63b43fcffad5ac18d2f56c0d184a6d2b9ba2d362e2971be2"), looks := false }, kinds := [], alts := [], laidByText := true, laidKinds := [.data, .pinned], laidTests := true, laidLooks := .later }
def FnExactTypeOkCardSaid : Prop := Claim7.holds Tryd.pinned (.plain (OpenSpec.ofChange fnExactTypeOkSpec)) fnExactTypeOkCard

/-- THE TIED CARD OF 'laws.FnExactKindOf'. -/
def fnExactKindOfCard : Claim7 := { stood := { row := fnExactKindOfRow, standIns := [], harness := (true, "dfe946a5cce1c52a63b43fcffad5ac18d2f56c0d184a6d2b9ba2d362e2971be2"), looks := false }, kinds := [], alts := [], laidByText := true, laidKinds := [.data, .pinned], laidTests := true, laidLooks := .later }
def FnExactKindOfCardSaid : Prop := Claim7.holds Tryd.pinned (.plain (OpenSpec.ofChange fnExactKindOfSpec)) fnExactKindOfCard

/-- THE TIED CARD OF 'laws.FnExactSigOk'. -/
def fnExactSigOkCard : Claim7 := { stood := { row := fnExactSigOkRow, standIns := [], harness := (true, "dfe946a5cce1c52a63b43fcffad5ac18d2f56c0d184a6d2b9ba2d362e2971be2"), looks := false }, kinds := [], alts := [], laidByText := true, laidKinds := [.data, .pinned], laidTests := true, laidLooks := .later }
def FnExactSigOkCardSaid : Prop := Claim7.holds Tryd.pinned (.plain (OpenSpec.ofChange fnExactSigOkSpec)) fnExactSigOkCard

/-- THE TIED CARD OF 'laws.FnExactParams'. -/
def fnExactParamsCard : Claim7 := { stood := { row := fnExactParamsRow, standIns := [], harness := (true, "dfe946a5cce1c52a63b43fcffad5ac18d2f56c0d184a6d2b9ba2d362e2971be2"), looks := false }, kinds := [], alts := [], laidByText := true, laidKinds := [.data, .pinned], laidTests := true, laidLooks := .later }
def FnExactParamsCardSaid : Prop := Claim7.holds Tryd.pinned (.plain (OpenSpec.ofChange fnExactParamsSpec)) fnExactParamsCard

/-- THE TIED CARD OF 'laws.FnExactResult'. -/
def fnExactResultCard : Claim7 := { stood := { row := fnExactResultRow, standIns := [], harness := (true, "dfe946a5cce1c52a63b43fcffad5ac18d2f56c0d184a6d2b9ba2d362e2971be2"), looks := false }, kinds := [], alts := [], laidByText := true, laidKinds := [.data, .pinned], laidTests := true, laidLooks := .later }
def FnExactResultCardSaid : Prop := Claim7.holds Tryd.pinned (.plain (OpenSpec.ofChange fnExactResultSpec)) fnExactResultCard

/-- THE SECOND FORM's CARD OF 'laws.FnExactTypeOk'. -/
def fnExactTypeOkUptoCard : Claim7 := { stood := { row := fnExactTypeOkUptoRow, standIns := [], harness := (true, "dfe946a5cce1c52a63b43fcffad5ac18d2f56c0d184a6d2b9ba2d362e2971be2"), looks := false }, kinds := [], alts := [], laidByText := true, laidKinds := [.data, .pinned], laidTests := true, laidLooks := .later }
def FnExactTypeOkUptoCardSaid : Prop := Claim7.holds Tryd.pinned (.plain (OpenSpec.upto fnExactTypeOkSpec)) fnExactTypeOkUptoCard

/-- THE SECOND FORM's CARD OF 'laws.FnExactKindOf'. -/
def fnExactKindOfUptoCard : Claim7 := { stood := { row := fnExactKindOfUptoRow, standIns := [], harness := (true, "dfe946a5cce1c52a63b43fcffad5ac18d2f56c0d184a6d2b9ba2d362e2971be2"), looks := false }, kinds := [], alts := [], laidByText := true, laidKinds := [.data, .pinned], laidTests := true, laidLooks := .later }
def FnExactKindOfUptoCardSaid : Prop := Claim7.holds Tryd.pinned (.plain (OpenSpec.upto fnExactKindOfSpec)) fnExactKindOfUptoCard

/-- THE SECOND FORM's CARD OF 'laws.FnExactSigOk'. -/
def fnExactSigOkUptoCard : Claim7 := { stood := { row := fnExactSigOkUptoRow, standIns := [], harness := (true, "dfe946a5cce1c52a63b43fcffad5ac18d2f56c0d184a6d2b9ba2d362e2971be2"), looks := false }, kinds := [], alts := [], laidByText := true, laidKinds := [.data, .pinned], laidTests := true, laidLooks := .later }
def FnExactSigOkUptoCardSaid : Prop := Claim7.holds Tryd.pinned (.plain (OpenSpec.upto fnExactSigOkSpec)) fnExactSigOkUptoCard

/-- THE SECOND FORM's CARD OF 'laws.FnExactParams'. -/
def fnExactParamsUptoCard : Claim7 := { stood := { row := fnExactParamsUptoRow, standIns := [], harness := (true, "dfe946a5cce1c52a63b43fcffad5ac18d2f56c0d184a6d2b9ba2d362e2971be2"), looks := false }, kinds := [], alts := [], laidByText := true, laidKinds := [.data, .pinned], laidTests := true, laidLooks := .later }
def FnExactParamsUptoCardSaid : Prop := Claim7.holds Tryd.pinned (.plain (OpenSpec.upto fnExactParamsSpec)) fnExactParamsUptoCard

/-- THE SECOND FORM's CARD OF 'laws.FnExactResult'. -/
def fnExactResultUptoCard : Claim7 := { stood := { row := fnExactResultUptoRow, standIns := [], harness := (true, "dfe946a5cce1c52a63b43fcffad5ac18d2f56c0d184a6d2b9ba2d362e2971be2"), looks := false }, kinds := [], alts := [], laidByText := true, laidKinds := [.data, .pinned], laidTests := true, laidLooks := .later }
def FnExactResultUptoCardSaid : Prop := Claim7.holds Tryd.pinned (.plain (OpenSpec.upto fnExactResultSpec)) fnExactResultUptoCard
end Rows
end Go.Proofs.YtkmjapdippgldaaDoor
