/-
  NARROWER THAN 'FOR EVERY INPUT', by the rows' own cells (each row's printed sentence says how): FnExactBoot: laid.
  DERIVED. THE GIVEN ROWS OF THIS SEAT. 1 by the template 'for every input the law returns true; each argument reads behind the call as it read before'; 0 by the template 'total and deterministic' (their statements: YtnoffenkmcmpfaaDoorTotals.lean).
  GIVEN WITH THE SEED: the statements are not yours to turn. If you find one false, say at which input.
  Laid BY PROGRAM, IN A SANDBOX (cutbox-rows.mjs): the forced cells as the released guide's own fill.sh prints them over the translation ddd33e24fead155d… (all of the seat's roots in one cut). By AI agents, Wed Nov 11 2026. No macro, syntax, notation, axiom, sorry.
-/
import Derived.Test.YtnoffenkmcmpfaaDoorChecked
import GoSem.Claim
import GoSem.ClaimJoined
import GoSem.ClaimMapViews
import Derived.JoinedTies
import Derived.KernelRfl
namespace Go.Proofs.YtnoffenkmcmpfaaDoor
/- THE CELL 'sum', in the pinned program and in every row, IS THE sha256 OF THE DUMP (.gsa) THAT YtnoffenkmcmpfaaDoorProg.lean LOADS. Nothing in Lean hashes anything: it is a label: what it is worth is what the hold of that sum in a sandbox is worth. -/
noncomputable def Tryd.pinned : Pinned := { name := "ytnoffenkmcmpfaadoor", sum := "ddd33e24fead155dc01a49682baf178628eb64fd6f91ae3fdc4453f3eae92b78", checked := Tryd.checked }
namespace Rows
def none {H : Type} : Left H := { results := [], args := [] }

/- WHAT THE LISTED PACKAGE-LEVEL VARIABLES READ AS WHEN THE CALL BEGINS. Each datum BY PROGRAM (the guide's laid-datum.mjs) off the statement by which the dump's own 'gosem.cut.vars' lays the variable. In a bare row this is a premise. The card (YtnoffenkmcmpfaaDoorCards.lean) ties it to the program's text. -/
def laid_loop_example_g00032_impl_errorNames {H : Type} : DataW H := .agg [.lit (.string [78, 117, 108, 108, 69, 114, 114, 111, 114]), .lit (.string [65, 114, 105, 116, 104, 69, 114, 114, 111, 114]), .lit (.string [66, 111, 117, 110, 100, 115, 69, 114, 114, 111, 114]), .lit (.string [67, 97, 115, 116, 69, 114, 114, 111, 114]), .lit (.string [83, 116, 111, 114, 101, 69, 114, 114, 111, 114]), .lit (.string [83, 105, 122, 101, 69, 114, 114, 111, 114]), .lit (.string [83, 116, 97, 116, 101, 69, 114, 114, 111, 114]), .lit (.string [76, 105, 110, 107, 69, 114, 114, 111, 114]), .lit (.string [73, 110, 105, 116, 69, 114, 114, 111, 114]), .lit (.string [83, 116, 111, 112, 69, 114, 114, 111, 114])]

/-- 'laws.FnExactBoot': WHATEVER THE INPUT: true; the input reads as it did. -/
def fnExactBootSpec : ChangeSpec := { name := "fnExactBoot", vars := ["loop.example/g00032/impl.errorNames"], fn := fun _ => fun
  | [g1] => { results := [.lit (.bool true)], args := [], vars := [g1] }
  | _ => none }
def fnExactBootRow : OpenClaim := { program := "ytnoffenkmcmpfaadoor", sum := "ddd33e24fead155dc01a49682baf178628eb64fd6f91ae3fdc4453f3eae92b78", func := "loop.example/g00032/laws.FnExactBoot", spec := "fnExactBoot", named := ["loop.example/g00032/impl.errorNames"], apart := false, laid := [("loop.example/g00032/impl.errorNames", laid_loop_example_g00032_impl_errorNames)] }
def FnExactBootSaid : Prop := fnExactBootRow.holds Tryd.pinned (OpenSpec.ofChange fnExactBootSpec)

/-- ITS FALSE NEIGHBOUR: 'it returns false'. Refute it at one input. -/
def fnExactBootWrong : ChangeSpec := { name := "fnExactBoot", vars := ["loop.example/g00032/impl.errorNames"], fn := fun _ => fun
  | [g1] => { results := [.lit (.bool false)], args := [], vars := [g1] }
  | _ => none }
def FnExactBootWrongFalsely : Prop := fnExactBootRow.holds Tryd.pinned (OpenSpec.ofChange fnExactBootWrong)

/- THE SECOND FORM. 'bulk': how many values and letters a reading holds, each counted each time it is reached (what is shared counts as often as it is met; a slice's spare places count too). A statement '..UptoSaid' is the law's where the arguments, and the package variables that the reading takes, are together of bulk at most 1048576: NARROWER than '..Said'. Prove '..Said' where nothing that the law and all that it calls make is longer than what came in: it says more and counts as full. Else prove '..UptoSaid'. A law counts once. -/
mutual
def uptoBulk {H : Type} : DataW H → Nat
  | .lit (.string bytes) => bytes.length + 1
  | .lit _ => 1
  | .nil => 1
  | .ptr d => uptoBulk d + 1
  | .slice elems spare => uptoBulkAll elems + uptoBulkAll spare + 1
  | .agg parts => uptoBulkAll parts + 1
  | .iface _ d => uptoBulk d + 1
  | .map entries => uptoBulkEntries entries + 1
  | .held _ => 1
def uptoBulkAll {H : Type} : List (DataW H) → Nat
  | [] => 0
  | d :: r => uptoBulk d + uptoBulkAll r
def uptoBulkEntries {H : Type} : List (Lit × DataW H) → Nat
  | [] => 0
  | x :: r => uptoBulkEntry x + uptoBulkEntries r
def uptoBulkEntry {H : Type} : Lit × DataW H → Nat
  | (.string bytes, d) => bytes.length + uptoBulk d + 1
  | (_, d) => uptoBulk d + 1
 end
def uptoSmall : (H : Type) → List (DataW H) → Bool := fun _ ds => decide (uptoBulkAll ds ≤ 1048576)
def OpenSpec.upto (s : _root_.Go.ChangeSpec) : _root_.Go.OpenSpec := { _root_.Go.OpenSpec.ofChange s with cond := some uptoSmall }

/-- 'laws.FnExactBoot', WHERE WHAT IT READS IS OF BULK AT MOST 1048576: true; the input reads as it did. -/
def fnExactBootUptoRow : OpenClaim := { program := "ytnoffenkmcmpfaadoor", sum := "ddd33e24fead155dc01a49682baf178628eb64fd6f91ae3fdc4453f3eae92b78", func := "loop.example/g00032/laws.FnExactBoot", spec := "fnExactBoot", named := ["loop.example/g00032/impl.errorNames"], apart := false, laid := [("loop.example/g00032/impl.errorNames", laid_loop_example_g00032_impl_errorNames)], narrowed := true }
def FnExactBootUptoSaid : Prop := fnExactBootUptoRow.holds Tryd.pinned (OpenSpec.upto fnExactBootSpec)

end Rows
end Go.Proofs.YtnoffenkmcmpfaaDoor
