/-
  No cell of these rows narrows 'for every input' (looked for: loops, veiled, ifaces, maps, wideKeys, modest, calm, conditions, laid).
  DERIVED. THE GIVEN ROWS OF THIS SEAT. 3 by the template 'for every input the law returns true; each argument reads behind the call as it read before'; 0 by the template 'total and deterministic' (their statements: YtcigiilhlealdaaTotals.lean).
  GIVEN WITH THE SEED: the statements are not yours to turn. If you find one false, say at which input.
  Laid BY PROGRAM, IN A SANDBOX (cutbox-rows.mjs): the forced cells as the released guide's own fill.sh prints them over the translation 79edced4c0ef0056… (all of the seat's roots in one cut). By AI agents, Wed Nov 11 2026. No macro, syntax, notation, axiom, sorry.
-/
import Derived.Test.YtcigiilhlealdaaChecked
import GoSem.Claim
import GoSem.ClaimJoined
import GoSem.ClaimMapViews
import Derived.JoinedTies
import Derived.KernelRfl
namespace Go.Proofs.Ytcigiilhlealdaa
/- THE CELL 'sum', in the pinned program and in every row, IS THE sha256 OF THE DUMP (.gsa) THAT YtcigiilhlealdaaProg.lean LOADS. Nothing in Lean hashes anything: it is a label: what it is worth is what the hold of that sum in a sandbox is worth. -/
noncomputable def Try.pinned : Pinned := { name := "ytcigiilhlealdaa", sum := "79edced4c0ef00561df673ccfa6adb2adb6bf72fd6d908e7850f272813f08a9f", checked := Try.checked }
namespace Rows
def none {H : Type} : Left H := { results := [], args := [] }

/-- 'laws.FnMarkGone': WHATEVER THE INPUT: true; the input reads as it did. -/
def fnMarkGoneSpec : ChangeSpec := { name := "fnMarkGone", fn := fun _ => fun
  | [d] => { results := [.lit (.bool true)], args := [d] }
  | _ => none }
def fnMarkGoneRow : OpenClaim := { program := "ytcigiilhlealdaa", sum := "79edced4c0ef00561df673ccfa6adb2adb6bf72fd6d908e7850f272813f08a9f", func := "loop.example/g00032/laws.FnMarkGone", spec := "fnMarkGone", unfollowed := true, recurses := true, apart := false }
def FnMarkGoneSaid : Prop := fnMarkGoneRow.holds Try.pinned (OpenSpec.ofChange fnMarkGoneSpec)

/-- ITS FALSE NEIGHBOUR: 'it returns false'. Refute it at one input. -/
def fnMarkGoneWrong : ChangeSpec := { name := "fnMarkGone", fn := fun _ => fun
  | [d] => { results := [.lit (.bool false)], args := [d] }
  | _ => none }
def FnMarkGoneWrongFalsely : Prop := fnMarkGoneRow.holds Try.pinned (OpenSpec.ofChange fnMarkGoneWrong)

/-- 'laws.FnExactMarkRun': WHATEVER THE INPUT: true; the input reads as it did. -/
def fnExactMarkRunSpec : ChangeSpec := { name := "fnExactMarkRun", fn := fun _ => fun
  | [d1, d2] => { results := [.lit (.bool true)], args := [d1, d2] }
  | _ => none }
def fnExactMarkRunRow : OpenClaim := { program := "ytcigiilhlealdaa", sum := "79edced4c0ef00561df673ccfa6adb2adb6bf72fd6d908e7850f272813f08a9f", func := "loop.example/g00032/laws.FnExactMarkRun", spec := "fnExactMarkRun", unfollowed := true, recurses := true, apart := false }
def FnExactMarkRunSaid : Prop := fnExactMarkRunRow.holds Try.pinned (OpenSpec.ofChange fnExactMarkRunSpec)

/-- ITS FALSE NEIGHBOUR: 'it returns false'. Refute it at one input. -/
def fnExactMarkRunWrong : ChangeSpec := { name := "fnExactMarkRun", fn := fun _ => fun
  | [d1, d2] => { results := [.lit (.bool false)], args := [d1, d2] }
  | _ => none }
def FnExactMarkRunWrongFalsely : Prop := fnExactMarkRunRow.holds Try.pinned (OpenSpec.ofChange fnExactMarkRunWrong)

/-- 'laws.FnExactMarkAt': WHATEVER THE INPUT: true; the input reads as it did. -/
def fnExactMarkAtSpec : ChangeSpec := { name := "fnExactMarkAt", fn := fun _ => fun
  | [d1, d2] => { results := [.lit (.bool true)], args := [d1, d2] }
  | _ => none }
def fnExactMarkAtRow : OpenClaim := { program := "ytcigiilhlealdaa", sum := "79edced4c0ef00561df673ccfa6adb2adb6bf72fd6d908e7850f272813f08a9f", func := "loop.example/g00032/laws.FnExactMarkAt", spec := "fnExactMarkAt", unfollowed := true, recurses := true, apart := false }
def FnExactMarkAtSaid : Prop := fnExactMarkAtRow.holds Try.pinned (OpenSpec.ofChange fnExactMarkAtSpec)

/-- ITS FALSE NEIGHBOUR: 'it returns false'. Refute it at one input. -/
def fnExactMarkAtWrong : ChangeSpec := { name := "fnExactMarkAt", fn := fun _ => fun
  | [d1, d2] => { results := [.lit (.bool false)], args := [d1, d2] }
  | _ => none }
def FnExactMarkAtWrongFalsely : Prop := fnExactMarkAtRow.holds Try.pinned (OpenSpec.ofChange fnExactMarkAtWrong)

/- THE SECOND FORM. 'bulk': how many values and letters a reading holds, each counted each time it is reached (what is shared counts as often as it is met; a slice's spare places count too). A statement '..UptoSaid' is the law's where the arguments, and the package variables that the reading takes, are together of bulk at most 1048576: NARROWER than '..Said'. Prove '..Said' where nothing that the law and all that it calls make is longer than what came in: it says more and counts as full. Else prove '..UptoSaid'. A law counts once. -/
mutual
def uptoBulk {H : Type} : DataW H → Nat
  | .lit (.string bytes) => bytes.length + 1
  | .lit _ => 1
  | .nil => 1
  | .ptr d => uptoBulk d + 1
  | .slice elems spare => uptoBulkAll elems + uptoBulkAll spare + 1
  | .agg parts => uptoBulkAll parts + 1
  | .iface _ d => uptoBulk d + 1
  | .map entries => uptoBulkEntries entries + 1
  | .held _ => 1
def uptoBulkAll {H : Type} : List (DataW H) → Nat
  | [] => 0
  | d :: r => uptoBulk d + uptoBulkAll r
def uptoBulkEntries {H : Type} : List (Lit × DataW H) → Nat
  | [] => 0
  | x :: r => uptoBulkEntry x + uptoBulkEntries r
def uptoBulkEntry {H : Type} : Lit × DataW H → Nat
  | (.string bytes, d) => bytes.length + uptoBulk d + 1
  | (_, d) => uptoBulk d + 1
 end
def uptoSmall : (H : Type) → List (DataW H) → Bool := fun _ ds => decide (uptoBulkAll ds ≤ 1048576)
def OpenSpec.upto (s : _root_.Go.ChangeSpec) : _root_.Go.OpenSpec := { _root_.Go.OpenSpec.ofChange s with cond := some uptoSmall }

/-- 'laws.FnMarkGone', WHERE WHAT IT READS IS OF BULK AT MOST 1048576: true; the input reads as it did. -/
def fnMarkGoneUptoRow : OpenClaim := { program := "ytcigiilhlealdaa", sum := "79edced4c0ef00561df673ccfa6adb2adb6bf72fd6d908e7850f272813f08a9f", func := "loop.example/g00032/laws.FnMarkGone", spec := "fnMarkGone", unfollowed := true, recurses := true, apart := false, narrowed := true }
def FnMarkGoneUptoSaid : Prop := fnMarkGoneUptoRow.holds Try.pinned (OpenSpec.upto fnMarkGoneSpec)

/-- 'laws.FnExactMarkRun', WHERE WHAT IT READS IS OF BULK AT MOST 1048576: true; the input reads as it did. -/
def fnExactMarkRunUptoRow : OpenClaim := { program := "ytcigiilhlealdaa", sum := "79edced4c0ef00561df673ccfa6adb2adb6bf72fd6d908e7850f272813f08a9f", func := "loop.example/g00032/laws.FnExactMarkRun", spec := "fnExactMarkRun", unfollowed := true, recurses := true, apart := false, narrowed := true }
def FnExactMarkRunUptoSaid : Prop := fnExactMarkRunUptoRow.holds Try.pinned (OpenSpec.upto fnExactMarkRunSpec)

/-- 'laws.FnExactMarkAt', WHERE WHAT IT READS IS OF BULK AT MOST 1048576: true; the input reads as it did. -/
def fnExactMarkAtUptoRow : OpenClaim := { program := "ytcigiilhlealdaa", sum := "79edced4c0ef00561df673ccfa6adb2adb6bf72fd6d908e7850f272813f08a9f", func := "loop.example/g00032/laws.FnExactMarkAt", spec := "fnExactMarkAt", unfollowed := true, recurses := true, apart := false, narrowed := true }
def FnExactMarkAtUptoSaid : Prop := fnExactMarkAtUptoRow.holds Try.pinned (OpenSpec.upto fnExactMarkAtSpec)

end Rows
end Go.Proofs.Ytcigiilhlealdaa
