/-
  No cell of these rows narrows 'for every input' (looked for: loops, veiled, ifaces, maps, wideKeys, modest, calm, conditions, laid).
  DERIVED. THE GIVEN ROWS OF THIS SEAT. 4 by the template 'for every input the law returns true; each argument reads behind the call as it read before'; 0 by the template 'total and deterministic' (their statements: YtgofchcbeiiieaaTotals.lean).
  GIVEN WITH THE SEED: the statements are not yours to turn. If you find one false, say at which input.
  Laid BY PROGRAM, IN A SANDBOX (cutbox-rows.mjs): the forced cells as the released guide's own fill.sh prints them over the translation 4596c633317635f4… (all of the seat's roots in one cut). By AI agents, Wed Nov 11 2026. No macro, syntax, notation, axiom, sorry.
-/
import Derived.Test.YtgofchcbeiiieaaChecked
import GoSem.Claim
import GoSem.ClaimJoined
import GoSem.ClaimMapViews
import Derived.JoinedTies
import Derived.KernelRfl
namespace Go.Proofs.Ytgofchcbeiiieaa
/- THE CELL 'sum', in the pinned program and in every row, IS THE sha256 OF THE DUMP (.gsa) THAT YtgofchcbeiiieaaProg.lean LOADS. Nothing in Lean hashes anything: it is a label: what it is worth is what the hold of that sum in a sandbox is worth. -/
noncomputable def Try.pinned : Pinned := { name := "ytgofchcbeiiieaa", sum := "4596c633317635f47e5db6bf53d814594e88d5527f09348335aae16d2536a841", checked := Try.checked }
namespace Rows
def none {H : Type} : Left H := { results := [], args := [] }

/-- 'laws.FnIntRing': WHATEVER THE INPUT: true; the input reads as it did. -/
def fnIntRingSpec : ChangeSpec := { name := "fnIntRing", fn := fun _ => fun
  | [d] => { results := [.lit (.bool true)], args := [d] }
  | _ => none }
def fnIntRingRow : OpenClaim := { program := "ytgofchcbeiiieaa", sum := "4596c633317635f47e5db6bf53d814594e88d5527f09348335aae16d2536a841", func := "loop.example/g00032/laws.FnIntRing", spec := "fnIntRing", unfollowed := true, recurses := true, apart := false }
def FnIntRingSaid : Prop := fnIntRingRow.holds Try.pinned (OpenSpec.ofChange fnIntRingSpec)

/-- ITS FALSE NEIGHBOUR: 'it returns false'. Refute it at one input. -/
def fnIntRingWrong : ChangeSpec := { name := "fnIntRing", fn := fun _ => fun
  | [d] => { results := [.lit (.bool false)], args := [d] }
  | _ => none }
def FnIntRingWrongFalsely : Prop := fnIntRingRow.holds Try.pinned (OpenSpec.ofChange fnIntRingWrong)

/-- 'laws.FnLongRing': WHATEVER THE INPUT: true; the input reads as it did. -/
def fnLongRingSpec : ChangeSpec := { name := "fnLongRing", fn := fun _ => fun
  | [d] => { results := [.lit (.bool true)], args := [d] }
  | _ => none }
def fnLongRingRow : OpenClaim := { program := "ytgofchcbeiiieaa", sum := "4596c633317635f47e5db6bf53d814594e88d5527f09348335aae16d2536a841", func := "loop.example/g00032/laws.FnLongRing", spec := "fnLongRing", unfollowed := true, recurses := true, apart := false }
def FnLongRingSaid : Prop := fnLongRingRow.holds Try.pinned (OpenSpec.ofChange fnLongRingSpec)

/-- ITS FALSE NEIGHBOUR: 'it returns false'. Refute it at one input. -/
def fnLongRingWrong : ChangeSpec := { name := "fnLongRing", fn := fun _ => fun
  | [d] => { results := [.lit (.bool false)], args := [d] }
  | _ => none }
def FnLongRingWrongFalsely : Prop := fnLongRingRow.holds Try.pinned (OpenSpec.ofChange fnLongRingWrong)

/-- 'laws.FnDivide': WHATEVER THE INPUT: true; the input reads as it did. -/
def fnDivideSpec : ChangeSpec := { name := "fnDivide", fn := fun _ => fun
  | [d] => { results := [.lit (.bool true)], args := [d] }
  | _ => none }
def fnDivideRow : OpenClaim := { program := "ytgofchcbeiiieaa", sum := "4596c633317635f47e5db6bf53d814594e88d5527f09348335aae16d2536a841", func := "loop.example/g00032/laws.FnDivide", spec := "fnDivide", unfollowed := true, recurses := true, apart := false }
def FnDivideSaid : Prop := fnDivideRow.holds Try.pinned (OpenSpec.ofChange fnDivideSpec)

/-- ITS FALSE NEIGHBOUR: 'it returns false'. Refute it at one input. -/
def fnDivideWrong : ChangeSpec := { name := "fnDivide", fn := fun _ => fun
  | [d] => { results := [.lit (.bool false)], args := [d] }
  | _ => none }
def FnDivideWrongFalsely : Prop := fnDivideRow.holds Try.pinned (OpenSpec.ofChange fnDivideWrong)

/-- 'laws.FnConvertBack': WHATEVER THE INPUT: true; the input reads as it did. -/
def fnConvertBackSpec : ChangeSpec := { name := "fnConvertBack", fn := fun _ => fun
  | [d] => { results := [.lit (.bool true)], args := [d] }
  | _ => none }
def fnConvertBackRow : OpenClaim := { program := "ytgofchcbeiiieaa", sum := "4596c633317635f47e5db6bf53d814594e88d5527f09348335aae16d2536a841", func := "loop.example/g00032/laws.FnConvertBack", spec := "fnConvertBack", inPlace := ["math.Float64bits", "math.Float64frombits"], apart := false }
def FnConvertBackSaid : Prop := fnConvertBackRow.holds Try.pinned (OpenSpec.ofChange fnConvertBackSpec)

/-- ITS FALSE NEIGHBOUR: 'it returns false'. Refute it at one input. -/
def fnConvertBackWrong : ChangeSpec := { name := "fnConvertBack", fn := fun _ => fun
  | [d] => { results := [.lit (.bool false)], args := [d] }
  | _ => none }
def FnConvertBackWrongFalsely : Prop := fnConvertBackRow.holds Try.pinned (OpenSpec.ofChange fnConvertBackWrong)

/- THE SECOND FORM. 'bulk': how many values and letters a reading holds, each counted each time it is reached (what is shared counts as often as it is met; a slice's spare places count too). A statement '..UptoSaid' is the law's where the arguments, and the package variables that the reading takes, are together of bulk at most 1048576: NARROWER than '..Said'. Prove '..Said' where nothing that the law and all that it calls make is longer than what came in: it says more and counts as full. Else prove '..UptoSaid'. A law counts once. -/
mutual
def uptoBulk {H : Type} : DataW H → Nat
  | .lit (.string bytes) => bytes.length + 1
  | .lit _ => 1
  | .nil => 1
  | .ptr d => uptoBulk d + 1
  | .slice elems spare => uptoBulkAll elems + uptoBulkAll spare + 1
  | .agg parts => uptoBulkAll parts + 1
  | .iface _ d => uptoBulk d + 1
  | .map entries => uptoBulkEntries entries + 1
  | .held _ => 1
def uptoBulkAll {H : Type} : List (DataW H) → Nat
  | [] => 0
  | d :: r => uptoBulk d + uptoBulkAll r
def uptoBulkEntries {H : Type} : List (Lit × DataW H) → Nat
  | [] => 0
  | x :: r => uptoBulkEntry x + uptoBulkEntries r
def uptoBulkEntry {H : Type} : Lit × DataW H → Nat
  | (.string bytes, d) => bytes.length + uptoBulk d + 1
  | (_, d) => uptoBulk d + 1
 end
def uptoSmall : (H : Type) → List (DataW H) → Bool := fun _ ds => decide (uptoBulkAll ds ≤ 1048576)
def OpenSpec.upto (s : _root_.Go.ChangeSpec) : _root_.Go.OpenSpec := { _root_.Go.OpenSpec.ofChange s with cond := some uptoSmall }

/-- 'laws.FnIntRing', WHERE WHAT IT READS IS OF BULK AT MOST 1048576: true; the input reads as it did. -/
def fnIntRingUptoRow : OpenClaim := { program := "ytgofchcbeiiieaa", sum := "4596c633317635f47e5db6bf53d814594e88d5527f09348335aae16d2536a841", func := "loop.example/g00032/laws.FnIntRing", spec := "fnIntRing", unfollowed := true, recurses := true, apart := false, narrowed := true }
def FnIntRingUptoSaid : Prop := fnIntRingUptoRow.holds Try.pinned (OpenSpec.upto fnIntRingSpec)

/-- 'laws.FnLongRing', WHERE WHAT IT READS IS OF BULK AT MOST 1048576: true; the input reads as it did. -/
def fnLongRingUptoRow : OpenClaim := { program := "ytgofchcbeiiieaa", sum := "4596c633317635f47e5db6bf53d814594e88d5527f09348335aae16d2536a841", func := "loop.example/g00032/laws.FnLongRing", spec := "fnLongRing", unfollowed := true, recurses := true, apart := false, narrowed := true }
def FnLongRingUptoSaid : Prop := fnLongRingUptoRow.holds Try.pinned (OpenSpec.upto fnLongRingSpec)

/-- 'laws.FnDivide', WHERE WHAT IT READS IS OF BULK AT MOST 1048576: true; the input reads as it did. -/
def fnDivideUptoRow : OpenClaim := { program := "ytgofchcbeiiieaa", sum := "4596c633317635f47e5db6bf53d814594e88d5527f09348335aae16d2536a841", func := "loop.example/g00032/laws.FnDivide", spec := "fnDivide", unfollowed := true, recurses := true, apart := false, narrowed := true }
def FnDivideUptoSaid : Prop := fnDivideUptoRow.holds Try.pinned (OpenSpec.upto fnDivideSpec)

/-- 'laws.FnConvertBack', WHERE WHAT IT READS IS OF BULK AT MOST 1048576: true; the input reads as it did. -/
def fnConvertBackUptoRow : OpenClaim := { program := "ytgofchcbeiiieaa", sum := "4596c633317635f47e5db6bf53d814594e88d5527f09348335aae16d2536a841", func := "loop.example/g00032/laws.FnConvertBack", spec := "fnConvertBack", inPlace := ["math.Float64bits", "math.Float64frombits"], apart := false, narrowed := true }
def FnConvertBackUptoSaid : Prop := fnConvertBackUptoRow.holds Try.pinned (OpenSpec.upto fnConvertBackSpec)

end Rows
end Go.Proofs.Ytgofchcbeiiieaa
