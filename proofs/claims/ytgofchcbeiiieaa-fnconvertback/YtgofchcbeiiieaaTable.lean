/- The program's table of operations, as the call that makes it hands it back. -/
import Derived.Test.YtgofchcbeiiieaaRows
import Derived.WalkKit
import Derived.ProofKit
import Derived.OpenShut
import Derived.Deep.WholeRow
namespace Go.Proofs.Ytgofchcbeiiieaa
open Go.ChangeShapes Go.WideShapes Go.ChangeAt Go.RowKit

def opTable : Array Value := #[.nilFunc, .nilFunc, .nilFunc, .nilFunc, .nilFunc, .nilFunc, .nilFunc, .nilFunc, .nilFunc, .nilFunc, .nilFunc,
  .nilFunc, .nilFunc, .nilFunc, .nilFunc, .nilFunc, .nilFunc, .nilFunc, .nilFunc, .nilFunc, .nilFunc, .nilFunc,
  .func (.func 30) #[] #[], .func (.func 31) #[] #[], .func (.func 32) #[] #[], .func (.func 33) #[] #[], .func (.func 34) #[] #[], .func (.func 35) #[] #[], .func (.func 36) #[] #[], .func (.func 37) #[] #[],
  .func (.func 38) #[] #[], .nilFunc, .func (.func 39) #[] #[], .func (.func 40) #[] #[], .func (.func 41) #[] #[], .nilFunc, .func (.func 42) #[] #[], .nilFunc, .func (.func 43) #[] #[], .nilFunc,
  .func (.func 44) #[] #[], .nilFunc, .func (.func 45) #[] #[], .nilFunc, .func (.func 46) #[] #[], .nilFunc]

theorem wpList_build_to {P : Program} {ops : Array Oper} {rest : List Oper} {o : Oper} {a : Act} {w : World} {Q : Exit → Act → World → Prop} (hg : o.guard = none) (t : TypeId) (parts : Array (Nat × Operand)) (ho : o.op = .build t parts) (cells : Array Value)
    (hf : P.built t (parts.map fun (i, x) => (i, a.eval x)).toList = some cells)
    (h : wpList P ops Q rest (a.put o.dst (.agg cells)) w) : wpList P ops Q (o :: rest) a w := by
  refine wpList_build hg t parts ho (by rw [hf]; rfl) ?_
  rw [hf]; exact h

theorem operations_calls (w : World) :
    Calls Try.prog 26 #[] w fun e w' => e = .returned (.agg opTable) ∧ w' = w.alloc (.cells opTable 49) := by
  go_enter Try.func26, Try.ntmps26
  go_wp2_with (first | (refine wpList_build_to rfl 49 _ rfl opTable ?hb ?_; (case hb => kernel_rfl)) | (refine wpList_store_row rfl 49 (Operand.tmp 0) (Operand.tmp 13) rfl w.heap.size opTable rfl rfl 49 _ (heap_alloc_last w _) ?h1 ?h2 ?h3 ?_; (case h1 => kernel_rfl); (case h2 => kernel_rfl); (case h3 => kernel_rfl)))
  rw [World.setRow_alloc_new]
  exact bodyPost_ret (v := .agg opTable) (results_cell_row rfl _ _ w.heap.size 49 _ (0, 0) _ rfl (heap_alloc_last w _) Try.underlying49 rfl (by kernel_rfl)) rfl ⟨rfl, rfl⟩
end Go.Proofs.Ytgofchcbeiiieaa
