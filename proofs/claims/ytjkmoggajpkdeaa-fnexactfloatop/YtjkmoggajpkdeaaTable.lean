/- The program's table of operations, as the call that makes it hands it back. -/
import Derived.Test.YtjkmoggajpkdeaaRows
import Derived.WalkKit
import Derived.ProofKit
import Derived.OpenShut
import Derived.Deep.WholeRow
namespace Go.Proofs.Ytjkmoggajpkdeaa
open Go.ChangeShapes Go.WideShapes Go.ChangeAt Go.RowKit

def opTable : Array Value := #[.nilFunc, .nilFunc, .nilFunc, .nilFunc, .nilFunc, .nilFunc, .nilFunc, .nilFunc, .nilFunc, .nilFunc, .nilFunc,
  .nilFunc, .nilFunc, .nilFunc, .nilFunc, .nilFunc, .nilFunc, .nilFunc, .nilFunc, .nilFunc, .nilFunc, .nilFunc,
  .func (.func 24) #[] #[], .func (.func 25) #[] #[], .func (.func 26) #[] #[], .func (.func 27) #[] #[], .func (.func 28) #[] #[], .func (.func 29) #[] #[], .func (.func 30) #[] #[], .func (.func 31) #[] #[],
  .func (.func 32) #[] #[], .nilFunc, .func (.func 33) #[] #[], .func (.func 34) #[] #[], .func (.func 35) #[] #[], .nilFunc, .func (.func 36) #[] #[], .nilFunc, .func (.func 37) #[] #[], .nilFunc,
  .func (.func 38) #[] #[], .nilFunc, .func (.func 39) #[] #[], .nilFunc, .func (.func 40) #[] #[], .nilFunc]

theorem wpList_build_to {P : Program} {ops : Array Oper} {rest : List Oper} {o : Oper} {a : Act} {w : World} {Q : Exit → Act → World → Prop} (hg : o.guard = none) (t : TypeId) (parts : Array (Nat × Operand)) (ho : o.op = .build t parts) (cells : Array Value)
    (hf : P.built t (parts.map fun (i, x) => (i, a.eval x)).toList = some cells)
    (h : wpList P ops Q rest (a.put o.dst (.agg cells)) w) : wpList P ops Q (o :: rest) a w := by
  refine wpList_build hg t parts ho (by rw [hf]; rfl) ?_
  rw [hf]; exact h

theorem operations_calls (w : World) :
    Calls Try.prog 19 #[] w fun e w' => e = .returned (.agg opTable) ∧ w' = w.alloc (.cells opTable 45) := by
  go_enter Try.func19, Try.ntmps19
  go_wp2_with (first | (refine wpList_build_to rfl 45 _ rfl opTable ?hb ?_; (case hb => kernel_rfl)) | (refine wpList_store_row rfl 45 (Operand.tmp 0) (Operand.tmp 13) rfl w.heap.size opTable rfl rfl 45 _ (heap_alloc_last w _) ?h1 ?h2 ?h3 ?_; (case h1 => kernel_rfl); (case h2 => kernel_rfl); (case h3 => kernel_rfl)))
  rw [World.setRow_alloc_new]
  exact bodyPost_ret (v := .agg opTable) (results_cell_row rfl _ _ w.heap.size 45 _ (0, 0) _ rfl (heap_alloc_last w _) Try.underlying45 rfl (by kernel_rfl)) rfl ⟨rfl, rfl⟩
end Go.Proofs.Ytjkmoggajpkdeaa
