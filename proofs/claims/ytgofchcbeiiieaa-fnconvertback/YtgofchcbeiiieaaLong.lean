/- impl.operationOf and impl.LongOp at every op: what they answer. -/
import Derived.Test.YtgofchcbeiiieaaWhole
import Derived.Below
namespace Go.Proofs.Ytgofchcbeiiieaa
open Go.ChangeShapes Go.WideShapes Go.ChangeAt Go.RowKit
attribute [local irreducible] opTable

theorem field0 (x y : Value) (w : World) : (Instr.field 39 (.agg #[x, y]) 0).run Try.prog w = .ok x w := by kernel_rfl
theorem field1 (x y : Value) (w : World) : (Instr.field 39 (.agg #[x, y]) 1).run Try.prog w = .ok y w := by kernel_rfl
theorem wholeNil (w : World) : (binOp .eql 36 .nilFunc .nilFunc).run Try.prog w = .ok (.bool true) w := by kernel_rfl
theorem wholeFun (f : Fn) (x y : Array Value) (w : World) : (binOp .eql 36 (.func f x y) .nilFunc).run Try.prog w = .ok (.bool false) w := by kernel_rfl
theorem floatNil (w : World) : (binOp .eql 37 .nilFunc .nilFunc).run Try.prog w = .ok (.bool true) w := by kernel_rfl
theorem floatFun (f : Fn) (x y : Array Value) (w : World) : (binOp .eql 37 (.func f x y) .nilFunc).run Try.prog w = .ok (.bool false) w := by kernel_rfl

theorem idx11 (w : World) : (Instr.index 49 (.agg opTable) (.int .i64 11)).run Try.prog w = .ok (.agg #[.func (.func 30) #[] #[], .func (.func 31) #[] #[]]) w := by kernel_rfl
theorem operationOf11 (w : World) :
    Calls Try.prog 20 #[.int .i64 11] w fun e w' => e = .returned (.agg #[.func (.func 30) #[] #[], .func (.func 31) #[] #[]]) ∧ w' = (w.alloc (.cells #[.func (.func 30) #[] #[], .func (.func 31) #[] #[]] 39)).alloc (.cells opTable 49) := by
  have hi := idx11
  go_enter Try.func20, Try.ntmps20
  go_wp2_with (go_at_call 26; refine (operations_calls _).mono ?_; rintro e w' ⟨rfl, rfl⟩)
  exact bodyPost_ret (v := .agg #[.func (.func 30) #[] #[], .func (.func 31) #[] #[]]) (results_cell_row rfl _ _ w.heap.size 39 _ (0, 0) _ rfl (heap_alloc2_old w _ _) Try.underlying39 rfl (by kernel_rfl)) rfl ⟨rfl, rfl⟩

theorem idx12 (w : World) : (Instr.index 49 (.agg opTable) (.int .i64 12)).run Try.prog w = .ok (.agg #[.func (.func 32) #[] #[], .func (.func 33) #[] #[]]) w := by kernel_rfl
theorem operationOf12 (w : World) :
    Calls Try.prog 20 #[.int .i64 12] w fun e w' => e = .returned (.agg #[.func (.func 32) #[] #[], .func (.func 33) #[] #[]]) ∧ w' = (w.alloc (.cells #[.func (.func 32) #[] #[], .func (.func 33) #[] #[]] 39)).alloc (.cells opTable 49) := by
  have hi := idx12
  go_enter Try.func20, Try.ntmps20
  go_wp2_with (go_at_call 26; refine (operations_calls _).mono ?_; rintro e w' ⟨rfl, rfl⟩)
  exact bodyPost_ret (v := .agg #[.func (.func 32) #[] #[], .func (.func 33) #[] #[]]) (results_cell_row rfl _ _ w.heap.size 39 _ (0, 0) _ rfl (heap_alloc2_old w _ _) Try.underlying39 rfl (by kernel_rfl)) rfl ⟨rfl, rfl⟩

theorem idx13 (w : World) : (Instr.index 49 (.agg opTable) (.int .i64 13)).run Try.prog w = .ok (.agg #[.func (.func 34) #[] #[], .func (.func 35) #[] #[]]) w := by kernel_rfl
theorem operationOf13 (w : World) :
    Calls Try.prog 20 #[.int .i64 13] w fun e w' => e = .returned (.agg #[.func (.func 34) #[] #[], .func (.func 35) #[] #[]]) ∧ w' = (w.alloc (.cells #[.func (.func 34) #[] #[], .func (.func 35) #[] #[]] 39)).alloc (.cells opTable 49) := by
  have hi := idx13
  go_enter Try.func20, Try.ntmps20
  go_wp2_with (go_at_call 26; refine (operations_calls _).mono ?_; rintro e w' ⟨rfl, rfl⟩)
  exact bodyPost_ret (v := .agg #[.func (.func 34) #[] #[], .func (.func 35) #[] #[]]) (results_cell_row rfl _ _ w.heap.size 39 _ (0, 0) _ rfl (heap_alloc2_old w _ _) Try.underlying39 rfl (by kernel_rfl)) rfl ⟨rfl, rfl⟩

theorem idx14 (w : World) : (Instr.index 49 (.agg opTable) (.int .i64 14)).run Try.prog w = .ok (.agg #[.func (.func 36) #[] #[], .func (.func 37) #[] #[]]) w := by kernel_rfl
theorem operationOf14 (w : World) :
    Calls Try.prog 20 #[.int .i64 14] w fun e w' => e = .returned (.agg #[.func (.func 36) #[] #[], .func (.func 37) #[] #[]]) ∧ w' = (w.alloc (.cells #[.func (.func 36) #[] #[], .func (.func 37) #[] #[]] 39)).alloc (.cells opTable 49) := by
  have hi := idx14
  go_enter Try.func20, Try.ntmps20
  go_wp2_with (go_at_call 26; refine (operations_calls _).mono ?_; rintro e w' ⟨rfl, rfl⟩)
  exact bodyPost_ret (v := .agg #[.func (.func 36) #[] #[], .func (.func 37) #[] #[]]) (results_cell_row rfl _ _ w.heap.size 39 _ (0, 0) _ rfl (heap_alloc2_old w _ _) Try.underlying39 rfl (by kernel_rfl)) rfl ⟨rfl, rfl⟩

theorem idx15 (w : World) : (Instr.index 49 (.agg opTable) (.int .i64 15)).run Try.prog w = .ok (.agg #[.func (.func 38) #[] #[], .nilFunc]) w := by kernel_rfl
theorem operationOf15 (w : World) :
    Calls Try.prog 20 #[.int .i64 15] w fun e w' => e = .returned (.agg #[.func (.func 38) #[] #[], .nilFunc]) ∧ w' = (w.alloc (.cells #[.func (.func 38) #[] #[], .nilFunc] 39)).alloc (.cells opTable 49) := by
  have hi := idx15
  go_enter Try.func20, Try.ntmps20
  go_wp2_with (go_at_call 26; refine (operations_calls _).mono ?_; rintro e w' ⟨rfl, rfl⟩)
  exact bodyPost_ret (v := .agg #[.func (.func 38) #[] #[], .nilFunc]) (results_cell_row rfl _ _ w.heap.size 39 _ (0, 0) _ rfl (heap_alloc2_old w _ _) Try.underlying39 rfl (by kernel_rfl)) rfl ⟨rfl, rfl⟩

theorem idx16 (w : World) : (Instr.index 49 (.agg opTable) (.int .i64 16)).run Try.prog w = .ok (.agg #[.func (.func 39) #[] #[], .func (.func 40) #[] #[]]) w := by kernel_rfl
theorem operationOf16 (w : World) :
    Calls Try.prog 20 #[.int .i64 16] w fun e w' => e = .returned (.agg #[.func (.func 39) #[] #[], .func (.func 40) #[] #[]]) ∧ w' = (w.alloc (.cells #[.func (.func 39) #[] #[], .func (.func 40) #[] #[]] 39)).alloc (.cells opTable 49) := by
  have hi := idx16
  go_enter Try.func20, Try.ntmps20
  go_wp2_with (go_at_call 26; refine (operations_calls _).mono ?_; rintro e w' ⟨rfl, rfl⟩)
  exact bodyPost_ret (v := .agg #[.func (.func 39) #[] #[], .func (.func 40) #[] #[]]) (results_cell_row rfl _ _ w.heap.size 39 _ (0, 0) _ rfl (heap_alloc2_old w _ _) Try.underlying39 rfl (by kernel_rfl)) rfl ⟨rfl, rfl⟩

theorem idx17 (w : World) : (Instr.index 49 (.agg opTable) (.int .i64 17)).run Try.prog w = .ok (.agg #[.func (.func 41) #[] #[], .nilFunc]) w := by kernel_rfl
theorem operationOf17 (w : World) :
    Calls Try.prog 20 #[.int .i64 17] w fun e w' => e = .returned (.agg #[.func (.func 41) #[] #[], .nilFunc]) ∧ w' = (w.alloc (.cells #[.func (.func 41) #[] #[], .nilFunc] 39)).alloc (.cells opTable 49) := by
  have hi := idx17
  go_enter Try.func20, Try.ntmps20
  go_wp2_with (go_at_call 26; refine (operations_calls _).mono ?_; rintro e w' ⟨rfl, rfl⟩)
  exact bodyPost_ret (v := .agg #[.func (.func 41) #[] #[], .nilFunc]) (results_cell_row rfl _ _ w.heap.size 39 _ (0, 0) _ rfl (heap_alloc2_old w _ _) Try.underlying39 rfl (by kernel_rfl)) rfl ⟨rfl, rfl⟩

theorem idx18 (w : World) : (Instr.index 49 (.agg opTable) (.int .i64 18)).run Try.prog w = .ok (.agg #[.func (.func 42) #[] #[], .nilFunc]) w := by kernel_rfl
theorem operationOf18 (w : World) :
    Calls Try.prog 20 #[.int .i64 18] w fun e w' => e = .returned (.agg #[.func (.func 42) #[] #[], .nilFunc]) ∧ w' = (w.alloc (.cells #[.func (.func 42) #[] #[], .nilFunc] 39)).alloc (.cells opTable 49) := by
  have hi := idx18
  go_enter Try.func20, Try.ntmps20
  go_wp2_with (go_at_call 26; refine (operations_calls _).mono ?_; rintro e w' ⟨rfl, rfl⟩)
  exact bodyPost_ret (v := .agg #[.func (.func 42) #[] #[], .nilFunc]) (results_cell_row rfl _ _ w.heap.size 39 _ (0, 0) _ rfl (heap_alloc2_old w _ _) Try.underlying39 rfl (by kernel_rfl)) rfl ⟨rfl, rfl⟩

theorem idx19 (w : World) : (Instr.index 49 (.agg opTable) (.int .i64 19)).run Try.prog w = .ok (.agg #[.func (.func 43) #[] #[], .nilFunc]) w := by kernel_rfl
theorem operationOf19 (w : World) :
    Calls Try.prog 20 #[.int .i64 19] w fun e w' => e = .returned (.agg #[.func (.func 43) #[] #[], .nilFunc]) ∧ w' = (w.alloc (.cells #[.func (.func 43) #[] #[], .nilFunc] 39)).alloc (.cells opTable 49) := by
  have hi := idx19
  go_enter Try.func20, Try.ntmps20
  go_wp2_with (go_at_call 26; refine (operations_calls _).mono ?_; rintro e w' ⟨rfl, rfl⟩)
  exact bodyPost_ret (v := .agg #[.func (.func 43) #[] #[], .nilFunc]) (results_cell_row rfl _ _ w.heap.size 39 _ (0, 0) _ rfl (heap_alloc2_old w _ _) Try.underlying39 rfl (by kernel_rfl)) rfl ⟨rfl, rfl⟩

theorem idx20 (w : World) : (Instr.index 49 (.agg opTable) (.int .i64 20)).run Try.prog w = .ok (.agg #[.func (.func 44) #[] #[], .nilFunc]) w := by kernel_rfl
theorem operationOf20 (w : World) :
    Calls Try.prog 20 #[.int .i64 20] w fun e w' => e = .returned (.agg #[.func (.func 44) #[] #[], .nilFunc]) ∧ w' = (w.alloc (.cells #[.func (.func 44) #[] #[], .nilFunc] 39)).alloc (.cells opTable 49) := by
  have hi := idx20
  go_enter Try.func20, Try.ntmps20
  go_wp2_with (go_at_call 26; refine (operations_calls _).mono ?_; rintro e w' ⟨rfl, rfl⟩)
  exact bodyPost_ret (v := .agg #[.func (.func 44) #[] #[], .nilFunc]) (results_cell_row rfl _ _ w.heap.size 39 _ (0, 0) _ rfl (heap_alloc2_old w _ _) Try.underlying39 rfl (by kernel_rfl)) rfl ⟨rfl, rfl⟩

theorem idx21 (w : World) : (Instr.index 49 (.agg opTable) (.int .i64 21)).run Try.prog w = .ok (.agg #[.func (.func 45) #[] #[], .nilFunc]) w := by kernel_rfl
theorem operationOf21 (w : World) :
    Calls Try.prog 20 #[.int .i64 21] w fun e w' => e = .returned (.agg #[.func (.func 45) #[] #[], .nilFunc]) ∧ w' = (w.alloc (.cells #[.func (.func 45) #[] #[], .nilFunc] 39)).alloc (.cells opTable 49) := by
  have hi := idx21
  go_enter Try.func20, Try.ntmps20
  go_wp2_with (go_at_call 26; refine (operations_calls _).mono ?_; rintro e w' ⟨rfl, rfl⟩)
  exact bodyPost_ret (v := .agg #[.func (.func 45) #[] #[], .nilFunc]) (results_cell_row rfl _ _ w.heap.size 39 _ (0, 0) _ rfl (heap_alloc2_old w _ _) Try.underlying39 rfl (by kernel_rfl)) rfl ⟨rfl, rfl⟩

theorem idx22 (w : World) : (Instr.index 49 (.agg opTable) (.int .i64 22)).run Try.prog w = .ok (.agg #[.func (.func 46) #[] #[], .nilFunc]) w := by kernel_rfl
theorem operationOf22 (w : World) :
    Calls Try.prog 20 #[.int .i64 22] w fun e w' => e = .returned (.agg #[.func (.func 46) #[] #[], .nilFunc]) ∧ w' = (w.alloc (.cells #[.func (.func 46) #[] #[], .nilFunc] 39)).alloc (.cells opTable 49) := by
  have hi := idx22
  go_enter Try.func20, Try.ntmps20
  go_wp2_with (go_at_call 26; refine (operations_calls _).mono ?_; rintro e w' ⟨rfl, rfl⟩)
  exact bodyPost_ret (v := .agg #[.func (.func 46) #[] #[], .nilFunc]) (results_cell_row rfl _ _ w.heap.size 39 _ (0, 0) _ rfl (heap_alloc2_old w _ _) Try.underlying39 rfl (by kernel_rfl)) rfl ⟨rfl, rfl⟩

theorem operationOfLow (op : Int) (h : op < 11) (w : World) :
    Calls Try.prog 20 #[.int .i64 op] w fun e w' => e = .returned (.agg #[.nilFunc, .nilFunc]) ∧ w' = w.alloc (.cells #[.nilFunc, .nilFunc] 39) := by
  go_enter Try.func20, Try.ntmps20
  go_wp2
  exact bodyPost_ret (v := .agg #[.nilFunc, .nilFunc]) (results_cell_row rfl _ _ w.heap.size 39 _ (0, 0) _ rfl (heap_alloc_last w _) Try.underlying39 rfl (by kernel_rfl)) rfl ⟨rfl, rfl⟩
theorem operationOfHigh (op : Int) (h : 22 < op) (w : World) :
    Calls Try.prog 20 #[.int .i64 op] w fun e w' => e = .returned (.agg #[.nilFunc, .nilFunc]) ∧ w' = w.alloc (.cells #[.nilFunc, .nilFunc] 39) := by
  have h1 : ¬ op < 11 := by omega
  go_enter Try.func20, Try.ntmps20
  go_wp2
  exact bodyPost_ret (v := .agg #[.nilFunc, .nilFunc]) (results_cell_row rfl _ _ w.heap.size 39 _ (0, 0) _ rfl (heap_alloc_last w _) Try.underlying39 rfl (by kernel_rfl)) rfl ⟨rfl, rfl⟩
theorem operationOfNone (op : Int) (h : op < 11 ∨ 22 < op) (w : World) :
    Calls Try.prog 20 #[.int .i64 op] w fun e w' => e = .returned (.agg #[.nilFunc, .nilFunc]) ∧ w' = w.alloc (.cells #[.nilFunc, .nilFunc] 39) :=
  h.elim (fun h => operationOfLow op h w) (fun h => operationOfHigh op h w)

theorem long11 (a b : Int) (w : World) :
    Calls Try.prog 14 #[.int .i64 11, .int .i64 a, .int .i64 b] w fun e w' => e = .returned (.tuple #[.int .i64 (wrap64 (a + b)), .bool true]) ∧ Below w.heap.size w w' := by
  have h0 := field0; have h2 := wholeFun
  by_cases hb : b = 0
  · subst hb
    go_enter Try.func14, Try.ntmps14
    go_wp2_with (first | (go_at_call 20; refine (operationOf11 _).mono ?_; rintro e w' ⟨rfl, rfl⟩) | (go_at_call 30; refine (whole11 _ _ _).mono ?_; rintro e w' ⟨rfl, he⟩; subst he))
    go_ret2
    exact ⟨by first | rfl | simp, by repeat (first | exact Below.refl _ _ | refine Below.alloc ?_ (by simp) _)⟩
  · have hb' : (b == 0) = false := by simpa using hb
    clear hb
    go_enter Try.func14, Try.ntmps14
    go_wp2_with (first | (go_at_call 20; refine (operationOf11 _).mono ?_; rintro e w' ⟨rfl, rfl⟩) | (go_at_call 30; refine (whole11 _ _ _).mono ?_; rintro e w' ⟨rfl, he⟩; subst he))
    go_ret2
    exact ⟨rfl, by repeat (first | exact Below.refl _ _ | refine Below.alloc ?_ (by simp) _)⟩

theorem long12 (a b : Int) (w : World) :
    Calls Try.prog 14 #[.int .i64 12, .int .i64 a, .int .i64 b] w fun e w' => e = .returned (.tuple #[.int .i64 (wrap64 (a - b)), .bool true]) ∧ Below w.heap.size w w' := by
  have h0 := field0; have h2 := wholeFun
  by_cases hb : b = 0
  · subst hb
    go_enter Try.func14, Try.ntmps14
    go_wp2_with (first | (go_at_call 20; refine (operationOf12 _).mono ?_; rintro e w' ⟨rfl, rfl⟩) | (go_at_call 32; refine (whole12 _ _ _).mono ?_; rintro e w' ⟨rfl, he⟩; subst he))
    go_ret2
    exact ⟨by first | rfl | simp, by repeat (first | exact Below.refl _ _ | refine Below.alloc ?_ (by simp) _)⟩
  · have hb' : (b == 0) = false := by simpa using hb
    clear hb
    go_enter Try.func14, Try.ntmps14
    go_wp2_with (first | (go_at_call 20; refine (operationOf12 _).mono ?_; rintro e w' ⟨rfl, rfl⟩) | (go_at_call 32; refine (whole12 _ _ _).mono ?_; rintro e w' ⟨rfl, he⟩; subst he))
    go_ret2
    exact ⟨rfl, by repeat (first | exact Below.refl _ _ | refine Below.alloc ?_ (by simp) _)⟩

theorem long13 (a b : Int) (w : World) :
    Calls Try.prog 14 #[.int .i64 13, .int .i64 a, .int .i64 b] w fun e w' => e = .returned (.tuple #[.int .i64 (wrap64 (a * b)), .bool true]) ∧ Below w.heap.size w w' := by
  have h0 := field0; have h2 := wholeFun
  by_cases hb : b = 0
  · subst hb
    go_enter Try.func14, Try.ntmps14
    go_wp2_with (first | (go_at_call 20; refine (operationOf13 _).mono ?_; rintro e w' ⟨rfl, rfl⟩) | (go_at_call 34; refine (whole13 _ _ _).mono ?_; rintro e w' ⟨rfl, he⟩; subst he))
    go_ret2
    exact ⟨by first | rfl | simp, by repeat (first | exact Below.refl _ _ | refine Below.alloc ?_ (by simp) _)⟩
  · have hb' : (b == 0) = false := by simpa using hb
    clear hb
    go_enter Try.func14, Try.ntmps14
    go_wp2_with (first | (go_at_call 20; refine (operationOf13 _).mono ?_; rintro e w' ⟨rfl, rfl⟩) | (go_at_call 34; refine (whole13 _ _ _).mono ?_; rintro e w' ⟨rfl, he⟩; subst he))
    go_ret2
    exact ⟨rfl, by repeat (first | exact Below.refl _ _ | refine Below.alloc ?_ (by simp) _)⟩

theorem long14 (a b : Int) (hb : (b == 0) = false) (w : World) :
    Calls Try.prog 14 #[.int .i64 14, .int .i64 a, .int .i64 b] w fun e w' => e = .returned (.tuple #[.int .i64 (wrap64 (a.tdiv b)), .bool true]) ∧ Below w.heap.size w w' := by
  have h0 := field0; have h2 := wholeFun
  go_enter Try.func14, Try.ntmps14
  go_wp2_with (first | (go_at_call 20; refine (operationOf14 _).mono ?_; rintro e w' ⟨rfl, rfl⟩) | (go_at_call 36; refine (whole14 _ _ hb _).mono ?_; rintro e w' ⟨rfl, he⟩; subst he))
  go_ret2
  exact ⟨rfl, by repeat (first | exact Below.refl _ _ | refine Below.alloc ?_ (by simp) _)⟩
theorem long14z (a : Int) (w : World) :
    Calls Try.prog 14 #[.int .i64 14, .int .i64 a, .int .i64 0] w fun e w' => e = .returned (.tuple #[.int .i64 0, .bool false]) ∧ Below w.heap.size w w' := by
  have h0 := field0; have h2 := wholeFun
  go_enter Try.func14, Try.ntmps14
  go_wp2_with (first | (go_at_call 20; refine (operationOf14 _).mono ?_; rintro e w' ⟨rfl, rfl⟩))
  go_ret2
  exact ⟨rfl, by repeat (first | exact Below.refl _ _ | refine Below.alloc ?_ (by simp) _)⟩

theorem long15 (a b : Int) (hb : (b == 0) = false) (w : World) :
    Calls Try.prog 14 #[.int .i64 15, .int .i64 a, .int .i64 b] w fun e w' => e = .returned (.tuple #[.int .i64 (a.tmod b), .bool true]) ∧ Below w.heap.size w w' := by
  have h0 := field0; have h2 := wholeFun
  go_enter Try.func14, Try.ntmps14
  go_wp2_with (first | (go_at_call 20; refine (operationOf15 _).mono ?_; rintro e w' ⟨rfl, rfl⟩) | (go_at_call 38; refine (whole15 _ _ hb _).mono ?_; rintro e w' ⟨rfl, he⟩; subst he))
  go_ret2
  exact ⟨rfl, by repeat (first | exact Below.refl _ _ | refine Below.alloc ?_ (by simp) _)⟩
theorem long15z (a : Int) (w : World) :
    Calls Try.prog 14 #[.int .i64 15, .int .i64 a, .int .i64 0] w fun e w' => e = .returned (.tuple #[.int .i64 0, .bool false]) ∧ Below w.heap.size w w' := by
  have h0 := field0; have h2 := wholeFun
  go_enter Try.func14, Try.ntmps14
  go_wp2_with (first | (go_at_call 20; refine (operationOf15 _).mono ?_; rintro e w' ⟨rfl, rfl⟩))
  go_ret2
  exact ⟨rfl, by repeat (first | exact Below.refl _ _ | refine Below.alloc ?_ (by simp) _)⟩

theorem long16 (a b : Int) (w : World) :
    Calls Try.prog 14 #[.int .i64 16, .int .i64 a, .int .i64 b] w fun e w' => e = .returned (.tuple #[.int .i64 (wrap64 (-a)), .bool true]) ∧ Below w.heap.size w w' := by
  have h0 := field0; have h2 := wholeFun
  by_cases hb : b = 0
  · subst hb
    go_enter Try.func14, Try.ntmps14
    go_wp2_with (first | (go_at_call 20; refine (operationOf16 _).mono ?_; rintro e w' ⟨rfl, rfl⟩) | (go_at_call 39; refine (whole16 _ _ _).mono ?_; rintro e w' ⟨rfl, he⟩; subst he))
    go_ret2
    exact ⟨by first | rfl | simp, by repeat (first | exact Below.refl _ _ | refine Below.alloc ?_ (by simp) _)⟩
  · have hb' : (b == 0) = false := by simpa using hb
    clear hb
    go_enter Try.func14, Try.ntmps14
    go_wp2_with (first | (go_at_call 20; refine (operationOf16 _).mono ?_; rintro e w' ⟨rfl, rfl⟩) | (go_at_call 39; refine (whole16 _ _ _).mono ?_; rintro e w' ⟨rfl, he⟩; subst he))
    go_ret2
    exact ⟨rfl, by repeat (first | exact Below.refl _ _ | refine Below.alloc ?_ (by simp) _)⟩

theorem long17 (a b : Int) (w : World) :
    Calls Try.prog 14 #[.int .i64 17, .int .i64 a, .int .i64 b] w fun e w' => e = .returned (.tuple #[.int .i64 (shl64 a b), .bool true]) ∧ Below w.heap.size w w' := by
  have h0 := field0; have h2 := wholeFun
  by_cases hb : b = 0
  · subst hb
    go_enter Try.func14, Try.ntmps14
    go_wp2_with (first | (go_at_call 20; refine (operationOf17 _).mono ?_; rintro e w' ⟨rfl, rfl⟩) | (go_at_call 41; refine (whole17 _ _ _).mono ?_; rintro e w' ⟨rfl, he⟩; subst he))
    go_ret2
    exact ⟨by first | rfl | simp, by repeat (first | exact Below.refl _ _ | refine Below.alloc ?_ (by simp) _)⟩
  · have hb' : (b == 0) = false := by simpa using hb
    clear hb
    go_enter Try.func14, Try.ntmps14
    go_wp2_with (first | (go_at_call 20; refine (operationOf17 _).mono ?_; rintro e w' ⟨rfl, rfl⟩) | (go_at_call 41; refine (whole17 _ _ _).mono ?_; rintro e w' ⟨rfl, he⟩; subst he))
    go_ret2
    exact ⟨rfl, by repeat (first | exact Below.refl _ _ | refine Below.alloc ?_ (by simp) _)⟩

theorem long18 (a b : Int) (w : World) :
    Calls Try.prog 14 #[.int .i64 18, .int .i64 a, .int .i64 b] w fun e w' => e = .returned (.tuple #[.int .i64 (shr64 a b), .bool true]) ∧ Below w.heap.size w w' := by
  have h0 := field0; have h2 := wholeFun
  by_cases hb : b = 0
  · subst hb
    go_enter Try.func14, Try.ntmps14
    go_wp2_with (first | (go_at_call 20; refine (operationOf18 _).mono ?_; rintro e w' ⟨rfl, rfl⟩) | (go_at_call 42; refine (whole18 _ _ _).mono ?_; rintro e w' ⟨rfl, he⟩; subst he))
    go_ret2
    exact ⟨by first | rfl | simp, by repeat (first | exact Below.refl _ _ | refine Below.alloc ?_ (by simp) _)⟩
  · have hb' : (b == 0) = false := by simpa using hb
    clear hb
    go_enter Try.func14, Try.ntmps14
    go_wp2_with (first | (go_at_call 20; refine (operationOf18 _).mono ?_; rintro e w' ⟨rfl, rfl⟩) | (go_at_call 42; refine (whole18 _ _ _).mono ?_; rintro e w' ⟨rfl, he⟩; subst he))
    go_ret2
    exact ⟨rfl, by repeat (first | exact Below.refl _ _ | refine Below.alloc ?_ (by simp) _)⟩

theorem long19 (a b : Int) (w : World) :
    Calls Try.prog 14 #[.int .i64 19, .int .i64 a, .int .i64 b] w fun e w' => e = .returned (.tuple #[.int .i64 (ushr64 a b), .bool true]) ∧ Below w.heap.size w w' := by
  have h0 := field0; have h2 := wholeFun
  by_cases hb : b = 0
  · subst hb
    go_enter Try.func14, Try.ntmps14
    go_wp2_with (first | (go_at_call 20; refine (operationOf19 _).mono ?_; rintro e w' ⟨rfl, rfl⟩) | (go_at_call 43; refine (whole19 _ _ _).mono ?_; rintro e w' ⟨rfl, he⟩; subst he))
    go_ret2
    exact ⟨by first | rfl | simp, by repeat (first | exact Below.refl _ _ | refine Below.alloc ?_ (by simp) _)⟩
  · have hb' : (b == 0) = false := by simpa using hb
    clear hb
    go_enter Try.func14, Try.ntmps14
    go_wp2_with (first | (go_at_call 20; refine (operationOf19 _).mono ?_; rintro e w' ⟨rfl, rfl⟩) | (go_at_call 43; refine (whole19 _ _ _).mono ?_; rintro e w' ⟨rfl, he⟩; subst he))
    go_ret2
    exact ⟨rfl, by repeat (first | exact Below.refl _ _ | refine Below.alloc ?_ (by simp) _)⟩

theorem long20 (a b : Int) (w : World) :
    Calls Try.prog 14 #[.int .i64 20, .int .i64 a, .int .i64 b] w fun e w' => e = .returned (.tuple #[.int .i64 (bits .and .i64 a b), .bool true]) ∧ Below w.heap.size w w' := by
  have h0 := field0; have h2 := wholeFun
  by_cases hb : b = 0
  · subst hb
    go_enter Try.func14, Try.ntmps14
    go_wp2_with (first | (go_at_call 20; refine (operationOf20 _).mono ?_; rintro e w' ⟨rfl, rfl⟩) | (go_at_call 44; refine (whole20 _ _ _).mono ?_; rintro e w' ⟨rfl, he⟩; subst he))
    go_ret2
    exact ⟨by first | rfl | simp, by repeat (first | exact Below.refl _ _ | refine Below.alloc ?_ (by simp) _)⟩
  · have hb' : (b == 0) = false := by simpa using hb
    clear hb
    go_enter Try.func14, Try.ntmps14
    go_wp2_with (first | (go_at_call 20; refine (operationOf20 _).mono ?_; rintro e w' ⟨rfl, rfl⟩) | (go_at_call 44; refine (whole20 _ _ _).mono ?_; rintro e w' ⟨rfl, he⟩; subst he))
    go_ret2
    exact ⟨rfl, by repeat (first | exact Below.refl _ _ | refine Below.alloc ?_ (by simp) _)⟩

theorem long21 (a b : Int) (w : World) :
    Calls Try.prog 14 #[.int .i64 21, .int .i64 a, .int .i64 b] w fun e w' => e = .returned (.tuple #[.int .i64 (bits .or .i64 a b), .bool true]) ∧ Below w.heap.size w w' := by
  have h0 := field0; have h2 := wholeFun
  by_cases hb : b = 0
  · subst hb
    go_enter Try.func14, Try.ntmps14
    go_wp2_with (first | (go_at_call 20; refine (operationOf21 _).mono ?_; rintro e w' ⟨rfl, rfl⟩) | (go_at_call 45; refine (whole21 _ _ _).mono ?_; rintro e w' ⟨rfl, he⟩; subst he))
    go_ret2
    exact ⟨by first | rfl | simp, by repeat (first | exact Below.refl _ _ | refine Below.alloc ?_ (by simp) _)⟩
  · have hb' : (b == 0) = false := by simpa using hb
    clear hb
    go_enter Try.func14, Try.ntmps14
    go_wp2_with (first | (go_at_call 20; refine (operationOf21 _).mono ?_; rintro e w' ⟨rfl, rfl⟩) | (go_at_call 45; refine (whole21 _ _ _).mono ?_; rintro e w' ⟨rfl, he⟩; subst he))
    go_ret2
    exact ⟨rfl, by repeat (first | exact Below.refl _ _ | refine Below.alloc ?_ (by simp) _)⟩

theorem long22 (a b : Int) (w : World) :
    Calls Try.prog 14 #[.int .i64 22, .int .i64 a, .int .i64 b] w fun e w' => e = .returned (.tuple #[.int .i64 (bits .xor .i64 a b), .bool true]) ∧ Below w.heap.size w w' := by
  have h0 := field0; have h2 := wholeFun
  by_cases hb : b = 0
  · subst hb
    go_enter Try.func14, Try.ntmps14
    go_wp2_with (first | (go_at_call 20; refine (operationOf22 _).mono ?_; rintro e w' ⟨rfl, rfl⟩) | (go_at_call 46; refine (whole22 _ _ _).mono ?_; rintro e w' ⟨rfl, he⟩; subst he))
    go_ret2
    exact ⟨by first | rfl | simp, by repeat (first | exact Below.refl _ _ | refine Below.alloc ?_ (by simp) _)⟩
  · have hb' : (b == 0) = false := by simpa using hb
    clear hb
    go_enter Try.func14, Try.ntmps14
    go_wp2_with (first | (go_at_call 20; refine (operationOf22 _).mono ?_; rintro e w' ⟨rfl, rfl⟩) | (go_at_call 46; refine (whole22 _ _ _).mono ?_; rintro e w' ⟨rfl, he⟩; subst he))
    go_ret2
    exact ⟨rfl, by repeat (first | exact Below.refl _ _ | refine Below.alloc ?_ (by simp) _)⟩

theorem longNone (op a b : Int) (h : op < 11 ∨ 22 < op) (w : World) :
    Calls Try.prog 14 #[.int .i64 op, .int .i64 a, .int .i64 b] w fun e w' => e = .returned (.tuple #[.int .i64 0, .bool false]) ∧ Below w.heap.size w w' := by
  have h0 := field0; have h2 := wholeNil
  have hn := operationOfNone op h
  clear h
  go_enter Try.func14, Try.ntmps14
  go_wp2_with (first | (go_at_call 20; refine (hn _).mono ?_; rintro e w' ⟨rfl, rfl⟩))
  go_ret2
  exact ⟨rfl, by repeat (first | exact Below.refl _ _ | refine Below.alloc ?_ (by simp) _)⟩
end Go.Proofs.Ytgofchcbeiiieaa
