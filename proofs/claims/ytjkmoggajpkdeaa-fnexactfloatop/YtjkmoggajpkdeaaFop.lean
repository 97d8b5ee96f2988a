/- impl.FloatOp at every op: what it answers. -/
import Derived.Test.YtjkmoggajpkdeaaTable
import Derived.Test.YtjkmoggajpkdeaaTie2
import Derived.Laws.EntriesVeiled
namespace Go.Proofs.Ytjkmoggajpkdeaa
set_option linter.unusedVariables false
open Go.ChangeShapes Go.WideShapes Go.ChangeAt Go.RowKit
attribute [local irreducible] opTable

theorem field0 (x y : Value) (w : World) : (Instr.field 32 (.agg #[x, y]) 0).run Try.prog w = .ok x w := by kernel_rfl
theorem field1 (x y : Value) (w : World) : (Instr.field 32 (.agg #[x, y]) 1).run Try.prog w = .ok y w := by kernel_rfl
theorem floatNil (w : World) : (binOp .eql 30 .nilFunc .nilFunc).run Try.prog w = .ok (.bool true) w := by kernel_rfl
theorem floatFun (f : Fn) (x y : Array Value) (w : World) : (binOp .eql 30 (.func f x y) .nilFunc).run Try.prog w = .ok (.bool false) w := by kernel_rfl

theorem idx11 (w : World) : (Instr.index 45 (.agg opTable) (.int .i64 11)).run Try.prog w = .ok (.agg #[.func (.func 24) #[] #[], .func (.func 25) #[] #[]]) w := by kernel_rfl
theorem operationOf11 (w : World) :
    Calls Try.prog 10 #[.int .i64 11] w fun e w' => e = .returned (.agg #[.func (.func 24) #[] #[], .func (.func 25) #[] #[]]) ∧ w' = (w.alloc (.cells #[.func (.func 24) #[] #[], .func (.func 25) #[] #[]] 32)).alloc (.cells opTable 45) := by
  have hi := idx11
  go_enter Try.func10, Try.ntmps10
  go_wp2_with (go_at_call 19; refine (operations_calls _).mono ?_; rintro e w' ⟨rfl, rfl⟩)
  exact bodyPost_ret (v := .agg #[.func (.func 24) #[] #[], .func (.func 25) #[] #[]]) (results_cell_row rfl _ _ w.heap.size 32 _ (0, 0) _ rfl (heap_alloc2_old w _ _) Try.underlying32 rfl (by kernel_rfl)) rfl ⟨rfl, rfl⟩
theorem idx12 (w : World) : (Instr.index 45 (.agg opTable) (.int .i64 12)).run Try.prog w = .ok (.agg #[.func (.func 26) #[] #[], .func (.func 27) #[] #[]]) w := by kernel_rfl
theorem operationOf12 (w : World) :
    Calls Try.prog 10 #[.int .i64 12] w fun e w' => e = .returned (.agg #[.func (.func 26) #[] #[], .func (.func 27) #[] #[]]) ∧ w' = (w.alloc (.cells #[.func (.func 26) #[] #[], .func (.func 27) #[] #[]] 32)).alloc (.cells opTable 45) := by
  have hi := idx12
  go_enter Try.func10, Try.ntmps10
  go_wp2_with (go_at_call 19; refine (operations_calls _).mono ?_; rintro e w' ⟨rfl, rfl⟩)
  exact bodyPost_ret (v := .agg #[.func (.func 26) #[] #[], .func (.func 27) #[] #[]]) (results_cell_row rfl _ _ w.heap.size 32 _ (0, 0) _ rfl (heap_alloc2_old w _ _) Try.underlying32 rfl (by kernel_rfl)) rfl ⟨rfl, rfl⟩
theorem idx13 (w : World) : (Instr.index 45 (.agg opTable) (.int .i64 13)).run Try.prog w = .ok (.agg #[.func (.func 28) #[] #[], .func (.func 29) #[] #[]]) w := by kernel_rfl
theorem operationOf13 (w : World) :
    Calls Try.prog 10 #[.int .i64 13] w fun e w' => e = .returned (.agg #[.func (.func 28) #[] #[], .func (.func 29) #[] #[]]) ∧ w' = (w.alloc (.cells #[.func (.func 28) #[] #[], .func (.func 29) #[] #[]] 32)).alloc (.cells opTable 45) := by
  have hi := idx13
  go_enter Try.func10, Try.ntmps10
  go_wp2_with (go_at_call 19; refine (operations_calls _).mono ?_; rintro e w' ⟨rfl, rfl⟩)
  exact bodyPost_ret (v := .agg #[.func (.func 28) #[] #[], .func (.func 29) #[] #[]]) (results_cell_row rfl _ _ w.heap.size 32 _ (0, 0) _ rfl (heap_alloc2_old w _ _) Try.underlying32 rfl (by kernel_rfl)) rfl ⟨rfl, rfl⟩
theorem idx14 (w : World) : (Instr.index 45 (.agg opTable) (.int .i64 14)).run Try.prog w = .ok (.agg #[.func (.func 30) #[] #[], .func (.func 31) #[] #[]]) w := by kernel_rfl
theorem operationOf14 (w : World) :
    Calls Try.prog 10 #[.int .i64 14] w fun e w' => e = .returned (.agg #[.func (.func 30) #[] #[], .func (.func 31) #[] #[]]) ∧ w' = (w.alloc (.cells #[.func (.func 30) #[] #[], .func (.func 31) #[] #[]] 32)).alloc (.cells opTable 45) := by
  have hi := idx14
  go_enter Try.func10, Try.ntmps10
  go_wp2_with (go_at_call 19; refine (operations_calls _).mono ?_; rintro e w' ⟨rfl, rfl⟩)
  exact bodyPost_ret (v := .agg #[.func (.func 30) #[] #[], .func (.func 31) #[] #[]]) (results_cell_row rfl _ _ w.heap.size 32 _ (0, 0) _ rfl (heap_alloc2_old w _ _) Try.underlying32 rfl (by kernel_rfl)) rfl ⟨rfl, rfl⟩
theorem idx15 (w : World) : (Instr.index 45 (.agg opTable) (.int .i64 15)).run Try.prog w = .ok (.agg #[.func (.func 32) #[] #[], .nilFunc]) w := by kernel_rfl
theorem operationOf15 (w : World) :
    Calls Try.prog 10 #[.int .i64 15] w fun e w' => e = .returned (.agg #[.func (.func 32) #[] #[], .nilFunc]) ∧ w' = (w.alloc (.cells #[.func (.func 32) #[] #[], .nilFunc] 32)).alloc (.cells opTable 45) := by
  have hi := idx15
  go_enter Try.func10, Try.ntmps10
  go_wp2_with (go_at_call 19; refine (operations_calls _).mono ?_; rintro e w' ⟨rfl, rfl⟩)
  exact bodyPost_ret (v := .agg #[.func (.func 32) #[] #[], .nilFunc]) (results_cell_row rfl _ _ w.heap.size 32 _ (0, 0) _ rfl (heap_alloc2_old w _ _) Try.underlying32 rfl (by kernel_rfl)) rfl ⟨rfl, rfl⟩
theorem idx16 (w : World) : (Instr.index 45 (.agg opTable) (.int .i64 16)).run Try.prog w = .ok (.agg #[.func (.func 33) #[] #[], .func (.func 34) #[] #[]]) w := by kernel_rfl
theorem operationOf16 (w : World) :
    Calls Try.prog 10 #[.int .i64 16] w fun e w' => e = .returned (.agg #[.func (.func 33) #[] #[], .func (.func 34) #[] #[]]) ∧ w' = (w.alloc (.cells #[.func (.func 33) #[] #[], .func (.func 34) #[] #[]] 32)).alloc (.cells opTable 45) := by
  have hi := idx16
  go_enter Try.func10, Try.ntmps10
  go_wp2_with (go_at_call 19; refine (operations_calls _).mono ?_; rintro e w' ⟨rfl, rfl⟩)
  exact bodyPost_ret (v := .agg #[.func (.func 33) #[] #[], .func (.func 34) #[] #[]]) (results_cell_row rfl _ _ w.heap.size 32 _ (0, 0) _ rfl (heap_alloc2_old w _ _) Try.underlying32 rfl (by kernel_rfl)) rfl ⟨rfl, rfl⟩
theorem idx17 (w : World) : (Instr.index 45 (.agg opTable) (.int .i64 17)).run Try.prog w = .ok (.agg #[.func (.func 35) #[] #[], .nilFunc]) w := by kernel_rfl
theorem operationOf17 (w : World) :
    Calls Try.prog 10 #[.int .i64 17] w fun e w' => e = .returned (.agg #[.func (.func 35) #[] #[], .nilFunc]) ∧ w' = (w.alloc (.cells #[.func (.func 35) #[] #[], .nilFunc] 32)).alloc (.cells opTable 45) := by
  have hi := idx17
  go_enter Try.func10, Try.ntmps10
  go_wp2_with (go_at_call 19; refine (operations_calls _).mono ?_; rintro e w' ⟨rfl, rfl⟩)
  exact bodyPost_ret (v := .agg #[.func (.func 35) #[] #[], .nilFunc]) (results_cell_row rfl _ _ w.heap.size 32 _ (0, 0) _ rfl (heap_alloc2_old w _ _) Try.underlying32 rfl (by kernel_rfl)) rfl ⟨rfl, rfl⟩
theorem idx18 (w : World) : (Instr.index 45 (.agg opTable) (.int .i64 18)).run Try.prog w = .ok (.agg #[.func (.func 36) #[] #[], .nilFunc]) w := by kernel_rfl
theorem operationOf18 (w : World) :
    Calls Try.prog 10 #[.int .i64 18] w fun e w' => e = .returned (.agg #[.func (.func 36) #[] #[], .nilFunc]) ∧ w' = (w.alloc (.cells #[.func (.func 36) #[] #[], .nilFunc] 32)).alloc (.cells opTable 45) := by
  have hi := idx18
  go_enter Try.func10, Try.ntmps10
  go_wp2_with (go_at_call 19; refine (operations_calls _).mono ?_; rintro e w' ⟨rfl, rfl⟩)
  exact bodyPost_ret (v := .agg #[.func (.func 36) #[] #[], .nilFunc]) (results_cell_row rfl _ _ w.heap.size 32 _ (0, 0) _ rfl (heap_alloc2_old w _ _) Try.underlying32 rfl (by kernel_rfl)) rfl ⟨rfl, rfl⟩
theorem idx19 (w : World) : (Instr.index 45 (.agg opTable) (.int .i64 19)).run Try.prog w = .ok (.agg #[.func (.func 37) #[] #[], .nilFunc]) w := by kernel_rfl
theorem operationOf19 (w : World) :
    Calls Try.prog 10 #[.int .i64 19] w fun e w' => e = .returned (.agg #[.func (.func 37) #[] #[], .nilFunc]) ∧ w' = (w.alloc (.cells #[.func (.func 37) #[] #[], .nilFunc] 32)).alloc (.cells opTable 45) := by
  have hi := idx19
  go_enter Try.func10, Try.ntmps10
  go_wp2_with (go_at_call 19; refine (operations_calls _).mono ?_; rintro e w' ⟨rfl, rfl⟩)
  exact bodyPost_ret (v := .agg #[.func (.func 37) #[] #[], .nilFunc]) (results_cell_row rfl _ _ w.heap.size 32 _ (0, 0) _ rfl (heap_alloc2_old w _ _) Try.underlying32 rfl (by kernel_rfl)) rfl ⟨rfl, rfl⟩
theorem idx20 (w : World) : (Instr.index 45 (.agg opTable) (.int .i64 20)).run Try.prog w = .ok (.agg #[.func (.func 38) #[] #[], .nilFunc]) w := by kernel_rfl
theorem operationOf20 (w : World) :
    Calls Try.prog 10 #[.int .i64 20] w fun e w' => e = .returned (.agg #[.func (.func 38) #[] #[], .nilFunc]) ∧ w' = (w.alloc (.cells #[.func (.func 38) #[] #[], .nilFunc] 32)).alloc (.cells opTable 45) := by
  have hi := idx20
  go_enter Try.func10, Try.ntmps10
  go_wp2_with (go_at_call 19; refine (operations_calls _).mono ?_; rintro e w' ⟨rfl, rfl⟩)
  exact bodyPost_ret (v := .agg #[.func (.func 38) #[] #[], .nilFunc]) (results_cell_row rfl _ _ w.heap.size 32 _ (0, 0) _ rfl (heap_alloc2_old w _ _) Try.underlying32 rfl (by kernel_rfl)) rfl ⟨rfl, rfl⟩
theorem idx21 (w : World) : (Instr.index 45 (.agg opTable) (.int .i64 21)).run Try.prog w = .ok (.agg #[.func (.func 39) #[] #[], .nilFunc]) w := by kernel_rfl
theorem operationOf21 (w : World) :
    Calls Try.prog 10 #[.int .i64 21] w fun e w' => e = .returned (.agg #[.func (.func 39) #[] #[], .nilFunc]) ∧ w' = (w.alloc (.cells #[.func (.func 39) #[] #[], .nilFunc] 32)).alloc (.cells opTable 45) := by
  have hi := idx21
  go_enter Try.func10, Try.ntmps10
  go_wp2_with (go_at_call 19; refine (operations_calls _).mono ?_; rintro e w' ⟨rfl, rfl⟩)
  exact bodyPost_ret (v := .agg #[.func (.func 39) #[] #[], .nilFunc]) (results_cell_row rfl _ _ w.heap.size 32 _ (0, 0) _ rfl (heap_alloc2_old w _ _) Try.underlying32 rfl (by kernel_rfl)) rfl ⟨rfl, rfl⟩
theorem idx22 (w : World) : (Instr.index 45 (.agg opTable) (.int .i64 22)).run Try.prog w = .ok (.agg #[.func (.func 40) #[] #[], .nilFunc]) w := by kernel_rfl
theorem operationOf22 (w : World) :
    Calls Try.prog 10 #[.int .i64 22] w fun e w' => e = .returned (.agg #[.func (.func 40) #[] #[], .nilFunc]) ∧ w' = (w.alloc (.cells #[.func (.func 40) #[] #[], .nilFunc] 32)).alloc (.cells opTable 45) := by
  have hi := idx22
  go_enter Try.func10, Try.ntmps10
  go_wp2_with (go_at_call 19; refine (operations_calls _).mono ?_; rintro e w' ⟨rfl, rfl⟩)
  exact bodyPost_ret (v := .agg #[.func (.func 40) #[] #[], .nilFunc]) (results_cell_row rfl _ _ w.heap.size 32 _ (0, 0) _ rfl (heap_alloc2_old w _ _) Try.underlying32 rfl (by kernel_rfl)) rfl ⟨rfl, rfl⟩
theorem operationOfNone (op : Int) (h : op < 11 ∨ 22 < op) (w : World) :
    Calls Try.prog 10 #[.int .i64 op] w fun e w' => e = .returned (.agg #[.nilFunc, .nilFunc]) ∧ w' = w.alloc (.cells #[.nilFunc, .nilFunc] 32) := by
  by_cases h1 : op < 11
  · clear h
    go_enter Try.func10, Try.ntmps10
    go_wp2
    exact bodyPost_ret (v := .agg #[.nilFunc, .nilFunc]) (results_cell_row rfl _ _ w.heap.size 32 _ (0, 0) _ rfl (heap_alloc_last w _) Try.underlying32 rfl (by kernel_rfl)) rfl ⟨rfl, rfl⟩
  · have h2 : 22 < op := by omega
    clear h
    go_enter Try.func10, Try.ntmps10
    go_wp2
    exact bodyPost_ret (v := .agg #[.nilFunc, .nilFunc]) (results_cell_row rfl _ _ w.heap.size 32 _ (0, 0) _ rfl (heap_alloc_last w _) Try.underlying32 rfl (by kernel_rfl)) rfl ⟨rfl, rfl⟩

theorem float64frombits (n : Int) (w : World) : (callFunc 22 #[.int .u64 n]).run Try.prog w = .ok (.value (.float .f64 n.toNat)) w := by kernel_rfl
theorem floatOf_calls (n : Int) (w : World) : Calls Try.prog 12 #[.int .i64 n] w fun e w' => e = .returned (.float .f64 (IntKind.u64.wrap n).toNat) ∧ w' = w := by
  have hx := float64frombits
  go_enter Try.func12, Try.ntmps12
  go_wp2
  go_ret
  exact ⟨rfl, rfl⟩
theorem float64bits (b : Nat) (w : World) : (callFunc 21 #[.float .f64 b]).run Try.prog w = .ok (.value (.int .u64 b)) w := by kernel_rfl
theorem isNaN_calls (b : Nat) (w : World) : Calls Try.prog 20 #[.float .f64 b] w fun e w' => e = .returned (.bool (FloatKind.f64.format.order b b != some .eq)) ∧ w' = w := by
  go_enter Try.func20, Try.ntmps20
  go_wp2
  go_ret
  exact ⟨rfl, rfl⟩
theorem bitsOf_num (b : Nat) (h : FloatKind.f64.format.order b b = some .eq) (w : World) : Calls Try.prog 11 #[.float .f64 b] w fun e w' => e = .returned (.int .i64 (wrap64 b)) ∧ w' = w := by
  have hx := float64bits
  go_enter Try.func11, Try.ntmps11
  go_wp2_with (go_at_call 20; refine (isNaN_calls _ _).mono ?_; rintro e w' ⟨rfl, he⟩; subst he)
  go_ret
  exact ⟨rfl, rfl⟩
theorem bitsOf_nan (b : Nat) (h : FloatKind.f64.format.order b b = none) (w : World) : Calls Try.prog 11 #[.float .f64 b] w fun e w' => e = .returned (.int .i64 9221120237041090560) ∧ w' = w := by
  have hx := float64bits
  go_enter Try.func11, Try.ntmps11
  go_wp2_with (go_at_call 20; refine (isNaN_calls _ _).mono ?_; rintro e w' ⟨rfl, he⟩; subst he)
  go_ret
  exact ⟨rfl, rfl⟩
theorem nan_cut (x y t : Nat) : FloatKind.f64.format.order ((Question.nanBits .f64 x y).cut t) ((Question.nanBits .f64 x y).cut t) = none := by
  have hc : (Question.nanBits .f64 x y).cut t = t % 2 * 9223372036854775808 + 9218868437227405312 + 1 + t / 2 % 4503599627370495 := rfl
  rw [hc]
  have hk : t / 2 % 4503599627370495 < 4503599627370495 := Nat.mod_lt _ (by decide)
  generalize t / 2 % 4503599627370495 = k at *
  have hw : t % 2 * 9223372036854775808 + 9218868437227405312 + 1 + k = Ieee.double.word (decide (t % 2 = 1)) (9218868437227405313 + k) := by
    unfold Ieee.Format.word
    rw [sign_d]
    rcases Nat.mod_two_eq_zero_or_one t with h | h
    · rw [h]; simp <;> omega
    · rw [h]; simp <;> omega
  rw [hw]
  show (Ieee.double.read _).order (Ieee.double.read _) = none
  rw [read_nan _ _ (by omega) (by omega)]
  rfl
theorem addBase (x y : Nat) (w : World) : (binOp .add 35 (.float .f64 x) (.float .f64 y)).run Try.prog w = (Op.floatArith .add .f64 x y).run Try.prog w := by kernel_rfl
theorem addSome (x y r : Nat) (h : FloatKind.f64.format.add x y = some r) (w : World) : Calls Try.prog 25 #[.float .f64 x, .float .f64 y] w fun e w' => e = .returned (.float .f64 r) ∧ Grown w w' := by
  have hr : ∀ w, (binOp .add 35 (.float .f64 x) (.float .f64 y)).run Try.prog w = .ok (.float .f64 r) w := fun w => by
    rw [addBase]; unfold Op.floatArith; simp only [h]; rfl
  clear h
  go_enter Try.func25, Try.ntmps25
  go_wp2
  go_ret
  exact ⟨rfl, Grown.refl _⟩
theorem addNone (x y : Nat) (h : FloatKind.f64.format.add x y = none) (w : World) : Calls Try.prog 25 #[.float .f64 x, .float .f64 y] w fun e w' => (∃ b, e = .returned (.float .f64 b) ∧ FloatKind.f64.format.order b b = none) ∧ Grown w w' := by
  have hr : ∀ w, (binOp .add 35 (.float .f64 x) (.float .f64 y)).run Try.prog w = .ok (.float .f64 ((Question.nanBits .f64 x y).cut (w.tape w.drawn (.nanBits .f64 x y)))) w.drew := fun w => by
    rw [addBase]; unfold Op.floatArith; simp only [h]; rfl
  have hn : Hid (FloatKind.f64.format.order ((Question.nanBits .f64 x y).cut (w.tape w.drawn (.nanBits .f64 x y))) ((Question.nanBits .f64 x y).cut (w.tape w.drawn (.nanBits .f64 x y))) = none) := nan_cut x y _
  clear h
  go_enter Try.func25, Try.ntmps25
  go_wp2
  go_ret
  exact ⟨⟨_, rfl, hn.out⟩, Grown.drew (Grown.refl _)⟩
theorem subBase (x y : Nat) (w : World) : (binOp .sub 35 (.float .f64 x) (.float .f64 y)).run Try.prog w = (Op.floatArith .sub .f64 x y).run Try.prog w := by kernel_rfl
theorem subSome (x y r : Nat) (h : FloatKind.f64.format.sub x y = some r) (w : World) : Calls Try.prog 27 #[.float .f64 x, .float .f64 y] w fun e w' => e = .returned (.float .f64 r) ∧ Grown w w' := by
  have hr : ∀ w, (binOp .sub 35 (.float .f64 x) (.float .f64 y)).run Try.prog w = .ok (.float .f64 r) w := fun w => by
    rw [subBase]; unfold Op.floatArith; simp only [h]; rfl
  clear h
  go_enter Try.func27, Try.ntmps27
  go_wp2
  go_ret
  exact ⟨rfl, Grown.refl _⟩
theorem subNone (x y : Nat) (h : FloatKind.f64.format.sub x y = none) (w : World) : Calls Try.prog 27 #[.float .f64 x, .float .f64 y] w fun e w' => (∃ b, e = .returned (.float .f64 b) ∧ FloatKind.f64.format.order b b = none) ∧ Grown w w' := by
  have hr : ∀ w, (binOp .sub 35 (.float .f64 x) (.float .f64 y)).run Try.prog w = .ok (.float .f64 ((Question.nanBits .f64 x y).cut (w.tape w.drawn (.nanBits .f64 x y)))) w.drew := fun w => by
    rw [subBase]; unfold Op.floatArith; simp only [h]; rfl
  have hn : Hid (FloatKind.f64.format.order ((Question.nanBits .f64 x y).cut (w.tape w.drawn (.nanBits .f64 x y))) ((Question.nanBits .f64 x y).cut (w.tape w.drawn (.nanBits .f64 x y))) = none) := nan_cut x y _
  clear h
  go_enter Try.func27, Try.ntmps27
  go_wp2
  go_ret
  exact ⟨⟨_, rfl, hn.out⟩, Grown.drew (Grown.refl _)⟩
theorem mulBase (x y : Nat) (w : World) : (binOp .mul 35 (.float .f64 x) (.float .f64 y)).run Try.prog w = (Op.floatArith .mul .f64 x y).run Try.prog w := by kernel_rfl
theorem mulSome (x y r : Nat) (h : FloatKind.f64.format.mul x y = some r) (w : World) : Calls Try.prog 29 #[.float .f64 x, .float .f64 y] w fun e w' => e = .returned (.float .f64 r) ∧ Grown w w' := by
  have hr : ∀ w, (binOp .mul 35 (.float .f64 x) (.float .f64 y)).run Try.prog w = .ok (.float .f64 r) w := fun w => by
    rw [mulBase]; unfold Op.floatArith; simp only [h]; rfl
  clear h
  go_enter Try.func29, Try.ntmps29
  go_wp2
  go_ret
  exact ⟨rfl, Grown.refl _⟩
theorem mulNone (x y : Nat) (h : FloatKind.f64.format.mul x y = none) (w : World) : Calls Try.prog 29 #[.float .f64 x, .float .f64 y] w fun e w' => (∃ b, e = .returned (.float .f64 b) ∧ FloatKind.f64.format.order b b = none) ∧ Grown w w' := by
  have hr : ∀ w, (binOp .mul 35 (.float .f64 x) (.float .f64 y)).run Try.prog w = .ok (.float .f64 ((Question.nanBits .f64 x y).cut (w.tape w.drawn (.nanBits .f64 x y)))) w.drew := fun w => by
    rw [mulBase]; unfold Op.floatArith; simp only [h]; rfl
  have hn : Hid (FloatKind.f64.format.order ((Question.nanBits .f64 x y).cut (w.tape w.drawn (.nanBits .f64 x y))) ((Question.nanBits .f64 x y).cut (w.tape w.drawn (.nanBits .f64 x y))) = none) := nan_cut x y _
  clear h
  go_enter Try.func29, Try.ntmps29
  go_wp2
  go_ret
  exact ⟨⟨_, rfl, hn.out⟩, Grown.drew (Grown.refl _)⟩
theorem divBase (x y : Nat) (w : World) : (binOp .quo 35 (.float .f64 x) (.float .f64 y)).run Try.prog w = (Op.floatArith .quo .f64 x y).run Try.prog w := by kernel_rfl
theorem divSome (x y r : Nat) (h : FloatKind.f64.format.div x y = some r) (w : World) : Calls Try.prog 31 #[.float .f64 x, .float .f64 y] w fun e w' => e = .returned (.float .f64 r) ∧ Grown w w' := by
  have hr : ∀ w, (binOp .quo 35 (.float .f64 x) (.float .f64 y)).run Try.prog w = .ok (.float .f64 r) w := fun w => by
    rw [divBase]; unfold Op.floatArith; simp only [h]; rfl
  clear h
  go_enter Try.func31, Try.ntmps31
  go_wp2
  go_ret
  exact ⟨rfl, Grown.refl _⟩
theorem divNone (x y : Nat) (h : FloatKind.f64.format.div x y = none) (w : World) : Calls Try.prog 31 #[.float .f64 x, .float .f64 y] w fun e w' => (∃ b, e = .returned (.float .f64 b) ∧ FloatKind.f64.format.order b b = none) ∧ Grown w w' := by
  have hr : ∀ w, (binOp .quo 35 (.float .f64 x) (.float .f64 y)).run Try.prog w = .ok (.float .f64 ((Question.nanBits .f64 x y).cut (w.tape w.drawn (.nanBits .f64 x y)))) w.drew := fun w => by
    rw [divBase]; unfold Op.floatArith; simp only [h]; rfl
  have hn : Hid (FloatKind.f64.format.order ((Question.nanBits .f64 x y).cut (w.tape w.drawn (.nanBits .f64 x y))) ((Question.nanBits .f64 x y).cut (w.tape w.drawn (.nanBits .f64 x y))) = none) := nan_cut x y _
  clear h
  go_enter Try.func31, Try.ntmps31
  go_wp2
  go_ret
  exact ⟨⟨_, rfl, hn.out⟩, Grown.drew (Grown.refl _)⟩
theorem grown_trans {a b c : World} (h : Grown a b) (g : Grown b c) : Grown a c :=
  ⟨World.keptBut_trans h.1 g.1, fun i => (g.2.1 i).trans (h.2.1 i), Nat.le_trans h.2.2 g.2.2⟩
theorem fop11Some (a b : Int) (r : Nat) (h : FloatKind.f64.format.add (IntKind.u64.wrap a).toNat (IntKind.u64.wrap b).toNat = some r) (ho : FloatKind.f64.format.order r r = some .eq) (w : World) :
    Calls Try.prog 5 #[.int .i64 11, .int .i64 a, .int .i64 b] w fun e w' => e = .returned (.tuple #[.int .i64 (wrap64 r), .bool true]) ∧ Grown w w' := by
  have h1 := field1; have h2 := floatFun
  have hH : Hid (FloatKind.f64.format.add (IntKind.u64.wrap a).toNat (IntKind.u64.wrap b).toNat = some r) := h
  have hoH : Hid (FloatKind.f64.format.order r r = some .eq) := ho
  clear h ho
  go_enter Try.func5, Try.ntmps5
  go_wp2_with (first | (go_at_call 10; refine (operationOf11 _).mono ?_; rintro e w' ⟨rfl, rfl⟩) | (go_at_call 12; refine (floatOf_calls _ _).mono ?_; rintro e w' ⟨rfl, he⟩; subst w') | (go_at_call 25; refine (addSome _ _ r hH.out _).mono ?_; rintro e w1 ⟨rfl, hg⟩) | (go_at_call 11; refine (bitsOf_num r hoH.out _).mono ?_; rintro e w2 ⟨rfl, he⟩; subst w2))
  go_ret2
  exact ⟨rfl, grown_trans (((Grown.refl _).alloc _ _).alloc _ _) hg⟩
theorem fop11None (a b : Int) (h : FloatKind.f64.format.add (IntKind.u64.wrap a).toNat (IntKind.u64.wrap b).toNat = none) (w : World) :
    Calls Try.prog 5 #[.int .i64 11, .int .i64 a, .int .i64 b] w fun e w' => e = .returned (.tuple #[.int .i64 9221120237041090560, .bool true]) ∧ Grown w w' := by
  have h1 := field1; have h2 := floatFun
  have hH : Hid (FloatKind.f64.format.add (IntKind.u64.wrap a).toNat (IntKind.u64.wrap b).toNat = none) := h
  clear h
  go_enter Try.func5, Try.ntmps5
  go_wp2_with (first | (go_at_call 10; refine (operationOf11 _).mono ?_; rintro e w' ⟨rfl, rfl⟩) | (go_at_call 12; refine (floatOf_calls _ _).mono ?_; rintro e w' ⟨rfl, he⟩; subst w') | (go_at_call 25; refine (addNone _ _ hH.out _).mono ?_; rintro e w1 ⟨⟨q, rfl, hq⟩, hg⟩) | (go_at_call 11; refine (bitsOf_nan _ hq _).mono ?_; rintro e w2 ⟨rfl, he⟩; subst w2))
  go_ret2
  exact ⟨rfl, grown_trans (((Grown.refl _).alloc _ _).alloc _ _) hg⟩
theorem fop12Some (a b : Int) (r : Nat) (h : FloatKind.f64.format.sub (IntKind.u64.wrap a).toNat (IntKind.u64.wrap b).toNat = some r) (ho : FloatKind.f64.format.order r r = some .eq) (w : World) :
    Calls Try.prog 5 #[.int .i64 12, .int .i64 a, .int .i64 b] w fun e w' => e = .returned (.tuple #[.int .i64 (wrap64 r), .bool true]) ∧ Grown w w' := by
  have h1 := field1; have h2 := floatFun
  have hH : Hid (FloatKind.f64.format.sub (IntKind.u64.wrap a).toNat (IntKind.u64.wrap b).toNat = some r) := h
  have hoH : Hid (FloatKind.f64.format.order r r = some .eq) := ho
  clear h ho
  go_enter Try.func5, Try.ntmps5
  go_wp2_with (first | (go_at_call 10; refine (operationOf12 _).mono ?_; rintro e w' ⟨rfl, rfl⟩) | (go_at_call 12; refine (floatOf_calls _ _).mono ?_; rintro e w' ⟨rfl, he⟩; subst w') | (go_at_call 27; refine (subSome _ _ r hH.out _).mono ?_; rintro e w1 ⟨rfl, hg⟩) | (go_at_call 11; refine (bitsOf_num r hoH.out _).mono ?_; rintro e w2 ⟨rfl, he⟩; subst w2))
  go_ret2
  exact ⟨rfl, grown_trans (((Grown.refl _).alloc _ _).alloc _ _) hg⟩
theorem fop12None (a b : Int) (h : FloatKind.f64.format.sub (IntKind.u64.wrap a).toNat (IntKind.u64.wrap b).toNat = none) (w : World) :
    Calls Try.prog 5 #[.int .i64 12, .int .i64 a, .int .i64 b] w fun e w' => e = .returned (.tuple #[.int .i64 9221120237041090560, .bool true]) ∧ Grown w w' := by
  have h1 := field1; have h2 := floatFun
  have hH : Hid (FloatKind.f64.format.sub (IntKind.u64.wrap a).toNat (IntKind.u64.wrap b).toNat = none) := h
  clear h
  go_enter Try.func5, Try.ntmps5
  go_wp2_with (first | (go_at_call 10; refine (operationOf12 _).mono ?_; rintro e w' ⟨rfl, rfl⟩) | (go_at_call 12; refine (floatOf_calls _ _).mono ?_; rintro e w' ⟨rfl, he⟩; subst w') | (go_at_call 27; refine (subNone _ _ hH.out _).mono ?_; rintro e w1 ⟨⟨q, rfl, hq⟩, hg⟩) | (go_at_call 11; refine (bitsOf_nan _ hq _).mono ?_; rintro e w2 ⟨rfl, he⟩; subst w2))
  go_ret2
  exact ⟨rfl, grown_trans (((Grown.refl _).alloc _ _).alloc _ _) hg⟩
theorem fop13Some (a b : Int) (r : Nat) (h : FloatKind.f64.format.mul (IntKind.u64.wrap a).toNat (IntKind.u64.wrap b).toNat = some r) (ho : FloatKind.f64.format.order r r = some .eq) (w : World) :
    Calls Try.prog 5 #[.int .i64 13, .int .i64 a, .int .i64 b] w fun e w' => e = .returned (.tuple #[.int .i64 (wrap64 r), .bool true]) ∧ Grown w w' := by
  have h1 := field1; have h2 := floatFun
  have hH : Hid (FloatKind.f64.format.mul (IntKind.u64.wrap a).toNat (IntKind.u64.wrap b).toNat = some r) := h
  have hoH : Hid (FloatKind.f64.format.order r r = some .eq) := ho
  clear h ho
  go_enter Try.func5, Try.ntmps5
  go_wp2_with (first | (go_at_call 10; refine (operationOf13 _).mono ?_; rintro e w' ⟨rfl, rfl⟩) | (go_at_call 12; refine (floatOf_calls _ _).mono ?_; rintro e w' ⟨rfl, he⟩; subst w') | (go_at_call 29; refine (mulSome _ _ r hH.out _).mono ?_; rintro e w1 ⟨rfl, hg⟩) | (go_at_call 11; refine (bitsOf_num r hoH.out _).mono ?_; rintro e w2 ⟨rfl, he⟩; subst w2))
  go_ret2
  exact ⟨rfl, grown_trans (((Grown.refl _).alloc _ _).alloc _ _) hg⟩
theorem fop13None (a b : Int) (h : FloatKind.f64.format.mul (IntKind.u64.wrap a).toNat (IntKind.u64.wrap b).toNat = none) (w : World) :
    Calls Try.prog 5 #[.int .i64 13, .int .i64 a, .int .i64 b] w fun e w' => e = .returned (.tuple #[.int .i64 9221120237041090560, .bool true]) ∧ Grown w w' := by
  have h1 := field1; have h2 := floatFun
  have hH : Hid (FloatKind.f64.format.mul (IntKind.u64.wrap a).toNat (IntKind.u64.wrap b).toNat = none) := h
  clear h
  go_enter Try.func5, Try.ntmps5
  go_wp2_with (first | (go_at_call 10; refine (operationOf13 _).mono ?_; rintro e w' ⟨rfl, rfl⟩) | (go_at_call 12; refine (floatOf_calls _ _).mono ?_; rintro e w' ⟨rfl, he⟩; subst w') | (go_at_call 29; refine (mulNone _ _ hH.out _).mono ?_; rintro e w1 ⟨⟨q, rfl, hq⟩, hg⟩) | (go_at_call 11; refine (bitsOf_nan _ hq _).mono ?_; rintro e w2 ⟨rfl, he⟩; subst w2))
  go_ret2
  exact ⟨rfl, grown_trans (((Grown.refl _).alloc _ _).alloc _ _) hg⟩
theorem fop14Some (a b : Int) (r : Nat) (h : FloatKind.f64.format.div (IntKind.u64.wrap a).toNat (IntKind.u64.wrap b).toNat = some r) (ho : FloatKind.f64.format.order r r = some .eq) (w : World) :
    Calls Try.prog 5 #[.int .i64 14, .int .i64 a, .int .i64 b] w fun e w' => e = .returned (.tuple #[.int .i64 (wrap64 r), .bool true]) ∧ Grown w w' := by
  have h1 := field1; have h2 := floatFun
  have hH : Hid (FloatKind.f64.format.div (IntKind.u64.wrap a).toNat (IntKind.u64.wrap b).toNat = some r) := h
  have hoH : Hid (FloatKind.f64.format.order r r = some .eq) := ho
  clear h ho
  go_enter Try.func5, Try.ntmps5
  go_wp2_with (first | (go_at_call 10; refine (operationOf14 _).mono ?_; rintro e w' ⟨rfl, rfl⟩) | (go_at_call 12; refine (floatOf_calls _ _).mono ?_; rintro e w' ⟨rfl, he⟩; subst w') | (go_at_call 31; refine (divSome _ _ r hH.out _).mono ?_; rintro e w1 ⟨rfl, hg⟩) | (go_at_call 11; refine (bitsOf_num r hoH.out _).mono ?_; rintro e w2 ⟨rfl, he⟩; subst w2))
  go_ret2
  exact ⟨rfl, grown_trans (((Grown.refl _).alloc _ _).alloc _ _) hg⟩
theorem fop14None (a b : Int) (h : FloatKind.f64.format.div (IntKind.u64.wrap a).toNat (IntKind.u64.wrap b).toNat = none) (w : World) :
    Calls Try.prog 5 #[.int .i64 14, .int .i64 a, .int .i64 b] w fun e w' => e = .returned (.tuple #[.int .i64 9221120237041090560, .bool true]) ∧ Grown w w' := by
  have h1 := field1; have h2 := floatFun
  have hH : Hid (FloatKind.f64.format.div (IntKind.u64.wrap a).toNat (IntKind.u64.wrap b).toNat = none) := h
  clear h
  go_enter Try.func5, Try.ntmps5
  go_wp2_with (first | (go_at_call 10; refine (operationOf14 _).mono ?_; rintro e w' ⟨rfl, rfl⟩) | (go_at_call 12; refine (floatOf_calls _ _).mono ?_; rintro e w' ⟨rfl, he⟩; subst w') | (go_at_call 31; refine (divNone _ _ hH.out _).mono ?_; rintro e w1 ⟨⟨q, rfl, hq⟩, hg⟩) | (go_at_call 11; refine (bitsOf_nan _ hq _).mono ?_; rintro e w2 ⟨rfl, he⟩; subst w2))
  go_ret2
  exact ⟨rfl, grown_trans (((Grown.refl _).alloc _ _).alloc _ _) hg⟩
end Go.Proofs.Ytjkmoggajpkdeaa
