/- impl.Wrap, impl.IntOp and laws.both: what they answer. -/
import Derived.Test.YtgofchcbeiiieaaBoth
namespace Go.Proofs.Ytgofchcbeiiieaa
open Go.ChangeShapes Go.WideShapes Go.ChangeAt Go.RowKit

theorem wrap64_32 (n : Int) : wrap64 (wrap32 n) = wrap32 n :=
  wrap64_id _ (by have := wrap32_in n; omega) (by have := wrap32_in n; omega)

theorem implWrap (n : Int) (w : World) :
    Calls Try.prog 10 #[.int .i64 n] w fun e w' => e = .returned (.int .i64 (wrap32 n)) ∧ w' = w := by
  go_enter Try.func10, Try.ntmps10
  go_wp2
  go_ret
  exact ⟨by simp [wrap64_32], rfl⟩

/-- What the operations of 32 bits that always answer give. -/
def intVal (op a b : Int) : Int :=
  if op = 19 then wrap32 (ushr64 (wrap32 a % 4294967296) (wrap32 b % 32)) else if op = 17 then wrap32 (shl64 (wrap32 a) (wrap32 b % 32)) else if op = 18 then wrap32 (shr64 (wrap32 a) (wrap32 b % 32)) else wrap32 (longVal op (wrap32 a) (wrap32 b))

theorem int17 (a b : Int) (w : World) :
    Calls Try.prog 13 #[.int .i64 17, .int .i64 a, .int .i64 b] w fun e w' => e = .returned (.tuple #[.int .i64 (wrap32 (shl64 (wrap32 a) (wrap32 b % 32))), .bool true]) ∧ Below w.heap.size w w' := by
  have hb := and31 (wrap32 b)
  go_enter Try.func13, Try.ntmps13
  go_wp2_with (first | (go_at_call 10; refine (implWrap _ _).mono ?_; rintro e w' ⟨rfl, he⟩; subst he) | (go_at_call 14; refine (long17 _ _ _).mono ?_; rintro e w' ⟨rfl, hg⟩))
  go_ret2
  exact ⟨rfl, by assumption⟩
theorem int18 (a b : Int) (w : World) :
    Calls Try.prog 13 #[.int .i64 18, .int .i64 a, .int .i64 b] w fun e w' => e = .returned (.tuple #[.int .i64 (wrap32 (shr64 (wrap32 a) (wrap32 b % 32))), .bool true]) ∧ Below w.heap.size w w' := by
  have hb := and31 (wrap32 b)
  go_enter Try.func13, Try.ntmps13
  go_wp2_with (first | (go_at_call 10; refine (implWrap _ _).mono ?_; rintro e w' ⟨rfl, he⟩; subst he) | (go_at_call 14; refine (long18 _ _ _).mono ?_; rintro e w' ⟨rfl, hg⟩))
  go_ret2
  exact ⟨rfl, by assumption⟩
theorem int19 (a b : Int) (w : World) :
    Calls Try.prog 13 #[.int .i64 19, .int .i64 a, .int .i64 b] w fun e w' => e = .returned (.tuple #[.int .i64 (wrap32 (ushr64 (wrap32 a % 4294967296) (wrap32 b % 32))), .bool true]) ∧ Below w.heap.size w w' := by
  have hb := and31 (wrap32 b)
  go_enter Try.func13, Try.ntmps13
  go_wp2_with (first | (go_at_call 10; refine (implWrap _ _).mono ?_; rintro e w' ⟨rfl, he⟩; subst he) | (go_at_call 14; refine (long19 _ _ _).mono ?_; rintro e w' ⟨rfl, hg⟩))
  go_ret2
  exact ⟨rfl, by assumption⟩

/-- Where the op is no shift: the number of 64 bits, wrapped. -/
theorem int_other (op a b r : Int) (ok : Bool) (h17 : (op == 17) = false) (h18 : (op == 18) = false) (h19 : (op == 19) = false)
    (h : ∀ w, Calls Try.prog 14 #[.int .i64 op, .int .i64 (wrap32 a), .int .i64 (wrap32 b)] w fun e w' => e = .returned (.tuple #[.int .i64 r, .bool ok]) ∧ Below w.heap.size w w') (w : World) :
    Calls Try.prog 13 #[.int .i64 op, .int .i64 a, .int .i64 b] w fun e w' => e = .returned (.tuple #[.int .i64 (wrap32 r), .bool ok]) ∧ Below w.heap.size w w' := by
  go_enter Try.func13, Try.ntmps13
  go_wp2_with (first | (go_at_call 10; refine (implWrap _ _).mono ?_; rintro e w' ⟨rfl, he⟩; subst he) | (go_at_call 14; refine (h _).mono ?_; rintro e w' ⟨rfl, hg⟩))
  go_ret2
  exact ⟨rfl, by assumption⟩

theorem intVal_calls (op a b : Int) (h : always op = true) (w : World) :
    Calls Try.prog 13 #[.int .i64 op, .int .i64 a, .int .i64 b] w fun e w' => e = .returned (.tuple #[.int .i64 (intVal op a b), .bool true]) ∧ Below w.heap.size w w' := by
  by_cases h19 : op = 19
  · subst h19; exact int19 a b w
  by_cases h17 : op = 17
  · subst h17; exact int17 a b w
  by_cases h18 : op = 18
  · subst h18; exact int18 a b w
  have e : intVal op a b = wrap32 (longVal op (wrap32 a) (wrap32 b)) := by
    unfold intVal; rw [if_neg h19, if_neg h17, if_neg h18]
  rw [e]
  exact int_other op a b _ true (by simpa using h17) (by simpa using h18) (by simpa using h19) (longVal_calls op _ _ h) w

/-- laws.both hands on the number of impl.IntOp. -/
theorem both_at {op a b r : Int} {ok : Bool} (h : ∀ w, Calls Try.prog 13 #[.int .i64 op, .int .i64 a, .int .i64 b] w fun e w' => e = .returned (.tuple #[.int .i64 r, .bool ok]) ∧ Below w.heap.size w w') {W w : World} (hw : Below W.heap.size W w) :
    Calls Try.prog 8 #[.int .i64 op, .int .i64 a, .int .i64 b] w fun e w' => e = .returned (.int .i64 r) ∧ Below W.heap.size W w' := by
  go_enter Try.func8, Try.ntmps8
  go_wp2_with (go_at_call 13; refine (h _).mono ?_; rintro e w' ⟨rfl, hg⟩)
  go_ret
  exact ⟨rfl, below_then hw (by assumption)⟩
theorem both_val (op a b : Int) (h : always op = true) {W w : World} (hw : Below W.heap.size W w) :
    Calls Try.prog 8 #[.int .i64 op, .int .i64 a, .int .i64 b] w fun e w' => e = .returned (.int .i64 (intVal op a b)) ∧ Below W.heap.size W w' :=
  both_at (intVal_calls op a b h) hw

/-! What the law on 32 bits asks of them. -/
theorem intVal_fact0 : intVal 11 2 3 = 5 := by
  show wrap32 (wrap64 (wrap32 2 + wrap32 3)) = 5
  unfold wrap32 wrap64; omega
theorem intVal_fact1 (a b : Int) : intVal 12 (intVal 11 (wrap32 a) (wrap32 b)) (wrap32 b) = wrap32 a := by
  show wrap32 (wrap64 (wrap32 (wrap32 (wrap64 (wrap32 (wrap32 a) + wrap32 (wrap32 b)))) - wrap32 (wrap32 b))) = wrap32 a
  rw [add_sub32, wrap32_idem]
theorem intVal_fact2 (a b : Int) : intVal 13 b a = intVal 13 a b := by
  show wrap32 (wrap64 (wrap32 b * wrap32 a)) = wrap32 (wrap64 (wrap32 a * wrap32 b))
  rw [Int.mul_comm]
theorem intVal_fact3 (a b : Int) : intVal 22 (intVal 22 (wrap32 a) (wrap32 b)) (wrap32 b) = wrap32 a := by
  show wrap32 (bits .xor .i64 (wrap32 (wrap32 (bits .xor .i64 (wrap32 (wrap32 a)) (wrap32 (wrap32 b))))) (wrap32 (wrap32 b))) = wrap32 a
  rw [xor_xor32, wrap32_idem]
theorem intVal_fact4 (a b : Int) : wrap32 (wrap64 (intVal 20 (wrap32 a) (wrap32 b) + intVal 21 (wrap32 a) (wrap32 b))) = wrap32 (wrap64 (wrap32 a + wrap32 b)) := by
  show wrap32 (wrap64 (wrap32 (bits .and .i64 (wrap32 (wrap32 a)) (wrap32 (wrap32 b))) + wrap32 (bits .or .i64 (wrap32 (wrap32 a)) (wrap32 (wrap32 b))))) = _
  rw [wrap32_idem a, wrap32_idem b, and_or32]
theorem small_mod (b : Int) : wrap32 (b % 32) % 32 = wrap32 b % 32 := by unfold wrap32; omega
theorem intVal_fact5 (a b : Int) : intVal 17 a (b % 32) = intVal 17 a b := by
  show wrap32 (shl64 (wrap32 a) (wrap32 (b % 32) % 32)) = wrap32 (shl64 (wrap32 a) (wrap32 b % 32))
  rw [small_mod]
theorem intVal_fact6 (a b : Int) : intVal 18 a (b % 32) = intVal 18 a b := by
  show wrap32 (shr64 (wrap32 a) (wrap32 (b % 32) % 32)) = wrap32 (shr64 (wrap32 a) (wrap32 b % 32))
  rw [small_mod]
theorem intVal_fact7 (a : Int) : intVal 19 (wrap32 a) 0 = wrap32 a := by
  show wrap32 (ushr64 (wrap32 (wrap32 a) % 4294967296) (wrap32 0 % 32)) = wrap32 a
  have e : wrap32 0 % 32 = 0 := by unfold wrap32; omega
  rw [e, ushr_zero32, wrap32_idem]
end Go.Proofs.Ytgofchcbeiiieaa
