/- impl.FloatOp beside the four operations: the opposite, and no operation. -/
import Derived.Test.YtjkmoggajpkdeaaFop
import Derived.Test.YtjkmoggajpkdeaaTie3
namespace Go.Proofs.Ytjkmoggajpkdeaa
set_option linter.unusedVariables false
open Go.ChangeShapes Go.WideShapes Go.ChangeAt Go.RowKit

theorem fopOut (op a b : Int) (h : op < 11 ∨ 22 < op) (w : World) :
    Calls Try.prog 5 #[.int .i64 op, .int .i64 a, .int .i64 b] w fun e w' => e = .returned (.tuple #[.int .i64 0, .bool false]) ∧ Grown w w' := by
  have h1 := field1; have h2 := floatNil
  have hH : Hid (op < 11 ∨ 22 < op) := h
  clear h
  go_enter Try.func5, Try.ntmps5
  go_wp2_with (go_at_call 10; refine (operationOfNone _ hH.out _).mono ?_; rintro e w' ⟨rfl, rfl⟩)
  go_ret2
  exact ⟨rfl, (Grown.refl _).alloc _ _⟩
theorem fopNil15 (a b : Int) (w : World) :
    Calls Try.prog 5 #[.int .i64 15, .int .i64 a, .int .i64 b] w fun e w' => e = .returned (.tuple #[.int .i64 0, .bool false]) ∧ Grown w w' := by
  have h1 := field1; have h2 := floatNil
  go_enter Try.func5, Try.ntmps5
  go_wp2_with (go_at_call 10; refine (operationOf15 _).mono ?_; rintro e w' ⟨rfl, rfl⟩)
  go_ret2
  exact ⟨rfl, ((Grown.refl _).alloc _ _).alloc _ _⟩
theorem fopNil17 (a b : Int) (w : World) :
    Calls Try.prog 5 #[.int .i64 17, .int .i64 a, .int .i64 b] w fun e w' => e = .returned (.tuple #[.int .i64 0, .bool false]) ∧ Grown w w' := by
  have h1 := field1; have h2 := floatNil
  go_enter Try.func5, Try.ntmps5
  go_wp2_with (go_at_call 10; refine (operationOf17 _).mono ?_; rintro e w' ⟨rfl, rfl⟩)
  go_ret2
  exact ⟨rfl, ((Grown.refl _).alloc _ _).alloc _ _⟩
theorem fopNil18 (a b : Int) (w : World) :
    Calls Try.prog 5 #[.int .i64 18, .int .i64 a, .int .i64 b] w fun e w' => e = .returned (.tuple #[.int .i64 0, .bool false]) ∧ Grown w w' := by
  have h1 := field1; have h2 := floatNil
  go_enter Try.func5, Try.ntmps5
  go_wp2_with (go_at_call 10; refine (operationOf18 _).mono ?_; rintro e w' ⟨rfl, rfl⟩)
  go_ret2
  exact ⟨rfl, ((Grown.refl _).alloc _ _).alloc _ _⟩
theorem fopNil19 (a b : Int) (w : World) :
    Calls Try.prog 5 #[.int .i64 19, .int .i64 a, .int .i64 b] w fun e w' => e = .returned (.tuple #[.int .i64 0, .bool false]) ∧ Grown w w' := by
  have h1 := field1; have h2 := floatNil
  go_enter Try.func5, Try.ntmps5
  go_wp2_with (go_at_call 10; refine (operationOf19 _).mono ?_; rintro e w' ⟨rfl, rfl⟩)
  go_ret2
  exact ⟨rfl, ((Grown.refl _).alloc _ _).alloc _ _⟩
theorem fopNil20 (a b : Int) (w : World) :
    Calls Try.prog 5 #[.int .i64 20, .int .i64 a, .int .i64 b] w fun e w' => e = .returned (.tuple #[.int .i64 0, .bool false]) ∧ Grown w w' := by
  have h1 := field1; have h2 := floatNil
  go_enter Try.func5, Try.ntmps5
  go_wp2_with (go_at_call 10; refine (operationOf20 _).mono ?_; rintro e w' ⟨rfl, rfl⟩)
  go_ret2
  exact ⟨rfl, ((Grown.refl _).alloc _ _).alloc _ _⟩
theorem fopNil21 (a b : Int) (w : World) :
    Calls Try.prog 5 #[.int .i64 21, .int .i64 a, .int .i64 b] w fun e w' => e = .returned (.tuple #[.int .i64 0, .bool false]) ∧ Grown w w' := by
  have h1 := field1; have h2 := floatNil
  go_enter Try.func5, Try.ntmps5
  go_wp2_with (go_at_call 10; refine (operationOf21 _).mono ?_; rintro e w' ⟨rfl, rfl⟩)
  go_ret2
  exact ⟨rfl, ((Grown.refl _).alloc _ _).alloc _ _⟩
theorem fopNil22 (a b : Int) (w : World) :
    Calls Try.prog 5 #[.int .i64 22, .int .i64 a, .int .i64 b] w fun e w' => e = .returned (.tuple #[.int .i64 0, .bool false]) ∧ Grown w w' := by
  have h1 := field1; have h2 := floatNil
  go_enter Try.func5, Try.ntmps5
  go_wp2_with (go_at_call 10; refine (operationOf22 _).mono ?_; rintro e w' ⟨rfl, rfl⟩)
  go_ret2
  exact ⟨rfl, ((Grown.refl _).alloc _ _).alloc _ _⟩

theorem xor_top (r : Nat) (h : r < 2 ^ 63) : r ^^^ 2 ^ 63 = 2 ^ 63 + r := by
  apply Nat.eq_of_testBit_eq
  intro i
  rw [Nat.testBit_xor, Nat.testBit_two_pow]
  rcases Nat.lt_trichotomy i 63 with h1 | h1 | h1
  · rw [Nat.testBit_two_pow_add_gt h1]
    have : decide (63 = i) = false := by simp; omega
    rw [this, Bool.xor_false]
  · subst h1
    rw [Nat.testBit_two_pow_add_eq, Nat.testBit_lt_two_pow h]
    rfl
  · have hle : (2 : Nat) ^ 64 ≤ 2 ^ i := Nat.pow_le_pow_right (by decide) h1
    have h64 : (2 : Nat) ^ 64 = 2 ^ 63 + 2 ^ 63 := by decide
    rw [Nat.testBit_lt_two_pow (by omega), Nat.testBit_lt_two_pow (show 2 ^ 63 + r < 2 ^ i by omega)]
    have : decide (63 = i) = false := by simp; omega
    rw [this]
    rfl
theorem neg_word (s : Bool) (r : Nat) (h : r < 9223372036854775808) : Ieee.double.word s r ^^^ 2 ^ 63 = Ieee.double.word (!s) r := by
  have h' : r < 2 ^ 63 := Nat.lt_of_lt_of_eq h (by decide)
  have e : (9223372036854775808 : Nat) = 2 ^ 63 := by decide
  unfold Ieee.Format.word
  rw [sign_d, e]
  cases s
  · simp only [Bool.false_eq_true, if_false, Bool.not_false, if_true]
    exact xor_top r h'
  · simp only [if_true, Bool.not_true, Bool.false_eq_true, if_false]
    rw [← xor_top r h', Nat.xor_assoc, Nat.xor_self, Nat.xor_zero]
theorem neg_tie (a : Int) : bits .xor .i64 a (-9223372036854775808) = wrap64 (((IntKind.u64.wrap a).toNat ^^^ 2 ^ 63 : Nat) : Int) := by
  show IntKind.i64.wrap (((BitVec.ofInt 64 a) ^^^ (BitVec.ofInt 64 (-9223372036854775808))).toNat : Int) = _
  have e1 : (BitVec.ofInt 64 a).toNat = (IntKind.u64.wrap a).toNat := by
    rw [BitVec.toNat_ofInt]
    simp [IntKind.wrap, IntKind.bits, IntKind.signed]
  have e2 : (BitVec.ofInt 64 (-9223372036854775808)).toNat = 2 ^ 63 := by decide
  rw [wrap_i64, BitVec.toNat_xor, e1, e2]

theorem neg_calls (x y : Nat) (w : World) : Calls Try.prog 34 #[.float .f64 x, .float .f64 y] w fun e w' => e = .returned (.float .f64 (x ^^^ 2 ^ 63)) ∧ w' = w := by
  have hr : ∀ w, (Op.unary .neg (.float .f64 x)).run Try.prog w = .ok (.float .f64 (x ^^^ 2 ^ 63)) w := fun w => rfl
  generalize x ^^^ 2 ^ 63 = z at *
  go_enter Try.func34, Try.ntmps34
  go_wp2
  go_ret
  exact ⟨rfl, rfl⟩
theorem fop16Num (a b : Int) (r : Nat) (h : (IntKind.u64.wrap a).toNat ^^^ 2 ^ 63 = r) (ho : FloatKind.f64.format.order r r = some .eq) (w : World) :
    Calls Try.prog 5 #[.int .i64 16, .int .i64 a, .int .i64 b] w fun e w' => e = .returned (.tuple #[.int .i64 (wrap64 r), .bool true]) ∧ Grown w w' := by
  have h1 := field1; have h2 := floatFun
  have hoH : Hid (FloatKind.f64.format.order r r = some .eq) := ho
  have hn : Hid (∀ y w, Calls Try.prog 34 #[.float .f64 (IntKind.u64.wrap a).toNat, .float .f64 y] w fun e w' => e = .returned (.float .f64 r) ∧ w' = w) := fun y w => by rw [← h]; exact neg_calls _ y w
  clear h ho
  go_enter Try.func5, Try.ntmps5
  go_wp2_with (first | (go_at_call 10; refine (operationOf16 _).mono ?_; rintro e w' ⟨rfl, rfl⟩) | (go_at_call 12; refine (floatOf_calls _ _).mono ?_; rintro e w' ⟨rfl, he⟩; subst w') | (go_at_call 34; refine (hn.out _ _).mono ?_; rintro e w1 ⟨rfl, he⟩; subst w1) | (go_at_call 11; refine (bitsOf_num r hoH.out _).mono ?_; rintro e w2 ⟨rfl, he⟩; subst w2))
  go_ret2
  exact ⟨rfl, ((Grown.refl _).alloc _ _).alloc _ _⟩
theorem fop16Nan (a b : Int) (r : Nat) (h : (IntKind.u64.wrap a).toNat ^^^ 2 ^ 63 = r) (ho : FloatKind.f64.format.order r r = none) (w : World) :
    Calls Try.prog 5 #[.int .i64 16, .int .i64 a, .int .i64 b] w fun e w' => e = .returned (.tuple #[.int .i64 9221120237041090560, .bool true]) ∧ Grown w w' := by
  have h1 := field1; have h2 := floatFun
  have hoH : Hid (FloatKind.f64.format.order r r = none) := ho
  have hn : Hid (∀ y w, Calls Try.prog 34 #[.float .f64 (IntKind.u64.wrap a).toNat, .float .f64 y] w fun e w' => e = .returned (.float .f64 r) ∧ w' = w) := fun y w => by rw [← h]; exact neg_calls _ y w
  clear h ho
  go_enter Try.func5, Try.ntmps5
  go_wp2_with (first | (go_at_call 10; refine (operationOf16 _).mono ?_; rintro e w' ⟨rfl, rfl⟩) | (go_at_call 12; refine (floatOf_calls _ _).mono ?_; rintro e w' ⟨rfl, he⟩; subst w') | (go_at_call 34; refine (hn.out _ _).mono ?_; rintro e w1 ⟨rfl, he⟩; subst w1) | (go_at_call 11; refine (bitsOf_nan r hoH.out _).mono ?_; rintro e w2 ⟨rfl, he⟩; subst w2))
  go_ret2
  exact ⟨rfl, ((Grown.refl _).alloc _ _).alloc _ _⟩
end Go.Proofs.Ytjkmoggajpkdeaa
