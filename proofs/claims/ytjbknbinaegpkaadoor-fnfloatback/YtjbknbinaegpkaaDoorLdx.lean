/- math.Ldexp at a whole number of at most 53 bits: the nearest float to m times 2 to the k. -/
import Derived.Test.YtjbknbinaegpkaaDoorNear
import Derived.Test.YtjbknbinaegpkaaDoorOpen
import Derived.OwnWalk
import Derived.LoopTactic
import Derived.Below
namespace Go.Proofs.YtjbknbinaegpkaaDoor
set_option linter.unusedVariables false
open Go.ChangeShapes Go.WideShapes Go.ChangeAt Go.RowKit
open Ieee

theorem ofInt_nat (n : Nat) (h : n < 18446744073709551616) : (BitVec.ofInt 64 (n : Int)).toNat = n := by
  rw [BitVec.ofInt_natCast, BitVec.toNat_ofNat]; exact Nat.mod_eq_of_lt (by omega)
theorem wrapu_id (n : Nat) (h : n < 18446744073709551616) : IntKind.u64.wrap (n : Int) = n := u64_small _ (by omega) (by omega)

/-- What stands below the sign alone. -/
theorem andNot_sign (b : Nat) (h : b < 9223372036854775808) : bits .andNot .u64 (b : Int) 9223372036854775808 = b := by
  show IntKind.u64.wrap ((BitVec.ofInt 64 (b : Int) &&& ~~~ BitVec.ofInt 64 9223372036854775808).toNat) = _
  have e2 : (~~~ BitVec.ofInt 64 9223372036854775808).toNat = 2 ^ 63 - 1 := by decide
  rw [BitVec.toNat_and, ofInt_nat b (by omega), e2, Nat.and_two_pow_sub_one_eq_mod, Nat.mod_eq_of_lt (by omega)]
  exact wrapu_id b (by omega)

theorem andNot_exp (E F : Nat) (hE : E < 2048) (hF : F < 4503599627370496) : bits .andNot .u64 ((E * 4503599627370496 + F : Nat) : Int) 9218868437227405312 = F := by
  show IntKind.u64.wrap ((BitVec.ofInt 64 ((E * 4503599627370496 + F : Nat) : Int) &&& ~~~ BitVec.ofInt 64 9218868437227405312).toNat) = _
  have e2 : (~~~ BitVec.ofInt 64 9218868437227405312).toNat = 2 ^ 63 + (2 ^ 52 - 1) := by decide
  rw [BitVec.toNat_and, ofInt_nat _ (by omega), e2]
  have : (E * 4503599627370496 + F) &&& (2 ^ 63 + (2 ^ 52 - 1)) = F := by
    apply Nat.eq_of_testBit_eq
    intro i
    rw [Nat.testBit_and]
    have hp : (4503599627370496 : Nat) = 2 ^ 52 := by decide
    rw [hp] at *
    rw [Nat.mul_comm E, Nat.two_pow_add_eq_or_of_lt hF E, Nat.testBit_or, Nat.mul_comm (2 ^ 52) E, ← Nat.shiftLeft_eq, Nat.testBit_shiftLeft]
    have hm : (2 : Nat) ^ 63 + (2 ^ 52 - 1) = 2 ^ 63 * 1 ||| (2 ^ 52 - 1) := by decide
    rw [hm, Nat.testBit_or, Nat.testBit_two_pow_sub_one, Nat.mul_one, Nat.testBit_two_pow]
    by_cases hi : i < 52
    · have : ¬ (i ≥ 52) := by omega
      simp [hi, this]
    · have hf : F.testBit i = false := Nat.testBit_lt_two_pow (Nat.lt_of_lt_of_le hF (Nat.pow_le_pow_right (n := 2) (i := 52) (j := i) (by decide) (Nat.le_of_not_lt hi)))
      rw [hf]
      by_cases h63 : 63 = i
      · subst h63
        have : E.testBit (63 - 52) = false := Nat.testBit_lt_two_pow (by omega)
        simp [this]
      · simp [hi, h63]
  rw [this]
  exact wrapu_id F (by omega)

theorem or_exp (F Y : Nat) (hF : F < 4503599627370496) (hY : Y < 2048) : bits .or .u64 (F : Int) ((Y * 4503599627370496 : Nat) : Int) = ((Y * 4503599627370496 + F : Nat) : Int) := by
  show IntKind.u64.wrap ((BitVec.ofInt 64 (F : Int) ||| BitVec.ofInt 64 ((Y * 4503599627370496 : Nat) : Int)).toNat) = _
  rw [BitVec.toNat_or, ofInt_nat F (by omega), ofInt_nat _ (by omega)]
  have hp : (4503599627370496 : Nat) = 2 ^ 52 := by decide
  have h := Nat.two_pow_add_eq_or_of_lt (i := 52) (b := F) (by rw [← hp]; exact hF) Y
  rw [Nat.or_comm, Nat.mul_comm Y, hp, ← h]
  exact wrapu_id _ (by rw [← hp]; omega)

theorem f64bits (b : Nat) (w : World) : (callFunc 46 #[.float .f64 b]).run Tryd.prog w = .ok (.value (.int .u64 b)) w := by kernel_rfl
theorem f64from (n : Int) (w : World) : (callFunc 38 #[.int .u64 n]).run Tryd.prog w = .ok (.value (.float .f64 n.toNat)) w := by kernel_rfl
theorem abs_calls (b : Nat) (h : b < 9223372036854775808) (w : World) : Calls Tryd.prog 39 #[.float .f64 b] w fun e w' => e = .returned (.float .f64 b) ∧ w' = w := by
  have h1 := f64bits
  have h2 := f64from
  have h3 := andNot_sign b h
  go_enter Tryd.func39, Tryd.ntmps39
  go_wp2
  go_ret
  exact ⟨by simp, rfl⟩
theorem isInfAny_calls (b : Nat) (h : b < 9223372036854775808) (w : World) : Calls Tryd.prog 17 #[.float .f64 b, .int .i64 0] w fun e w' => e = .returned (.bool (FloatKind.f64.format.order b 9218868437227405311 == some .gt)) ∧ w' = w := by
  have hA : Hid (∀ w, Calls Tryd.prog 39 #[.float .f64 b] w fun e w' => e = .returned (.float .f64 b) ∧ w' = w) := fun w => abs_calls b h w
  clear h
  go_enter Tryd.func17, Tryd.ntmps17
  go_wp2_with (go_at_call 39; refine (hA.out _).mono ?_; rintro e w' ⟨rfl, he⟩; subst he)
  go_ret
  exact ⟨rfl, rfl⟩
theorem isNaNB_calls (b : Nat) (w : World) : Calls Tryd.prog 16 #[.float .f64 b] w fun e w' => e = .returned (.bool (FloatKind.f64.format.order b b != some .eq)) ∧ w' = w := by
  go_enter Tryd.func16, Tryd.ntmps16
  go_wp2
  go_ret
  exact ⟨rfl, rfl⟩
/-- A float from 1 on: as it is. -/
theorem normalize_calls (b : Nat) (h : b < 9223372036854775808) (ho : (FloatKind.f64.format.order b 4503599627370496 == some .lt) = false) (w : World) : Calls Tryd.prog 68 #[.float .f64 b] w fun e w' => e = .returned (.tuple #[.float .f64 b, .int .i64 0]) ∧ w' = w := by
  have hA : Hid (∀ w, Calls Tryd.prog 39 #[.float .f64 b] w fun e w' => e = .returned (.float .f64 b) ∧ w' = w) := fun w => abs_calls b h w
  clear h
  go_enter Tryd.func68, Tryd.ntmps68
  go_wp2_with (go_at_call 39; refine (hA.out _).mono ?_; rintro e w' ⟨rfl, he⟩; subst he)
  go_ret2
  exact ⟨rfl, rfl⟩
theorem infUp_calls (w : World) : Calls Tryd.prog 32 #[.int .i64 1] w fun e w' => e = .returned (.float .f64 9218868437227405312) ∧ w' = w := by
  have h2 := f64from
  go_enter Tryd.func32, Tryd.ntmps32
  go_wp2
  go_ret
  exact ⟨rfl, rfl⟩
theorem infDown_calls (w : World) : Calls Tryd.prog 32 #[.int .i64 (-1)] w fun e w' => e = .returned (.float .f64 18442240474082181120) ∧ w' = w := by
  have h2 := f64from
  go_enter Tryd.func32, Tryd.ntmps32
  go_wp2
  go_ret
  exact ⟨rfl, rfl⟩
end Go.Proofs.YtjbknbinaegpkaaDoor
