/- impl.Convert at the pairs that the law on conversions asks: what it answers. -/
import Derived.Test.YtgofchcbeiiieaaInt
import Derived.Test.YtgofchcbeiiieaaFlt
namespace Go.Proofs.Ytgofchcbeiiieaa
open Go.ChangeShapes Go.WideShapes Go.ChangeAt Go.RowKit

theorem isNaN_calls (b : Nat) (w : World) : Calls Try.prog 47 #[.float .f64 b] w fun e w' => e = .returned (.bool (FloatKind.f64.format.order b b != some .eq)) ∧ w' = w := by
  go_enter Try.func47, Try.ntmps47
  go_wp2
  go_ret
  exact ⟨rfl, rfl⟩

theorem float64bits (b : Nat) (w : World) : (callFunc 48 #[.float .f64 b]).run Try.prog w = .ok (.value (.int .u64 b)) w := by kernel_rfl
theorem float64frombits (n : Int) (w : World) : (callFunc 29 #[.int .u64 n]).run Try.prog w = .ok (.value (.float .f64 n.toNat)) w := by kernel_rfl

theorem bitsOf_calls (b : Nat) (h : FloatKind.f64.format.order b b = some .eq) (w : World) : Calls Try.prog 27 #[.float .f64 b] w fun e w' => e = .returned (.int .i64 (wrap64 b)) ∧ w' = w := by
  have hx := float64bits
  go_enter Try.func27, Try.ntmps27
  go_wp2_with (go_at_call 47; refine (isNaN_calls _ _).mono ?_; rintro e w' ⟨rfl, he⟩; subst he)
  go_ret
  exact ⟨rfl, rfl⟩

theorem floatOf_calls (n : Int) (w : World) : Calls Try.prog 24 #[.int .i64 n] w fun e w' => e = .returned (.float .f64 (IntKind.u64.wrap n).toNat) ∧ w' = w := by
  have hx := float64frombits
  go_enter Try.func24, Try.ntmps24
  go_wp2
  go_ret
  exact ⟨rfl, rfl⟩

/-- A float that holds a whole number, cut towards zero. -/
theorem towardsZero_calls (n : Int) (hn : n.natAbs < 9007199254740992) (w : World) : Calls Try.prog 28 #[.float .f64 (floatOfInt .f64 n)] w fun e w' => e = .returned (.int .i64 n) ∧ w' = w := by
  have h1 := order_int n hn
  have h2 := order_top n hn
  have h3 := order_low n hn
  have h4 : floatToIntVal .f64 (floatOfInt .f64 n) .i64 = some n := by
    unfold floatToIntVal
    rw [back_int n hn]
    have : IntKind.i64.min ≤ n ∧ n ≤ IntKind.i64.max := by
      simp only [IntKind.min, IntKind.max, IntKind.signed, IntKind.bits]
      simp
      omega
    simp only [if_pos this]
  have h5 := fun w => run_convert_float_int (P := Try.prog) w 43 2 .f64 .i64 (floatOfInt .f64 n) n (by kernel_rfl) Try.underlying2 h4
  clear h4 hn
  generalize floatOfInt .f64 n = b at *
  go_enter Try.func28, Try.ntmps28
  go_wp2_with (go_at_call 47; refine (isNaN_calls _ _).mono ?_; rintro e w' ⟨rfl, he⟩; subst he)
  go_ret
  exact ⟨rfl, rfl⟩
end Go.Proofs.Ytgofchcbeiiieaa
