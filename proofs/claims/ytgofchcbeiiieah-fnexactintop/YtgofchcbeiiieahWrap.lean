/- impl.Wrap and spec.Wrap: both answer the number of 32 bits with the same lowest bits. -/
import Derived.Test.YtgofchcbeiiieahRows
import Derived.Test.YtgofchcbeiiieahNum
import Derived.OpenShut
namespace Go.Proofs.Ytgofchcbeiiieah
open Go.ChangeShapes Go.WideShapes Go.ChangeAt Go.RowKit

theorem wrap64_32 (n : Int) : wrap64 (wrap32 n) = wrap32 n :=
  wrap64_id _ (by have := wrap32_in n; omega) (by have := wrap32_in n; omega)

theorem implWrap (n : Int) (w : World) :
    Calls Try.prog 8 #[.int .i64 n] w fun e w' => e = .returned (.int .i64 (wrap32 n)) ∧ w' = w := by
  go_enter Try.func8, Try.ntmps8
  go_wp2
  go_ret
  exact ⟨by simp [wrap64_32], rfl⟩

theorem spec_high (n : Int) (h : 2147483648 ≤ n % 4294967296) : n % 4294967296 - 4294967296 = wrap32 n := by
  unfold wrap32; omega
theorem spec_low (n : Int) (h : n % 4294967296 < 2147483648) : n % 4294967296 = wrap32 n := by
  unfold wrap32; omega

theorem specWrap (n : Int) (w : World) :
    Calls Try.prog 7 #[.int .i64 n] w fun e w' => e = .returned (.int .i64 (wrap32 n)) ∧ w' = w := by
  have ha := and32 n
  by_cases h : 2147483648 ≤ n % 4294967296
  · go_enter Try.func7, Try.ntmps7
    go_wp2
    go_ret
    exact ⟨by simp [spec_high n h], rfl⟩
  · have h' : n % 4294967296 < 2147483648 := by omega
    clear h
    go_enter Try.func7, Try.ntmps7
    go_wp2
    go_ret
    exact ⟨by simp [spec_low n h'], rfl⟩
end Go.Proofs.Ytgofchcbeiiieah
