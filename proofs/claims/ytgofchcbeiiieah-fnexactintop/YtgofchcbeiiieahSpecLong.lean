/- spec.LongOp at every op: what it answers. -/
import Derived.Test.YtgofchcbeiiieahWhole
namespace Go.Proofs.Ytgofchcbeiiieah
open Go.ChangeShapes Go.WideShapes Go.ChangeAt Go.RowKit

theorem specLong11 (a b : Int) (w : World) :
    Calls Try.prog 11 #[.int .i64 11, .int .i64 a, .int .i64 b] w fun e w' => e = .returned (.tuple #[.int .i64 (wrap64 (a + b)), .bool true]) ∧ w' = w := by
  go_enter Try.func11, Try.ntmps11
  go_wp2
  go_ret2
  exact ⟨rfl, rfl⟩

theorem specLong12 (a b : Int) (w : World) :
    Calls Try.prog 11 #[.int .i64 12, .int .i64 a, .int .i64 b] w fun e w' => e = .returned (.tuple #[.int .i64 (wrap64 (a - b)), .bool true]) ∧ w' = w := by
  go_enter Try.func11, Try.ntmps11
  go_wp2
  go_ret2
  exact ⟨rfl, rfl⟩

theorem specLong13 (a b : Int) (w : World) :
    Calls Try.prog 11 #[.int .i64 13, .int .i64 a, .int .i64 b] w fun e w' => e = .returned (.tuple #[.int .i64 (wrap64 (a * b)), .bool true]) ∧ w' = w := by
  go_enter Try.func11, Try.ntmps11
  go_wp2
  go_ret2
  exact ⟨rfl, rfl⟩

theorem specLong16 (a b : Int) (w : World) :
    Calls Try.prog 11 #[.int .i64 16, .int .i64 a, .int .i64 b] w fun e w' => e = .returned (.tuple #[.int .i64 (wrap64 (-a)), .bool true]) ∧ w' = w := by
  go_enter Try.func11, Try.ntmps11
  go_wp2
  go_ret2
  exact ⟨rfl, rfl⟩

theorem specLong17 (a b : Int) (w : World) :
    Calls Try.prog 11 #[.int .i64 17, .int .i64 a, .int .i64 b] w fun e w' => e = .returned (.tuple #[.int .i64 (shl64 a b), .bool true]) ∧ w' = w := by
  have hs := shift_shl_u a b
  go_enter Try.func11, Try.ntmps11
  go_wp2
  go_ret2
  exact ⟨rfl, rfl⟩

theorem specLong18 (a b : Int) (w : World) :
    Calls Try.prog 11 #[.int .i64 18, .int .i64 a, .int .i64 b] w fun e w' => e = .returned (.tuple #[.int .i64 (shr64 a b), .bool true]) ∧ w' = w := by
  have hs := shift_shr_u a b
  go_enter Try.func11, Try.ntmps11
  go_wp2
  go_ret2
  exact ⟨rfl, rfl⟩

theorem specLong19 (a b : Int) (w : World) :
    Calls Try.prog 11 #[.int .i64 19, .int .i64 a, .int .i64 b] w fun e w' => e = .returned (.tuple #[.int .i64 (ushr64 a b), .bool true]) ∧ w' = w := by
  have hs := shift_ushr_u a b
  go_enter Try.func11, Try.ntmps11
  go_wp2
  go_ret2
  exact ⟨rfl, rfl⟩

theorem specLong20 (a b : Int) (w : World) :
    Calls Try.prog 11 #[.int .i64 20, .int .i64 a, .int .i64 b] w fun e w' => e = .returned (.tuple #[.int .i64 (bits .and .i64 a b), .bool true]) ∧ w' = w := by
  go_enter Try.func11, Try.ntmps11
  go_wp2
  go_ret2
  exact ⟨rfl, rfl⟩

theorem specLong21 (a b : Int) (w : World) :
    Calls Try.prog 11 #[.int .i64 21, .int .i64 a, .int .i64 b] w fun e w' => e = .returned (.tuple #[.int .i64 (bits .or .i64 a b), .bool true]) ∧ w' = w := by
  go_enter Try.func11, Try.ntmps11
  go_wp2
  go_ret2
  exact ⟨rfl, rfl⟩

theorem specLong22 (a b : Int) (w : World) :
    Calls Try.prog 11 #[.int .i64 22, .int .i64 a, .int .i64 b] w fun e w' => e = .returned (.tuple #[.int .i64 (bits .xor .i64 a b), .bool true]) ∧ w' = w := by
  go_enter Try.func11, Try.ntmps11
  go_wp2
  go_ret2
  exact ⟨rfl, rfl⟩

theorem specLong14z (a : Int) (w : World) :
    Calls Try.prog 11 #[.int .i64 14, .int .i64 a, .int .i64 0] w fun e w' => e = .returned (.tuple #[.int .i64 0, .bool false]) ∧ w' = w := by
  go_enter Try.func11, Try.ntmps11
  go_wp2
  go_ret2
  exact ⟨rfl, rfl⟩
theorem specLong14m (a : Int) (w : World) :
    Calls Try.prog 11 #[.int .i64 14, .int .i64 a, .int .i64 (-1)] w fun e w' => e = .returned (.tuple #[.int .i64 (wrap64 (a.tdiv (-1))), .bool true]) ∧ w' = w := by
  go_enter Try.func11, Try.ntmps11
  go_wp2
  go_ret2
  exact ⟨by simp, rfl⟩
theorem specLong14n (a b : Int) (h0 : (b == 0) = false) (h1 : (b == -1) = false) (w : World) :
    Calls Try.prog 11 #[.int .i64 14, .int .i64 a, .int .i64 b] w fun e w' => e = .returned (.tuple #[.int .i64 (wrap64 (a.tdiv b)), .bool true]) ∧ w' = w := by
  have h00 : ¬ b = 0 := by simpa using h0
  skip
  go_enter Try.func11, Try.ntmps11
  go_wp2
  go_ret2
  exact ⟨by simp [], rfl⟩

theorem specLong15z (a : Int) (w : World) :
    Calls Try.prog 11 #[.int .i64 15, .int .i64 a, .int .i64 0] w fun e w' => e = .returned (.tuple #[.int .i64 0, .bool false]) ∧ w' = w := by
  go_enter Try.func11, Try.ntmps11
  go_wp2
  go_ret2
  exact ⟨rfl, rfl⟩
theorem specLong15m (a : Int) (w : World) :
    Calls Try.prog 11 #[.int .i64 15, .int .i64 a, .int .i64 (-1)] w fun e w' => e = .returned (.tuple #[.int .i64 (a.tmod (-1)), .bool true]) ∧ w' = w := by
  go_enter Try.func11, Try.ntmps11
  go_wp2
  go_ret2
  exact ⟨by simp, rfl⟩
theorem specLong15n (a b : Int) (h0 : (b == 0) = false) (h1 : (b == -1) = false) (wa : -9223372036854775808 ≤ a ∧ a < 9223372036854775808) (w : World) :
    Calls Try.prog 11 #[.int .i64 15, .int .i64 a, .int .i64 b] w fun e w' => e = .returned (.tuple #[.int .i64 (a.tmod b), .bool true]) ∧ w' = w := by
  have h00 : ¬ b = 0 := by simpa using h0
  have hx := sub_div_mul a b wa.1 wa.2; clear wa
  go_enter Try.func11, Try.ntmps11
  go_wp2
  go_ret2
  exact ⟨by simp [hx], rfl⟩

theorem specLongNone (op a b : Int) (h : op < 11 ∨ 22 < op) (w : World) :
    Calls Try.prog 11 #[.int .i64 op, .int .i64 a, .int .i64 b] w fun e w' => e = .returned (.tuple #[.int .i64 0, .bool false]) ∧ w' = w := by
  have h11 : (op == 11) = false := by simp; omega
  have h12 : (op == 12) = false := by simp; omega
  have h13 : (op == 13) = false := by simp; omega
  have h14 : (op == 14) = false := by simp; omega
  have h15 : (op == 15) = false := by simp; omega
  have h14' : (op != 14) = true := by simp; omega
  have h15' : (op != 15) = true := by simp; omega
  have h16 : (op == 16) = false := by simp; omega
  have h17 : (op == 17) = false := by simp; omega
  have h18 : (op == 18) = false := by simp; omega
  have h19 : (op == 19) = false := by simp; omega
  have h20 : (op == 20) = false := by simp; omega
  have h21 : (op == 21) = false := by simp; omega
  have h22 : (op == 22) = false := by simp; omega
  clear h
  go_enter Try.func11, Try.ntmps11
  go_wp2
  all_goals go_ret2
  all_goals exact ⟨rfl, rfl⟩
end Go.Proofs.Ytgofchcbeiiieah
