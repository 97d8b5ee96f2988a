/- impl.LongOp and spec.LongOp answer alike at every op and every two int64. -/
import Derived.Test.YtgofchcbeiiieahLong
import Derived.Test.YtgofchcbeiiieahSpecLong
namespace Go.Proofs.Ytgofchcbeiiieah
open Go.ChangeShapes Go.WideShapes Go.ChangeAt Go.RowKit

/-- What both answer at one argument: the number and the word beside it. -/
def LongBoth (op a b : Int) (r : Int) (ok : Bool) : Prop :=
  (∀ w, Calls Try.prog 11 #[.int .i64 op, .int .i64 a, .int .i64 b] w fun e w' => e = .returned (.tuple #[.int .i64 r, .bool ok]) ∧ w' = w) ∧
  (∀ w, Calls Try.prog 12 #[.int .i64 op, .int .i64 a, .int .i64 b] w fun e w' => e = .returned (.tuple #[.int .i64 r, .bool ok]) ∧ Grown w w')

theorem long_both (op a b : Int) (wa : -9223372036854775808 ≤ a ∧ a < 9223372036854775808) : ∃ r ok, LongBoth op a b r ok := by
  by_cases hn : op < 11 ∨ 22 < op
  · exact ⟨_, _, fun w => specLongNone op a b hn w, fun w => longNone op a b hn w⟩
  have hc : op = 11 ∨ op = 12 ∨ op = 13 ∨ op = 14 ∨ op = 15 ∨ op = 16 ∨ op = 17 ∨ op = 18 ∨ op = 19 ∨ op = 20 ∨ op = 21 ∨ op = 22 := by omega
  rcases hc with rfl | rfl | rfl | rfl | rfl | rfl | rfl | rfl | rfl | rfl | rfl | rfl
  · exact ⟨_, _, fun w => specLong11 a b w, fun w => long11 a b w⟩
  · exact ⟨_, _, fun w => specLong12 a b w, fun w => long12 a b w⟩
  · exact ⟨_, _, fun w => specLong13 a b w, fun w => long13 a b w⟩
  · by_cases h0 : b = 0
    · subst h0; exact ⟨_, _, fun w => specLong14z a w, fun w => long14z a w⟩
    · have h0' : (b == 0) = false := by simpa using h0
      by_cases h1 : b = -1
      · subst h1; exact ⟨_, _, fun w => specLong14m a w, fun w => long14 a (-1) h0' w⟩
      · have h1' : (b == -1) = false := by simpa using h1
        exact ⟨_, _, fun w => specLong14n a b h0' h1' w, fun w => long14 a b h0' w⟩
  · by_cases h0 : b = 0
    · subst h0; exact ⟨_, _, fun w => specLong15z a w, fun w => long15z a w⟩
    · have h0' : (b == 0) = false := by simpa using h0
      by_cases h1 : b = -1
      · subst h1; exact ⟨_, _, fun w => specLong15m a w, fun w => long15 a (-1) h0' w⟩
      · have h1' : (b == -1) = false := by simpa using h1
        exact ⟨_, _, fun w => specLong15n a b h0' h1' wa w, fun w => long15 a b h0' w⟩
  · exact ⟨_, _, fun w => specLong16 a b w, fun w => long16 a b w⟩
  · exact ⟨_, _, fun w => specLong17 a b w, fun w => long17 a b w⟩
  · exact ⟨_, _, fun w => specLong18 a b w, fun w => long18 a b w⟩
  · exact ⟨_, _, fun w => specLong19 a b w, fun w => long19 a b w⟩
  · exact ⟨_, _, fun w => specLong20 a b w, fun w => long20 a b w⟩
  · exact ⟨_, _, fun w => specLong21 a b w, fun w => long21 a b w⟩
  · exact ⟨_, _, fun w => specLong22 a b w, fun w => long22 a b w⟩
end Go.Proofs.Ytgofchcbeiiieah
