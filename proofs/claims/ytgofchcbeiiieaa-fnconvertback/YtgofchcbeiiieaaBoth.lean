/- laws.both64 and laws.big, and what a chain of calls leaves in memory. -/
import Derived.Test.YtgofchcbeiiieaaDraw
import Derived.Test.YtgofchcbeiiieaaLong
import Derived.Test.YtgofchcbeiiieaaRing
namespace Go.Proofs.Ytgofchcbeiiieaa
open Go.ChangeShapes Go.WideShapes Go.ChangeAt Go.RowKit

theorem below_then {W w w' : World} (h : Below W.heap.size W w) (k : Below w.heap.size w w') : Below W.heap.size W w' := h.trans (k.mono h.size)

theorem big_calls (C : Option Addr) (len cap : Nat) (w : World) : Calls Try.prog 7 #[.slice C len cap] w fun e w' => e = .returned (.bool (decide ((1048576 : Int) < (len : Int)))) ∧ w' = w := by
  go_enter Try.func7, Try.ntmps7
  go_wp2
  go_ret
  exact ⟨rfl, rfl⟩

/-- laws.both64 hands on the number of impl.LongOp. -/
theorem both64_at {op a b r : Int} {ok : Bool} (h : ∀ w, Calls Try.prog 14 #[.int .i64 op, .int .i64 a, .int .i64 b] w fun e w' => e = .returned (.tuple #[.int .i64 r, .bool ok]) ∧ Below w.heap.size w w') {W w : World} (hw : Below W.heap.size W w) :
    Calls Try.prog 11 #[.int .i64 op, .int .i64 a, .int .i64 b] w fun e w' => e = .returned (.int .i64 r) ∧ Below W.heap.size W w' := by
  go_enter Try.func11, Try.ntmps11
  go_wp2_with (go_at_call 14; refine (h _).mono ?_; rintro e w' ⟨rfl, hg⟩)
  go_ret
  exact ⟨rfl, below_then hw (by assumption)⟩

/-- What the operations that always answer give; of the others and of no op: 0. -/
def longVal (op a b : Int) : Int :=
  if op = 11 then wrap64 (a + b) else if op = 12 then wrap64 (a - b) else if op = 13 then wrap64 (a * b) else if op = 16 then wrap64 (-a) else if op = 17 then shl64 a b else if op = 18 then shr64 a b
  else if op = 19 then ushr64 a b else if op = 20 then bits .and .i64 a b else if op = 21 then bits .or .i64 a b else if op = 22 then bits .xor .i64 a b else 0
def always (op : Int) : Bool := op == 11 || op == 12 || op == 13 || op == 16 || op == 17 || op == 18 || op == 19 || op == 20 || op == 21 || op == 22

theorem longVal_calls (op a b : Int) (h : always op = true) (w : World) :
    Calls Try.prog 14 #[.int .i64 op, .int .i64 a, .int .i64 b] w fun e w' => e = .returned (.tuple #[.int .i64 (longVal op a b), .bool true]) ∧ Below w.heap.size w w' := by
  have hc : op = 11 ∨ op = 12 ∨ op = 13 ∨ op = 16 ∨ op = 17 ∨ op = 18 ∨ op = 19 ∨ op = 20 ∨ op = 21 ∨ op = 22 := by
    simp [always] at h; omega
  rcases hc with rfl | rfl | rfl | rfl | rfl | rfl | rfl | rfl | rfl | rfl
  · exact long11 a b w
  · exact long12 a b w
  · exact long13 a b w
  · exact long16 a b w
  · exact long17 a b w
  · exact long18 a b w
  · exact long19 a b w
  · exact long20 a b w
  · exact long21 a b w
  · exact long22 a b w

theorem both64_val (op a b : Int) (h : always op = true) {W w : World} (hw : Below W.heap.size W w) :
    Calls Try.prog 11 #[.int .i64 op, .int .i64 a, .int .i64 b] w fun e w' => e = .returned (.int .i64 (longVal op a b)) ∧ Below W.heap.size W w' :=
  both64_at (longVal_calls op a b h) hw
theorem longVal11 (a b : Int) : longVal 11 a b = wrap64 (a + b) := rfl
theorem longVal12 (a b : Int) : longVal 12 a b = wrap64 (a - b) := rfl
theorem longVal13 (a b : Int) : longVal 13 a b = wrap64 (a * b) := rfl
theorem longVal17 (a b : Int) : longVal 17 a b = shl64 a b := rfl
theorem longVal18 (a b : Int) : longVal 18 a b = shr64 a b := rfl
theorem longVal19 (a b : Int) : longVal 19 a b = ushr64 a b := rfl
theorem longVal20 (a b : Int) : longVal 20 a b = bits .and .i64 a b := rfl
theorem longVal21 (a b : Int) : longVal 21 a b = bits .or .i64 a b := rfl
theorem longVal22 (a b : Int) : longVal 22 a b = bits .xor .i64 a b := rfl
end Go.Proofs.Ytgofchcbeiiieaa
