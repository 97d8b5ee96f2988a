/- impl.IntOp and impl.LongOp where they divide: what they answer. -/
import Derived.Test.YtgofchcbeiiieaaInt
namespace Go.Proofs.Ytgofchcbeiiieaa
open Go.ChangeShapes Go.WideShapes Go.ChangeAt Go.RowKit

def quo32 (a b : Int) : Int := wrap32 (wrap64 ((wrap32 a).tdiv (wrap32 b)))
def rem32 (a b : Int) : Int := wrap32 ((wrap32 a).tmod (wrap32 b))
theorem int14 (a b : Int) (h : (wrap32 b == 0) = false) (w : World) :
    Calls Try.prog 13 #[.int .i64 14, .int .i64 a, .int .i64 b] w fun e w' => e = .returned (.tuple #[.int .i64 (quo32 a b), .bool true]) ∧ Below w.heap.size w w' :=
  int_other 14 a b _ true rfl rfl rfl (long14 _ _ h) w
theorem int15 (a b : Int) (h : (wrap32 b == 0) = false) (w : World) :
    Calls Try.prog 13 #[.int .i64 15, .int .i64 a, .int .i64 b] w fun e w' => e = .returned (.tuple #[.int .i64 (rem32 a b), .bool true]) ∧ Below w.heap.size w w' :=
  int_other 15 a b _ true rfl rfl rfl (long15 _ _ h) w
theorem wrap32_zero : wrap32 0 = 0 := by unfold wrap32; omega
theorem int14z (a b : Int) (h : wrap32 b = 0) (w : World) :
    Calls Try.prog 13 #[.int .i64 14, .int .i64 a, .int .i64 b] w fun e w' => e = .returned (.tuple #[.int .i64 0, .bool false]) ∧ Below w.heap.size w w' := by
  have := int_other 14 a b 0 false rfl rfl rfl (by rw [h]; exact long14z _) w
  rwa [wrap32_zero] at this
theorem int15z (a b : Int) (h : wrap32 b = 0) (w : World) :
    Calls Try.prog 13 #[.int .i64 15, .int .i64 a, .int .i64 b] w fun e w' => e = .returned (.tuple #[.int .i64 0, .bool false]) ∧ Below w.heap.size w w' := by
  have := int_other 15 a b 0 false rfl rfl rfl (by rw [h]; exact long15z _) w
  rwa [wrap32_zero] at this

theorem quo_fact : quo32 (-7) 2 = -3 := by
  have e1 : wrap32 (-7) = -7 := by unfold wrap32; omega
  have e2 : wrap32 2 = 2 := by unfold wrap32; omega
  have e3 : (-7 : Int).tdiv 2 = -3 := by decide
  unfold quo32; rw [e1, e2, e3]; unfold wrap32 wrap64; omega
theorem rem_fact : rem32 (-7) 2 = -1 := by
  have e1 : wrap32 (-7) = -7 := by unfold wrap32; omega
  have e2 : wrap32 2 = 2 := by unfold wrap32; omega
  have e3 : (-7 : Int).tmod 2 = -1 := by decide
  unfold rem32; rw [e1, e2, e3]; unfold wrap32; omega
theorem zero_or32 (b : Int) : wrap32 b = 0 ∨ ((wrap32 (wrap32 b) == 0) = false ∧ (wrap32 b == 0) = false ∧ (wrap32 b != 0) = true) := by
  by_cases h : wrap32 b = 0
  · exact .inl h
  · exact .inr ⟨by rw [wrap32_idem]; simpa using h, by simpa using h, by simpa using h⟩
theorem zero_or64 (b : Int) : b = 0 ∨ ((b == 0) = false ∧ (b != 0) = true) := by
  by_cases h : b = 0
  · exact .inl h
  · exact .inr ⟨by simpa using h, by simpa using h⟩
def isDiv (op : Int) : Bool := op == 14 || op == 15
def div32 (op a b : Int) : Int := if op = 14 then quo32 a b else rem32 a b
def div64 (op a b : Int) : Int := if op = 14 then wrap64 (a.tdiv b) else a.tmod b
theorem isDiv_cases {op : Int} (h : isDiv op = true) : op = 14 ∨ op = 15 := by simpa [isDiv] using h
theorem intDiv (op a b : Int) (h : isDiv op = true) (hb : (wrap32 b == 0) = false) (w : World) :
    Calls Try.prog 13 #[.int .i64 op, .int .i64 a, .int .i64 b] w fun e w' => e = .returned (.tuple #[.int .i64 (div32 op a b), .bool true]) ∧ Below w.heap.size w w' := by
  rcases isDiv_cases h with rfl | rfl
  · exact int14 a b hb w
  · exact int15 a b hb w
theorem intDivZ (op a : Int) (h : isDiv op = true) (w : World) :
    Calls Try.prog 13 #[.int .i64 op, .int .i64 a, .int .i64 0] w fun e w' => e = .returned (.tuple #[.int .i64 0, .bool false]) ∧ Below w.heap.size w w' := by
  rcases isDiv_cases h with rfl | rfl
  · exact int14z a 0 wrap32_zero w
  · exact int15z a 0 wrap32_zero w
theorem longDiv (op a b : Int) (h : isDiv op = true) (hb : (b == 0) = false) (w : World) :
    Calls Try.prog 14 #[.int .i64 op, .int .i64 a, .int .i64 b] w fun e w' => e = .returned (.tuple #[.int .i64 (div64 op a b), .bool true]) ∧ Below w.heap.size w w' := by
  rcases isDiv_cases h with rfl | rfl
  · exact long14 a b hb w
  · exact long15 a b hb w
theorem longDivZ (op a : Int) (h : isDiv op = true) (w : World) :
    Calls Try.prog 14 #[.int .i64 op, .int .i64 a, .int .i64 0] w fun e w' => e = .returned (.tuple #[.int .i64 0, .bool false]) ∧ Below w.heap.size w w' := by
  rcases isDiv_cases h with rfl | rfl
  · exact long14z a w
  · exact long15z a w
theorem both_div (op a b : Int) (h : isDiv op = true) (hb : (wrap32 b == 0) = false) {W w : World} (hw : Below W.heap.size W w) :
    Calls Try.prog 8 #[.int .i64 op, .int .i64 a, .int .i64 b] w fun e w' => e = .returned (.int .i64 (div32 op a b)) ∧ Below W.heap.size W w' :=
  both_at (intDiv op a b h hb) hw
theorem back_fact (a b : Int) : intVal 11 (intVal 13 (div32 14 (wrap32 a) (wrap32 b)) (wrap32 b)) (div32 15 (wrap32 a) (wrap32 b)) = wrap32 a := by
  show wrap32 (wrap64 (wrap32 (wrap32 (wrap64 (wrap32 (wrap32 (wrap64 ((wrap32 (wrap32 a)).tdiv (wrap32 (wrap32 b))))) * wrap32 (wrap32 b)))) + wrap32 (wrap32 ((wrap32 (wrap32 a)).tmod (wrap32 (wrap32 b)))))) = wrap32 a
  rw [wrap32_idem a, wrap32_idem b, div_back32]
theorem back_fact64 (a b : Int) (h1 : -9223372036854775808 ≤ a) (h2 : a < 9223372036854775808) : longVal 11 (longVal 13 (div64 14 a b) b) (div64 15 a b) = a := div_back64 a b h1 h2
end Go.Proofs.Ytgofchcbeiiieaa
