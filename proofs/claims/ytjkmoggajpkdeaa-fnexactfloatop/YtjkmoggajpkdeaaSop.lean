/- spec.FloatOp at every op: what it answers. -/
import Derived.Test.YtjkmoggajpkdeaaOpen
import Derived.Below
import Derived.WalkSpells
namespace Go.Proofs.Ytjkmoggajpkdeaa
set_option linter.unusedVariables false
open Go.ChangeShapes Go.WideShapes Go.ChangeAt Go.RowKit

theorem open_lit (a : Int) (w : World) :
    Calls Try.prog 6 #[.int .i64 a] w fun e w' => e = .returned (.agg #[.bool (decide (a < 0)), .int .i64 (openM a), .int .i64 (openE a), .int .i64 (openC a)]) ∧ w' = (w.alloc (.cells #[.bool (decide (a < 0)), .int .i64 (openM a), .int .i64 (openE a), .int .i64 (openC a)] 26)).alloc (.cells #[.bool (decide (a < 0)), .int .i64 (openM a), .int .i64 (openE a), .int .i64 (openC a)] 26) := open_calls a w
theorem below_below {w W w' : World} (h : Below w.heap.size w W) (h2 : Below W.heap.size W w') : Below w.heap.size w w' := h.trans (h2.mono h.size)
theorem below_cells {w W : World} (h : Below w.heap.size w W) (c : Array Value) (t : TypeId) : Below w.heap.size w (W.alloc (.cells c t)) := h.alloc h.size _

theorem specOut (op a b : Int) (h : op < 11 ∨ 16 < op ∨ op = 15) (w : World) :
    Calls Try.prog 4 #[.int .i64 op, .int .i64 a, .int .i64 b] w fun e w' => e = .returned (.tuple #[.int .i64 0, .bool false]) ∧ w' = w := by
  by_cases h1 : op < 11
  · clear h
    go_enter Try.func4, Try.ntmps4
    go_wp2
    go_ret2
    exact ⟨rfl, rfl⟩
  · by_cases h2 : 16 < op
    · clear h
      go_enter Try.func4, Try.ntmps4
      go_wp2
      go_ret2
      exact ⟨rfl, rfl⟩
    · obtain rfl : op = 15 := by omega
      clear h
      go_enter Try.func4, Try.ntmps4
      go_wp2
      go_ret2
      exact ⟨rfl, rfl⟩

theorem spec11 (a b r : Int) (ha : (openC a == 2) = false) (hb : (openC b == 2) = false)
    (hf : ∀ W, Calls Try.prog 7 #[.agg #[.bool (decide (a < 0)), .int .i64 (openM a), .int .i64 (openE a), .int .i64 (openC a)], .agg #[.bool (decide (b < 0)), .int .i64 (openM b), .int .i64 (openE b), .int .i64 (openC b)]] W fun e W' => e = .returned (.int .i64 r) ∧ Below W.heap.size W W') (w : World) :
    Calls Try.prog 4 #[.int .i64 11, .int .i64 a, .int .i64 b] w fun e w' => e = .returned (.tuple #[.int .i64 r, .bool true]) ∧ Below w.heap.size w w' := by
  have hfH : Hid (∀ W, Calls Try.prog 7 #[.agg #[.bool (decide (a < 0)), .int .i64 (openM a), .int .i64 (openE a), .int .i64 (openC a)], .agg #[.bool (decide (b < 0)), .int .i64 (openM b), .int .i64 (openE b), .int .i64 (openC b)]] W fun e W' => e = .returned (.int .i64 r) ∧ Below W.heap.size W W') := hf
  clear hf
  go_enter Try.func4, Try.ntmps4
  go_wp2_with (first | (go_at_call 6; refine (open_lit _ _).mono ?_; rintro e w' ⟨rfl, rfl⟩) | (go_at_call 7; refine (hfH.out _).mono ?_; rintro e w1 ⟨rfl, hb1⟩))
  go_ret2
  exact ⟨rfl, below_below (by repeat (first | exact Below.refl _ _ | apply below_cells)) hb1⟩

theorem spec13 (a b r : Int) (ha : (openC a == 2) = false) (hb : (openC b == 2) = false)
    (hf : ∀ W, Calls Try.prog 8 #[.agg #[.bool (decide (a < 0)), .int .i64 (openM a), .int .i64 (openE a), .int .i64 (openC a)], .agg #[.bool (decide (b < 0)), .int .i64 (openM b), .int .i64 (openE b), .int .i64 (openC b)]] W fun e W' => e = .returned (.int .i64 r) ∧ Below W.heap.size W W') (w : World) :
    Calls Try.prog 4 #[.int .i64 13, .int .i64 a, .int .i64 b] w fun e w' => e = .returned (.tuple #[.int .i64 r, .bool true]) ∧ Below w.heap.size w w' := by
  have hfH : Hid (∀ W, Calls Try.prog 8 #[.agg #[.bool (decide (a < 0)), .int .i64 (openM a), .int .i64 (openE a), .int .i64 (openC a)], .agg #[.bool (decide (b < 0)), .int .i64 (openM b), .int .i64 (openE b), .int .i64 (openC b)]] W fun e W' => e = .returned (.int .i64 r) ∧ Below W.heap.size W W') := hf
  clear hf
  go_enter Try.func4, Try.ntmps4
  go_wp2_with (first | (go_at_call 6; refine (open_lit _ _).mono ?_; rintro e w' ⟨rfl, rfl⟩) | (go_at_call 8; refine (hfH.out _).mono ?_; rintro e w1 ⟨rfl, hb1⟩))
  go_ret2
  exact ⟨rfl, below_below (by repeat (first | exact Below.refl _ _ | apply below_cells)) hb1⟩

theorem spec14 (a b r : Int) (ha : (openC a == 2) = false) (hb : (openC b == 2) = false)
    (hf : ∀ W, Calls Try.prog 9 #[.agg #[.bool (decide (a < 0)), .int .i64 (openM a), .int .i64 (openE a), .int .i64 (openC a)], .agg #[.bool (decide (b < 0)), .int .i64 (openM b), .int .i64 (openE b), .int .i64 (openC b)]] W fun e W' => e = .returned (.int .i64 r) ∧ Below W.heap.size W W') (w : World) :
    Calls Try.prog 4 #[.int .i64 14, .int .i64 a, .int .i64 b] w fun e w' => e = .returned (.tuple #[.int .i64 r, .bool true]) ∧ Below w.heap.size w w' := by
  have hfH : Hid (∀ W, Calls Try.prog 9 #[.agg #[.bool (decide (a < 0)), .int .i64 (openM a), .int .i64 (openE a), .int .i64 (openC a)], .agg #[.bool (decide (b < 0)), .int .i64 (openM b), .int .i64 (openE b), .int .i64 (openC b)]] W fun e W' => e = .returned (.int .i64 r) ∧ Below W.heap.size W W') := hf
  clear hf
  go_enter Try.func4, Try.ntmps4
  go_wp2_with (first | (go_at_call 6; refine (open_lit _ _).mono ?_; rintro e w' ⟨rfl, rfl⟩) | (go_at_call 9; refine (hfH.out _).mono ?_; rintro e w1 ⟨rfl, hb1⟩))
  go_ret2
  exact ⟨rfl, below_below (by repeat (first | exact Below.refl _ _ | apply below_cells)) hb1⟩

theorem spec12 (a b r : Int) (ha : (openC a == 2) = false) (hb : (openC b == 2) = false)
    (hf : ∀ W, Calls Try.prog 7 #[.agg #[.bool (decide (a < 0)), .int .i64 (openM a), .int .i64 (openE a), .int .i64 (openC a)], .agg #[.bool (!decide (b < 0)), .int .i64 (openM b), .int .i64 (openE b), .int .i64 (openC b)]] W fun e W' => e = .returned (.int .i64 r) ∧ Below W.heap.size W W') (w : World) :
    Calls Try.prog 4 #[.int .i64 12, .int .i64 a, .int .i64 b] w fun e w' => e = .returned (.tuple #[.int .i64 r, .bool true]) ∧ Below w.heap.size w w' := by
  have hfH : Hid (∀ W, Calls Try.prog 7 #[.agg #[.bool (decide (a < 0)), .int .i64 (openM a), .int .i64 (openE a), .int .i64 (openC a)], .agg #[.bool (!decide (b < 0)), .int .i64 (openM b), .int .i64 (openE b), .int .i64 (openC b)]] W fun e W' => e = .returned (.int .i64 r) ∧ Below W.heap.size W W') := hf
  clear hf
  go_enter Try.func4, Try.ntmps4
  go_wp2_with (first | (go_at_call 6; refine (open_lit _ _).mono ?_; rintro e w' ⟨rfl, rfl⟩) | (go_at_call 7; refine (hfH.out _).mono ?_; rintro e w1 ⟨rfl, hb1⟩))
  go_ret2
  exact ⟨rfl, below_below (by repeat (first | exact Below.refl _ _ | apply below_cells)) hb1⟩

theorem specNanA11 (a b : Int) (ha : openC a = 2) (w : World) :
    Calls Try.prog 4 #[.int .i64 11, .int .i64 a, .int .i64 b] w fun e w' => e = .returned (.tuple #[.int .i64 9221120237041090560, .bool true]) ∧ Below w.heap.size w w' := by
  have ha' : (openC a == 2) = true := by simp [ha]
  clear ha
  go_enter Try.func4, Try.ntmps4
  go_wp2_with (go_at_call 6; refine (open_lit _ _).mono ?_; rintro e w' ⟨rfl, rfl⟩)
  go_ret2
  exact ⟨rfl, by repeat (first | exact Below.refl _ _ | apply below_cells)⟩

theorem specNanA12 (a b : Int) (ha : openC a = 2) (w : World) :
    Calls Try.prog 4 #[.int .i64 12, .int .i64 a, .int .i64 b] w fun e w' => e = .returned (.tuple #[.int .i64 9221120237041090560, .bool true]) ∧ Below w.heap.size w w' := by
  have ha' : (openC a == 2) = true := by simp [ha]
  clear ha
  go_enter Try.func4, Try.ntmps4
  go_wp2_with (go_at_call 6; refine (open_lit _ _).mono ?_; rintro e w' ⟨rfl, rfl⟩)
  go_ret2
  exact ⟨rfl, by repeat (first | exact Below.refl _ _ | apply below_cells)⟩

theorem specNanA13 (a b : Int) (ha : openC a = 2) (w : World) :
    Calls Try.prog 4 #[.int .i64 13, .int .i64 a, .int .i64 b] w fun e w' => e = .returned (.tuple #[.int .i64 9221120237041090560, .bool true]) ∧ Below w.heap.size w w' := by
  have ha' : (openC a == 2) = true := by simp [ha]
  clear ha
  go_enter Try.func4, Try.ntmps4
  go_wp2_with (go_at_call 6; refine (open_lit _ _).mono ?_; rintro e w' ⟨rfl, rfl⟩)
  go_ret2
  exact ⟨rfl, by repeat (first | exact Below.refl _ _ | apply below_cells)⟩

theorem specNanA14 (a b : Int) (ha : openC a = 2) (w : World) :
    Calls Try.prog 4 #[.int .i64 14, .int .i64 a, .int .i64 b] w fun e w' => e = .returned (.tuple #[.int .i64 9221120237041090560, .bool true]) ∧ Below w.heap.size w w' := by
  have ha' : (openC a == 2) = true := by simp [ha]
  clear ha
  go_enter Try.func4, Try.ntmps4
  go_wp2_with (go_at_call 6; refine (open_lit _ _).mono ?_; rintro e w' ⟨rfl, rfl⟩)
  go_ret2
  exact ⟨rfl, by repeat (first | exact Below.refl _ _ | apply below_cells)⟩

theorem specNanA16 (a b : Int) (ha : openC a = 2) (w : World) :
    Calls Try.prog 4 #[.int .i64 16, .int .i64 a, .int .i64 b] w fun e w' => e = .returned (.tuple #[.int .i64 9221120237041090560, .bool true]) ∧ Below w.heap.size w w' := by
  have ha' : (openC a == 2) = true := by simp [ha]
  clear ha
  go_enter Try.func4, Try.ntmps4
  go_wp2_with (go_at_call 6; refine (open_lit _ _).mono ?_; rintro e w' ⟨rfl, rfl⟩)
  go_ret2
  exact ⟨rfl, by repeat (first | exact Below.refl _ _ | apply below_cells)⟩

theorem specNanB11 (a b : Int) (ha : (openC a == 2) = false) (hb : openC b = 2) (w : World) :
    Calls Try.prog 4 #[.int .i64 11, .int .i64 a, .int .i64 b] w fun e w' => e = .returned (.tuple #[.int .i64 9221120237041090560, .bool true]) ∧ Below w.heap.size w w' := by
  have hb' : (openC b == 2) = true := by simp [hb]
  clear hb
  go_enter Try.func4, Try.ntmps4
  go_wp2_with (go_at_call 6; refine (open_lit _ _).mono ?_; rintro e w' ⟨rfl, rfl⟩)
  go_ret2
  exact ⟨rfl, by repeat (first | exact Below.refl _ _ | apply below_cells)⟩

theorem specNanB12 (a b : Int) (ha : (openC a == 2) = false) (hb : openC b = 2) (w : World) :
    Calls Try.prog 4 #[.int .i64 12, .int .i64 a, .int .i64 b] w fun e w' => e = .returned (.tuple #[.int .i64 9221120237041090560, .bool true]) ∧ Below w.heap.size w w' := by
  have hb' : (openC b == 2) = true := by simp [hb]
  clear hb
  go_enter Try.func4, Try.ntmps4
  go_wp2_with (go_at_call 6; refine (open_lit _ _).mono ?_; rintro e w' ⟨rfl, rfl⟩)
  go_ret2
  exact ⟨rfl, by repeat (first | exact Below.refl _ _ | apply below_cells)⟩

theorem specNanB13 (a b : Int) (ha : (openC a == 2) = false) (hb : openC b = 2) (w : World) :
    Calls Try.prog 4 #[.int .i64 13, .int .i64 a, .int .i64 b] w fun e w' => e = .returned (.tuple #[.int .i64 9221120237041090560, .bool true]) ∧ Below w.heap.size w w' := by
  have hb' : (openC b == 2) = true := by simp [hb]
  clear hb
  go_enter Try.func4, Try.ntmps4
  go_wp2_with (go_at_call 6; refine (open_lit _ _).mono ?_; rintro e w' ⟨rfl, rfl⟩)
  go_ret2
  exact ⟨rfl, by repeat (first | exact Below.refl _ _ | apply below_cells)⟩

theorem specNanB14 (a b : Int) (ha : (openC a == 2) = false) (hb : openC b = 2) (w : World) :
    Calls Try.prog 4 #[.int .i64 14, .int .i64 a, .int .i64 b] w fun e w' => e = .returned (.tuple #[.int .i64 9221120237041090560, .bool true]) ∧ Below w.heap.size w w' := by
  have hb' : (openC b == 2) = true := by simp [hb]
  clear hb
  go_enter Try.func4, Try.ntmps4
  go_wp2_with (go_at_call 6; refine (open_lit _ _).mono ?_; rintro e w' ⟨rfl, rfl⟩)
  go_ret2
  exact ⟨rfl, by repeat (first | exact Below.refl _ _ | apply below_cells)⟩

theorem spec16 (a b : Int) (ha : (openC a == 2) = false) (w : World) :
    Calls Try.prog 4 #[.int .i64 16, .int .i64 a, .int .i64 b] w fun e w' => e = .returned (.tuple #[.int .i64 (bits .xor .i64 a (-9223372036854775808)), .bool true]) ∧ Below w.heap.size w w' := by
  cases hb : (openC b == 2)
  all_goals
    go_enter Try.func4, Try.ntmps4
    go_wp2_with (go_at_call 6; refine (open_lit _ _).mono ?_; rintro e w' ⟨rfl, rfl⟩)
    go_ret2
    exact ⟨rfl, by repeat (first | exact Below.refl _ _ | apply below_cells)⟩
end Go.Proofs.Ytjkmoggajpkdeaa
