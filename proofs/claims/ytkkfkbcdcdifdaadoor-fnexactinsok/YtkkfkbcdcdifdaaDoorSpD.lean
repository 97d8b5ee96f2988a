/- The specification's numbers at nought: Wrap, Convert, FloatOp. -/
import Derived.Test.YtkkfkbcdcdifdaaDoorInsE
import Derived.Laws.OwnMore
import Derived.Laws.AppendOwnNone
import Derived.LoopN
namespace Go.Proofs.YtkkfkbcdcdifdaaDoor
set_option linter.unusedVariables false
open Go.ChangeShapes Go.WideShapes Go.ChangeAt Go.RowKit

theorem spec_high (n : Int) (h : 2147483648 ≤ n % 4294967296) : n % 4294967296 - 4294967296 = wrap32 n := by
  unfold wrap32; omega
theorem spec_low (n : Int) (h : n % 4294967296 < 2147483648) : n % 4294967296 = wrap32 n := by
  unfold wrap32; omega
theorem specWrap_calls (n : Int) (w : World) :
    Calls Tryd.prog 19 #[.int .i64 n] w fun e w' => e = .returned (.int .i64 (wrap32 n)) ∧ w' = w := by
  have ha := and32 n
  by_cases h : 2147483648 ≤ n % 4294967296
  · go_enter Tryd.func19, Tryd.ntmps19
    go_wp2
    go_ret
    exact ⟨by simp [spec_high n h], rfl⟩
  · have h' : n % 4294967296 < 2147483648 := by omega
    clear h
    go_enter Tryd.func19, Tryd.ntmps19
    go_wp2
    go_ret
    exact ⟨by simp [spec_low n h'], rfl⟩
theorem specWrap0_calls (w : World) : Calls Tryd.prog 19 #[.int .i64 0] w fun e w' => e = .returned (.int .i64 0) ∧ w' = w := by
  have h := specWrap_calls 0 w
  rwa [show wrap32 0 = 0 from by unfold wrap32; rfl] at h

theorem bits_zero (w : World) : Calls Tryd.prog 56 #[.int .i64 0] w fun e w' => e = .returned (.slice (some ⟨w.heap.size, 0, none⟩) 0 0) ∧ w' = w.alloc (.cells #[] 2) := by
  go_enter Tryd.func56, Tryd.ntmps56
  go_wp2
  go_loop [0, 3] (fun m v => m = .int .i64 0 ∧ v = .slice (some ⟨w.heap.size, 0, none⟩) 0 0) (fun _ _ => 0)
  case atStart => exact ⟨rfl, rfl⟩
  case round =>
    obtain ⟨rfl, rfl⟩ := hrel
    go_wp2
    go_ret
    exact ⟨rfl, rfl⟩
theorem signed_calls (s : Bool) (x : Int) (w : World) : Calls Tryd.prog 54 #[.bool s, .int .i64 x] w fun e w' => (∃ y, e = .returned (.int .i64 y)) ∧ w' = w := by
  cases s
  all_goals (
    go_enter Tryd.func54, Tryd.ntmps54
    go_wp2
    go_ret
    exact ⟨⟨_, rfl⟩, rfl⟩)
set_option maxRecDepth 1000000 in
set_option maxHeartbeats 1000000 in
theorem round_none (s m : Bool) (x : Int) (ad : Option Addr) (c : Nat) (w : World) : Calls Tryd.prog 55 #[.bool s, .slice ad 0 c, .int .i64 x, .bool m] w fun e w' => (∃ y, e = .returned (.int .i64 y)) ∧ w' = w := by
  go_enter Tryd.func55, Tryd.ntmps55
  go_wp2
  go_loop [9] (fun n => n = .int .i64 0) (fun _ => 0)
  case atStart => rfl
  case round =>
    obtain rfl := hrel
    go_wp2_with (go_at_call 54; refine (signed_calls _ _ _).mono ?_; rintro e w' ⟨⟨y, rfl⟩, he⟩; subst he)
    go_ret
    exact ⟨⟨_, rfl⟩, rfl⟩
set_option maxRecDepth 1000000 in
set_option maxHeartbeats 1000000 in
theorem round_one (s m : Bool) (x : Int) (g c : Nat) (w : World) (hc : w.cell? ⟨g, 0, none⟩ = some (.int .i64 0)) : Calls Tryd.prog 55 #[.bool s, .slice (some ⟨g, 0, none⟩) 1 c, .int .i64 x, .bool m] w fun e w' => (∃ y, e = .returned (.int .i64 y)) ∧ w' = w := by
  go_enter Tryd.func55, Tryd.ntmps55
  go_wp2
  go_loop [9] (fun n => n = .int .i64 0 ∨ n = .int .i64 1) (fun n => (intOf n).toNat)
  case atStart => exact .inr rfl
  case round =>
    rcases hrel with rfl | rfl
    · go_wp2_with (go_at_call 54; refine (signed_calls _ _ _).mono ?_; rintro e w' ⟨⟨y, rfl⟩, he⟩; subst he)
      go_ret
      exact ⟨⟨_, rfl⟩, rfl⟩
    · go_wp2
      go_round
      case rel => exact .inl rfl
      case measure => simp [intOf]
end Go.Proofs.YtkkfkbcdcdifdaaDoor
