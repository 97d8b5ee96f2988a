/- impl.FloatCompare: what it answers. -/
import Derived.Test.YtjbknbinaegpkaaDoorImpl
namespace Go.Proofs.YtjbknbinaegpkaaDoor
open Go.ChangeShapes Go.WideShapes Go.ChangeAt Go.RowKit

def cmpVal (a b nan : Int) : Int := if isNo a ∨ isNo b then nan else if key a < key b then -1 else if key b < key a then 1 else 0

set_option maxRecDepth 1000000 in
theorem implCmpNone (a b nan : Int) (A B : Nat) (fa : ∀ w, Calls Tryd.prog 15 #[.int .i64 a] w fun e w' => e = .returned (.float .f64 A) ∧ w' = w) (fb : ∀ w, Calls Tryd.prog 15 #[.int .i64 b] w fun e w' => e = .returned (.float .f64 B) ∧ w' = w)
    (ho : FloatKind.f64.format.order A B = none) (w : World) :
    Calls Tryd.prog 10 #[.int .i64 a, .int .i64 b, .int .i64 nan] w fun e w' => e = .returned (.int .i64 nan) ∧ w' = w := by
  go_enter Tryd.func10, Tryd.ntmps10
  go_wp2_with (first | (go_at_call 15; refine (fa _).mono ?_; rintro e w' ⟨rfl, he⟩; subst he) | (go_at_call 15; refine (fb _).mono ?_; rintro e w' ⟨rfl, he⟩; subst he))
  all_goals go_ret
  all_goals exact ⟨rfl, rfl⟩
set_option maxRecDepth 1000000 in
theorem implCmpLt (a b nan : Int) (A B : Nat) (fa : ∀ w, Calls Tryd.prog 15 #[.int .i64 a] w fun e w' => e = .returned (.float .f64 A) ∧ w' = w) (fb : ∀ w, Calls Tryd.prog 15 #[.int .i64 b] w fun e w' => e = .returned (.float .f64 B) ∧ w' = w)
    (ho : FloatKind.f64.format.order A B = some .lt) (w : World) :
    Calls Tryd.prog 10 #[.int .i64 a, .int .i64 b, .int .i64 nan] w fun e w' => e = .returned (.int .i64 (-1)) ∧ w' = w := by
  go_enter Tryd.func10, Tryd.ntmps10
  go_wp2_with (first | (go_at_call 15; refine (fa _).mono ?_; rintro e w' ⟨rfl, he⟩; subst he) | (go_at_call 15; refine (fb _).mono ?_; rintro e w' ⟨rfl, he⟩; subst he))
  all_goals go_ret
  all_goals exact ⟨rfl, rfl⟩
set_option maxRecDepth 1000000 in
theorem implCmpGt (a b nan : Int) (A B : Nat) (fa : ∀ w, Calls Tryd.prog 15 #[.int .i64 a] w fun e w' => e = .returned (.float .f64 A) ∧ w' = w) (fb : ∀ w, Calls Tryd.prog 15 #[.int .i64 b] w fun e w' => e = .returned (.float .f64 B) ∧ w' = w)
    (ho : FloatKind.f64.format.order A B = some .gt) (w : World) :
    Calls Tryd.prog 10 #[.int .i64 a, .int .i64 b, .int .i64 nan] w fun e w' => e = .returned (.int .i64 1) ∧ w' = w := by
  go_enter Tryd.func10, Tryd.ntmps10
  go_wp2_with (first | (go_at_call 15; refine (fa _).mono ?_; rintro e w' ⟨rfl, he⟩; subst he) | (go_at_call 15; refine (fb _).mono ?_; rintro e w' ⟨rfl, he⟩; subst he))
  all_goals go_ret
  all_goals exact ⟨rfl, rfl⟩
set_option maxRecDepth 1000000 in
theorem implCmpEq (a b nan : Int) (A B : Nat) (fa : ∀ w, Calls Tryd.prog 15 #[.int .i64 a] w fun e w' => e = .returned (.float .f64 A) ∧ w' = w) (fb : ∀ w, Calls Tryd.prog 15 #[.int .i64 b] w fun e w' => e = .returned (.float .f64 B) ∧ w' = w)
    (ho : FloatKind.f64.format.order A B = some .eq) (w : World) :
    Calls Tryd.prog 10 #[.int .i64 a, .int .i64 b, .int .i64 nan] w fun e w' => e = .returned (.int .i64 0) ∧ w' = w := by
  go_enter Tryd.func10, Tryd.ntmps10
  go_wp2_with (first | (go_at_call 15; refine (fa _).mono ?_; rintro e w' ⟨rfl, he⟩; subst he) | (go_at_call 15; refine (fb _).mono ?_; rintro e w' ⟨rfl, he⟩; subst he))
  all_goals go_ret
  all_goals exact ⟨rfl, rfl⟩

theorem implCmp (a b nan : Int) (h1 : -9223372036854775808 ≤ a) (h2 : a < 9223372036854775808) (h3 : -9223372036854775808 ≤ b) (h4 : b < 9223372036854775808) (w : World) :
    Calls Tryd.prog 10 #[.int .i64 a, .int .i64 b, .int .i64 nan] w fun e w' => e = .returned (.int .i64 (cmpVal a b nan)) ∧ w' = w := by
  have ho := order_bits a b h1 h2 h3 h4
  have fa := floatOf_calls a
  have fb := floatOf_calls b
  unfold cmpVal
  by_cases hn : isNo a ∨ isNo b
  · rw [if_pos hn] at ho ⊢; exact implCmpNone a b nan _ _ fa fb ho w
  · rw [if_neg hn] at ho ⊢
    by_cases hl : key a < key b
    · rw [if_pos hl]; rw [compare_lt hl] at ho; exact implCmpLt a b nan _ _ fa fb ho w
    · rw [if_neg hl]
      by_cases hg : key b < key a
      · rw [if_pos hg]; rw [compare_gt hg] at ho; exact implCmpGt a b nan _ _ fa fb ho w
      · rw [if_neg hg]; rw [compare_eq (by omega)] at ho; exact implCmpEq a b nan _ _ fa fb ho w

end Go.Proofs.YtjbknbinaegpkaaDoor
