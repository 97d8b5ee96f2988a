/- impl.FloatCompare and spec.FloatCompare: what they answer. -/
import Derived.Test.YtgofchcbeiiieaiOpen
namespace Go.Proofs.Ytgofchcbeiiieai
open Go.ChangeShapes Go.WideShapes Go.ChangeAt Go.RowKit

theorem open_lit (a : Int) (w : World) :
    Calls Try.prog 9 #[.int .i64 a] w fun e w' => e = .returned (.agg #[.bool (decide (a < 0)), .int .i64 (openM a), .int .i64 (openE a), .int .i64 (openC a)]) ∧ w' = (w.alloc (.cells #[.bool (decide (a < 0)), .int .i64 (openM a), .int .i64 (openE a), .int .i64 (openC a)] 27)).alloc (.cells #[.bool (decide (a < 0)), .int .i64 (openM a), .int .i64 (openE a), .int .i64 (openC a)] 27) := open_calls a w

def cmpVal (a b nan : Int) : Int := if isNo a ∨ isNo b then nan else if key a < key b then -1 else if key b < key a then 1 else 0

theorem float64frombits (n : Int) (w : World) : (callFunc 20 #[.int .u64 n]).run Try.prog w = .ok (.value (.float .f64 n.toNat)) w := by kernel_rfl
theorem floatOf_calls (n : Int) (w : World) : Calls Try.prog 10 #[.int .i64 n] w fun e w' => e = .returned (.float .f64 (IntKind.u64.wrap n).toNat) ∧ w' = w := by
  have hx := float64frombits
  go_enter Try.func10, Try.ntmps10
  go_wp2
  go_ret
  exact ⟨rfl, rfl⟩

theorem implCmpNone (a b nan : Int) (A B : Nat) (fa : ∀ w, Calls Try.prog 10 #[.int .i64 a] w fun e w' => e = .returned (.float .f64 A) ∧ w' = w) (fb : ∀ w, Calls Try.prog 10 #[.int .i64 b] w fun e w' => e = .returned (.float .f64 B) ∧ w' = w)
    (ho : FloatKind.f64.format.order A B = none) (w : World) :
    Calls Try.prog 6 #[.int .i64 a, .int .i64 b, .int .i64 nan] w fun e w' => e = .returned (.int .i64 nan) ∧ w' = w := by
  go_enter Try.func6, Try.ntmps6
  go_wp2_with (first | (go_at_call 10; refine (fa _).mono ?_; rintro e w' ⟨rfl, he⟩; subst he) | (go_at_call 10; refine (fb _).mono ?_; rintro e w' ⟨rfl, he⟩; subst he))
  all_goals go_ret
  all_goals exact ⟨rfl, rfl⟩
theorem implCmpLt (a b nan : Int) (A B : Nat) (fa : ∀ w, Calls Try.prog 10 #[.int .i64 a] w fun e w' => e = .returned (.float .f64 A) ∧ w' = w) (fb : ∀ w, Calls Try.prog 10 #[.int .i64 b] w fun e w' => e = .returned (.float .f64 B) ∧ w' = w)
    (ho : FloatKind.f64.format.order A B = some .lt) (w : World) :
    Calls Try.prog 6 #[.int .i64 a, .int .i64 b, .int .i64 nan] w fun e w' => e = .returned (.int .i64 (-1)) ∧ w' = w := by
  go_enter Try.func6, Try.ntmps6
  go_wp2_with (first | (go_at_call 10; refine (fa _).mono ?_; rintro e w' ⟨rfl, he⟩; subst he) | (go_at_call 10; refine (fb _).mono ?_; rintro e w' ⟨rfl, he⟩; subst he))
  all_goals go_ret
  all_goals exact ⟨rfl, rfl⟩
theorem implCmpGt (a b nan : Int) (A B : Nat) (fa : ∀ w, Calls Try.prog 10 #[.int .i64 a] w fun e w' => e = .returned (.float .f64 A) ∧ w' = w) (fb : ∀ w, Calls Try.prog 10 #[.int .i64 b] w fun e w' => e = .returned (.float .f64 B) ∧ w' = w)
    (ho : FloatKind.f64.format.order A B = some .gt) (w : World) :
    Calls Try.prog 6 #[.int .i64 a, .int .i64 b, .int .i64 nan] w fun e w' => e = .returned (.int .i64 1) ∧ w' = w := by
  go_enter Try.func6, Try.ntmps6
  go_wp2_with (first | (go_at_call 10; refine (fa _).mono ?_; rintro e w' ⟨rfl, he⟩; subst he) | (go_at_call 10; refine (fb _).mono ?_; rintro e w' ⟨rfl, he⟩; subst he))
  all_goals go_ret
  all_goals exact ⟨rfl, rfl⟩
theorem implCmpEq (a b nan : Int) (A B : Nat) (fa : ∀ w, Calls Try.prog 10 #[.int .i64 a] w fun e w' => e = .returned (.float .f64 A) ∧ w' = w) (fb : ∀ w, Calls Try.prog 10 #[.int .i64 b] w fun e w' => e = .returned (.float .f64 B) ∧ w' = w)
    (ho : FloatKind.f64.format.order A B = some .eq) (w : World) :
    Calls Try.prog 6 #[.int .i64 a, .int .i64 b, .int .i64 nan] w fun e w' => e = .returned (.int .i64 0) ∧ w' = w := by
  go_enter Try.func6, Try.ntmps6
  go_wp2_with (first | (go_at_call 10; refine (fa _).mono ?_; rintro e w' ⟨rfl, he⟩; subst he) | (go_at_call 10; refine (fb _).mono ?_; rintro e w' ⟨rfl, he⟩; subst he))
  all_goals go_ret
  all_goals exact ⟨rfl, rfl⟩

theorem implCmp (a b nan : Int) (h1 : -9223372036854775808 ≤ a) (h2 : a < 9223372036854775808) (h3 : -9223372036854775808 ≤ b) (h4 : b < 9223372036854775808) (w : World) :
    Calls Try.prog 6 #[.int .i64 a, .int .i64 b, .int .i64 nan] w fun e w' => e = .returned (.int .i64 (cmpVal a b nan)) ∧ w' = w := by
  have ho := order_bits a b h1 h2 h3 h4
  have fa := floatOf_calls a
  have fb := floatOf_calls b
  unfold cmpVal
  by_cases hn : isNo a ∨ isNo b
  · rw [if_pos hn] at ho ⊢; exact implCmpNone a b nan _ _ fa fb ho w
  · rw [if_neg hn] at ho ⊢
    by_cases hl : key a < key b
    · rw [if_pos hl]; rw [compare_lt hl] at ho; exact implCmpLt a b nan _ _ fa fb ho w
    · rw [if_neg hl]
      by_cases hg : key b < key a
      · rw [if_pos hg]; rw [compare_gt hg] at ho; exact implCmpGt a b nan _ _ fa fb ho w
      · rw [if_neg hg]; rw [compare_eq (by omega)] at ho; exact implCmpEq a b nan _ _ fa fb ho w

theorem specCmp_nan1 (a b nan : Int) (h : openC a = 2) (w : World) :
    Calls Try.prog 5 #[.int .i64 a, .int .i64 b, .int .i64 nan] w fun e w' => e = .returned (.int .i64 nan) ∧ Grown w w' := by
  go_enter Try.func5, Try.ntmps5
  go_wp2_with (go_at_call 9; refine (open_lit _ _).mono ?_; rintro e w' ⟨rfl, rfl⟩)
  all_goals go_ret
  all_goals exact ⟨rfl, by repeat (first | exact Grown.refl _ | apply Grown.drew | apply Grown.alloc)⟩
theorem specCmp_nan2 (a b nan : Int) (h1 : (openC a == 2) = false) (h : openC b = 2) (w : World) :
    Calls Try.prog 5 #[.int .i64 a, .int .i64 b, .int .i64 nan] w fun e w' => e = .returned (.int .i64 nan) ∧ Grown w w' := by
  go_enter Try.func5, Try.ntmps5
  go_wp2_with (go_at_call 9; refine (open_lit _ _).mono ?_; rintro e w' ⟨rfl, rfl⟩)
  all_goals go_ret
  all_goals exact ⟨rfl, by repeat (first | exact Grown.refl _ | apply Grown.drew | apply Grown.alloc)⟩
theorem specCmp_zero (a b nan : Int) (h1 : openC a = 0) (h2 : openC b = 0) (h3 : openM a = 0) (h4 : openM b = 0) (w : World) :
    Calls Try.prog 5 #[.int .i64 a, .int .i64 b, .int .i64 nan] w fun e w' => e = .returned (.int .i64 0) ∧ Grown w w' := by
  go_enter Try.func5, Try.ntmps5
  go_wp2_with (go_at_call 9; refine (open_lit _ _).mono ?_; rintro e w' ⟨rfl, rfl⟩)
  all_goals go_ret
  all_goals exact ⟨rfl, by repeat (first | exact Grown.refl _ | apply Grown.drew | apply Grown.alloc)⟩
theorem specCmp_Ann (a b nan : Int) (c1 : (openC a == 2) = false) (c2 : (openC b == 2) = false) (d1 : (openC a == 0) = false) (ha : a < 0) (hb : b < 0) (w : World) :
    Calls Try.prog 5 #[.int .i64 a, .int .i64 b, .int .i64 nan] w fun e w' => e = .returned (.int .i64 (if key a < key b then -1 else if key b < key a then 1 else 0)) ∧ Grown w w' := by
  have ka := key_neg a ha
  have kb := key_neg b hb
  by_cases hl : key a < key b
  · rw [if_pos hl]
    go_enter Try.func5, Try.ntmps5
    go_wp2_with (go_at_call 9; refine (open_lit _ _).mono ?_; rintro e w' ⟨rfl, rfl⟩)
    go_ret
    exact ⟨rfl, by repeat (first | exact Grown.refl _ | apply Grown.drew | apply Grown.alloc)⟩
  rw [if_neg hl]
  by_cases hg : key b < key a
  · rw [if_pos hg]
    go_enter Try.func5, Try.ntmps5
    go_wp2_with (go_at_call 9; refine (open_lit _ _).mono ?_; rintro e w' ⟨rfl, rfl⟩)
    go_ret
    exact ⟨rfl, by repeat (first | exact Grown.refl _ | apply Grown.drew | apply Grown.alloc)⟩
  · rw [if_neg hg]
    go_enter Try.func5, Try.ntmps5
    go_wp2_with (go_at_call 9; refine (open_lit _ _).mono ?_; rintro e w' ⟨rfl, rfl⟩)
    go_ret
    exact ⟨rfl, by repeat (first | exact Grown.refl _ | apply Grown.drew | apply Grown.alloc)⟩
theorem specCmp_Anp (a b nan : Int) (c1 : (openC a == 2) = false) (c2 : (openC b == 2) = false) (d1 : (openC a == 0) = false) (ha : a < 0) (hb : ¬ b < 0) (w : World) :
    Calls Try.prog 5 #[.int .i64 a, .int .i64 b, .int .i64 nan] w fun e w' => e = .returned (.int .i64 (if key a < key b then -1 else if key b < key a then 1 else 0)) ∧ Grown w w' := by
  have ka := key_neg a ha
  have kb := key_pos b hb
  by_cases hl : key a < key b
  · rw [if_pos hl]
    go_enter Try.func5, Try.ntmps5
    go_wp2_with (go_at_call 9; refine (open_lit _ _).mono ?_; rintro e w' ⟨rfl, rfl⟩)
    go_ret
    exact ⟨rfl, by repeat (first | exact Grown.refl _ | apply Grown.drew | apply Grown.alloc)⟩
  rw [if_neg hl]
  by_cases hg : key b < key a
  · rw [if_pos hg]
    go_enter Try.func5, Try.ntmps5
    go_wp2_with (go_at_call 9; refine (open_lit _ _).mono ?_; rintro e w' ⟨rfl, rfl⟩)
    go_ret
    exact ⟨rfl, by repeat (first | exact Grown.refl _ | apply Grown.drew | apply Grown.alloc)⟩
  · rw [if_neg hg]
    go_enter Try.func5, Try.ntmps5
    go_wp2_with (go_at_call 9; refine (open_lit _ _).mono ?_; rintro e w' ⟨rfl, rfl⟩)
    go_ret
    exact ⟨rfl, by repeat (first | exact Grown.refl _ | apply Grown.drew | apply Grown.alloc)⟩
theorem specCmp_Apn (a b nan : Int) (c1 : (openC a == 2) = false) (c2 : (openC b == 2) = false) (d1 : (openC a == 0) = false) (ha : ¬ a < 0) (hb : b < 0) (w : World) :
    Calls Try.prog 5 #[.int .i64 a, .int .i64 b, .int .i64 nan] w fun e w' => e = .returned (.int .i64 (if key a < key b then -1 else if key b < key a then 1 else 0)) ∧ Grown w w' := by
  have ka := key_pos a ha
  have kb := key_neg b hb
  by_cases hl : key a < key b
  · rw [if_pos hl]
    go_enter Try.func5, Try.ntmps5
    go_wp2_with (go_at_call 9; refine (open_lit _ _).mono ?_; rintro e w' ⟨rfl, rfl⟩)
    go_ret
    exact ⟨rfl, by repeat (first | exact Grown.refl _ | apply Grown.drew | apply Grown.alloc)⟩
  rw [if_neg hl]
  by_cases hg : key b < key a
  · rw [if_pos hg]
    go_enter Try.func5, Try.ntmps5
    go_wp2_with (go_at_call 9; refine (open_lit _ _).mono ?_; rintro e w' ⟨rfl, rfl⟩)
    go_ret
    exact ⟨rfl, by repeat (first | exact Grown.refl _ | apply Grown.drew | apply Grown.alloc)⟩
  · rw [if_neg hg]
    go_enter Try.func5, Try.ntmps5
    go_wp2_with (go_at_call 9; refine (open_lit _ _).mono ?_; rintro e w' ⟨rfl, rfl⟩)
    go_ret
    exact ⟨rfl, by repeat (first | exact Grown.refl _ | apply Grown.drew | apply Grown.alloc)⟩
theorem specCmp_App (a b nan : Int) (c1 : (openC a == 2) = false) (c2 : (openC b == 2) = false) (d1 : (openC a == 0) = false) (ha : ¬ a < 0) (hb : ¬ b < 0) (w : World) :
    Calls Try.prog 5 #[.int .i64 a, .int .i64 b, .int .i64 nan] w fun e w' => e = .returned (.int .i64 (if key a < key b then -1 else if key b < key a then 1 else 0)) ∧ Grown w w' := by
  have ka := key_pos a ha
  have kb := key_pos b hb
  by_cases hl : key a < key b
  · rw [if_pos hl]
    go_enter Try.func5, Try.ntmps5
    go_wp2_with (go_at_call 9; refine (open_lit _ _).mono ?_; rintro e w' ⟨rfl, rfl⟩)
    go_ret
    exact ⟨rfl, by repeat (first | exact Grown.refl _ | apply Grown.drew | apply Grown.alloc)⟩
  rw [if_neg hl]
  by_cases hg : key b < key a
  · rw [if_pos hg]
    go_enter Try.func5, Try.ntmps5
    go_wp2_with (go_at_call 9; refine (open_lit _ _).mono ?_; rintro e w' ⟨rfl, rfl⟩)
    go_ret
    exact ⟨rfl, by repeat (first | exact Grown.refl _ | apply Grown.drew | apply Grown.alloc)⟩
  · rw [if_neg hg]
    go_enter Try.func5, Try.ntmps5
    go_wp2_with (go_at_call 9; refine (open_lit _ _).mono ?_; rintro e w' ⟨rfl, rfl⟩)
    go_ret
    exact ⟨rfl, by repeat (first | exact Grown.refl _ | apply Grown.drew | apply Grown.alloc)⟩
theorem specCmp_Bnn (a b nan : Int) (c1 : openC a = 0) (c2 : (openC b == 2) = false) (d1 : (openC b == 0) = false) (ha : a < 0) (hb : b < 0) (w : World) :
    Calls Try.prog 5 #[.int .i64 a, .int .i64 b, .int .i64 nan] w fun e w' => e = .returned (.int .i64 (if key a < key b then -1 else if key b < key a then 1 else 0)) ∧ Grown w w' := by
  have ka := key_neg a ha
  have kb := key_neg b hb
  by_cases hl : key a < key b
  · rw [if_pos hl]
    go_enter Try.func5, Try.ntmps5
    go_wp2_with (go_at_call 9; refine (open_lit _ _).mono ?_; rintro e w' ⟨rfl, rfl⟩)
    go_ret
    exact ⟨rfl, by repeat (first | exact Grown.refl _ | apply Grown.drew | apply Grown.alloc)⟩
  rw [if_neg hl]
  by_cases hg : key b < key a
  · rw [if_pos hg]
    go_enter Try.func5, Try.ntmps5
    go_wp2_with (go_at_call 9; refine (open_lit _ _).mono ?_; rintro e w' ⟨rfl, rfl⟩)
    go_ret
    exact ⟨rfl, by repeat (first | exact Grown.refl _ | apply Grown.drew | apply Grown.alloc)⟩
  · rw [if_neg hg]
    go_enter Try.func5, Try.ntmps5
    go_wp2_with (go_at_call 9; refine (open_lit _ _).mono ?_; rintro e w' ⟨rfl, rfl⟩)
    go_ret
    exact ⟨rfl, by repeat (first | exact Grown.refl _ | apply Grown.drew | apply Grown.alloc)⟩
theorem specCmp_Bnp (a b nan : Int) (c1 : openC a = 0) (c2 : (openC b == 2) = false) (d1 : (openC b == 0) = false) (ha : a < 0) (hb : ¬ b < 0) (w : World) :
    Calls Try.prog 5 #[.int .i64 a, .int .i64 b, .int .i64 nan] w fun e w' => e = .returned (.int .i64 (if key a < key b then -1 else if key b < key a then 1 else 0)) ∧ Grown w w' := by
  have ka := key_neg a ha
  have kb := key_pos b hb
  by_cases hl : key a < key b
  · rw [if_pos hl]
    go_enter Try.func5, Try.ntmps5
    go_wp2_with (go_at_call 9; refine (open_lit _ _).mono ?_; rintro e w' ⟨rfl, rfl⟩)
    go_ret
    exact ⟨rfl, by repeat (first | exact Grown.refl _ | apply Grown.drew | apply Grown.alloc)⟩
  rw [if_neg hl]
  by_cases hg : key b < key a
  · rw [if_pos hg]
    go_enter Try.func5, Try.ntmps5
    go_wp2_with (go_at_call 9; refine (open_lit _ _).mono ?_; rintro e w' ⟨rfl, rfl⟩)
    go_ret
    exact ⟨rfl, by repeat (first | exact Grown.refl _ | apply Grown.drew | apply Grown.alloc)⟩
  · rw [if_neg hg]
    go_enter Try.func5, Try.ntmps5
    go_wp2_with (go_at_call 9; refine (open_lit _ _).mono ?_; rintro e w' ⟨rfl, rfl⟩)
    go_ret
    exact ⟨rfl, by repeat (first | exact Grown.refl _ | apply Grown.drew | apply Grown.alloc)⟩
theorem specCmp_Bpn (a b nan : Int) (c1 : openC a = 0) (c2 : (openC b == 2) = false) (d1 : (openC b == 0) = false) (ha : ¬ a < 0) (hb : b < 0) (w : World) :
    Calls Try.prog 5 #[.int .i64 a, .int .i64 b, .int .i64 nan] w fun e w' => e = .returned (.int .i64 (if key a < key b then -1 else if key b < key a then 1 else 0)) ∧ Grown w w' := by
  have ka := key_pos a ha
  have kb := key_neg b hb
  by_cases hl : key a < key b
  · rw [if_pos hl]
    go_enter Try.func5, Try.ntmps5
    go_wp2_with (go_at_call 9; refine (open_lit _ _).mono ?_; rintro e w' ⟨rfl, rfl⟩)
    go_ret
    exact ⟨rfl, by repeat (first | exact Grown.refl _ | apply Grown.drew | apply Grown.alloc)⟩
  rw [if_neg hl]
  by_cases hg : key b < key a
  · rw [if_pos hg]
    go_enter Try.func5, Try.ntmps5
    go_wp2_with (go_at_call 9; refine (open_lit _ _).mono ?_; rintro e w' ⟨rfl, rfl⟩)
    go_ret
    exact ⟨rfl, by repeat (first | exact Grown.refl _ | apply Grown.drew | apply Grown.alloc)⟩
  · rw [if_neg hg]
    go_enter Try.func5, Try.ntmps5
    go_wp2_with (go_at_call 9; refine (open_lit _ _).mono ?_; rintro e w' ⟨rfl, rfl⟩)
    go_ret
    exact ⟨rfl, by repeat (first | exact Grown.refl _ | apply Grown.drew | apply Grown.alloc)⟩
theorem specCmp_Bpp (a b nan : Int) (c1 : openC a = 0) (c2 : (openC b == 2) = false) (d1 : (openC b == 0) = false) (ha : ¬ a < 0) (hb : ¬ b < 0) (w : World) :
    Calls Try.prog 5 #[.int .i64 a, .int .i64 b, .int .i64 nan] w fun e w' => e = .returned (.int .i64 (if key a < key b then -1 else if key b < key a then 1 else 0)) ∧ Grown w w' := by
  have ka := key_pos a ha
  have kb := key_pos b hb
  by_cases hl : key a < key b
  · rw [if_pos hl]
    go_enter Try.func5, Try.ntmps5
    go_wp2_with (go_at_call 9; refine (open_lit _ _).mono ?_; rintro e w' ⟨rfl, rfl⟩)
    go_ret
    exact ⟨rfl, by repeat (first | exact Grown.refl _ | apply Grown.drew | apply Grown.alloc)⟩
  rw [if_neg hl]
  by_cases hg : key b < key a
  · rw [if_pos hg]
    go_enter Try.func5, Try.ntmps5
    go_wp2_with (go_at_call 9; refine (open_lit _ _).mono ?_; rintro e w' ⟨rfl, rfl⟩)
    go_ret
    exact ⟨rfl, by repeat (first | exact Grown.refl _ | apply Grown.drew | apply Grown.alloc)⟩
  · rw [if_neg hg]
    go_enter Try.func5, Try.ntmps5
    go_wp2_with (go_at_call 9; refine (open_lit _ _).mono ?_; rintro e w' ⟨rfl, rfl⟩)
    go_ret
    exact ⟨rfl, by repeat (first | exact Grown.refl _ | apply Grown.drew | apply Grown.alloc)⟩
theorem specCmp_Cnn (a b nan : Int) (c1 : openC a = 0) (c2 : openC b = 0) (d1 : (openM a == 0) = false) (ha : a < 0) (hb : b < 0) (w : World) :
    Calls Try.prog 5 #[.int .i64 a, .int .i64 b, .int .i64 nan] w fun e w' => e = .returned (.int .i64 (if key a < key b then -1 else if key b < key a then 1 else 0)) ∧ Grown w w' := by
  have ka := key_neg a ha
  have kb := key_neg b hb
  by_cases hl : key a < key b
  · rw [if_pos hl]
    go_enter Try.func5, Try.ntmps5
    go_wp2_with (go_at_call 9; refine (open_lit _ _).mono ?_; rintro e w' ⟨rfl, rfl⟩)
    go_ret
    exact ⟨rfl, by repeat (first | exact Grown.refl _ | apply Grown.drew | apply Grown.alloc)⟩
  rw [if_neg hl]
  by_cases hg : key b < key a
  · rw [if_pos hg]
    go_enter Try.func5, Try.ntmps5
    go_wp2_with (go_at_call 9; refine (open_lit _ _).mono ?_; rintro e w' ⟨rfl, rfl⟩)
    go_ret
    exact ⟨rfl, by repeat (first | exact Grown.refl _ | apply Grown.drew | apply Grown.alloc)⟩
  · rw [if_neg hg]
    go_enter Try.func5, Try.ntmps5
    go_wp2_with (go_at_call 9; refine (open_lit _ _).mono ?_; rintro e w' ⟨rfl, rfl⟩)
    go_ret
    exact ⟨rfl, by repeat (first | exact Grown.refl _ | apply Grown.drew | apply Grown.alloc)⟩
theorem specCmp_Cnp (a b nan : Int) (c1 : openC a = 0) (c2 : openC b = 0) (d1 : (openM a == 0) = false) (ha : a < 0) (hb : ¬ b < 0) (w : World) :
    Calls Try.prog 5 #[.int .i64 a, .int .i64 b, .int .i64 nan] w fun e w' => e = .returned (.int .i64 (if key a < key b then -1 else if key b < key a then 1 else 0)) ∧ Grown w w' := by
  have ka := key_neg a ha
  have kb := key_pos b hb
  by_cases hl : key a < key b
  · rw [if_pos hl]
    go_enter Try.func5, Try.ntmps5
    go_wp2_with (go_at_call 9; refine (open_lit _ _).mono ?_; rintro e w' ⟨rfl, rfl⟩)
    go_ret
    exact ⟨rfl, by repeat (first | exact Grown.refl _ | apply Grown.drew | apply Grown.alloc)⟩
  rw [if_neg hl]
  by_cases hg : key b < key a
  · rw [if_pos hg]
    go_enter Try.func5, Try.ntmps5
    go_wp2_with (go_at_call 9; refine (open_lit _ _).mono ?_; rintro e w' ⟨rfl, rfl⟩)
    go_ret
    exact ⟨rfl, by repeat (first | exact Grown.refl _ | apply Grown.drew | apply Grown.alloc)⟩
  · rw [if_neg hg]
    go_enter Try.func5, Try.ntmps5
    go_wp2_with (go_at_call 9; refine (open_lit _ _).mono ?_; rintro e w' ⟨rfl, rfl⟩)
    go_ret
    exact ⟨rfl, by repeat (first | exact Grown.refl _ | apply Grown.drew | apply Grown.alloc)⟩
theorem specCmp_Cpn (a b nan : Int) (c1 : openC a = 0) (c2 : openC b = 0) (d1 : (openM a == 0) = false) (ha : ¬ a < 0) (hb : b < 0) (w : World) :
    Calls Try.prog 5 #[.int .i64 a, .int .i64 b, .int .i64 nan] w fun e w' => e = .returned (.int .i64 (if key a < key b then -1 else if key b < key a then 1 else 0)) ∧ Grown w w' := by
  have ka := key_pos a ha
  have kb := key_neg b hb
  by_cases hl : key a < key b
  · rw [if_pos hl]
    go_enter Try.func5, Try.ntmps5
    go_wp2_with (go_at_call 9; refine (open_lit _ _).mono ?_; rintro e w' ⟨rfl, rfl⟩)
    go_ret
    exact ⟨rfl, by repeat (first | exact Grown.refl _ | apply Grown.drew | apply Grown.alloc)⟩
  rw [if_neg hl]
  by_cases hg : key b < key a
  · rw [if_pos hg]
    go_enter Try.func5, Try.ntmps5
    go_wp2_with (go_at_call 9; refine (open_lit _ _).mono ?_; rintro e w' ⟨rfl, rfl⟩)
    go_ret
    exact ⟨rfl, by repeat (first | exact Grown.refl _ | apply Grown.drew | apply Grown.alloc)⟩
  · rw [if_neg hg]
    go_enter Try.func5, Try.ntmps5
    go_wp2_with (go_at_call 9; refine (open_lit _ _).mono ?_; rintro e w' ⟨rfl, rfl⟩)
    go_ret
    exact ⟨rfl, by repeat (first | exact Grown.refl _ | apply Grown.drew | apply Grown.alloc)⟩
theorem specCmp_Cpp (a b nan : Int) (c1 : openC a = 0) (c2 : openC b = 0) (d1 : (openM a == 0) = false) (ha : ¬ a < 0) (hb : ¬ b < 0) (w : World) :
    Calls Try.prog 5 #[.int .i64 a, .int .i64 b, .int .i64 nan] w fun e w' => e = .returned (.int .i64 (if key a < key b then -1 else if key b < key a then 1 else 0)) ∧ Grown w w' := by
  have ka := key_pos a ha
  have kb := key_pos b hb
  by_cases hl : key a < key b
  · rw [if_pos hl]
    go_enter Try.func5, Try.ntmps5
    go_wp2_with (go_at_call 9; refine (open_lit _ _).mono ?_; rintro e w' ⟨rfl, rfl⟩)
    go_ret
    exact ⟨rfl, by repeat (first | exact Grown.refl _ | apply Grown.drew | apply Grown.alloc)⟩
  rw [if_neg hl]
  by_cases hg : key b < key a
  · rw [if_pos hg]
    go_enter Try.func5, Try.ntmps5
    go_wp2_with (go_at_call 9; refine (open_lit _ _).mono ?_; rintro e w' ⟨rfl, rfl⟩)
    go_ret
    exact ⟨rfl, by repeat (first | exact Grown.refl _ | apply Grown.drew | apply Grown.alloc)⟩
  · rw [if_neg hg]
    go_enter Try.func5, Try.ntmps5
    go_wp2_with (go_at_call 9; refine (open_lit _ _).mono ?_; rintro e w' ⟨rfl, rfl⟩)
    go_ret
    exact ⟨rfl, by repeat (first | exact Grown.refl _ | apply Grown.drew | apply Grown.alloc)⟩
theorem specCmp_Dnn (a b nan : Int) (c1 : openC a = 0) (c2 : openC b = 0) (d1 : openM a = 0) (d2 : (openM b == 0) = false) (ha : a < 0) (hb : b < 0) (w : World) :
    Calls Try.prog 5 #[.int .i64 a, .int .i64 b, .int .i64 nan] w fun e w' => e = .returned (.int .i64 (if key a < key b then -1 else if key b < key a then 1 else 0)) ∧ Grown w w' := by
  have ka := key_neg a ha
  have kb := key_neg b hb
  by_cases hl : key a < key b
  · rw [if_pos hl]
    go_enter Try.func5, Try.ntmps5
    go_wp2_with (go_at_call 9; refine (open_lit _ _).mono ?_; rintro e w' ⟨rfl, rfl⟩)
    go_ret
    exact ⟨rfl, by repeat (first | exact Grown.refl _ | apply Grown.drew | apply Grown.alloc)⟩
  rw [if_neg hl]
  by_cases hg : key b < key a
  · rw [if_pos hg]
    go_enter Try.func5, Try.ntmps5
    go_wp2_with (go_at_call 9; refine (open_lit _ _).mono ?_; rintro e w' ⟨rfl, rfl⟩)
    go_ret
    exact ⟨rfl, by repeat (first | exact Grown.refl _ | apply Grown.drew | apply Grown.alloc)⟩
  · rw [if_neg hg]
    go_enter Try.func5, Try.ntmps5
    go_wp2_with (go_at_call 9; refine (open_lit _ _).mono ?_; rintro e w' ⟨rfl, rfl⟩)
    go_ret
    exact ⟨rfl, by repeat (first | exact Grown.refl _ | apply Grown.drew | apply Grown.alloc)⟩
theorem specCmp_Dnp (a b nan : Int) (c1 : openC a = 0) (c2 : openC b = 0) (d1 : openM a = 0) (d2 : (openM b == 0) = false) (ha : a < 0) (hb : ¬ b < 0) (w : World) :
    Calls Try.prog 5 #[.int .i64 a, .int .i64 b, .int .i64 nan] w fun e w' => e = .returned (.int .i64 (if key a < key b then -1 else if key b < key a then 1 else 0)) ∧ Grown w w' := by
  have ka := key_neg a ha
  have kb := key_pos b hb
  by_cases hl : key a < key b
  · rw [if_pos hl]
    go_enter Try.func5, Try.ntmps5
    go_wp2_with (go_at_call 9; refine (open_lit _ _).mono ?_; rintro e w' ⟨rfl, rfl⟩)
    go_ret
    exact ⟨rfl, by repeat (first | exact Grown.refl _ | apply Grown.drew | apply Grown.alloc)⟩
  rw [if_neg hl]
  by_cases hg : key b < key a
  · rw [if_pos hg]
    go_enter Try.func5, Try.ntmps5
    go_wp2_with (go_at_call 9; refine (open_lit _ _).mono ?_; rintro e w' ⟨rfl, rfl⟩)
    go_ret
    exact ⟨rfl, by repeat (first | exact Grown.refl _ | apply Grown.drew | apply Grown.alloc)⟩
  · rw [if_neg hg]
    go_enter Try.func5, Try.ntmps5
    go_wp2_with (go_at_call 9; refine (open_lit _ _).mono ?_; rintro e w' ⟨rfl, rfl⟩)
    go_ret
    exact ⟨rfl, by repeat (first | exact Grown.refl _ | apply Grown.drew | apply Grown.alloc)⟩
theorem specCmp_Dpn (a b nan : Int) (c1 : openC a = 0) (c2 : openC b = 0) (d1 : openM a = 0) (d2 : (openM b == 0) = false) (ha : ¬ a < 0) (hb : b < 0) (w : World) :
    Calls Try.prog 5 #[.int .i64 a, .int .i64 b, .int .i64 nan] w fun e w' => e = .returned (.int .i64 (if key a < key b then -1 else if key b < key a then 1 else 0)) ∧ Grown w w' := by
  have ka := key_pos a ha
  have kb := key_neg b hb
  by_cases hl : key a < key b
  · rw [if_pos hl]
    go_enter Try.func5, Try.ntmps5
    go_wp2_with (go_at_call 9; refine (open_lit _ _).mono ?_; rintro e w' ⟨rfl, rfl⟩)
    go_ret
    exact ⟨rfl, by repeat (first | exact Grown.refl _ | apply Grown.drew | apply Grown.alloc)⟩
  rw [if_neg hl]
  by_cases hg : key b < key a
  · rw [if_pos hg]
    go_enter Try.func5, Try.ntmps5
    go_wp2_with (go_at_call 9; refine (open_lit _ _).mono ?_; rintro e w' ⟨rfl, rfl⟩)
    go_ret
    exact ⟨rfl, by repeat (first | exact Grown.refl _ | apply Grown.drew | apply Grown.alloc)⟩
  · rw [if_neg hg]
    go_enter Try.func5, Try.ntmps5
    go_wp2_with (go_at_call 9; refine (open_lit _ _).mono ?_; rintro e w' ⟨rfl, rfl⟩)
    go_ret
    exact ⟨rfl, by repeat (first | exact Grown.refl _ | apply Grown.drew | apply Grown.alloc)⟩
theorem specCmp_Dpp (a b nan : Int) (c1 : openC a = 0) (c2 : openC b = 0) (d1 : openM a = 0) (d2 : (openM b == 0) = false) (ha : ¬ a < 0) (hb : ¬ b < 0) (w : World) :
    Calls Try.prog 5 #[.int .i64 a, .int .i64 b, .int .i64 nan] w fun e w' => e = .returned (.int .i64 (if key a < key b then -1 else if key b < key a then 1 else 0)) ∧ Grown w w' := by
  have ka := key_pos a ha
  have kb := key_pos b hb
  by_cases hl : key a < key b
  · rw [if_pos hl]
    go_enter Try.func5, Try.ntmps5
    go_wp2_with (go_at_call 9; refine (open_lit _ _).mono ?_; rintro e w' ⟨rfl, rfl⟩)
    go_ret
    exact ⟨rfl, by repeat (first | exact Grown.refl _ | apply Grown.drew | apply Grown.alloc)⟩
  rw [if_neg hl]
  by_cases hg : key b < key a
  · rw [if_pos hg]
    go_enter Try.func5, Try.ntmps5
    go_wp2_with (go_at_call 9; refine (open_lit _ _).mono ?_; rintro e w' ⟨rfl, rfl⟩)
    go_ret
    exact ⟨rfl, by repeat (first | exact Grown.refl _ | apply Grown.drew | apply Grown.alloc)⟩
  · rw [if_neg hg]
    go_enter Try.func5, Try.ntmps5
    go_wp2_with (go_at_call 9; refine (open_lit _ _).mono ?_; rintro e w' ⟨rfl, rfl⟩)
    go_ret
    exact ⟨rfl, by repeat (first | exact Grown.refl _ | apply Grown.drew | apply Grown.alloc)⟩
end Go.Proofs.Ytgofchcbeiiieai
