/- spec.l1FloatDiv beside the quotients of two numbers. -/
import Derived.Test.YtjkmoggajpkdeaaDiv0
namespace Go.Proofs.Ytjkmoggajpkdeaa
set_option linter.unusedVariables false
open Go.ChangeShapes Go.WideShapes Go.ChangeAt Go.RowKit

set_option maxHeartbeats 1600000 in
/-- The quotients beside those of two numbers whose second is not 0. -/
theorem divOdd_calls (s t : Bool) (m n e f c d : Int) (hc : c = 0 ∨ c = 1) (hd : d = 0 ∨ d = 1) (hcd : c = 1 ∨ d = 1 ∨ n = 0) (w : World) :
    Calls Try.prog 9 #[.agg (real s m e c), .agg (real t n f d)] w fun r w' => r = .returned (.int .i64 (if (c = 1 ∧ d = 1) ∨ (c = 0 ∧ d = 0 ∧ m = 0 ∧ n = 0) then 9221120237041090560 else if c = 1 ∨ (d = 0 ∧ n = 0) then signedOf (!s == t) 9218868437227405312 else signedOf (!s == t) 0)) ∧ Below w.heap.size w w' := by
  unfold real
  have hb : ∀ a b, Below w.heap.size w ((w.alloc a).alloc b) := fun a b => ((Below.refl _ _).alloc (Nat.le_refl _) _).alloc (by simp) _
  have hbH : Hid (∀ a b, Below w.heap.size w ((w.alloc a).alloc b)) := hb
  clear hb
  by_cases hm : m = 0
  all_goals by_cases hn : n = 0
  all_goals rcases hc with rfl | rfl
  all_goals rcases hd with rfl | rfl
  all_goals first | (exfalso; simp [hn] at hcd; done) | skip
  all_goals (first | subst hm | skip)
  all_goals (first | subst hn | skip)
  all_goals clear hcd
  all_goals (first | (have hm' : (m == 0) = false := by simp [hm]) | skip)
  all_goals (first | (have hn' : (n == 0) = false := by simp [hn]) | skip)
  all_goals
    go_enter Try.func9, Try.ntmps9
    go_wp2_with (go_at_call 13; refine (signed_calls _ _ _).mono ?_; rintro e' w' ⟨rfl, he'⟩; subst w')
    all_goals go_ret
    all_goals exact ⟨by first | (simp; done) | (simp [hm]; done) | (simp [hn]; done) | (simp [hm, hn]; done), hbH.out _ _⟩
end Go.Proofs.Ytjkmoggajpkdeaa
