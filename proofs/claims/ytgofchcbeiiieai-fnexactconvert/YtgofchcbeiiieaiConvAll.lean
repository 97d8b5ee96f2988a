/- impl.Convert and spec.Convert answer alike at every argument. -/
import Derived.Test.YtgofchcbeiiieaiConvFloat
namespace Go.Proofs.Ytgofchcbeiiieai
open Go.ChangeShapes Go.WideShapes Go.ChangeAt Go.RowKit

theorem beq_no {a b : Int} (h : a ≠ b) : (a == b) = false := by simpa using h

theorem conv_both (f t n : Int) (h1 : -9223372036854775808 ≤ n) (h2 : n < 9223372036854775808) : ∃ r ok, ConvBoth f t n r ok := by
  by_cases f1 : f = 1
  · subst f1
    by_cases t2 : t = 2
    · subst t2; exact ⟨_, _, sp12 n, conv1 2 n _ true (ci2 _)⟩
    by_cases t3 : t = 3
    · subst t3
      refine ⟨floatVal (wrap32 n), true, fun w => ?_, conv1 3 n _ true (ci3 _)⟩
      rcases Int.lt_trichotomy (wrap32 n) 0 with h | h | h
      · exact sp13neg n h w
      · have := sp13zero n h w; rw [h]; exact this
      · exact sp13pos n h w
    by_cases t5 : t = 5
    · subst t5; exact ⟨_, _, sp15 n, conv1 5 n _ true (ci5 _)⟩
    by_cases t6 : t = 6
    · subst t6; exact ⟨_, _, sp16 n, conv1 6 n _ true (ci6 _)⟩
    by_cases t7 : t = 7
    · subst t7; exact ⟨_, _, sp17 n, conv1 7 n _ true (ci7 _)⟩
    refine ⟨0, false, fun w => ?_, conv1 t n _ false (ciNone t _ (beq_no t2) (beq_no t3) (beq_no t5) (beq_no t6) (beq_no t7))⟩
    by_cases t1 : t = 1
    · subst t1; exact spSame 1 n w
    · exact sp1None t n (beq_no t2) (beq_no t5) (beq_no t6) (beq_no t7) (beq_no (fun h => t1 h.symm)) (by simpa using t3) w
  by_cases f2 : f = 2
  · subst f2
    by_cases t1 : t = 1
    · subst t1; exact ⟨_, _, sp21 n, conv2 1 n _ true (cl1 _)⟩
    by_cases t3 : t = 3
    · subst t3
      refine ⟨floatVal n, true, fun w => ?_, conv2 3 n _ true (cl3 _)⟩
      by_cases hm : n = -9223372036854775808
      · subst hm; exact sp23min w
      rcases Int.lt_trichotomy n 0 with h | h | h
      · exact sp23neg n (by omega) h w
      · subst h; exact sp23zero 0 rfl w
      · exact sp23pos n (by omega) h w
    refine ⟨0, false, fun w => ?_, conv2 t n _ false (clNone t _ (beq_no t1) (beq_no t3))⟩
    by_cases t2 : t = 2
    · subst t2; exact spSame 2 n w
    · exact sp2None t n (beq_no t1) (beq_no (fun h => t2 h.symm)) (by simpa using t3) w
  by_cases f3 : f = 3
  · subst f3
    have hz := tz_calls n h1 h2
    by_cases t1 : t = 1
    · subst t1
      refine ⟨_, _, sp31 n, ?_⟩
      rw [← clamp_agree]
      exact conv3 1 n _ _ true (floatOf_calls n) (cf1 _ _ hz)
    by_cases t2 : t = 2
    · subst t2
      refine ⟨_, _, sp32 n, ?_⟩
      rw [← long_agree]
      exact conv3 2 n _ _ true (floatOf_calls n) (cf2 _ _ hz)
    refine ⟨0, false, fun w => ?_, conv3 t n _ _ false (floatOf_calls n) (cfNone t _ (beq_no t1) (beq_no t2))⟩
    by_cases t3 : t = 3
    · subst t3; exact spSame 3 n w
    · exact sp3None t n (beq_no t1) (beq_no t2) (beq_no (fun h => t3 h.symm)) w
  exact ⟨0, false, spNone f t n (beq_no f1) (beq_no f2) (beq_no f3), convNone f t n (beq_no f1) (beq_no f2) (beq_no f3)⟩
end Go.Proofs.Ytgofchcbeiiieai
