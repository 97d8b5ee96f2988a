/- spec.FloatCompare at every argument. -/
import Derived.Test.YtgofchcbeiiieaiCmp
namespace Go.Proofs.Ytgofchcbeiiieai
open Go.ChangeShapes Go.WideShapes Go.ChangeAt Go.RowKit

theorem specCmp (a b nan : Int) (w : World) :
    Calls Try.prog 5 #[.int .i64 a, .int .i64 b, .int .i64 nan] w fun e w' => e = .returned (.int .i64 (cmpVal a b nan)) ∧ Grown w w' := by
  unfold cmpVal
  have na := class_no a
  have nb := class_no b
  have za := zero_parts a
  have zb := zero_parts b
  by_cases h1 : openC a = 2
  · rw [if_pos (.inl (na.1 h1))]; exact specCmp_nan1 a b nan h1 w
  by_cases h2 : openC b = 2
  · rw [if_pos (.inr (nb.1 h2))]; exact specCmp_nan2 a b nan (by simpa using h1) h2 w
  rw [if_neg (fun h => h.elim (fun h => h1 (na.2 h)) (fun h => h2 (nb.2 h)))]
  have c1 : (openC a == 2) = false := by simpa using h1
  have c2 : (openC b == 2) = false := by simpa using h2
  by_cases d1 : openC a = 0
  · by_cases d2 : openC b = 0
    · by_cases d3 : openM a = 0
      · by_cases d4 : openM b = 0
        · have ra : rung a = 0 := za.1 ⟨d1, d3⟩
          have rb : rung b = 0 := zb.1 ⟨d2, d4⟩
          have ea : key a = 0 := by unfold key sg; rw [ra]; split <;> rfl
          have eb : key b = 0 := by unfold key sg; rw [rb]; split <;> rfl
          rw [ea, eb]; exact specCmp_zero a b nan d1 d2 d3 d4 w
        · have d4' : (openM b == 0) = false := by simpa using d4
          by_cases ha : a < 0 <;> by_cases hb : b < 0
          · exact specCmp_Dnn a b nan d1 d2 d3 d4' ha hb w
          · exact specCmp_Dnp a b nan d1 d2 d3 d4' ha hb w
          · exact specCmp_Dpn a b nan d1 d2 d3 d4' ha hb w
          · exact specCmp_Dpp a b nan d1 d2 d3 d4' ha hb w
      · have d3' : (openM a == 0) = false := by simpa using d3
        by_cases ha : a < 0 <;> by_cases hb : b < 0
        · exact specCmp_Cnn a b nan d1 d2 d3' ha hb w
        · exact specCmp_Cnp a b nan d1 d2 d3' ha hb w
        · exact specCmp_Cpn a b nan d1 d2 d3' ha hb w
        · exact specCmp_Cpp a b nan d1 d2 d3' ha hb w
    · have d2' : (openC b == 0) = false := by simpa using d2
      by_cases ha : a < 0 <;> by_cases hb : b < 0
      · exact specCmp_Bnn a b nan d1 c2 d2' ha hb w
      · exact specCmp_Bnp a b nan d1 c2 d2' ha hb w
      · exact specCmp_Bpn a b nan d1 c2 d2' ha hb w
      · exact specCmp_Bpp a b nan d1 c2 d2' ha hb w
  · have d1' : (openC a == 0) = false := by simpa using d1
    by_cases ha : a < 0 <;> by_cases hb : b < 0
    · exact specCmp_Ann a b nan c1 c2 d1' ha hb w
    · exact specCmp_Anp a b nan c1 c2 d1' ha hb w
    · exact specCmp_Apn a b nan c1 c2 d1' ha hb w
    · exact specCmp_App a b nan c1 c2 d1' ha hb w
end Go.Proofs.Ytgofchcbeiiieai
