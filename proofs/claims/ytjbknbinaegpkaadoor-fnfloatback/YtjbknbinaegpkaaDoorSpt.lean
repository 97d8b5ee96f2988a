/- spec.ReadFloat: what it answers at any text. -/
import Derived.Test.YtjbknbinaegpkaaDoorSpr
import Derived.Test.YtjbknbinaegpkaaDoorSps
namespace Go.Proofs.YtjbknbinaegpkaaDoor
set_option linter.unusedVariables false
open Go.ChangeShapes Go.WideShapes Go.ChangeAt Go.RowKit

set_option maxRecDepth 1000000 in
set_option maxHeartbeats 4000000 in
theorem specLong_calls (s : ByteArray) (w : World) (h4 : (40 : Int) < s.size) : Calls Tryd.prog 12 #[.string s] w fun e w' => e = .returned (.tuple #[.int .i64 0, .bool false]) ∧ Below w.heap.size w w' := by
  go_enter Tryd.func12, Tryd.ntmps12
  go_wp2
  go_ret2
  exact ⟨rfl, Below.refl _ _⟩
set_option maxRecDepth 1000000 in
set_option maxHeartbeats 4000000 in
theorem specNone_calls (s : ByteArray) (w : World) (hz : s.size = 0) : Calls Tryd.prog 12 #[.string s] w fun e w' => e = .returned (.tuple #[.int .i64 0, .bool false]) ∧ Below w.heap.size w w' := by
  have hnil : s.data.toList = [] := List.eq_nil_of_length_eq_zero (by rw [toList_size]; exact hz)
  have h1 : (s.toList == [110, 97, 110]) = false := by rw [text_eq, hnil]; rfl
  have h2 : (s.toList == [105, 110, 102]) = false := by rw [text_eq, hnil]; rfl
  have e1 : (s.size : Int) = 0 := by omega
  clear hnil hz
  go_enter Tryd.func12, Tryd.ntmps12
  go_wp2
  go_loop [7] (fun kv => kv = .int .i64 0) (fun kv => 0)
  case atStart => rfl
  case round =>
    obtain rfl := hrel
    go_wp2
    go_ret2
    exact ⟨rfl, Below.refl _ _⟩

theorem specRead_calls (s : ByteArray) (w : World) : Calls Tryd.prog 12 #[.string s] w fun e w' => e = .returned (.tuple #[.int .i64 (ansOf (guessS s.data.toList) s.data.toList).1, .bool (ansOf (guessS s.data.toList) s.data.toList).2]) ∧ Below w.heap.size w w' := by
  by_cases h40 : 40 < s.size
  · have hg : guessS s.data.toList = none := by unfold guessS; rw [if_pos (by rw [toList_size]; exact h40)]
    rw [hg]
    exact specLong_calls s w (by omega)
  have hg : guessS s.data.toList = guessT (minusOf s.data.toList) (sizeOfT s.data.toList) := by unfold guessS; rw [if_neg (by rw [toList_size]; exact h40)]
  rw [hg]
  have h4 : ¬ (40 : Int) < s.size := by omega
  by_cases hz : 0 < s.size
  · by_cases hm : (s[0]'hz) = 45
    · have e2 : (((s[0]'hz).toNat : Int) == 45) = true := by rw [hm]; rfl
      have hmi : minusOf s.data.toList = true := decide_eq_true ((head_is hz 45).2 hm)
      have hsz : sizeOfT s.data.toList = (s.extract 1 s.size).data.toList := by
        unfold sizeOfT
        rw [hmi, if_pos rfl, extract_list, List.take_of_length_le (by rw [List.length_drop, toList_size]; omega), List.drop_one]
      rw [hmi, hsz]
      have hTs : (s.extract 1 s.size).size ≤ 40 := by rw [ByteArray.size_extract]; omega
      unfold guessT
      by_cases c1 : (s.extract 1 s.size).data.toList = [110, 97, 110]
      · rw [if_pos c1]
        exact specMinus_nan s _ w h4 hz (by omega) e2 rfl hTs (by rw [text_eq, decide_eq_true c1])
      rw [if_neg c1]
      by_cases c2 : (s.extract 1 s.size).data.toList = [105, 110, 102]
      · rw [if_pos c2]
        exact specMinus_inf s _ w h4 hz (by omega) e2 rfl hTs (by rw [text_eq, decide_eq_false c1]) (by rw [text_eq, decide_eq_true c2])
      rw [if_neg c2]
      exact specMinus_num s _ w h4 hz (by omega) e2 rfl hTs (by rw [text_eq, decide_eq_false c1]) (by rw [text_eq, decide_eq_false c2])
    · have e2 : (((s[0]'hz).toNat : Int) == 45) = false := by
        have := byte_is (s[0]'hz) 45
        rw [decide_eq_false hm] at this
        exact this
      have hmi : minusOf s.data.toList = false := decide_eq_false (fun h => hm ((head_is hz 45).1 h))
      have hsz : sizeOfT s.data.toList = s.data.toList := by
        unfold sizeOfT
        rw [hmi]; rfl
      rw [hmi, hsz]
      unfold guessT
      by_cases c1 : s.data.toList = [110, 97, 110]
      · rw [if_pos c1]
        exact specPlain_nan s w h4 hz (by omega) e2 (by omega) (by rw [text_eq, decide_eq_true c1])
      rw [if_neg c1]
      by_cases c2 : s.data.toList = [105, 110, 102]
      · rw [if_pos c2]
        exact specPlain_inf s w h4 hz (by omega) e2 (by omega) (by rw [text_eq, decide_eq_false c1]) (by rw [text_eq, decide_eq_true c2])
      rw [if_neg c2]
      exact specPlain_num s w h4 hz (by omega) e2 (by omega) (by rw [text_eq, decide_eq_false c1]) (by rw [text_eq, decide_eq_false c2])
  · have hnil : s.data.toList = [] := List.eq_nil_of_length_eq_zero (by rw [toList_size]; omega)
    have hn : guessT (minusOf s.data.toList) (sizeOfT s.data.toList) = none := by rw [hnil]; rfl
    rw [hn]
    exact specNone_calls s w (by omega)
end Go.Proofs.YtjbknbinaegpkaaDoor
