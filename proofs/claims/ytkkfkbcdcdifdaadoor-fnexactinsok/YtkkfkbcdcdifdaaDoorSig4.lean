/- SigOk, Params, Result on both sides: what each answers at any text of at most 2^20 bytes. -/
import Derived.Test.YtkkfkbcdcdifdaaDoorSig3
namespace Go.Proofs.YtkkfkbcdcdifdaaDoor
set_option linter.unusedVariables false
open Go.ChangeShapes Go.WideShapes Go.ChangeAt Go.RowKit

theorem specSigOk_calls (s : ByteArray) (w : World) (hs : s.size ≤ 1048576) : Calls Tryd.prog 24 #[.string s] w fun e w' => e = .returned (.bool (sigOk s.data.toList)) ∧ Below w.heap.size w w' := by
  have h : Hid (∀ w, Calls Tryd.prog 59 #[.string s] w (SigPost s.data.toList w)) := fun w => specSig_calls s w hs
  go_enter Tryd.func24, Tryd.ntmps24
  go_wp2_with (go_at_call 59; refine (h.out _).mono ?_; rintro e w1 ⟨v, rfl, hown, hb⟩)
  go_ret
  exact ⟨rfl, hb⟩
theorem implSigOk_calls (s : ByteArray) (w : World) (hs : s.size ≤ 1048576) (hsh : w.ShapedOpen Tryd.prog) : Calls Tryd.prog 70 #[.string s] w fun e w' => e = .returned (.bool (sigOk s.data.toList)) ∧ Below w.heap.size w w' := by
  have h : Hid (Calls Tryd.prog 101 #[.string s] w (SigPost s.data.toList w)) := implSig_calls s w hs hsh
  clear hsh
  go_enter Tryd.func70, Tryd.ntmps70
  go_wp2_with (go_at_call 101; refine h.out.mono ?_; rintro e w1 ⟨v, rfl, hown, hb⟩)
  go_ret
  exact ⟨rfl, hb⟩
end Go.Proofs.YtkkfkbcdcdifdaaDoor
