/- SigOk, Params, Result on both sides: what each answers at any text of at most 2^20 bytes. -/
import Derived.Test.YtkfbgghkcojdpaaDoorSig3
namespace Go.Proofs.YtkfbgghkcojdpaaDoor
set_option linter.unusedVariables false
open Go.ChangeShapes Go.WideShapes Go.ChangeAt Go.RowKit

theorem specSigOk_calls (s : ByteArray) (w : World) (hs : s.size ≤ 1048576) : Calls Tryd.prog 7 #[.string s] w fun e w' => e = .returned (.bool (sigOk s.data.toList)) ∧ Below w.heap.size w w' := by
  have h : Hid (∀ w, Calls Tryd.prog 15 #[.string s] w (SigPost s.data.toList w)) := fun w => specSig_calls s w hs
  go_enter Tryd.func7, Tryd.ntmps7
  go_wp2_with (go_at_call 15; refine (h.out _).mono ?_; rintro e w1 ⟨v, rfl, hown, hb⟩)
  go_ret
  exact ⟨rfl, hb⟩
theorem implSigOk_calls (s : ByteArray) (w : World) (hs : s.size ≤ 1048576) (hsh : w.ShapedOpen Tryd.prog) : Calls Tryd.prog 5 #[.string s] w fun e w' => e = .returned (.bool (sigOk s.data.toList)) ∧ Below w.heap.size w w' := by
  have h : Hid (Calls Tryd.prog 12 #[.string s] w (SigPost s.data.toList w)) := implSig_calls s w hs hsh
  clear hsh
  go_enter Tryd.func5, Tryd.ntmps5
  go_wp2_with (go_at_call 12; refine h.out.mono ?_; rintro e w1 ⟨v, rfl, hown, hb⟩)
  go_ret
  exact ⟨rfl, hb⟩
theorem implResult_calls (s : ByteArray) (w : World) (hs : s.size ≤ 1048576) (hsh : w.ShapedOpen Tryd.prog) : Calls Tryd.prog 9 #[.string s] w fun e w' => e = .returned (.string (mkS (sigRes s.data.toList))) ∧ Below w.heap.size w w' := by
  have h : Hid (Calls Tryd.prog 12 #[.string s] w (SigPost s.data.toList w)) := implSig_calls s w hs hsh
  clear hsh
  go_enter Tryd.func9, Tryd.ntmps9
  go_wp2_with (go_at_call 12; refine h.out.mono ?_; rintro e w1 ⟨v, rfl, hown, hb⟩)
  go_ret
  exact ⟨rfl, hb⟩
def ParPost (l : List UInt8) (w : World) (e : Ending) (w' : World) : Prop :=
  ∃ v, e = .returned v ∧ w'.ownsRow w.heap.size 9 1 v (sigPars l).length (rowS (sigPars l)) ∧ Below w.heap.size w w'
theorem implParams_calls (s : ByteArray) (w : World) (hs : s.size ≤ 1048576) (hsh : w.ShapedOpen Tryd.prog) : Calls Tryd.prog 8 #[.string s] w (ParPost s.data.toList w) := by
  have h : Hid (Calls Tryd.prog 12 #[.string s] w (SigPost s.data.toList w)) := implSig_calls s w hs hsh
  clear hsh
  go_enter Tryd.func8, Tryd.ntmps8
  go_wp2_with (go_at_call 12; refine h.out.mono ?_; rintro e w1 ⟨v, rfl, hown, hb⟩)
  go_ret
  exact ⟨_, rfl, hown, hb⟩
end Go.Proofs.YtkfbgghkcojdpaaDoor
