/- SigOk, Params, Result on both sides: what each answers at any text of at most 2^20 bytes. -/
import Derived.Test.YtkmjapdippgldaaDoorSig3
namespace Go.Proofs.YtkmjapdippgldaaDoor
set_option linter.unusedVariables false
open Go.ChangeShapes Go.WideShapes Go.ChangeAt Go.RowKit

theorem specSigOk_calls (s : ByteArray) (w : World) (hs : s.size ≤ 1048576) : Calls Tryd.prog 12 #[.string s] w fun e w' => e = .returned (.bool (sigOk s.data.toList)) ∧ Below w.heap.size w w' := by
  have h : Hid (∀ w, Calls Tryd.prog 25 #[.string s] w (SigPost s.data.toList w)) := fun w => specSig_calls s w hs
  go_enter Tryd.func12, Tryd.ntmps12
  go_wp2_with (go_at_call 25; refine (h.out _).mono ?_; rintro e w1 ⟨v, rfl, hown, hb⟩)
  go_ret
  exact ⟨rfl, hb⟩
theorem implSigOk_calls (s : ByteArray) (w : World) (hs : s.size ≤ 1048576) (hsh : w.ShapedOpen Tryd.prog) : Calls Tryd.prog 13 #[.string s] w fun e w' => e = .returned (.bool (sigOk s.data.toList)) ∧ Below w.heap.size w w' := by
  have h : Hid (Calls Tryd.prog 26 #[.string s] w (SigPost s.data.toList w)) := implSig_calls s w hs hsh
  clear hsh
  go_enter Tryd.func13, Tryd.ntmps13
  go_wp2_with (go_at_call 26; refine h.out.mono ?_; rintro e w1 ⟨v, rfl, hown, hb⟩)
  go_ret
  exact ⟨rfl, hb⟩
theorem specResult_calls (s : ByteArray) (w : World) (hs : s.size ≤ 1048576) : Calls Tryd.prog 19 #[.string s] w fun e w' => e = .returned (.string (mkS (sigRes s.data.toList))) ∧ Below w.heap.size w w' := by
  have h : Hid (∀ w, Calls Tryd.prog 25 #[.string s] w (SigPost s.data.toList w)) := fun w => specSig_calls s w hs
  go_enter Tryd.func19, Tryd.ntmps19
  go_wp2_with (go_at_call 25; refine (h.out _).mono ?_; rintro e w1 ⟨v, rfl, hown, hb⟩)
  go_ret
  exact ⟨rfl, hb⟩
theorem implResult_calls (s : ByteArray) (w : World) (hs : s.size ≤ 1048576) (hsh : w.ShapedOpen Tryd.prog) : Calls Tryd.prog 20 #[.string s] w fun e w' => e = .returned (.string (mkS (sigRes s.data.toList))) ∧ Below w.heap.size w w' := by
  have h : Hid (Calls Tryd.prog 26 #[.string s] w (SigPost s.data.toList w)) := implSig_calls s w hs hsh
  clear hsh
  go_enter Tryd.func20, Tryd.ntmps20
  go_wp2_with (go_at_call 26; refine h.out.mono ?_; rintro e w1 ⟨v, rfl, hown, hb⟩)
  go_ret
  exact ⟨rfl, hb⟩
def ParPost (l : List UInt8) (w : World) (e : Ending) (w' : World) : Prop :=
  ∃ v, e = .returned v ∧ w'.ownsRow w.heap.size 9 1 v (sigPars l).length (rowS (sigPars l)) ∧ Below w.heap.size w w'
theorem specParams_calls (s : ByteArray) (w : World) (hs : s.size ≤ 1048576) : Calls Tryd.prog 14 #[.string s] w (ParPost s.data.toList w) := by
  have h : Hid (∀ w, Calls Tryd.prog 25 #[.string s] w (SigPost s.data.toList w)) := fun w => specSig_calls s w hs
  go_enter Tryd.func14, Tryd.ntmps14
  go_wp2_with (go_at_call 25; refine (h.out _).mono ?_; rintro e w1 ⟨v, rfl, hown, hb⟩)
  go_ret
  exact ⟨_, rfl, hown, hb⟩
theorem implParams_calls (s : ByteArray) (w : World) (hs : s.size ≤ 1048576) (hsh : w.ShapedOpen Tryd.prog) : Calls Tryd.prog 15 #[.string s] w (ParPost s.data.toList w) := by
  have h : Hid (Calls Tryd.prog 26 #[.string s] w (SigPost s.data.toList w)) := implSig_calls s w hs hsh
  clear hsh
  go_enter Tryd.func15, Tryd.ntmps15
  go_wp2_with (go_at_call 26; refine h.out.mono ?_; rintro e w1 ⟨v, rfl, hown, hb⟩)
  go_ret
  exact ⟨_, rfl, hown, hb⟩
end Go.Proofs.YtkmjapdippgldaaDoor
