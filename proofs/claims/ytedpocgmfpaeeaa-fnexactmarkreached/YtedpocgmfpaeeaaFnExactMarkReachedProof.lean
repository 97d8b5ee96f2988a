/- FnExactMarkReached: at every heap of the marker impl.MarkReached answers as spec.MarkReached, number by number, writes into nothing that was there, and its answer owns its memory (the law answers true by itself where what the heap holds is together greater than 2^20); no condition. -/
import Derived.Test.YtedpocgmfpaeeaaMpO
import Derived.WalkKit
import Derived.ProofKit
import Derived.OpenShut
import Derived.ShutString
import Derived.Carry
namespace Go.Proofs.Ytedpocgmfpaeeaa.fnExactMarkReached
set_option linter.unusedVariables false
open Go.ChangeShapes Go.WideShapes Go.ChangeAt Go.RowKit

theorem own : ownKnob Try.prog.godebug = none := by kernel_rfl
theorem laidOut : laidOutB Try.prog = true := by kernel_rfl

set_option maxRecDepth 100000 in
theorem lifted (os : Os) (started : os.Started) (H : Type) (enc : TypeId × Value → H) :
    ReturnsInHanded {} Try.checked os 4 .any (Rows.fnExactMarkReachedSpec.pre6 enc Try.prog Try.f4 Rows.fnExactMarkReachedRow.domain false) (Rows.fnExactMarkReachedSpec.post enc Try.prog Try.f4 false true false false) := by
  refine returnsInHanded_of_change (C := Try.checked) own started (by kernel_rfl) Try.func4
    (ChangeSpec.witness6 (enc := enc) (C := Try.checked) false ⟨#[], #[.agg #[.slice none 0 0, .slice none 0 0, .bool false, .slice none 0 0]], []⟩ 8 (by kernel_rfl) (by kernel_rfl) (by kernel_rfl) (by kernel_rfl)) ?_
  intro W base args ds gs before hval0 hW hcnd _
  have hval : ∀ (j : Nat) t v, Try.f4.params[j]? = some t → args[j]? = some v → Value.okWide Try.prog W .any base t v := hval0
  have hW' := hW
  obtain ⟨p, q, hA0, hV, rfl, hfz, hnd⟩ := hW
  have hA : DataW.TrodAll enc Try.prog W 0 (fun _ => true) true Try.f4.params.toList args.toList ds p := hA0
  rw [Try.params4] at hA hval
  obtain ⟨v0, vs0, d0, ds0, p0, q0, hargs0, rfl, rfl, h0, r0⟩ := trodAll_cons hA
  obtain ⟨rfl, rfl, rfl⟩ := trodAll_nil r0
  obtain rfl : args = #[v0] := by cases args; simp_all
  obtain ⟨rfl, rfl⟩ := trodVars_none hV
  have hlt0 : ∀ x ∈ p0, x.block < W.heap.size := fun x hx => hW'.lt x (by simp [hx])
  obtain ⟨cs0, rfl, hsz0⟩ := okWide_struct Try.underlying39 (hval 0 39 v0 rfl rfl)
  have h0' := h0
  obtain ⟨f0, hf0⟩ := h0'
  obtain ⟨x0, hx0, hu0⟩ := open_mhpE (cs := cs0.toList) (by simpa using hsz0.trans (show Try.prog.cellsOf 39 = 4 by kernel_rfl)) hf0 hlt0
  clear hA0 hval0
  simp only [List.append_nil] at hW'
  refine (markReached_law x0 cs0.toList W hx0 hu0).mono fun e W' ⟨he, hg⟩ => ?_
  subst he
  exact ⟨_, rfl, [_], [], _, [], _, [], by simpa using hW', trodAll_mk1 (shut_bool Try.underlying4 _), (trodAll_cons_mk (Below.trod laidOut (by kernel_rfl) (of_decide_eq_true (by kernel_rfl)) h0 hg hlt0) trodAll_mk0), rfl, hg.frame _, fun h => by cases h⟩

theorem over : Rows.fnExactMarkReachedRow.holds Try.pinned (OpenSpec.ofChange Rows.fnExactMarkReachedSpec) :=
  OpenClaim.holds_of_wide 4 Try.f4 rfl rfl rfl rfl rfl rfl rfl ⟨rfl, rfl, rfl, rfl, rfl⟩ rfl rfl rfl rfl rfl (by kernel_rfl) Try.func4 (by kernel_rfl)
    (of_decide_eq_true (by kernel_rfl)) (by unfold Func.isWrapper; first | (rw [if_pos (by decide +kernel)]; kernel_rfl) | (rw [if_neg (by decide +kernel)]; exact ⟨rfl, rfl⟩))
    (fun os started H enc _ => lifted os started H enc)
theorem proved : Rows.FnExactMarkReachedSaid :=
  over
end Go.Proofs.Ytedpocgmfpaeeaa.fnExactMarkReached
namespace Go.Proofs.Ytedpocgmfpaeeaa
theorem fnExactMarkReached_holds : Rows.FnExactMarkReachedSaid := fnExactMarkReached.proved
#print axioms fnExactMarkReached_holds
end Go.Proofs.Ytedpocgmfpaeeaa
