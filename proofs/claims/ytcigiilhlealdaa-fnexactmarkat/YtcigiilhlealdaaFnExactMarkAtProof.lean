/- FnExactMarkAt: at every mode and every list of ops impl.MarkAt answers as spec.MarkAt, object by object and row by row, writes into nothing that was there, and its answer owns its memory (the law answers true by itself where the ops are more than 2^20); no condition. -/
import Derived.Test.YtcigiilhlealdaaMtK
import Derived.WalkKit
import Derived.ProofKit
import Derived.OpenShut
import Derived.ShutString
import Derived.Carry
namespace Go.Proofs.Ytcigiilhlealdaa.fnExactMarkAt
set_option linter.unusedVariables false
open Go.ChangeShapes Go.WideShapes Go.ChangeAt Go.RowKit

theorem own : ownKnob Try.prog.godebug = none := by kernel_rfl
theorem laidOut : laidOutB Try.prog = true := by kernel_rfl

set_option maxRecDepth 100000 in
theorem lifted (os : Os) (started : os.Started) (H : Type) (enc : TypeId × Value → H) :
    ReturnsInHanded {} Try.checked os 5 .any (Rows.fnExactMarkAtSpec.pre6 enc Try.prog Try.f5 Rows.fnExactMarkAtRow.domain false) (Rows.fnExactMarkAtSpec.post enc Try.prog Try.f5 false true false false) := by
  refine returnsInHanded_of_change (C := Try.checked) own started (by kernel_rfl) Try.func5
    (ChangeSpec.witness6 (enc := enc) (C := Try.checked) false ⟨#[], #[.int .i64 0, .slice none 0 0], []⟩ 8 (by kernel_rfl) (by kernel_rfl) (by kernel_rfl) (by kernel_rfl)) ?_
  intro W base args ds gs before hval0 hW hcnd _
  have hval : ∀ (j : Nat) t v, Try.f5.params[j]? = some t → args[j]? = some v → Value.okWide Try.prog W .any base t v := hval0
  have hW' := hW
  obtain ⟨p, q, hA0, hV, rfl, hfz, hnd⟩ := hW
  have hA : DataW.TrodAll enc Try.prog W 0 (fun _ => true) true Try.f5.params.toList args.toList ds p := hA0
  rw [Try.params5] at hA hval
  obtain ⟨v0, vs0, d0, ds0, p0, q0, hargs0, rfl, rfl, h0, r0⟩ := trodAll_cons hA
  obtain ⟨v1, vs1, d1, ds1, p1, q1, hargs1, rfl, rfl, h1, r1⟩ := trodAll_cons r0
  obtain ⟨rfl, rfl, rfl⟩ := trodAll_nil r1
  obtain rfl : args = #[v0, v1] := by cases args; simp_all
  obtain ⟨rfl, rfl⟩ := trodVars_none hV
  obtain ⟨a0, rfl, rfl, rfl, w0⟩ := open_int Try.underlying2 (hval 0 2 v0 rfl rfl) h0
  have hlt1 : ∀ x ∈ p1, x.block < W.heap.size := fun x hx => hW'.lt x (by simp [hx])
  obtain ⟨sa1, sl1, sc1, rfl⟩ := okWide_slice Try.underlying40 (hval 1 40 v1 rfl rfl)
  have h1' := h1
  obtain ⟨f1, hf1⟩ := h1'
  have hf1' : DataW.trod enc Try.prog W 0 (fun _ => true) true f1 40 [.slice sa1 sl1 sc1] = some (d1, p1) := hf1
  obtain ⟨l1, hx1, hn1, hq1⟩ := open_list MopR 4 (fun _ => True) (by omega) Try.underlying40 (by kernel_rfl) (fun n cs z hl h hlt => open_mopE hl h) hf1' hlt1
  clear hA0 hval0
  simp only [List.append_nil] at hW'
  refine (lawMarkAt_calls a0 l1 _ W hx1 hn1).mono fun e W' ⟨he, hg⟩ => ?_
  subst he
  exact ⟨_, rfl, [_, _], [], _, [], _, [], by simpa using hW', trodAll_mk1 (shut_bool Try.underlying4 _), (trodAll_cons_mk (shut_int Try.underlying2 w0) (trodAll_cons_mk (Below.trod laidOut (by kernel_rfl) (of_decide_eq_true (by kernel_rfl)) h1 hg hlt1) trodAll_mk0)), rfl, hg.frame _, fun h => by cases h⟩

theorem over : Rows.fnExactMarkAtRow.holds Try.pinned (OpenSpec.ofChange Rows.fnExactMarkAtSpec) :=
  OpenClaim.holds_of_wide 5 Try.f5 rfl rfl rfl rfl rfl rfl rfl ⟨rfl, rfl, rfl, rfl, rfl⟩ rfl rfl rfl rfl rfl (by kernel_rfl) Try.func5 (by kernel_rfl)
    (of_decide_eq_true (by kernel_rfl)) (by unfold Func.isWrapper; first | (rw [if_pos (by decide +kernel)]; kernel_rfl) | (rw [if_neg (by decide +kernel)]; exact ⟨rfl, rfl⟩))
    (fun os started H enc _ => lifted os started H enc)
theorem proved : Rows.FnExactMarkAtSaid :=
  over
end Go.Proofs.Ytcigiilhlealdaa.fnExactMarkAt
namespace Go.Proofs.Ytcigiilhlealdaa
theorem fnExactMarkAt_holds : Rows.FnExactMarkAtSaid := fnExactMarkAt.proved
#print axioms fnExactMarkAt_holds
end Go.Proofs.Ytcigiilhlealdaa
