/- FnExactReached: at every list of objects and every list of numbers impl.Reached answers as spec.Reached, writes into nothing that was there, and its answer owns its memory (the law answers true by itself where what came in is together greater than 2^20); no condition. -/
import Derived.Test.YtkpeimklcoggkaaRcL
import Derived.Test.YtkpeimklcoggkaaObO
import Derived.Test.YtkpeimklcoggkaaRcI
import Derived.WalkKit
import Derived.ProofKit
import Derived.OpenShut
import Derived.ShutString
import Derived.Carry
namespace Go.Proofs.Ytkpeimklcoggkaa.fnExactReached
set_option linter.unusedVariables false
open Go.ChangeShapes Go.WideShapes Go.ChangeAt Go.RowKit

theorem own : ownKnob Try.prog.godebug = none := by kernel_rfl
theorem laidOut : laidOutB Try.prog = true := by kernel_rfl

set_option maxRecDepth 100000 in
theorem lifted (os : Os) (started : os.Started) (H : Type) (enc : TypeId × Value → H) :
    ReturnsInHanded {} Try.checked os 3 .any (Rows.fnExactReachedSpec.pre6 enc Try.prog Try.f3 Rows.fnExactReachedRow.domain false) (Rows.fnExactReachedSpec.post enc Try.prog Try.f3 false true false false) := by
  refine returnsInHanded_of_change (C := Try.checked) own started (by kernel_rfl) Try.func3
    (ChangeSpec.witness6 (enc := enc) (C := Try.checked) false ⟨#[], #[.slice none 0 0, .slice none 0 0], []⟩ 8 (by kernel_rfl) (by kernel_rfl) (by kernel_rfl) (by kernel_rfl)) ?_
  intro W base args ds gs before hval0 hW hcnd _
  have hval : ∀ (j : Nat) t v, Try.f3.params[j]? = some t → args[j]? = some v → Value.okWide Try.prog W .any base t v := hval0
  have hW' := hW
  obtain ⟨p, q, hA0, hV, rfl, hfz, hnd⟩ := hW
  have hA : DataW.TrodAll enc Try.prog W 0 (fun _ => true) true Try.f3.params.toList args.toList ds p := hA0
  rw [Try.params3] at hA hval
  obtain ⟨v0, vs0, d0, ds0, p0, q0, hargs0, rfl, rfl, h0, r0⟩ := trodAll_cons hA
  obtain ⟨v1, vs1, d1, ds1, p1, q1, hargs1, rfl, rfl, h1, r1⟩ := trodAll_cons r0
  obtain ⟨rfl, rfl, rfl⟩ := trodAll_nil r1
  obtain rfl : args = #[v0, v1] := by cases args; simp_all
  obtain ⟨rfl, rfl⟩ := trodVars_none hV
  have hlt0 : ∀ x ∈ p0, x.block < W.heap.size := fun x hx => hW'.lt x (by simp [hx])
  obtain ⟨sa0, sl0, sc0, rfl⟩ := okWide_slice Try.underlying22 (hval 0 22 v0 rfl rfl)
  have h0' := h0
  obtain ⟨f0, hf0⟩ := h0'
  have hf0' : DataW.trod enc Try.prog W 0 (fun _ => true) true f0 22 [.slice sa0 sl0 sc0] = some (d0, p0) := hf0
  obtain ⟨l0, hx0, hn0, hq0⟩ := open_list ObjR 3 (fun x => x.upto) (by omega) Try.underlying22 (by kernel_rfl) (fun n cs z hl h hlt => open_objE hl h hlt) hf0' hlt0
  have hlt1 : ∀ x ∈ p1, x.block < W.heap.size := fun x hx => hW'.lt x (by simp [hx])
  obtain ⟨sa1, sl1, sc1, rfl⟩ := okWide_slice Try.underlying23 (hval 1 23 v1 rfl rfl)
  have h1' := h1
  obtain ⟨f1, hf1⟩ := h1'
  have hf1' : DataW.trod enc Try.prog W 0 (fun _ => true) true f1 23 [.slice sa1 sl1 sc1] = some (d1, p1) := hf1
  obtain ⟨l1, hx1, hn1, hq1⟩ := open_list IntR 1 (fun _ => True) (by omega) Try.underlying23 (by kernel_rfl) (fun n cs z hl h hlt => open_intE hl h) hf1' hlt1
  clear hA0 hval0
  simp only [List.append_nil] at hW'
  refine (lawReached_calls l0 l1 _ _ W hx0 hx1 ⟨hn0, hq0⟩ hn1 (fun W' u0 u1 lo hi lo2 hi2 _ a b c d e f g => implReached_calls u0 u1 l0 l1 W' lo hi lo2 hi2 a b c d e f g)).mono fun e W' ⟨he, hg⟩ => ?_
  subst he
  exact ⟨_, rfl, [_, _], [], _, [], _, [], by simpa using hW', trodAll_mk1 (shut_bool Try.underlying4 _), (trodAll_cons_mk (Below.trod laidOut (by kernel_rfl) (of_decide_eq_true (by kernel_rfl)) h0 hg hlt0) (trodAll_cons_mk (Below.trod laidOut (by kernel_rfl) (of_decide_eq_true (by kernel_rfl)) h1 hg hlt1) trodAll_mk0)), rfl, hg.frame _, fun h => by cases h⟩

theorem over : Rows.fnExactReachedRow.holds Try.pinned (OpenSpec.ofChange Rows.fnExactReachedSpec) :=
  OpenClaim.holds_of_wide 3 Try.f3 rfl rfl rfl rfl rfl rfl rfl ⟨rfl, rfl, rfl, rfl, rfl⟩ rfl rfl rfl rfl rfl (by kernel_rfl) Try.func3 (by kernel_rfl)
    (of_decide_eq_true (by kernel_rfl)) (by unfold Func.isWrapper; first | (rw [if_pos (by decide +kernel)]; kernel_rfl) | (rw [if_neg (by decide +kernel)]; exact ⟨rfl, rfl⟩))
    (fun os started H enc _ => lifted os started H enc)
theorem proved : Rows.FnExactReachedSaid :=
  over
end Go.Proofs.Ytkpeimklcoggkaa.fnExactReached
namespace Go.Proofs.Ytkpeimklcoggkaa
theorem fnExactReached_holds : Rows.FnExactReachedSaid := fnExactReached.proved
#print axioms fnExactReached_holds
end Go.Proofs.Ytkpeimklcoggkaa
