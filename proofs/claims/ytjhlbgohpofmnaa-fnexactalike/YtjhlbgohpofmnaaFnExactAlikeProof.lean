/- FnExactAlike: at every two lists of objects and every two numbers impl.Alike answers as spec.Alike, and writes into nothing that was there (the law answers true by itself where what came in is together greater than 2^20); no condition. -/
import Derived.Test.YtjhlbgohpofmnaaAlL
import Derived.Test.YtjhlbgohpofmnaaObO
import Derived.Test.YtjhlbgohpofmnaaAlI
import Derived.WalkKit
import Derived.ProofKit
import Derived.OpenShut
import Derived.ShutString
import Derived.Carry
namespace Go.Proofs.Ytjhlbgohpofmnaa.fnExactAlike
set_option linter.unusedVariables false
open Go.ChangeShapes Go.WideShapes Go.ChangeAt Go.RowKit

theorem own : ownKnob Try.prog.godebug = none := by kernel_rfl
theorem laidOut : laidOutB Try.prog = true := by kernel_rfl

set_option maxRecDepth 100000 in
theorem lifted (os : Os) (started : os.Started) (H : Type) (enc : TypeId × Value → H) :
    ReturnsInHanded {} Try.checked os 3 .any (Rows.fnExactAlikeSpec.pre6 enc Try.prog Try.f3 Rows.fnExactAlikeRow.domain false) (Rows.fnExactAlikeSpec.post enc Try.prog Try.f3 false true false false) := by
  refine returnsInHanded_of_change (C := Try.checked) own started (by kernel_rfl) Try.func3
    (ChangeSpec.witness6 (enc := enc) (C := Try.checked) false ⟨#[], #[.slice none 0 0, .int .i64 0, .slice none 0 0, .int .i64 0], []⟩ 8 (by kernel_rfl) (by kernel_rfl) (by kernel_rfl) (by kernel_rfl)) ?_
  intro W base args ds gs before hval0 hW hcnd _
  have hval : ∀ (j : Nat) t v, Try.f3.params[j]? = some t → args[j]? = some v → Value.okWide Try.prog W .any base t v := hval0
  have hW' := hW
  obtain ⟨p, q, hA0, hV, rfl, hfz, hnd⟩ := hW
  have hA : DataW.TrodAll enc Try.prog W 0 (fun _ => true) true Try.f3.params.toList args.toList ds p := hA0
  rw [Try.params3] at hA hval
  obtain ⟨v0, vs0, d0, ds0, p0, q0, hargs0, rfl, rfl, h0, r0⟩ := trodAll_cons hA
  obtain ⟨v1, vs1, d1, ds1, p1, q1, hargs1, rfl, rfl, h1, r1⟩ := trodAll_cons r0
  obtain ⟨v2, vs2, d2, ds2, p2, q2, hargs2, rfl, rfl, h2, r2⟩ := trodAll_cons r1
  obtain ⟨v3, vs3, d3, ds3, p3, q3, hargs3, rfl, rfl, h3, r3⟩ := trodAll_cons r2
  obtain ⟨rfl, rfl, rfl⟩ := trodAll_nil r3
  obtain rfl : args = #[v0, v1, v2, v3] := by cases args; simp_all
  obtain ⟨rfl, rfl⟩ := trodVars_none hV
  have hlt0 : ∀ x ∈ p0, x.block < W.heap.size := fun x hx => hW'.lt x (by simp [hx])
  obtain ⟨sa0, sl0, sc0, rfl⟩ := okWide_slice Try.underlying22 (hval 0 22 v0 rfl rfl)
  have h0' := h0
  obtain ⟨f0, hf0⟩ := h0'
  have hf0' : DataW.trod enc Try.prog W 0 (fun _ => true) true f0 22 [.slice sa0 sl0 sc0] = some (d0, p0) := hf0
  obtain ⟨l0, hx0, hn0, hq0⟩ := open_list ObjR 3 (fun x => x.upto) (by omega) Try.underlying22 (by kernel_rfl) (fun n cs z hl h hlt => open_objE hl h hlt) hf0' hlt0
  obtain ⟨a1, rfl, rfl, rfl, w1⟩ := open_int Try.underlying2 (hval 1 2 v1 rfl rfl) h1
  have hlt2 : ∀ x ∈ p2, x.block < W.heap.size := fun x hx => hW'.lt x (by simp [hx])
  obtain ⟨sa2, sl2, sc2, rfl⟩ := okWide_slice Try.underlying22 (hval 2 22 v2 rfl rfl)
  have h2' := h2
  obtain ⟨f2, hf2⟩ := h2'
  have hf2' : DataW.trod enc Try.prog W 0 (fun _ => true) true f2 22 [.slice sa2 sl2 sc2] = some (d2, p2) := hf2
  obtain ⟨l2, hx2, hn2, hq2⟩ := open_list ObjR 3 (fun x => x.upto) (by omega) Try.underlying22 (by kernel_rfl) (fun n cs z hl h hlt => open_objE hl h hlt) hf2' hlt2
  obtain ⟨a3, rfl, rfl, rfl, w3⟩ := open_int Try.underlying2 (hval 3 2 v3 rfl rfl) h3
  clear hA0 hval0
  simp only [List.append_nil] at hW'
  refine (lawAlike_calls l0 l2 a1 a3 _ _ W hx0 hx2 ⟨hn0, hq0⟩ ⟨hn2, hq2⟩ (fun W' u0 u1 lo hi lo2 hi2 _ p q r t ha hb => implAlike_calls l0 l2 a1 a3 u0 u1 W' lo hi lo2 hi2 p q r t ha hb)).mono fun e W' ⟨he, hg⟩ => ?_
  subst he
  exact ⟨_, rfl, [_, _, _, _], [], _, [], _, [], by simpa using hW', trodAll_mk1 (shut_bool Try.underlying4 _), (trodAll_cons_mk (Below.trod laidOut (by kernel_rfl) (of_decide_eq_true (by kernel_rfl)) h0 hg hlt0) (trodAll_cons_mk (shut_int Try.underlying2 w1) (trodAll_cons_mk (Below.trod laidOut (by kernel_rfl) (of_decide_eq_true (by kernel_rfl)) h2 hg hlt2) (trodAll_cons_mk (shut_int Try.underlying2 w3) trodAll_mk0)))), rfl, hg.frame _, fun h => by cases h⟩

theorem over : Rows.fnExactAlikeRow.holds Try.pinned (OpenSpec.ofChange Rows.fnExactAlikeSpec) :=
  OpenClaim.holds_of_wide 3 Try.f3 rfl rfl rfl rfl rfl rfl rfl ⟨rfl, rfl, rfl, rfl, rfl⟩ rfl rfl rfl rfl rfl (by kernel_rfl) Try.func3 (by kernel_rfl)
    (of_decide_eq_true (by kernel_rfl)) (by unfold Func.isWrapper; first | (rw [if_pos (by decide +kernel)]; kernel_rfl) | (rw [if_neg (by decide +kernel)]; exact ⟨rfl, rfl⟩))
    (fun os started H enc _ => lifted os started H enc)
theorem proved : Rows.FnExactAlikeSaid :=
  over
end Go.Proofs.Ytjhlbgohpofmnaa.fnExactAlike
namespace Go.Proofs.Ytjhlbgohpofmnaa
theorem fnExactAlike_holds : Rows.FnExactAlikeSaid := fnExactAlike.proved
#print axioms fnExactAlike_holds
end Go.Proofs.Ytjhlbgohpofmnaa
