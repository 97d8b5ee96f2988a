/- FnExactOrder: at every litmus test and every list of picks impl.Order answers as spec.Order, act by act and race by race, writes into nothing that was there, and its answer owns its memory (the law answers true by itself where the picks are more than 2^20, or what the test holds is together greater than that); no condition. -/
import Derived.Test.YtknbchheoloaoaaGreatSbH
import Derived.Test.YtknbchheoloaoaaGreatSbO
import Derived.WalkKit
import Derived.ProofKit
import Derived.OpenShut
import Derived.ShutString
import Derived.Carry
namespace Go.Proofs.YtknbchheoloaoaaGreat.fnExactOrder
set_option linter.unusedVariables false
open Go.ChangeShapes Go.WideShapes Go.ChangeAt Go.RowKit

theorem own : ownKnob Tryz.prog.godebug = none := by kernel_rfl
theorem laidOut : laidOutB Tryz.prog = true := by kernel_rfl

set_option maxRecDepth 100000 in
theorem lifted (os : Os) (started : os.Started) (H : Type) (enc : TypeId × Value → H) :
  ReturnsInHanded {} Tryz.checked os 3 .any (Rows.fnExactOrderSpec.pre6 enc Tryz.prog Tryz.f3 Rows.fnExactOrderRow.domain false) (Rows.fnExactOrderSpec.post enc Tryz.prog Tryz.f3 false true false false) := by
 refine returnsInHanded_of_change (C := Tryz.checked) own started (by kernel_rfl) Tryz.func3
  (ChangeSpec.witness6 (enc := enc) (C := Tryz.checked) false ⟨#[], #[.agg #[.int .i64 0, .int .i64 0, .int .i64 0, .slice none 0 0], .slice none 0 0], []⟩ 8 (by kernel_rfl) (by kernel_rfl) (by kernel_rfl) (by kernel_rfl)) ?_
 intro W base args ds gs before hval0 hW hcnd _
 have hval : ∀ (j : Nat) t v, Tryz.f3.params[j]? = some t → args[j]? = some v → Value.okWide Tryz.prog W .any base t v := hval0
 have hW' := hW
 obtain ⟨p, q, hA0, hV, rfl, hfz, hnd⟩ := hW
 have hA : DataW.TrodAll enc Tryz.prog W 0 (fun _ => true) true Tryz.f3.params.toList args.toList ds p := hA0
 rw [Tryz.params3] at hA hval
 obtain ⟨v0, vs0, d0, ds0, p0, q0, hargs0, rfl, rfl, h0, r0⟩ := trodAll_cons hA
 obtain ⟨v1, vs1, d1, ds1, p1, q1, hargs1, rfl, rfl, h1, r1⟩ := trodAll_cons r0
 obtain ⟨rfl, rfl, rfl⟩ := trodAll_nil r1
 obtain rfl : args = #[v0, v1] := by cases args; simp_all
 obtain ⟨rfl, rfl⟩ := trodVars_none hV
 have hlt0 : ∀ x ∈ p0, x.block < W.heap.size := fun x hx => hW'.lt x (by simp [hx])
 obtain ⟨cs0, rfl, hsz0⟩ := okWide_struct Tryz.underlying24 (hval 0 24 v0 rfl rfl)
 have h0' := h0
 obtain ⟨f0, hf0⟩ := h0'
 obtain ⟨x0, hx0, hu0⟩ := open_litE (cs := cs0.toList) (by simpa using hsz0.trans (show Tryz.prog.cellsOf 24 = 4 by kernel_rfl)) hf0 hlt0
 have hlt1 : ∀ x ∈ p1, x.block < W.heap.size := fun x hx => hW'.lt x (by simp [hx])
 obtain ⟨sa1, sl1, sc1, rfl⟩ := okWide_slice Tryz.underlying25 (hval 1 25 v1 rfl rfl)
 have h1' := h1
 obtain ⟨f1, hf1⟩ := h1'
 have hf1' : DataW.trod enc Tryz.prog W 0 (fun _ => true) true f1 25 [.slice sa1 sl1 sc1] = some (d1, p1) := hf1
 obtain ⟨l1, hx1, hn1, hq1⟩ := open_list IntR 1 (fun _ => True) (by omega) Tryz.underlying25 (by kernel_rfl) (fun n cs z hl h hlt => open_intE hl h) hf1' hlt1
 clear hA0 hval0
 simp only [List.append_nil] at hW'
 refine (lawOrder_calls x0 l1 cs0.toList _ W hx0 hx1 hu0 hn1).mono fun e W' ⟨he, hg⟩ => ?_
 subst he
 exact ⟨_, rfl, [_, _], [], _, [], _, [], by simpa using hW', trodAll_mk1 (shut_bool Tryz.underlying4 _), (trodAll_cons_mk (Below.trod laidOut (by kernel_rfl) (of_decide_eq_true (by kernel_rfl)) h0 hg hlt0) (trodAll_cons_mk (Below.trod laidOut (by kernel_rfl) (of_decide_eq_true (by kernel_rfl)) h1 hg hlt1) trodAll_mk0)), rfl, hg.frame _, fun h => by cases h⟩

theorem over : Rows.fnExactOrderRow.holds Tryz.pinned (OpenSpec.ofChange Rows.fnExactOrderSpec) :=
 OpenClaim.holds_of_wide 3 Tryz.f3 rfl rfl rfl rfl rfl rfl rfl ⟨rfl, rfl, rfl, rfl, rfl⟩ rfl rfl rfl rfl rfl (by kernel_rfl) Tryz.func3 (by kernel_rfl)
  (of_decide_eq_true (by kernel_rfl)) (by unfold Func.isWrapper; first | (rw [if_pos (by decide +kernel)]; kernel_rfl) | (rw [if_neg (by decide +kernel)]; exact ⟨rfl, rfl⟩))
  (fun os started H enc _ => lifted os started H enc)
theorem proved : Rows.FnExactOrderSaid :=
 over
end Go.Proofs.YtknbchheoloaoaaGreat.fnExactOrder
namespace Go.Proofs.YtknbchheoloaoaaGreat
theorem fnExactOrder_holds : Rows.FnExactOrderSaid := fnExactOrder.proved
#print axioms fnExactOrder_holds
end Go.Proofs.YtknbchheoloaoaaGreat
