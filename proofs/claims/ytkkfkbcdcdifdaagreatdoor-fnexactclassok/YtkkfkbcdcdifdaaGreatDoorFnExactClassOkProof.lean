/- FnExactClassOk: at every class impl.ClassOk answers as spec.ClassOk, and writes into nothing that was there (the law answers true by itself where what the class holds is together greater than 2^20); no condition but the tables and errors of the library that the row lists. -/
import Derived.Test.YtkkfkbcdcdifdaaGreatDoorClsG
import Derived.Test.YtkkfkbcdcdifdaaGreatDoorCards
import Derived.Test.YtkkfkbcdcdifdaaGreatDoorTie
import Derived.Stop.LaidErr
import Derived.WalkKit
import Derived.ProofKit
import Derived.OpenShut
import Derived.ShutString
import Derived.Carry
import Derived.Deep.DeepHandedRow
import Derived.Lay
import Derived.LaidMore
import Derived.SevenTiedAt
namespace Go.Proofs.YtkkfkbcdcdifdaaGreatDoor.fnExactClassOk
set_option linter.unusedVariables false
open Go.ChangeShapes Go.WideShapes Go.ChangeAt Go.RowKit
open Go.ChangeMaps (open_string shut_string)

theorem own : ownKnob Tryz.prog.godebug = none := by kernel_rfl
theorem laidOut : laidOutB Tryz.prog = true := by kernel_rfl
theorem cells43 : Tryz.prog.cellsOf 43 = 7 := by kernel_rfl
theorem star : "*errors.errorString" = "*" ++ "errors.errorString" := by decide
theorem row233 (u : TypeId) (h : Tryz.prog.typeName? 3 u = some "*errors.errorString") : u = 233 :=
  typeName_ptr_named (nm := "errors.errorString") (by rw [← star]; kernel_rfl) (by kernel_rfl) (by decide) u (by rw [← star]; exact h)
theorem env_of {W : World} (hL : laidMetH Tryz.prog Rows.fnExactClassOkRow.laid W) : Sh.Env W := by
  rw [MakeChecks.laidMetH_plain _ _ _ (by kernel_rfl)] at hL
  have ht : Lib.TabIs Tryz.prog W "internal/strconv.uint64pow10" .u64 Lib.pow10Tab :=
    Lib.tabIs_of_head (g := 6) (t := 228) (by kernel_rfl) (by kernel_rfl) Tryz.underlying228 Tryz.underlying182 (by kernel_rfl) (by kernel_rfl) hL.tail.tail
  obtain ⟨a, s, hv, _⟩ := laid_sentinel (tp := 233) (te := 235) (ts := 9) hL.tail.tail.tail.tail (g := 5) (ti := 177) (by kernel_rfl) (by kernel_rfl) Tryz.underlying177 row233 Tryz.underlying233 Tryz.underlying235 rfl rfl Tryz.underlying9 (by kernel_rfl) (by kernel_rfl)
  obtain ⟨a', s', hv', _⟩ := laid_sentinel (tp := 233) (te := 235) (ts := 9) hL.tail.tail.tail.tail.tail (g := 4) (ti := 177) (by kernel_rfl) (by kernel_rfl) Tryz.underlying177 row233 Tryz.underlying233 Tryz.underlying235 rfl rfl Tryz.underlying9 (by kernel_rfl) (by kernel_rfl)
  refine ⟨⟨233, _, by simpa using World.var?_cell (g := 4) (by kernel_rfl) hv' 0⟩, ⟨233, _, by simpa using World.var?_cell (g := 5) (by kernel_rfl) hv 0⟩, ht, ?_⟩
  have h2 : W.heap[6]?.isSome = true := by
    unfold Lib.TabIs World.var? at ht
    rw [show Tryz.prog.globalNamed "internal/strconv.uint64pow10" = some 6 by kernel_rfl] at ht
    simp only [Option.bind_some] at ht
    split at ht
    · rename_i h; rw [h]; rfl
    · cases ht
  obtain ⟨o, ho⟩ := Option.isSome_iff_exists.1 h2
  exact (Array.getElem?_eq_some_iff.1 ho).1

set_option maxRecDepth 1000000 in
theorem contract (H : Type) (enc : TypeId × Value → H) (W : World) (base : Nat) (args : Array Value) (ds gs : List (DataW H)) (before : List MemPlace)
    (hval : ∀ (j : Nat) t v, Tryz.f4.params[j]? = some t → args[j]? = some v → Value.okWide Tryz.prog W .any base t v)
    (hW : DataW.Whole enc Tryz.prog Tryz.f4.params.toList Rows.fnExactClassOkSpec.vars false W args.toList ds gs before) (hL : laidMetH Tryz.prog Rows.fnExactClassOkRow.laid W) (hS : W.ShapedOpen Tryz.prog) :
    Calls Tryz.prog 4 args W fun e W' => ∃ v, e = .returned v ∧ Rows.fnExactClassOkSpec.post enc Tryz.prog Tryz.f4 false true false false W args v W' := by
  have hW' := hW
  obtain ⟨p, q, hA0, hV, rfl, hfz, hnd⟩ := hW
  have hA : DataW.TrodAll enc Tryz.prog W 0 (fun _ => true) true Tryz.f4.params.toList args.toList ds p := hA0
  rw [Tryz.params4] at hA hval
  obtain ⟨v0, vs0, d0, ds0, p0, q0, hargs, rfl, rfl, h0, r0⟩ := trodAll_cons hA
  obtain ⟨rfl, rfl, rfl⟩ := trodAll_nil r0
  obtain rfl : args = #[v0] := by cases args; simp_all
  obtain ⟨rfl, rfl⟩ := trodVars_none hV
  have hlt : ∀ x ∈ p0, x.block < W.heap.size := fun x hx => hW'.lt x (by simp [hx])
  obtain ⟨cs, rfl, hsz⟩ := okWide_struct Tryz.underlying43 (hval 0 43 v0 rfl rfl)
  have h0' := h0
  obtain ⟨fuel, hf⟩ := h0'
  obtain ⟨x, hx, hu, hw⟩ := open_classE (cs := cs.toList) (by simpa using hsz.trans cells43) hf hlt
  clear hA0
  simp only [List.append_nil] at hW'
  refine (lawClass_calls x cs.toList W hx hu hw ⟨env_of hL, hS⟩).mono fun e W' ⟨he, hg⟩ => ?_
  subst he
  exact ⟨_, rfl, [d0], [], p0, [], p0 ++ [], [], by simpa using hW', trodAll_mk1 (shut_bool Tryz.underlying4 _), trodAll_cons_mk (Below.trod laidOut (by kernel_rfl) (of_decide_eq_true (by kernel_rfl)) h0 hg hlt) trodAll_mk0, rfl, hg.frame _, fun h => by cases h⟩

abbrev zeroClass : Value := .agg #[.string ByteArray.empty, .string ByteArray.empty, .slice none 0 0, .int .i64 0, .slice none 0 0, .slice none 0 0, .slice none 0 0]
theorem reads (os : Os) {H : Type} (enc : TypeId × Value → H) : ∃ places, DataW.whole enc Tryz.prog ((World.laidAll Tryz.prog os Rows.fnExactClassOkRow.laid).forCall (fun _ _ => 0) ⟨#[], #[zeroClass], []⟩).memory Tryz.f4.params.toList Rows.fnExactClassOkSpec.vars false #[zeroClass].toList 8 = some ([.agg [.lit (.string []), .lit (.string []), .nil, .lit (.int .i64 0), .nil, .nil, .nil]], [], places) :=
  ⟨[], by kernel_rfl⟩
theorem laid_met (os : Os) : laidMetH Tryz.prog Rows.fnExactClassOkRow.laid ((World.laidAll Tryz.prog os Rows.fnExactClassOkRow.laid).forCall (fun _ _ => 0) ⟨#[], #[zeroClass], []⟩).memory := by
  rw [MakeChecks.laidMetH_plain _ _ _ (by kernel_rfl)]
  exact laidMet_laidAll _ (by kernel_rfl) (by kernel_rfl)
theorem shaped (os : Os) : ((World.laidAll Tryz.prog os Rows.fnExactClassOkRow.laid).forCall (fun _ _ => 0) ⟨#[], #[zeroClass], []⟩).Shaped Tryz.prog :=
  World.shaped_of_ZipB (by kernel_rfl) (by kernel_rfl)
theorem okIn (os : Os) : Input.okWideB Tryz.prog ((World.laidAll Tryz.prog os Rows.fnExactClassOkRow.laid).forCall (fun _ _ => 0) ⟨#[], #[zeroClass], []⟩) 4 ⟨#[], #[zeroClass], []⟩ = true := by kernel_rfl

set_option maxRecDepth 100000 in
theorem lifted (os : Os) (started : os.Started) (H : Type) (enc : TypeId × Value → H) (F : Stop.Interp) :
    ReturnsInHanded {} Tryz.checked os 4 .any ((OpenSpec.ofChange Rows.fnExactClassOkSpec).preRow enc Tryz.prog Tryz.f4 Rows.fnExactClassOkRow.domain false Rows.fnExactClassOkRow.laid) (((OpenSpec.ofChange Rows.fnExactClassOkSpec).at F).post enc Tryz.prog Tryz.f4 false true false false) := by
  obtain ⟨places, hx⟩ := reads os enc
  refine returnsInHanded_of_row (C := Tryz.checked) (s := OpenSpec.ofChange Rows.fnExactClassOkSpec) own started (by kernel_rfl) Tryz.func4
    ⟨World.laidAll Tryz.prog os Rows.fnExactClassOkRow.laid, fun _ _ => 0, ⟨#[], #[zeroClass], []⟩, World.laidAll_os _ _ _, shaped os, (Input.okWide_of_okWideB (base := 0) (okIn os)).1, (Input.okWide_of_okWideB (okIn os)).2,
      OpenSpec.preRow_of_cond 8 hx (by kernel_rfl) (fun k hk => by cases hk) (by kernel_rfl) (laid_met os), by
      simp only [Assume.holds]
      exact ⟨by simp, by simp, fun _ => Modest.zero, by simp, by simp⟩⟩ ?_
  intro W base args ds gs before hval hW _ _ _ hL hS _
  exact contract H enc W base args ds gs before hval hW hL hS

theorem said : Rows.FnExactClassOkSaid :=
  OpenClaim.holds_of_cond 4 Tryz.f4 rfl rfl rfl rfl rfl rfl rfl ⟨rfl, rfl, rfl, rfl, rfl⟩ rfl rfl rfl rfl rfl (by kernel_rfl) Tryz.func4 (by kernel_rfl)
    (of_decide_eq_true (by kernel_rfl)) (by unfold Func.isWrapper; first | (rw [if_pos (by decide +kernel)]; kernel_rfl) | (rw [if_neg (by decide +kernel)]; exact ⟨rfl, rfl⟩))
    (fun os started H enc _ F => by rw [OpenClaim.pre_eq_preRow]; exact lifted os started H enc F)

theorem plain (f : FuncId) (fn : Func) (hf : Tryz.pinned.checked.prog.funcNamed "loop.example/g00032/laws.FnExactClassOk" = some f) (hfn : Tryz.pinned.checked.prog.funcs[f]? = some fn) :
    true = Tryz.pinned.checked.prog.looks [] ∧ ∀ (j : Nat) t, fn.params[j]? = some t → Tryz.pinned.checked.prog.wantsStandIn t = false := by
  obtain rfl : f = 4 := Option.some.inj ((show Tryz.prog.funcNamed "loop.example/g00032/laws.FnExactClassOk" = some 4 by kernel_rfl).symm.trans hf) |>.symm
  obtain rfl : fn = Tryz.f4 := (Option.some.inj (Tryz.func4.symm.trans hfn)).symm
  refine ⟨by kernel_rfl, fun j t ht => ?_⟩
  rw [Tryz.params4] at ht
  have hm := Array.mem_of_getElem? ht
  simp at hm
  subst hm
  exact (show Tryz.prog.wantsStandIn 43 = false by kernel_rfl)

theorem card : Rows.FnExactClassOkCardSaid :=
  Claim7.holds_tied_plain_at .later [] _ _ _ _ said (fun _ h => by cases h) (by kernel_rfl) (fun _ h => by cases h) fnExactClassOk_row_tie rfl ⟨rfl, rfl⟩ (by kernel_rfl) rfl plain (by kernel_rfl)
end Go.Proofs.YtkkfkbcdcdifdaaGreatDoor.fnExactClassOk
namespace Go.Proofs.YtkkfkbcdcdifdaaGreatDoor
theorem fnExactClassOk_holds : Rows.FnExactClassOkCardSaid := fnExactClassOk.card
#print axioms fnExactClassOk_holds
end Go.Proofs.YtkkfkbcdcdifdaaGreatDoor
