/- FnExactSpaceOk: at every list of classes impl.SpaceOk answers as spec.SpaceOk, and writes into nothing that was there (the law answers true by itself where what the list holds is together greater than 2^20); no condition but the tables and errors of the library that the row lists. -/
import Derived.Test.YthbledmeghkfpaaGreatDoorClsG
import Derived.Test.YthbledmeghkfpaaGreatDoorCards
import Derived.Test.YthbledmeghkfpaaGreatDoorTie
import Derived.Stop.LaidErr
import Derived.WalkKit
import Derived.ProofKit
import Derived.OpenShut
import Derived.ShutString
import Derived.Carry
import Derived.Deep.DeepHandedRow
import Derived.Lay
import Derived.LaidMore
import Derived.SevenTiedAt
import Derived.Lib.LaidTab
import Derived.ChangeVars
import Derived.OpenVars
namespace Go.Proofs.YthbledmeghkfpaaGreatDoor.fnExactSpaceOk
set_option linter.unusedVariables false
open Go.ChangeShapes Go.WideShapes Go.ChangeAt Go.RowKit
open Go.ChangeMaps (open_string shut_string)

theorem cells_of_strs {H : Type} {enc : TypeId × Value → H} {P : Program} {w : World} {base : Nat} {sp : Nat → Bool} {held : Bool} {fuel : Nat} {t e : TypeId} {n : Nat} {cs : List Value} {ss : List (List UInt8)} {p : List MemPlace}
    (ht : P.underlying t = some (.array n e)) (he : P.underlying e = some .string) (hce : P.cellsOf e = 1) (hct : P.cellsOf t = n)
    (h : DataW.trod enc P w base sp held fuel t cs = some (.agg (ss.map fun s => .lit (.string s)), p)) : cs = ss.map fun s => Value.string ⟨s.toArray⟩ := by
  cases fuel with
  | zero => simp [DataW.trod] at h
  | succ fuel =>
    simp only [DataW.trod, ht, hce, hct, Nat.mul_one] at h
    split at h
    · rename_i hl
      obtain ⟨xs, hm, hx⟩ := Option.map_eq_some_iff.1 h
      have hxs : xs.map (·.1) = ss.map fun s => (DataW.lit (.string s) : DataW H) := by
        have := congrArg Prod.fst hx
        simpa using this
      have hxl : xs.length = n := by simpa using Lib.mapM_length hm
      have hzl : ss.length = n := by
        have := congrArg List.length hxs
        simp at this
        omega
      apply List.ext_getElem?
      intro i
      by_cases hi : i < n
      · obtain ⟨b, hb, hf⟩ := Lib.mapM_at hm i i (by simp [hi])
        obtain ⟨s, hc, rfl, _⟩ := DataW.trod_string he hf
        have h1 : cs[i]? = some (.string s) := by
          have := congrArg (·[0]?) hc
          simpa [List.getElem?_take, List.getElem?_drop] using this
        have h2 : (xs.map (·.1))[i]? = some (DataW.lit (.string s.data.toList) : DataW H) := by simp [hb]
        rw [hxs] at h2
        simp only [List.getElem?_map, Option.map_eq_some_iff, DataW.lit.injEq, Lit.string.injEq] at h2
        obtain ⟨z, hz, rfl⟩ := h2
        simp [h1, hz]
      · rw [List.getElem?_eq_none (by omega), List.getElem?_eq_none (by simp; omega)]
    · cases h
theorem own : ownKnob Tryz.prog.godebug = none := by kernel_rfl
theorem laidOut : laidOutB Tryz.prog = true := by kernel_rfl
theorem star : "*errors.errorString" = "*" ++ "errors.errorString" := by decide
theorem row248 (u : TypeId) (h : Tryz.prog.typeName? 3 u = some "*errors.errorString") : u = 248 :=
  typeName_ptr_named (nm := "errors.errorString") (by rw [← star]; kernel_rfl) (by kernel_rfl) (by decide) u (by rw [← star]; exact h)
theorem env_of {W : World} (hL : laidMetH Tryz.prog Rows.fnExactSpaceOkRow.laid W) : Sh.Env W ∧ BootEnv W := by
  rw [MakeChecks.laidMetH_plain _ _ _ (by kernel_rfl)] at hL
  have ht : Lib.TabIs Tryz.prog W "internal/strconv.uint64pow10" .u64 Lib.pow10Tab :=
    Lib.tabIs_of_head (g := 7) (t := 243) (by kernel_rfl) (by kernel_rfl) Tryz.underlying243 Tryz.underlying207 (by kernel_rfl) (by kernel_rfl) hL.tail.tail
  obtain ⟨a, s, hv, _⟩ := laid_sentinel (tp := 248) (te := 250) (ts := 9) hL.tail.tail.tail.tail (g := 6) (ti := 202) (by kernel_rfl) (by kernel_rfl) Tryz.underlying202 row248 Tryz.underlying248 Tryz.underlying250 rfl rfl Tryz.underlying9 (by kernel_rfl) (by kernel_rfl)
  obtain ⟨a', s', hv', _⟩ := laid_sentinel (tp := 248) (te := 250) (ts := 9) hL.tail.tail.tail.tail.tail (g := 5) (ti := 202) (by kernel_rfl) (by kernel_rfl) Tryz.underlying202 row248 Tryz.underlying248 Tryz.underlying250 rfl rfl Tryz.underlying9 (by kernel_rfl) (by kernel_rfl)
  have c9 : W.cell? ⟨6, 0, none⟩ = some (.iface 248 (.pointer (some a))) := by simpa using World.var?_cell (g := 6) (by kernel_rfl) hv 0
  have c7 := World.var?_cell (g := 7) (by kernel_rfl) ht 0
  have h9 : 7 < W.heap.size := World.block_lt_of_cell? W ⟨7, 0, none⟩ (u := .int .u64 1) (c7.trans rfl)
  refine ⟨⟨⟨248, _, by simpa using World.var?_cell (g := 5) (by kernel_rfl) hv' 0⟩, ⟨248, _, c9⟩, ht, by omega⟩, ?_, by omega⟩
  obtain ⟨ps, ⟨g', t', cs, fuel, p, q, hg', ht', hvar, hd, _, _⟩, _⟩ := hL.tail.tail.tail.tail.tail.tail
  obtain rfl : g' = 0 := (Option.some.inj ((show Tryz.prog.globalNamed "loop.example/g00032/impl.errorNames" = some 0 by kernel_rfl).symm.trans hg')).symm
  obtain rfl : t' = 55 := (Option.some.inj ((show (Tryz.prog.globals[0]?).map (·.type) = some 55 by kernel_rfl).symm.trans ht')).symm
  have hcs := cells_of_strs (ss := bootErrs.map (·.data.toList)) Tryz.underlying55 Tryz.underlying9 (by kernel_rfl) (by kernel_rfl) hd
  intro j u hu
  have hget := World.var?_cell (g := 0) (by kernel_rfl) hvar j
  rw [← Array.getElem?_toList, hcs] at hget
  have e : (bootErrs.map (·.data.toList)).map (fun s => Value.string ⟨s.toArray⟩) = errTab := rfl
  rw [e, hu] at hget
  simpa using hget

set_option maxRecDepth 1000000 in
theorem contract (H : Type) (enc : TypeId × Value → H) (W : World) (base : Nat) (args : Array Value) (ds gs : List (DataW H)) (before : List MemPlace)
    (hval : ∀ (j : Nat) t v, Tryz.f3.params[j]? = some t → args[j]? = some v → Value.okWide Tryz.prog W .any base t v)
    (hW : DataW.Whole enc Tryz.prog Tryz.f3.params.toList Rows.fnExactSpaceOkSpec.vars false W args.toList ds gs before) (hL : laidMetH Tryz.prog Rows.fnExactSpaceOkRow.laid W) (hS : W.ShapedOpen Tryz.prog) :
    Calls Tryz.prog 3 args W fun e W' => ∃ v, e = .returned v ∧ Rows.fnExactSpaceOkSpec.post enc Tryz.prog Tryz.f3 false true false false W args v W' := by
  have hW' := hW
  obtain ⟨p, q, hA0, hV, rfl, hfz, hnd⟩ := hW
  have hA : DataW.TrodAll enc Tryz.prog W 0 (fun _ => true) true Tryz.f3.params.toList args.toList ds p := hA0
  rw [Tryz.params3] at hA hval
  obtain ⟨v0, vs0, d0, ds0, p0, q0, hargs, rfl, rfl, h0, r0⟩ := trodAll_cons hA
  obtain ⟨rfl, rfl, rfl⟩ := trodAll_nil r0
  obtain rfl : args = #[v0] := by cases args; simp_all
  have hV' := hV
  obtain ⟨gv, tv, csv, fv, g1, pv, rfl, -, -, -, -, -⟩ := trodVars_one hV
  have hlt : ∀ x ∈ p0, x.block < W.heap.size := fun x hx => hW'.lt x (by simp [hx])
  obtain ⟨a, len, cap, rfl⟩ := okWide_slice Tryz.underlying22 (hval 0 22 v0 rfl rfl)
  have h0' := h0
  obtain ⟨fuel, hf⟩ := h0'
  have hf' : DataW.trod enc Tryz.prog W 0 (fun _ => true) true fuel 22 [.slice a len cap] = some (d0, p0) := hf
  obtain ⟨xs, hx, hn, hq⟩ := open_list ClassR 7 (fun x => x.upto ∧ x.wide) (by omega) Tryz.underlying22 (by kernel_rfl) (fun n cs z hl h hlt => open_classE hl h hlt) hf' hlt
  clear hA0
  refine (lawSpace_calls _ xs W hx hn (fun x h => (hq x h).1) (fun x h => (hq x h).2) ⟨(env_of hL).1, hS⟩ (env_of hL).2).mono fun e W' ⟨he, hg⟩ => ?_
  subst he
  exact ⟨_, rfl, [d0], [g1], _, [], p0 ++ [], _, hW', trodAll_mk1 (shut_bool Tryz.underlying4 _), trodAll_cons_mk (Below.trod laidOut (by kernel_rfl) (of_decide_eq_true (by kernel_rfl)) h0 hg hlt) trodAll_mk0, Below.trodVars laidOut hg (by kernel_rfl) hV', hg.frame _, fun h => by cases h⟩

abbrev zeroClass : Value := .slice none 0 0
theorem reads (os : Os) {H : Type} (enc : TypeId × Value → H) : ∃ places, DataW.whole enc Tryz.prog ((World.laidAll Tryz.prog os Rows.fnExactSpaceOkRow.laid).forCall (fun _ _ => 0) ⟨#[], #[zeroClass], []⟩).memory Tryz.f3.params.toList Rows.fnExactSpaceOkSpec.vars false #[zeroClass].toList 8 = some ([.nil], [Rows.laid_loop_example_g00032_impl_errorNames], places) :=
  ⟨MemPlace.row ⟨0, 0, none⟩ 10, by kernel_rfl⟩
theorem laid_met (os : Os) : laidMetH Tryz.prog Rows.fnExactSpaceOkRow.laid ((World.laidAll Tryz.prog os Rows.fnExactSpaceOkRow.laid).forCall (fun _ _ => 0) ⟨#[], #[zeroClass], []⟩).memory := by
  rw [MakeChecks.laidMetH_plain _ _ _ (by kernel_rfl)]
  exact laidMet_laidAll _ (by kernel_rfl) (by kernel_rfl)
theorem shaped (os : Os) : ((World.laidAll Tryz.prog os Rows.fnExactSpaceOkRow.laid).forCall (fun _ _ => 0) ⟨#[], #[zeroClass], []⟩).Shaped Tryz.prog :=
  World.shaped_of_ZipB (by kernel_rfl) (by kernel_rfl)
theorem okIn (os : Os) : Input.okWideB Tryz.prog ((World.laidAll Tryz.prog os Rows.fnExactSpaceOkRow.laid).forCall (fun _ _ => 0) ⟨#[], #[zeroClass], []⟩) 3 ⟨#[], #[zeroClass], []⟩ = true := by kernel_rfl

set_option maxRecDepth 100000 in
theorem lifted (os : Os) (started : os.Started) (H : Type) (enc : TypeId × Value → H) (F : Stop.Interp) :
    ReturnsInHanded {} Tryz.checked os 3 .any ((OpenSpec.ofChange Rows.fnExactSpaceOkSpec).preRow enc Tryz.prog Tryz.f3 Rows.fnExactSpaceOkRow.domain false Rows.fnExactSpaceOkRow.laid) (((OpenSpec.ofChange Rows.fnExactSpaceOkSpec).at F).post enc Tryz.prog Tryz.f3 false true false false) := by
  obtain ⟨places, hx⟩ := reads os enc
  refine returnsInHanded_of_row (C := Tryz.checked) (s := OpenSpec.ofChange Rows.fnExactSpaceOkSpec) own started (by kernel_rfl) Tryz.func3
    ⟨World.laidAll Tryz.prog os Rows.fnExactSpaceOkRow.laid, fun _ _ => 0, ⟨#[], #[zeroClass], []⟩, World.laidAll_os _ _ _, shaped os, (Input.okWide_of_okWideB (base := 0) (okIn os)).1, (Input.okWide_of_okWideB (okIn os)).2,
      OpenSpec.preRow_of_cond 8 hx (by kernel_rfl) (fun k hk => by cases hk) (by kernel_rfl) (laid_met os), by
      simp only [Assume.holds]
      exact ⟨by simp, by simp, fun _ => Modest.zero, by simp, by simp⟩⟩ ?_
  intro W base args ds gs before hval hW _ _ _ hL hS _
  exact contract H enc W base args ds gs before hval hW hL hS

theorem said : Rows.FnExactSpaceOkSaid :=
  OpenClaim.holds_of_cond 3 Tryz.f3 rfl rfl rfl rfl rfl rfl rfl ⟨rfl, rfl, rfl, rfl, rfl⟩ rfl rfl rfl rfl rfl (by kernel_rfl) Tryz.func3 (by kernel_rfl)
    (of_decide_eq_true (by kernel_rfl)) (by unfold Func.isWrapper; first | (rw [if_pos (by decide +kernel)]; kernel_rfl) | (rw [if_neg (by decide +kernel)]; exact ⟨rfl, rfl⟩))
    (fun os started H enc _ F => by rw [OpenClaim.pre_eq_preRow]; exact lifted os started H enc F)

theorem plain (f : FuncId) (fn : Func) (hf : Tryz.pinned.checked.prog.funcNamed "loop.example/g00032/laws.FnExactSpaceOk" = some f) (hfn : Tryz.pinned.checked.prog.funcs[f]? = some fn) :
    true = Tryz.pinned.checked.prog.looks [] ∧ ∀ (j : Nat) t, fn.params[j]? = some t → Tryz.pinned.checked.prog.wantsStandIn t = false := by
  obtain rfl : f = 3 := Option.some.inj ((show Tryz.prog.funcNamed "loop.example/g00032/laws.FnExactSpaceOk" = some 3 by kernel_rfl).symm.trans hf) |>.symm
  obtain rfl : fn = Tryz.f3 := (Option.some.inj (Tryz.func3.symm.trans hfn)).symm
  refine ⟨by kernel_rfl, fun j t ht => ?_⟩
  rw [Tryz.params3] at ht
  have hm := Array.mem_of_getElem? ht
  simp at hm
  subst hm
  exact (show Tryz.prog.wantsStandIn 22 = false by kernel_rfl)

theorem card : Rows.FnExactSpaceOkCardSaid :=
  Claim7.holds_tied_plain_at .later [] _ _ _ _ said (fun _ h => by cases h) (by kernel_rfl) (fun _ h => by cases h) fnExactSpaceOk_row_tie rfl ⟨rfl, rfl⟩ (by kernel_rfl) rfl plain (by kernel_rfl)
end Go.Proofs.YthbledmeghkfpaaGreatDoor.fnExactSpaceOk
namespace Go.Proofs.YthbledmeghkfpaaGreatDoor
theorem fnExactSpaceOk_holds : Rows.FnExactSpaceOkCardSaid := fnExactSpaceOk.card
#print axioms fnExactSpaceOk_holds
end Go.Proofs.YthbledmeghkfpaaGreatDoor
