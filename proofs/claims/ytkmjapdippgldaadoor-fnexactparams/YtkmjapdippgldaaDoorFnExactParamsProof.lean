/- FnExactParams: at every text impl.Params answers as spec.Params, in memory of its own (the law answers true by itself for more than 2^20 bytes); no condition but the tables of the library that the row lists. -/
import Derived.Test.YtkmjapdippgldaaDoorMark
import Derived.Test.YtkmjapdippgldaaDoorCards
import Derived.Test.YtkmjapdippgldaaDoorTie
import Derived.WalkKit
import Derived.ProofKit
import Derived.OpenShut
import Derived.ShutString
import Derived.Deep.DeepHandedRow
import Derived.Lay
import Derived.LaidMore
import Derived.SevenTiedAt
namespace Go.Proofs.YtkmjapdippgldaaDoor.fnExactParams
set_option linter.unusedVariables false
open Go.ChangeShapes Go.WideShapes Go.ChangeAt Go.RowKit
open Go.ChangeMaps (open_string shut_string)

theorem own : ownKnob Tryd.prog.godebug = none := by kernel_rfl

set_option maxRecDepth 1000000 in
set_option maxHeartbeats 4000000 in
theorem walk (a0 : ByteArray) (w0 : a0.size ≤ maxLen) (w : World) (hsh : w.ShapedOpen Tryd.prog) :
    Calls Tryd.prog 6 #[.string a0] w fun e w' => e = .returned (.bool true) ∧ Below w.heap.size w w' := by
  by_cases hbig : (1048576 : Int) < a0.size
  · go_enter Tryd.func6, Tryd.ntmps6
    go_wp2
    go_ret
    exact ⟨rfl, Below.refl _ _⟩
  have hs : a0.size ≤ 1048576 := by omega
  have specH : Hid (∀ w, Calls Tryd.prog 14 #[.string a0] w (ParPost a0.data.toList w)) := fun w => specParams_calls a0 w hs
  have implH : Hid (∀ W : World, Below w.heap.size w W → Calls Tryd.prog 15 #[.string a0] W (ParPost a0.data.toList W)) := fun W hW => implParams_calls a0 W hs (shaped_below hsh hW)
  have hn : (sigPars a0.data.toList).length ≤ 1048577 := by
    unfold sigPars
    split
    · unfold parsOf
      split
      · simp
      · have := splitL_length (Lib.cut a0.data.toList.tail [41]).1
        have h2 : (Lib.cut a0.data.toList.tail [41]).1.length ≤ a0.data.toList.tail.length := by
          unfold Lib.cut; split
          · simp; omega
          · simp
        have h3 := toList_size a0
        simp at h2; omega
    · simp
  clear hsh
  generalize sigParsDef : sigPars a0.data.toList = ps at *
  have specH2 : Hid (∀ w, Calls Tryd.prog 14 #[.string a0] w fun e w' => ∃ v, e = .returned v ∧ w'.ownsRow w.heap.size 9 1 v ps.length (rowS ps) ∧ Below w.heap.size w w') := fun w => by
    have := specH.out w; unfold ParPost at this; rwa [sigParsDef] at this
  have implH2 : Hid (∀ W : World, Below w.heap.size w W → Calls Tryd.prog 15 #[.string a0] W fun e w' => ∃ v, e = .returned v ∧ w'.ownsRow W.heap.size 9 1 v ps.length (rowS ps) ∧ Below W.heap.size W w') := fun W hW => by
    have := implH.out W hW; unfold ParPost at this; rwa [sigParsDef] at this
  clear specH implH sigParsDef
  by_cases hp : ps = []
  · subst hp
    go_enter Tryd.func6, Tryd.ntmps6
    go_wp2_with (first
      | (go_at_call 14; refine (specH2.out _).mono ?_; rintro e w1 ⟨v, rfl, hown, hb⟩; obtain ⟨a, c, rfl⟩ := none_of hown; clear hown)
      | (go_at_call 15; refine (implH2.out _ hb).mono ?_; rintro e w2 ⟨v, rfl, hown, hb2⟩; obtain ⟨a2, c2, rfl⟩ := none_of hown; have hb := hb.trans (hb2.mono hb.size); clear hown hb2)
      | (go_at_call 16; refine (eqNone_calls _ _ _ _ _).mono ?_; rintro e w3 ⟨rfl, he⟩; subst he)
      | (go_at_call 17; refine (markNone_calls _ _ _).mono ?_; rintro e w3 ⟨rfl, he⟩; subst he)
      | (go_at_call 18; refine (heldNone_calls _ _ _).mono ?_; rintro e w3 ⟨rfl, he⟩; subst he))
    go_ret
    exact ⟨rfl, hb⟩
  · have hpH : Hid (ps ≠ []) := hp
    clear hp
    go_enter Tryd.func6, Tryd.ntmps6
    go_wp2_with (first
      | (go_at_call 14; refine (specH2.out _).mono ?_; rintro e w1 ⟨v, rfl, hown, hb1⟩; obtain ⟨gw, cw, hroww⟩ := row_filled hown hpH.out; have hv := hroww.eq; subst hv; have txw := texts_of hroww; have hgw := hroww.lt; clear hown hroww)
      | (go_at_call 15; refine (implH2.out _ hb1).mono ?_; rintro e w2 ⟨v, rfl, hown, hb2⟩; obtain ⟨g, cg, hrow⟩ := row_filled hown hpH.out; have hv := hrow.eq; subst hv; have txg := texts_of hrow; have hlow := hrow.low; have txw := txw.kept hb2 hgw; have hbW := hb1.trans (hb2.mono hb1.size); clear hown hrow hb2)
      | (go_at_call 16; refine (eqTexts_calls _ _ _ _ _ _ _ hn txg txw).mono ?_; rintro e w3 ⟨rfl, hb3⟩; have txg := txg.kept hb3 txg.lt; have txw := txw.kept hb3 txw.lt; have hbW := hbW.trans (hb3.mono hbW.size); clear hb3)
      | (go_at_call 17; refine (markTexts_calls _ _ _ 1 _ _ _ hn (by decide) (by decide) txg hlow).mono ?_; rintro e w4 ⟨rfl, hb4, txm⟩; have txw := txw.kept hb4 hgw; have hbW := hbW.trans (hb4.mono hb1.size); clear hb4)
      | (go_at_call 18; fail))
    go_wp2_with (first
      | (go_at_call 18; refine (heldTexts_calls _ _ _ 1 _ hn (by decide) (by decide) txm).mono ?_; rintro e w5 ⟨rfl, hb5⟩; have txm := txm.kept hb5 txm.lt; have txw := txw.kept hb5 txw.lt; have hbW := hbW.trans (hb5.mono hbW.size); clear hb5)
      | (go_at_call 15; refine (implH2.out _ hbW).mono ?_; rintro e w6 ⟨v, rfl, hown, hb6⟩; obtain ⟨g1, c1, hrow1⟩ := row_filled hown hpH.out; have hv := hrow1.eq; subst hv; have tx1 := texts_of hrow1; have txm := txm.kept hb6 txm.lt; have txw := txw.kept hb6 txw.lt; have hbW := hbW.trans (hb6.mono hbW.size); clear hown hrow1 hb6)
      | (go_at_call 16; refine (eqTexts_calls _ _ _ _ _ _ _ hn tx1 txw).mono ?_; rintro e w7 ⟨rfl, hb7⟩; have txm := txm.kept hb7 txm.lt; have txw := txw.kept hb7 txw.lt; have hbW := hbW.trans (hb7.mono hbW.size); clear hb7))
    go_ret
    exact ⟨rfl, hbW⟩

theorem contract (H : Type) (enc : TypeId × Value → H) (W : World) (base : Nat) (args : Array Value) (ds gs : List (DataW H)) (before : List MemPlace)
    (hval : ∀ (j : Nat) t v, Tryd.f6.params[j]? = some t → args[j]? = some v → Value.okWide Tryd.prog W .any base t v)
    (hW : DataW.Whole enc Tryd.prog Tryd.f6.params.toList Rows.fnExactParamsSpec.vars false W args.toList ds gs before) (hS : W.ShapedOpen Tryd.prog) :
    Calls Tryd.prog 6 args W fun e W' => ∃ v, e = .returned v ∧ Rows.fnExactParamsSpec.post enc Tryd.prog Tryd.f6 false true false false W args v W' := by
  have hW' := hW
  obtain ⟨p, q, hA0, hV, rfl, hfz, hnd⟩ := hW
  have hA : DataW.TrodAll enc Tryd.prog W 0 (fun _ => true) true Tryd.f6.params.toList args.toList ds p := hA0
  rw [Tryd.params6] at hA hval
  obtain ⟨v0, vs0, d0, ds0, p0, q0, hargs, rfl, rfl, h0, r0⟩ := trodAll_cons hA
  obtain ⟨rfl, rfl, rfl⟩ := trodAll_nil r0
  obtain rfl : args = #[v0] := by cases args; simp_all
  obtain ⟨rfl, rfl⟩ := trodVars_none hV
  obtain ⟨a0, rfl, rfl, rfl, w0⟩ := open_string Tryd.underlying9 (hval 0 9 v0 rfl rfl) h0
  clear hA0
  simp only [List.append_nil] at hW'
  refine (walk a0 w0 W hS).mono fun e W' ⟨he, hg⟩ => ?_
  subst he
  exact ⟨_, rfl, _, _, _, [], [], [], hW', trodAll_mk1 (shut_bool Tryd.underlying4 _), (trodAll_cons_mk (shut_string Tryd.underlying9 w0) trodAll_mk0), rfl, hg.frame _, fun h => by cases h⟩

theorem reads (os : Os) {H : Type} (enc : TypeId × Value → H) : ∃ places, DataW.whole enc Tryd.prog ((World.laidAll Tryd.prog os Rows.fnExactParamsRow.laid).forCall (fun _ _ => 0) ⟨#[], #[.string ByteArray.empty], []⟩).memory Tryd.f6.params.toList Rows.fnExactParamsSpec.vars false #[Value.string ByteArray.empty].toList 8 = some ([.lit (.string [])], [], places) :=
  ⟨[], by kernel_rfl⟩
theorem laid_met (os : Os) : laidMetH Tryd.prog Rows.fnExactParamsRow.laid ((World.laidAll Tryd.prog os Rows.fnExactParamsRow.laid).forCall (fun _ _ => 0) ⟨#[], #[.string ByteArray.empty], []⟩).memory := by
  rw [MakeChecks.laidMetH_plain _ _ _ (by kernel_rfl)]
  exact laidMet_laidAll _ (by kernel_rfl) (by kernel_rfl)
theorem shaped (os : Os) : ((World.laidAll Tryd.prog os Rows.fnExactParamsRow.laid).forCall (fun _ _ => 0) ⟨#[], #[.string ByteArray.empty], []⟩).Shaped Tryd.prog :=
  World.shaped_of_ZipB (by kernel_rfl) (by kernel_rfl)
theorem okIn (os : Os) : Input.okWideB Tryd.prog ((World.laidAll Tryd.prog os Rows.fnExactParamsRow.laid).forCall (fun _ _ => 0) ⟨#[], #[.string ByteArray.empty], []⟩) 6 ⟨#[], #[.string ByteArray.empty], []⟩ = true := by kernel_rfl

set_option maxRecDepth 100000 in
theorem lifted (os : Os) (started : os.Started) (H : Type) (enc : TypeId × Value → H) (F : Stop.Interp) :
    ReturnsInHanded {} Tryd.checked os 6 .any ((OpenSpec.ofChange Rows.fnExactParamsSpec).preRow enc Tryd.prog Tryd.f6 Rows.fnExactParamsRow.domain false Rows.fnExactParamsRow.laid) (((OpenSpec.ofChange Rows.fnExactParamsSpec).at F).post enc Tryd.prog Tryd.f6 false true false false) := by
  obtain ⟨places, hx⟩ := reads os enc
  refine returnsInHanded_of_row (C := Tryd.checked) (s := OpenSpec.ofChange Rows.fnExactParamsSpec) own started (by kernel_rfl) Tryd.func6
    ⟨World.laidAll Tryd.prog os Rows.fnExactParamsRow.laid, fun _ _ => 0, ⟨#[], #[.string ByteArray.empty], []⟩, World.laidAll_os _ _ _, shaped os, (Input.okWide_of_okWideB (base := 0) (okIn os)).1, (Input.okWide_of_okWideB (okIn os)).2,
      OpenSpec.preRow_of_cond 8 hx (by kernel_rfl) (fun k hk => by cases hk) (by kernel_rfl) (laid_met os), by
      simp only [Assume.holds]
      exact ⟨by simp, by simp, fun _ => Modest.zero, by simp, by simp⟩⟩ ?_
  intro W base args ds gs before hval hW _ _ _ hL hS _
  exact contract H enc W base args ds gs before hval hW hS

theorem said : Rows.FnExactParamsSaid :=
  OpenClaim.holds_of_cond 6 Tryd.f6 rfl rfl rfl rfl rfl rfl rfl ⟨rfl, rfl, rfl, rfl, rfl⟩ rfl rfl rfl rfl rfl (by kernel_rfl) Tryd.func6 (by kernel_rfl)
    (of_decide_eq_true (by kernel_rfl)) (by unfold Func.isWrapper; first | (rw [if_pos (by decide +kernel)]; kernel_rfl) | (rw [if_neg (by decide +kernel)]; exact ⟨rfl, rfl⟩))
    (fun os started H enc _ F => by rw [OpenClaim.pre_eq_preRow]; exact lifted os started H enc F)

theorem plain (f : FuncId) (fn : Func) (hf : Tryd.pinned.checked.prog.funcNamed "loop.example/g00032/laws.FnExactParams" = some f) (hfn : Tryd.pinned.checked.prog.funcs[f]? = some fn) :
    false = Tryd.pinned.checked.prog.looks [] ∧ ∀ (j : Nat) t, fn.params[j]? = some t → Tryd.pinned.checked.prog.wantsStandIn t = false := by
  obtain rfl : f = 6 := Option.some.inj ((show Tryd.prog.funcNamed "loop.example/g00032/laws.FnExactParams" = some 6 by kernel_rfl).symm.trans hf) |>.symm
  obtain rfl : fn = Tryd.f6 := (Option.some.inj (Tryd.func6.symm.trans hfn)).symm
  refine ⟨by kernel_rfl, fun j t ht => ?_⟩
  rw [Tryd.params6] at ht
  obtain rfl : t = 9 := by simpa using Array.mem_of_getElem? ht
  exact (show Tryd.prog.wantsStandIn 9 = false by kernel_rfl)

theorem card : Rows.FnExactParamsCardSaid :=
  Claim7.holds_tied_plain_at .later [] _ _ _ _ said (fun _ h => by cases h) (by kernel_rfl) (fun _ h => by cases h) fnExactParams_row_tie rfl ⟨rfl, rfl⟩ (by kernel_rfl) rfl plain (by kernel_rfl)
end Go.Proofs.YtkmjapdippgldaaDoor.fnExactParams
namespace Go.Proofs.YtkmjapdippgldaaDoor
theorem fnExactParams_holds : Rows.FnExactParamsCardSaid := fnExactParams.card
#print axioms fnExactParams_holds
end Go.Proofs.YtkmjapdippgldaaDoor
