/- FnExactIsA: at every list of classes and every two type words impl.IsA answers as spec.IsA, and writes into nothing that was there (the law answers true by itself where what the list holds, or a word, is greater than 2^20); no condition but the tables and errors of the library that the row lists. -/
import Derived.Test.YtjjccimeikkogaaGreatDoorLkY
import Derived.Test.YtjjccimeikkogaaGreatDoorFrame
namespace Go.Proofs.YtjjccimeikkogaaGreatDoor.fnExactIsA
set_option linter.unusedVariables false
open Go.ChangeShapes Go.WideShapes Go.ChangeAt Go.RowKit
open Go.ChangeMaps (open_string shut_string)
theorem env_of {W : World} (hL : laidMetH Tryz.prog Rows.fnExactIsARow.laid W) : Sh.Env W ∧ BootEnv W := by
 rw [MakeChecks.laidMetH_plain _ _ _ (by kernel_rfl)] at hL
 have ht : Lib.TabIs Tryz.prog W "internal/strconv.uint64pow10" .u64 Lib.pow10Tab :=
  Lib.tabIs_of_head (g := 7) (t := 283) (by kernel_rfl) (by kernel_rfl) Tryz.underlying283 Tryz.underlying255 (by kernel_rfl) (by kernel_rfl) hL.tail.tail
 obtain ⟨a, s, hv, _⟩ := laid_sentinel (tp := 288) (te := 290) (ts := 9) hL.tail.tail.tail.tail (g := 6) (ti := 250) (by kernel_rfl) (by kernel_rfl) Tryz.underlying250 rowE Tryz.underlying288 Tryz.underlying290 rfl rfl Tryz.underlying9 (by kernel_rfl) (by kernel_rfl)
 obtain ⟨a', s', hv', _⟩ := laid_sentinel (tp := 288) (te := 290) (ts := 9) hL.tail.tail.tail.tail.tail (g := 5) (ti := 250) (by kernel_rfl) (by kernel_rfl) Tryz.underlying250 rowE Tryz.underlying288 Tryz.underlying290 rfl rfl Tryz.underlying9 (by kernel_rfl) (by kernel_rfl)
 have c9 : W.cell? ⟨6, 0, none⟩ = some (.iface 288 (.pointer (some a))) := by simpa using World.var?_cell (g := 6) (by kernel_rfl) hv 0
 have c7 := World.var?_cell (g := 7) (by kernel_rfl) ht 0
 have h9 : 7 < W.heap.size := World.block_lt_of_cell? W ⟨7, 0, none⟩ (u := .int .u64 1) (c7.trans rfl)
 refine ⟨⟨⟨288, _, by simpa using World.var?_cell (g := 5) (by kernel_rfl) hv' 0⟩, ⟨288, _, c9⟩, ht, by omega⟩, ?_, by omega⟩
 obtain ⟨ps, ⟨g', t', cs, fuel, p, q, hg', ht', hvar, hd, _, _⟩, _⟩ := hL.tail.tail.tail.tail.tail.tail
 obtain rfl : g' = 0 := (Option.some.inj ((show Tryz.prog.globalNamed "loop.example/g00032/impl.errorNames" = some 0 by kernel_rfl).symm.trans hg')).symm
 obtain rfl : t' = 145 := (Option.some.inj ((show (Tryz.prog.globals[0]?).map (·.type) = some 145 by kernel_rfl).symm.trans ht')).symm
 have hcs := cells_of_strs (ss := bootErrs.map (·.data.toList)) Tryz.underlying145 Tryz.underlying9 (by kernel_rfl) (by kernel_rfl) hd
 intro j u hu
 have hget := World.var?_cell (g := 0) (by kernel_rfl) hvar j
 rw [← Array.getElem?_toList, hcs] at hget
 have e : (bootErrs.map (·.data.toList)).map (fun s => Value.string ⟨s.toArray⟩) = errTab := rfl
 rw [e, hu] at hget
 simpa using hget
set_option maxRecDepth 1000000 in
theorem contract (H : Type) (enc : TypeId × Value → H) (W : World) (base : Nat) (args : Array Value) (ds gs : List (DataW H)) (before : List MemPlace)
  (hval : ∀ (j : Nat) t v, Tryz.f4.params[j]? = some t → args[j]? = some v → Value.okWide Tryz.prog W .any base t v)
  (hW : DataW.Whole enc Tryz.prog Tryz.f4.params.toList Rows.fnExactIsASpec.vars false W args.toList ds gs before) (hL : laidMetH Tryz.prog Rows.fnExactIsARow.laid W) (hS : W.ShapedOpen Tryz.prog) :
  Calls Tryz.prog 4 args W fun e W' => ∃ v, e = .returned v ∧ Rows.fnExactIsASpec.post enc Tryz.prog Tryz.f4 false true false false W args v W' := by
 have hW' := hW
 obtain ⟨p, q, hA0, hV, rfl, hfz, hnd⟩ := hW
 have hA : DataW.TrodAll enc Tryz.prog W 0 (fun _ => true) true Tryz.f4.params.toList args.toList ds p := hA0
 rw [Tryz.params4] at hA hval
 obtain ⟨v0, vs0, d0, ds0, p0, q0, hargs, rfl, rfl, h0, r0⟩ := trodAll_cons hA
 obtain ⟨v1, vs1, d1, ds1, p1, q1, rfl, rfl, rfl, h1, r1⟩ := trodAll_cons r0
 obtain ⟨v2, vs2, d2, ds2, p2, q2, rfl, rfl, rfl, h2, r2⟩ := trodAll_cons r1
 obtain ⟨rfl, rfl, rfl⟩ := trodAll_nil r2
 obtain rfl : args = #[v0, v1, v2] := by cases args; simp_all
 have hV' := hV
 obtain ⟨gv, tv, csv, fv, g1, pv, rfl, -, -, -, -, -⟩ := trodVars_one hV
 obtain ⟨s1, rfl, rfl, rfl, w1⟩ := open_string Tryz.underlying9 (hval 1 9 v1 rfl rfl) h1
 obtain ⟨s2, rfl, rfl, rfl, w2⟩ := open_string Tryz.underlying9 (hval 2 9 v2 rfl rfl) h2
 have hlt : ∀ x ∈ p0, x.block < W.heap.size := fun x hx => hW'.lt x (by simp [hx])
 obtain ⟨a, len, cap, rfl⟩ := okWide_slice Tryz.underlying22 (hval 0 22 v0 rfl rfl)
 have h0' := h0
 obtain ⟨fuel, hf⟩ := h0'
 have hf' : DataW.trod enc Tryz.prog W 0 (fun _ => true) true fuel 22 [.slice a len cap] = some (d0, p0) := hf
 obtain ⟨xs, hx, hn, hq⟩ := open_list ClassR 7 (fun x => x.upto ∧ x.wide) (by omega) Tryz.underlying22 (by kernel_rfl) (fun n cs z hl h hlt => open_classE hl h hlt) hf' hlt
 clear hA0
 refine (lIA _ _ _ xs W hx hn (fun x h => (hq x h).1) (fun x h => (hq x h).2) ⟨(env_of hL).1, hS⟩ (env_of hL).2).mono fun e W' ⟨he, hg⟩ => ?_
 subst he
 exact ⟨_, rfl, [d0, _, _], [g1], _, [], p0 ++ ([] ++ ([] ++ [])), _, hW', trodAll_mk1 (shut_bool Tryz.underlying4 _), trodAll_cons_mk (Below.trod laidOut (by kernel_rfl) (of_decide_eq_true (by kernel_rfl)) h0 hg hlt) (trodAll_cons_mk (shut_string Tryz.underlying9 w1) (trodAll_cons_mk (shut_string Tryz.underlying9 w2) trodAll_mk0)), Below.trodVars laidOut hg (by kernel_rfl) hV', hg.frame _, fun h => by cases h⟩
set_option maxRecDepth 100000 in
theorem lifted (os : Os) (started : os.Started) (H : Type) (enc : TypeId × Value → H) (F : Stop.Interp) :
  ReturnsInHanded {} Tryz.checked os 4 .any ((OpenSpec.ofChange Rows.fnExactIsASpec).preRow enc Tryz.prog Tryz.f4 Rows.fnExactIsARow.domain false Rows.fnExactIsARow.laid) (((OpenSpec.ofChange Rows.fnExactIsASpec).at F).post enc Tryz.prog Tryz.f4 false true false false) := by
 obtain ⟨places, hx⟩ := reads os enc
 refine returnsInHanded_of_row (C := Tryz.checked) (s := OpenSpec.ofChange Rows.fnExactIsASpec) own started (by kernel_rfl) Tryz.func4
  ⟨World.laidAll Tryz.prog os Rows.fnExactIsARow.laid, fun _ _ => 0, ⟨#[], #[zeroClass, .string ByteArray.empty, .string ByteArray.empty], []⟩, World.laidAll_os _ _ _, shaped os, (Input.okWide_of_okWideB (base := 0) (okIn os)).1, (Input.okWide_of_okWideB (okIn os)).2,
   OpenSpec.preRow_of_cond 8 hx (by kernel_rfl) (fun k hk => by cases hk) (by kernel_rfl) (laid_met os), by
   simp only [Assume.holds]
   exact ⟨by simp, by simp, fun _ => Modest.zero, by simp, by simp⟩⟩ ?_
 intro W base args ds gs before hval hW _ _ _ hL hS _
 exact contract H enc W base args ds gs before hval hW hL hS
theorem said : Rows.FnExactIsASaid :=
 OpenClaim.holds_of_cond 4 Tryz.f4 rfl rfl rfl rfl rfl rfl rfl ⟨rfl, rfl, rfl, rfl, rfl⟩ rfl rfl rfl rfl rfl (by kernel_rfl) Tryz.func4 closed
  (of_decide_eq_true (by kernel_rfl)) (by unfold Func.isWrapper; first | (rw [if_pos (by decide +kernel)]; kernel_rfl) | (rw [if_neg (by decide +kernel)]; exact ⟨rfl, rfl⟩))
  (fun os started H enc _ F => by rw [OpenClaim.pre_eq_preRow]; exact lifted os started H enc F)
theorem card : Rows.FnExactIsACardSaid :=
 Claim7.holds_tied_plain_at .later [] _ _ _ _ said (fun _ h => by cases h) (by kernel_rfl) (fun _ h => by cases h) fnExactIsA_row_tie rfl ⟨rfl, rfl⟩ (by kernel_rfl) rfl plain (by kernel_rfl)

end Go.Proofs.YtjjccimeikkogaaGreatDoor.fnExactIsA
namespace Go.Proofs.YtjjccimeikkogaaGreatDoor
theorem fnExactIsA_holds : Rows.FnExactIsACardSaid := fnExactIsA.card
#print axioms fnExactIsA_holds
end Go.Proofs.YtjjccimeikkogaaGreatDoor
