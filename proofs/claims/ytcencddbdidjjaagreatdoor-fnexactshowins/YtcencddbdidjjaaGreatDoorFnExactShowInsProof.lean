/- FnExactShowIns: at every instruction impl.ShowIns answers as spec.ShowIns, and writes into nothing that was there (the law answers true by itself where the texts and the table together are longer than 2^20); no condition but the tables of the library that the row lists. -/
import Derived.Test.YtcencddbdidjjaaGreatDoorSpx
import Derived.Test.YtcencddbdidjjaaGreatDoorCards
import Derived.Test.YtcencddbdidjjaaGreatDoorTie
import Derived.WalkKit
import Derived.ProofKit
import Derived.OpenShut
import Derived.ShutString
import Derived.Carry
import Derived.Deep.DeepHandedRow
import Derived.Lay
import Derived.LaidMore
import Derived.SevenTiedAt
import Derived.Stop.LaidErr
namespace Go.Proofs.YtcencddbdidjjaaGreatDoor.fnExactShowIns
set_option linter.unusedVariables false
open Go.ChangeShapes Go.WideShapes Go.ChangeAt Go.RowKit
open Go.ChangeMaps (open_string shut_string)

theorem own : ownKnob Tryz.prog.godebug = none := by kernel_rfl
theorem laidOut : laidOutB Tryz.prog = true := by kernel_rfl
theorem cells2 : Tryz.prog.cellsOf 2 = 1 := by kernel_rfl
theorem cells9 : Tryz.prog.cellsOf 9 = 1 := by kernel_rfl
theorem cells22 : Tryz.prog.cellsOf 22 = 1 := by kernel_rfl
theorem cells24 : Tryz.prog.cellsOf 24 = 9 := by kernel_rfl
theorem array9 {α : Type} {cs : Array α} (h : cs.size = 9) : ∃ c0 c1 c2 c3 c4 c5 c6 c7 c8, cs = #[c0, c1, c2, c3, c4, c5, c6, c7, c8] := by
  obtain ⟨l⟩ := cs
  match l, h with
  | [c0, c1, c2, c3, c4, c5, c6, c7, c8], _ => exact ⟨c0, c1, c2, c3, c4, c5, c6, c7, c8, rfl⟩
theorem list9 {α : Type} {cs : List α} (h : cs.length = 9) : ∃ c0 c1 c2 c3 c4 c5 c6 c7 c8, cs = [c0, c1, c2, c3, c4, c5, c6, c7, c8] := by
  match cs, h with
  | [c0, c1, c2, c3, c4, c5, c6, c7, c8], _ => exact ⟨c0, c1, c2, c3, c4, c5, c6, c7, c8, rfl⟩

set_option maxRecDepth 1000000 in
theorem open_table {H : Type} {enc : TypeId × Value → H} {W : World} {n : Nat} {v : Value} {y : DataW H × List MemPlace} (h : DataW.trod enc Tryz.prog W 0 (fun _ => true) true n 22 [v] = some y) (hlt : ∀ p ∈ y.2, p.block < W.heap.size) :
    ∃ zs : List Int, TabIn W v zs ∧ zs.length ≤ 9223372036854775807 := by
  rcases open_ints Tryz.underlying22 Tryz.underlying2 cells2 h with ⟨hcs, hx⟩ | ⟨a, len, cap, zs, hcs, _, hl, hm, hz, hx, hcell, hwz⟩
  · simp at hcs
    exact ⟨[], .inl ⟨rfl, _, _, hcs⟩, by simp⟩
  · simp at hcs
    subst hcs
    simp only [if_true] at hz
    have hlen : (zs.take len).length = len := by simp; omega
    by_cases h0 : len = 0
    · subst h0
      exact ⟨[], .inl ⟨rfl, _, _, rfl⟩, by simp⟩
    · obtain ⟨b, off, rfl, hc⟩ := ints_at hcell (by omega)
      refine ⟨zs.take len, .inr ⟨b, off, cap, by rw [hlen], ?_, fun j hj => ?_⟩, ?_⟩
      · exact World.block_lt_of_cell? W ⟨b, off + 0, none⟩ (hc 0 (by omega))
      · rw [hlen] at hj
        rw [hc j (by omega), List.getElem_take]
        simp [List.getD_eq_getElem?_getD, List.getElem?_eq_getElem (show j < zs.length by omega)]
      · rw [hlen]; unfold maxLen at hm; omega

set_option maxRecDepth 1000000 in
theorem open_ins {H : Type} {enc : TypeId × Value → H} {W : World} {base : Nat} {v : Value} {d : DataW H} {p : List MemPlace} (hv : Value.okWide Tryz.prog W .any base 24 v) (h : DataW.Trod enc Tryz.prog W 0 (fun _ => true) true 24 v d p) (hlt : ∀ x ∈ p, x.block < W.heap.size) :
    ∃ (o k a b : Int) (T C N Y : ByteArray) (tv : Value) (zs : List Int), v = insV o k a b T C N Y tv ∧ TabIn W tv zs ∧ zs.length ≤ 9223372036854775807 ∧ (-9223372036854775808 ≤ a ∧ a < 9223372036854775808) ∧ T.size ≤ 9223372036854775807 ∧ C.size ≤ 9223372036854775807 ∧ N.size ≤ 9223372036854775807 ∧ Y.size ≤ 9223372036854775807 := by
  obtain ⟨cs, rfl, hsz⟩ := okWide_struct Tryz.underlying24 hv
  obtain ⟨c0, c1, c2, c3, c4, c5, c6, c7, c8, rfl⟩ := array9 (hsz.trans cells24)
  obtain ⟨fuel, hf⟩ := h
  obtain ⟨xs, n, _, hx, _, hlen, hfld⟩ := DataW.trod_struct Tryz.underlying24 hf
  obtain ⟨y0, y1, y2, y3, y4, y5, y6, y7, y8, rfl⟩ := list9 hlen
  have g0 : DataW.trod enc Tryz.prog W 0 (fun _ => true) true n 2 [c0] = some y0 := by simpa [Value.cells, cells2] using hfld 0 _ rfl
  have g1 : DataW.trod enc Tryz.prog W 0 (fun _ => true) true n 2 [c1] = some y1 := by simpa [Value.cells, cells2] using hfld 1 _ rfl
  have g2 : DataW.trod enc Tryz.prog W 0 (fun _ => true) true n 2 [c2] = some y2 := by simpa [Value.cells, cells2] using hfld 2 _ rfl
  have g3 : DataW.trod enc Tryz.prog W 0 (fun _ => true) true n 2 [c3] = some y3 := by simpa [Value.cells, cells2] using hfld 3 _ rfl
  have g4 : DataW.trod enc Tryz.prog W 0 (fun _ => true) true n 9 [c4] = some y4 := by simpa [Value.cells, cells9] using hfld 4 _ rfl
  have g5 : DataW.trod enc Tryz.prog W 0 (fun _ => true) true n 9 [c5] = some y5 := by simpa [Value.cells, cells9] using hfld 5 _ rfl
  have g6 : DataW.trod enc Tryz.prog W 0 (fun _ => true) true n 9 [c6] = some y6 := by simpa [Value.cells, cells9] using hfld 6 _ rfl
  have g7 : DataW.trod enc Tryz.prog W 0 (fun _ => true) true n 9 [c7] = some y7 := by simpa [Value.cells, cells9] using hfld 7 _ rfl
  have g8 : DataW.trod enc Tryz.prog W 0 (fun _ => true) true n 22 [c8] = some y8 := by simpa [Value.cells, cells22] using hfld 8 _ rfl
  obtain ⟨o, e0, -, -⟩ := DataW.trod_int Tryz.underlying2 g0
  obtain ⟨k, e1, -, -⟩ := DataW.trod_int Tryz.underlying2 g1
  obtain ⟨a, e2, -, wa⟩ := DataW.trod_int Tryz.underlying2 g2
  obtain ⟨b, e3, -, -⟩ := DataW.trod_int Tryz.underlying2 g3
  obtain ⟨T, e4, -, hT⟩ := DataW.trod_string Tryz.underlying9 g4
  obtain ⟨C, e5, -, hC⟩ := DataW.trod_string Tryz.underlying9 g5
  obtain ⟨N, e6, -, hN⟩ := DataW.trod_string Tryz.underlying9 g6
  obtain ⟨Y, e7, -, hY⟩ := DataW.trod_string Tryz.underlying9 g7
  simp at e0 e1 e2 e3 e4 e5 e6 e7
  subst e0 e1 e2 e3 e4 e5 e6 e7
  simp only [Prod.mk.injEq] at hx
  obtain ⟨zs, ht, hz⟩ := open_table g8 (fun q hq => hlt q (by rw [hx.2]; simp [hq]))
  unfold maxLen at hT hC hN hY
  have ba := bounds_i64 wa
  exact ⟨o, k, a, b, T, C, N, Y, c8, zs, rfl, ht, hz, ⟨by omega, by omega⟩, by omega, by omega, by omega, by omega⟩

theorem env_of {W : World} (hL : laidMetH Tryz.prog Rows.fnExactShowInsRow.laid W) : Env W := by
  rw [MakeChecks.laidMetH_plain _ _ _ (by kernel_rfl)] at hL
  exact ⟨Lib.tabIs_of_head (g := 2) (t := 144) (by kernel_rfl) (by kernel_rfl) Tryz.underlying144 Tryz.underlying69 (by kernel_rfl) (by kernel_rfl) hL.tail.tail⟩

set_option maxRecDepth 1000000 in
theorem contract (H : Type) (enc : TypeId × Value → H) (W : World) (base : Nat) (args : Array Value) (ds gs : List (DataW H)) (before : List MemPlace)
    (hval : ∀ (j : Nat) t v, Tryz.f3.params[j]? = some t → args[j]? = some v → Value.okWide Tryz.prog W .any base t v)
    (hW : DataW.Whole enc Tryz.prog Tryz.f3.params.toList Rows.fnExactShowInsSpec.vars false W args.toList ds gs before) (hL : laidMetH Tryz.prog Rows.fnExactShowInsRow.laid W) (hS : W.ShapedOpen Tryz.prog) :
    Calls Tryz.prog 3 args W fun e W' => ∃ v, e = .returned v ∧ Rows.fnExactShowInsSpec.post enc Tryz.prog Tryz.f3 false true false false W args v W' := by
  have hW' := hW
  obtain ⟨p, q, hA0, hV, rfl, hfz, hnd⟩ := hW
  have hA : DataW.TrodAll enc Tryz.prog W 0 (fun _ => true) true Tryz.f3.params.toList args.toList ds p := hA0
  rw [Tryz.params3] at hA hval
  obtain ⟨v0, vs0, d0, ds0, p0, q0, hargs, rfl, rfl, h0, r0⟩ := trodAll_cons hA
  obtain ⟨rfl, rfl, rfl⟩ := trodAll_nil r0
  obtain rfl : args = #[v0] := by cases args; simp_all
  obtain ⟨rfl, rfl⟩ := trodVars_none hV
  have hlt : ∀ x ∈ p0, x.block < W.heap.size := fun x hx => hW'.lt x (by simp [hx])
  obtain ⟨o, k, a, b, T, C, N, Y, tv, zs, rfl, ht, hz, ⟨ha1, ha2⟩, hT, hC, hN, hY⟩ := open_ins (hval 0 24 v0 rfl rfl) h0 hlt
  clear hA0
  simp only [List.append_nil] at hW'
  refine (lawShow_calls o k a b T C N Y tv zs W ht hz ha1 ha2 hT hC hN hY hS (env_of hL)).mono fun e W' ⟨he, hg⟩ => ?_
  subst he
  exact ⟨_, rfl, [d0], [], p0, [], p0 ++ [], [], by simpa using hW', trodAll_mk1 (shut_bool Tryz.underlying4 _), trodAll_cons_mk (Below.trod laidOut (by kernel_rfl) (of_decide_eq_true (by kernel_rfl)) h0 hg hlt) trodAll_mk0, rfl, hg.frame _, fun h => by cases h⟩

abbrev zeroIns : Value := insV 0 0 0 0 ByteArray.empty ByteArray.empty ByteArray.empty ByteArray.empty (.slice none 0 0)
theorem reads (os : Os) {H : Type} (enc : TypeId × Value → H) : ∃ places, DataW.whole enc Tryz.prog ((World.laidAll Tryz.prog os Rows.fnExactShowInsRow.laid).forCall (fun _ _ => 0) ⟨#[], #[zeroIns], []⟩).memory Tryz.f3.params.toList Rows.fnExactShowInsSpec.vars false #[zeroIns].toList 8 = some ([.agg [.lit (.int .i64 0), .lit (.int .i64 0), .lit (.int .i64 0), .lit (.int .i64 0), .lit (.string []), .lit (.string []), .lit (.string []), .lit (.string []), .nil]], [], places) :=
  ⟨[], by kernel_rfl⟩
theorem laid_met (os : Os) : laidMetH Tryz.prog Rows.fnExactShowInsRow.laid ((World.laidAll Tryz.prog os Rows.fnExactShowInsRow.laid).forCall (fun _ _ => 0) ⟨#[], #[zeroIns], []⟩).memory := by
  rw [MakeChecks.laidMetH_plain _ _ _ (by kernel_rfl)]
  exact laidMet_laidAll _ (by kernel_rfl) (by kernel_rfl)
theorem shaped (os : Os) : ((World.laidAll Tryz.prog os Rows.fnExactShowInsRow.laid).forCall (fun _ _ => 0) ⟨#[], #[zeroIns], []⟩).Shaped Tryz.prog :=
  World.shaped_of_ZipB (by kernel_rfl) (by kernel_rfl)
theorem okIn (os : Os) : Input.okWideB Tryz.prog ((World.laidAll Tryz.prog os Rows.fnExactShowInsRow.laid).forCall (fun _ _ => 0) ⟨#[], #[zeroIns], []⟩) 3 ⟨#[], #[zeroIns], []⟩ = true := by kernel_rfl

set_option maxRecDepth 100000 in
theorem lifted (os : Os) (started : os.Started) (H : Type) (enc : TypeId × Value → H) (F : Stop.Interp) :
    ReturnsInHanded {} Tryz.checked os 3 .any ((OpenSpec.ofChange Rows.fnExactShowInsSpec).preRow enc Tryz.prog Tryz.f3 Rows.fnExactShowInsRow.domain false Rows.fnExactShowInsRow.laid) (((OpenSpec.ofChange Rows.fnExactShowInsSpec).at F).post enc Tryz.prog Tryz.f3 false true false false) := by
  obtain ⟨places, hx⟩ := reads os enc
  refine returnsInHanded_of_row (C := Tryz.checked) (s := OpenSpec.ofChange Rows.fnExactShowInsSpec) own started (by kernel_rfl) Tryz.func3
    ⟨World.laidAll Tryz.prog os Rows.fnExactShowInsRow.laid, fun _ _ => 0, ⟨#[], #[zeroIns], []⟩, World.laidAll_os _ _ _, shaped os, (Input.okWide_of_okWideB (base := 0) (okIn os)).1, (Input.okWide_of_okWideB (okIn os)).2,
      OpenSpec.preRow_of_cond 8 hx (by kernel_rfl) (fun k hk => by cases hk) (by kernel_rfl) (laid_met os), by
      simp only [Assume.holds]
      exact ⟨by simp, by simp, fun _ => Modest.zero, by simp, by simp⟩⟩ ?_
  intro W base args ds gs before hval hW _ _ _ hL hS _
  exact contract H enc W base args ds gs before hval hW hL hS

theorem said : Rows.FnExactShowInsSaid :=
  OpenClaim.holds_of_cond 3 Tryz.f3 rfl rfl rfl rfl rfl rfl rfl ⟨rfl, rfl, rfl, rfl, rfl⟩ rfl rfl rfl rfl rfl (by kernel_rfl) Tryz.func3 (by kernel_rfl)
    (of_decide_eq_true (by kernel_rfl)) (by unfold Func.isWrapper; first | (rw [if_pos (by decide +kernel)]; kernel_rfl) | (rw [if_neg (by decide +kernel)]; exact ⟨rfl, rfl⟩))
    (fun os started H enc _ F => by rw [OpenClaim.pre_eq_preRow]; exact lifted os started H enc F)

theorem plain (f : FuncId) (fn : Func) (hf : Tryz.pinned.checked.prog.funcNamed "loop.example/g00032/laws.FnExactShowIns" = some f) (hfn : Tryz.pinned.checked.prog.funcs[f]? = some fn) :
    false = Tryz.pinned.checked.prog.looks [] ∧ ∀ (j : Nat) t, fn.params[j]? = some t → Tryz.pinned.checked.prog.wantsStandIn t = false := by
  obtain rfl : f = 3 := Option.some.inj ((show Tryz.prog.funcNamed "loop.example/g00032/laws.FnExactShowIns" = some 3 by kernel_rfl).symm.trans hf) |>.symm
  obtain rfl : fn = Tryz.f3 := (Option.some.inj (Tryz.func3.symm.trans hfn)).symm
  refine ⟨by kernel_rfl, fun j t ht => ?_⟩
  rw [Tryz.params3] at ht
  obtain rfl : t = 24 := by simpa using Array.mem_of_getElem? ht
  exact (show Tryz.prog.wantsStandIn 24 = false by kernel_rfl)

theorem card : Rows.FnExactShowInsCardSaid :=
  Claim7.holds_tied_plain_at .later [] _ _ _ _ said (fun _ h => by cases h) (by kernel_rfl) (fun _ h => by cases h) fnExactShowIns_row_tie rfl ⟨rfl, rfl⟩ (by kernel_rfl) rfl plain (by kernel_rfl)
end Go.Proofs.YtcencddbdidjjaaGreatDoor.fnExactShowIns
namespace Go.Proofs.YtcencddbdidjjaaGreatDoor
theorem fnExactShowIns_holds : Rows.FnExactShowInsCardSaid := fnExactShowIns.card
#print axioms fnExactShowIns_holds
end Go.Proofs.YtcencddbdidjjaaGreatDoor
