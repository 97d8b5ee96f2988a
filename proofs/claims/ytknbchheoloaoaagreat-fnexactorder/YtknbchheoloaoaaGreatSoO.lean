/- spec.l11AddRace onto nothing, and onto whatever list. -/
import Derived.Test.YtknbchheoloaoaaGreatSoN
namespace Go.Proofs.YtknbchheoloaoaaGreat
set_option linter.unusedVariables false
open Go.ChangeShapes Go.WideShapes Go.ChangeAt Go.RowKit

set_option maxRecDepth 1000000 in
set_option maxHeartbeats 4000000 in
theorem addRace_nil (t i u k : Int) (w : World) :
  Calls Tryz.prog 23 #[.slice none 0 0, .int .i64 t, .int .i64 i, .int .i64 u, .int .i64 k] w fun e w' => (∃ v', e = .returned v' ∧ RacesAt 0 w' v' (insR [] (mkRace t i u k))) ∧ Below w.heap.size w w' := by
 obtain ⟨i9, hi9, hz9, hs9, hb9⟩ := info_parts (show (Tryz.prog.info? 89).map (fun i => (i.zero, i.size, i.bytes)) = some (some (.agg #[.int .i64 0, .int .i64 0, .int .i64 0, .int .i64 0]), 4, 32) by kernel_rfl)
 obtain ⟨r, hr⟩ : ∃ r, r = mkRace t i u k := ⟨_, rfl⟩
 rw [← hr]
 go_enter Tryz.func23, Tryz.ntmps23
 by_cases hut : u < t
 ·go_upto_region 4 with fail
  have hRc : Hid (RcW w (w.alloc (.cells #[.int .i64 u, .int .i64 k, .int .i64 t, .int .i64 i] 89)) w.heap.size r) := by
   have hg := rangeAt_heap (heap_alloc_new w (.cells #[.int .i64 u, .int .i64 k, .int .i64 t, .int .i64 i] 89))
   have hr2 : r = ⟨u, k, t, i⟩ := by rw [hr]; simp [mkRace, hut]
   rw [hr2]
   exact ⟨below_1 _ _, Nat.le_refl _, by simp, hg 0 _ rfl, hg 1 _ rfl, hg 2 _ rfl, hg 3 _ rfl⟩
  generalize w.alloc (.cells #[.int .i64 u, .int .i64 k, .int .i64 t, .int .i64 i] 89) = WA at *
  clear hr
  go_wp2_with fail
  go_loopw [12] (fun iv wr => iv = .int .i64 0 ∧ Hid (RcW w wr w.heap.size r)) (fun _ _ => 0)
  case atStart => exact ⟨rfl, hRc⟩
  case round =>
  obtain ⟨rfl, hW⟩ := hrel
  have hins : Hid (insR [] r = List.take 0 [] ++ r :: List.drop 0 []) := by show _ = _; simp [insR]
  clear hRc
  go_wp2_with fail
  go_quiet (fail)
  have hRV : Hid (RcW w (wr.drewN nq) w.heap.size r) := hW.out.on (below_drewN (Below.refl _ _) _)
  generalize wr.drewN nq = V at *
  go_wp2_with fail
  go_quiet (fail)
  have hRV2 : Hid (RcW w (V.drewN nq) w.heap.size r) := hRV.out.on (below_drewN (Below.refl _ _) _)
  generalize V.drewN nq = V2 at *
  go_wp2_with fail
  have hRc2 : Hid (∀ W, Below V2.heap.size V2 W → RcW w W w.heap.size r) := fun W hW => hRV2.out.on hW
  have hsp : Hid (∀ W, Below V2.heap.size V2 W → SrcAt W 4 (.slice none 0 0) 0 (racesC (([] : List RaceL).take 0))) := fun W hW => .inl ⟨rfl, rfl, rfl⟩
  have hsq : Hid (∀ W, Below V2.heap.size V2 W → SrcAt W 4 (.slice none 0 0) (([] : List RaceL).length - 0) (racesC (([] : List RaceL).drop 0))) := fun W hW => .inl ⟨rfl, rfl, rfl⟩
  refine wp_region_mixed (by kernel_rfl) (fun vs => { tmps := #[Value.slice none 0 0, Value.int IntKind.i64 t, Value.int IntKind.i64 i, Value.int IntKind.i64 u, Value.int IntKind.i64 k, undef, undef, undef, undef, undef, vs 12, Value.pointer (some { block := w.heap.size, off := 0 }), Value.int IntKind.i64 0, Value.int IntKind.i64 t, Value.int IntKind.i64 i, Value.int IntKind.i64 u, Value.int IntKind.i64 k, Value.agg #[Value.int IntKind.i64 t, Value.int IntKind.i64 i, Value.int IntKind.i64 u, Value.int IntKind.i64 k], Value.int IntKind.i64 u, Value.int IntKind.i64 t, Value.bool true, Value.int IntKind.i64 u, Value.int IntKind.i64 k, Value.int IntKind.i64 t, Value.int IntKind.i64 i, Value.agg #[Value.int IntKind.i64 u, Value.int IntKind.i64 k, Value.int IntKind.i64 t, Value.int IntKind.i64 i], Value.int IntKind.i64 0, Value.slice none 0 0, Value.int IntKind.i64 0, Value.bool false, Value.bool false, undef, undef, undef, undef, undef, undef, Value.bool false, u38, u39, Value.int IntKind.i64 0, Value.slice none 0 0, Value.int IntKind.i64 0, Value.bool false, Value.bool false, undef, undef, undef, undef, undef, undef, Value.bool false, undef, vs 0, vs 1, vs 2, vs 3, vs 4, vs 5, vs 6, vs 7, vs 8, vs 9, vs 10, vs 11], defers := [] }) (insVal (.slice none 0 0) (.slice none 0 0) (.slice none 0 0) r ([] : List RaceL) 0) insSrc (fun i i' j h h' => by have := insSrc_cases h; have := insSrc_cases h'; omega) (fun i j h => by have := insSrc_cases h; rw [this.2]; rfl) 7 [11] insPure (insPV (.slice none 0 0) (.slice none 0 0) 0) (insRR V2.heap.size V2 r ([] : List RaceL) 0) (fun i => if i = 12 then Value.slice none 0 0 else undef) rfl (by kernel_rfl) (insVal_below _ _ _ r ([] : List RaceL) 0) (fun i v lo hi w hp h => by rcases insPure_cases hp with rfl | rfl | rfl <;> exact h) (insRR_loc _ _ r ([] : List RaceL) 0) (allAt_all ⟨?_, ?_, ?_, ?_, ?_, ?_, ?_, ?_, ?_, ?_, ?_, ?_, ?_, trivial⟩) (allAt_all ⟨?_, ?_, ?_, ?_, ?_, ?_, ?_, ?_, ?_, ?_, ?_, ?_, ?_, trivial⟩) ?_ ?_ ?_
  case refine_1 =>
   intro _ _ vs lo hi W hB hv
   go_wp2
   exact RegPost.own _ rfl (below_1 _ _) ⟨rfl, OwnInK.made (World.ownsRow_made W #[] 0 (Nat.le_refl _) (by unfold maxLen; omega) rfl)⟩
  case refine_2 =>
   intro _ _ vs lo hi W hB hv
   go_wp2
   exact RegPost.own _ rfl (Below.refl _ _) rfl
  case refine_3 =>
   intro _ _ vs lo hi W hB hv
   go_wp2
   exact RegPost.own _ rfl (Below.refl _ _) rfl
  case refine_4 =>
   intro _ _ vs lo hi W hB hv
   have e1 : vs 1 = .slice none 0 0 := (hv ⟨1, .data⟩ (by simp) rfl).1
   have e2 : vs 2 = .int .i64 0 := (hv ⟨2, .data⟩ (by simp) rfl).1
   simp only [e1, e2]
   go_wp2
   exact RegPost.own (.slice none 0 0) (by rw [← e1, ← e2]; rfl) (Below.refl _ _) rfl
  case refine_5 =>
   intro _ _ vs lo hi W hB hv
   obtain ⟨⟨q0, q1⟩, _, _, _⟩ := hv ⟨0, .data⟩ (by simp) rfl
   have q0 : vs 0 = .slice (some ⟨lo 0, 0, none⟩) 0 0 := q0
   have q1 : OwnInK (lo 0) (hi 0) W 89 4 (vs 0) 0 [] := q1
   have e3 : vs 3 = .slice none 0 0 := (hv ⟨3, .data⟩ (by simp) rfl).1
   refine wpList_append_src0 rfl (.tmp 53) (.tmp 56) 28 rfl 89 i9 (.agg #[.int .i64 0, .int .i64 0, .int .i64 0, .int .i64 0]) 4 32 Tryz.underlying28 hi9 hz9 hs9 hb9 rfl (by omega) (lo 0) q0 (vs 3) 0 (racesC (([] : List RaceL).take 0)) rfl (by rw [e3]; exact hsp.out W hB) (racesC_one' _) (by unfold maxLen; omega) (by omega) (fun m0 n0 => ?_) (fun v1 w1 hown hgrow => ?_)
   ·refine wpList_nil ?_
    refine RegPost.take (.slice (some ⟨lo 0, 0, none⟩) 0 0) ⟨0, .data⟩ rfl (by simp) rfl rfl (Below.refl _ _) ?_
    show OwnInK (lo 0) (hi 0) W 89 4 _ 0 (racesC (([] : List RaceL).take 0))
    rw [n0, m0, ← q0]
    exact q1
   ·refine wpList_nil ?_
    exact RegPost.own v1 rfl ((Below.refl _ _).grown hgrow (Nat.le_refl _) (fun j hj => by cases hj)) (OwnInK.made hown)
  case refine_6 =>
   intro _ _ vs lo hi W hB hv
   obtain ⟨_, _, _, b0, b1', b2, b3⟩ := hRc2.out W hB
   go_wp2
   exact RegPost.own (.agg #[.int .i64 r.t, .int .i64 r.a, .int .i64 r.u, .int .i64 r.b]) rfl (Below.refl _ _) rfl
  case refine_7 =>
   intro _ _ vs lo hi W hB hv
   have e5 : vs 5 = .agg #[.int .i64 r.t, .int .i64 r.a, .int .i64 r.u, .int .i64 r.b] := (hv ⟨5, .data⟩ (by simp) rfl).1
   simp only [e5]
   go_wp2
   exact RegPost.own (.slice (some ⟨W.heap.size, 0, none⟩) 1 1) (by rw [← e5]; rfl) (below_1 _ _) (OwnInK.made (World.ownsRow_lit W #[.int .i64 r.t, .int .i64 r.a, .int .i64 r.u, .int .i64 r.b] 1 (Nat.le_refl _) (by unfold maxLen; omega) rfl))
  case refine_8 => exact fun h => absurd (by decide) h
  case refine_9 =>
   intro _ _ vs lo hi W hB hv
   go_wp2
   exact RegPost.own _ rfl (Below.refl _ _) rfl
  case refine_10 =>
   intro _ _ vs lo hi W hB hv
   go_wp2
   exact RegPost.own _ rfl (Below.refl _ _) rfl
  case refine_11 =>
   intro _ _ vs lo hi W hB hv
   have e8 : vs 8 = .slice none 0 0 := (hv ⟨8, .data⟩ (by simp) rfl).1
   have e9 : vs 9 = .int .i64 0 := (hv ⟨9, .data⟩ (by simp) rfl).1
   simp only [e8, e9]
   go_wp2
   exact RegPost.own (.slice none 0 0) (by rw [← e8, ← e9]; rfl) (Below.refl _ _) rfl
  case refine_12 => exact fun h => absurd (by decide) h
  case refine_13 => exact fun _ h => absurd h (by simp)
  case refine_14 => exact fun h => absurd h (by decide)
  case refine_15 => exact fun h => absurd h (by decide)
  case refine_16 => exact fun h => absurd h (by decide)
  case refine_17 => exact fun h => absurd h (by decide)
  case refine_18 => exact fun h => absurd h (by decide)
  case refine_19 => exact fun h => absurd h (by decide)
  case refine_20 => exact fun h => absurd h (by decide)
  case refine_21 => exact fun h => absurd h (by decide)
  case refine_22 =>
   intro _ _ q vs W hR hv
   go_wp2
   exact PurePost.mk' (.slice none 0 0) rfl rfl
  case refine_23 =>
   intro _ _ q vs W hR hv
   go_wp2
   exact PurePost.mk' (.int .i64 0) rfl rfl
  case refine_24 =>
   intro _ _ q vs W hR hv
   have e8 : vs 8 = .slice none 0 0 := hv ⟨8, .data⟩ (by simp) rfl rfl
   have e9 : vs 9 = .int .i64 0 := hv ⟨9, .data⟩ (by simp) rfl rfl
   simp only [e8, e9]
   go_wp2
   exact PurePost.mk' (.slice none 0 0) (by rw [← e8, ← e9]; rfl) rfl
  case refine_25 => exact fun h => absurd h (by decide)
  case refine_26 => exact fun h => absurd h (by decide)
  case refine_27 =>
   intro o ho vs lo hi W hB hv
   obtain rfl := Option.some.inj ho
   obtain ⟨h4, g4, _, _⟩ := hv ⟨4, .data⟩ (by simp) rfl
   obtain ⟨h6, g6, _, _⟩ := hv ⟨6, .data⟩ (by simp) rfl
   have h4 : W.ownsRow (lo 4) 89 4 (vs 4) 0 (racesC (([] : List RaceL).take 0)) := h4.1
   have h6 : W.ownsRow (lo 6) 89 4 (vs 6) 1 r.v := h6.1
   refine wpList_append_src rfl (.tmp 57) (.tmp 59) 28 rfl V2.heap.size 89 i9 (.agg #[.int .i64 0, .int .i64 0, .int .i64 0, .int .i64 0]) 4 32 Tryz.underlying28 hi9 hz9 hs9 hb9 rfl (by omega) (vs 4) 0 (racesC (([] : List RaceL).take 0)) rfl (own_mono h4 g4) (vs 6) 1 r.v rfl (src_own h6 (by omega)) (by rw [← racesC_one]; exact racesC_one' _) (by unfold maxLen; omega) (by omega) hB.size ?_
   intro v' w' hown hgrow hat
   refine wpList_nil ?_
   refine ⟨v', rfl, hB.grown hgrow hB.size (fun j hj => (World.ownsRow.lt (own_mono h4 g4) j hj).1), ?_⟩
   rw [upd_same, racesC_append, racesC_one]
   exact hown
  case refine_28 =>
   intro q c o hq ho vs W hR hv
   match q, hq with
   | 0, hq =>
    obtain rfl : c = 11 := by simpa using hq.symm
    obtain rfl := Option.some.inj ho
    have e10 : vs 10 = .slice none 0 0 := hv ⟨10, .data⟩ (by simp) rfl rfl
    obtain ⟨hB, hown7⟩ := hR
    refine wpList_append_src rfl (.tmp 60) (.tmp 63) 28 rfl V2.heap.size 89 i9 (.agg #[.int .i64 0, .int .i64 0, .int .i64 0, .int .i64 0]) 4 32 Tryz.underlying28 hi9 hz9 hs9 hb9 rfl (by omega) (vs 7) (0 + 1) _ rfl hown7 (vs 10) (([] : List RaceL).length - 0) (racesC (([] : List RaceL).drop 0)) rfl (by rw [e10]; exact hsq.out W hB) (racesC_one' _) (by unfold maxLen; simp) (by simp) hB.size ?_
    intro v' w' hown hgrow hat
    refine wpList_nil ?_
    refine ChainPost.mk' v' rfl ⟨hB.grown hgrow hB.size (fun j hj => (World.ownsRow.lt hown7 j hj).1), ?_⟩
    rw [upd_same, racesC_append]
    exact hown
   | q + 1, hq => simp at hq
  case refine_29 =>
   intro o ho vs W hR hv
   obtain rfl := Option.some.inj ho
   obtain ⟨hB, hown⟩ := hR
   have hfin : Hid (RacesAt 0 W (vs 11) (insR ([] : List RaceL) r)) := by
    show W.ownsRow _ _ _ _ _ _
    rw [hins.out]
    have e : (([] : List RaceL).take 0 ++ [r] ++ ([] : List RaceL).drop 0).length = 0 + 1 + (([] : List RaceL).length - 0) := by simp
    rw [show (([] : List RaceL).take 0 ++ r :: ([] : List RaceL).drop 0) = ([] : List RaceL).take 0 ++ [r] ++ ([] : List RaceL).drop 0 by simp, e]
    exact own_mono hown (Nat.zero_le _)
   have hfb : Hid (Below w.heap.size w W) := below_on hRV2.out.hb hB
   clear hown hB
   go_wp2
   go_ret
   exact ⟨⟨_, rfl, hfin.out⟩, hfb.out⟩
 ·go_upto_region 4 with fail
  have hRc : Hid (RcW w (w.alloc (.cells #[.int .i64 t, .int .i64 i, .int .i64 u, .int .i64 k] 89)) w.heap.size r) := by
   have hg := rangeAt_heap (heap_alloc_new w (.cells #[.int .i64 t, .int .i64 i, .int .i64 u, .int .i64 k] 89))
   have hr2 : r = ⟨t, i, u, k⟩ := by rw [hr]; simp [mkRace, hut]
   rw [hr2]
   exact ⟨below_1 _ _, Nat.le_refl _, by simp, hg 0 _ rfl, hg 1 _ rfl, hg 2 _ rfl, hg 3 _ rfl⟩
  generalize w.alloc (.cells #[.int .i64 t, .int .i64 i, .int .i64 u, .int .i64 k] 89) = WA at *
  clear hr
  go_wp2_with fail
  go_loopw [12] (fun iv wr => iv = .int .i64 0 ∧ Hid (RcW w wr w.heap.size r)) (fun _ _ => 0)
  case atStart => exact ⟨rfl, hRc⟩
  case round =>
  obtain ⟨rfl, hW⟩ := hrel
  have hins : Hid (insR [] r = List.take 0 [] ++ r :: List.drop 0 []) := by show _ = _; simp [insR]
  clear hRc
  go_wp2_with fail
  go_quiet (fail)
  have hRV : Hid (RcW w (wr.drewN nq) w.heap.size r) := hW.out.on (below_drewN (Below.refl _ _) _)
  generalize wr.drewN nq = V at *
  go_wp2_with fail
  go_quiet (fail)
  have hRV2 : Hid (RcW w (V.drewN nq) w.heap.size r) := hRV.out.on (below_drewN (Below.refl _ _) _)
  generalize V.drewN nq = V2 at *
  go_wp2_with fail
  have hRc2 : Hid (∀ W, Below V2.heap.size V2 W → RcW w W w.heap.size r) := fun W hW => hRV2.out.on hW
  have hsp : Hid (∀ W, Below V2.heap.size V2 W → SrcAt W 4 (.slice none 0 0) 0 (racesC (([] : List RaceL).take 0))) := fun W hW => .inl ⟨rfl, rfl, rfl⟩
  have hsq : Hid (∀ W, Below V2.heap.size V2 W → SrcAt W 4 (.slice none 0 0) (([] : List RaceL).length - 0) (racesC (([] : List RaceL).drop 0))) := fun W hW => .inl ⟨rfl, rfl, rfl⟩
  refine wp_region_mixed (by kernel_rfl) (fun vs => { tmps := #[Value.slice none 0 0, Value.int IntKind.i64 t, Value.int IntKind.i64 i, Value.int IntKind.i64 u, Value.int IntKind.i64 k, undef, undef, undef, undef, undef, vs 12, Value.pointer (some { block := w.heap.size, off := 0 }), Value.int IntKind.i64 0, Value.int IntKind.i64 t, Value.int IntKind.i64 i, Value.int IntKind.i64 u, Value.int IntKind.i64 k, Value.agg #[Value.int IntKind.i64 t, Value.int IntKind.i64 i, Value.int IntKind.i64 u, Value.int IntKind.i64 k], Value.int IntKind.i64 u, Value.int IntKind.i64 t, Value.bool false, undef, undef, undef, undef, undef, Value.int IntKind.i64 0, Value.slice none 0 0, Value.int IntKind.i64 0, Value.bool false, Value.bool false, undef, undef, undef, undef, undef, undef, Value.bool false, u38, u39, Value.int IntKind.i64 0, Value.slice none 0 0, Value.int IntKind.i64 0, Value.bool false, Value.bool false, undef, undef, undef, undef, undef, undef, Value.bool false, undef, vs 0, vs 1, vs 2, vs 3, vs 4, vs 5, vs 6, vs 7, vs 8, vs 9, vs 10, vs 11], defers := [] }) (insVal (.slice none 0 0) (.slice none 0 0) (.slice none 0 0) r ([] : List RaceL) 0) insSrc (fun i i' j h h' => by have := insSrc_cases h; have := insSrc_cases h'; omega) (fun i j h => by have := insSrc_cases h; rw [this.2]; rfl) 7 [11] insPure (insPV (.slice none 0 0) (.slice none 0 0) 0) (insRR V2.heap.size V2 r ([] : List RaceL) 0) (fun i => if i = 12 then Value.slice none 0 0 else undef) rfl (by kernel_rfl) (insVal_below _ _ _ r ([] : List RaceL) 0) (fun i v lo hi w hp h => by rcases insPure_cases hp with rfl | rfl | rfl <;> exact h) (insRR_loc _ _ r ([] : List RaceL) 0) (allAt_all ⟨?_, ?_, ?_, ?_, ?_, ?_, ?_, ?_, ?_, ?_, ?_, ?_, ?_, trivial⟩) (allAt_all ⟨?_, ?_, ?_, ?_, ?_, ?_, ?_, ?_, ?_, ?_, ?_, ?_, ?_, trivial⟩) ?_ ?_ ?_
  case refine_1 =>
   intro _ _ vs lo hi W hB hv
   go_wp2
   exact RegPost.own _ rfl (below_1 _ _) ⟨rfl, OwnInK.made (World.ownsRow_made W #[] 0 (Nat.le_refl _) (by unfold maxLen; omega) rfl)⟩
  case refine_2 =>
   intro _ _ vs lo hi W hB hv
   go_wp2
   exact RegPost.own _ rfl (Below.refl _ _) rfl
  case refine_3 =>
   intro _ _ vs lo hi W hB hv
   go_wp2
   exact RegPost.own _ rfl (Below.refl _ _) rfl
  case refine_4 =>
   intro _ _ vs lo hi W hB hv
   have e1 : vs 1 = .slice none 0 0 := (hv ⟨1, .data⟩ (by simp) rfl).1
   have e2 : vs 2 = .int .i64 0 := (hv ⟨2, .data⟩ (by simp) rfl).1
   simp only [e1, e2]
   go_wp2
   exact RegPost.own (.slice none 0 0) (by rw [← e1, ← e2]; rfl) (Below.refl _ _) rfl
  case refine_5 =>
   intro _ _ vs lo hi W hB hv
   obtain ⟨⟨q0, q1⟩, _, _, _⟩ := hv ⟨0, .data⟩ (by simp) rfl
   have q0 : vs 0 = .slice (some ⟨lo 0, 0, none⟩) 0 0 := q0
   have q1 : OwnInK (lo 0) (hi 0) W 89 4 (vs 0) 0 [] := q1
   have e3 : vs 3 = .slice none 0 0 := (hv ⟨3, .data⟩ (by simp) rfl).1
   refine wpList_append_src0 rfl (.tmp 53) (.tmp 56) 28 rfl 89 i9 (.agg #[.int .i64 0, .int .i64 0, .int .i64 0, .int .i64 0]) 4 32 Tryz.underlying28 hi9 hz9 hs9 hb9 rfl (by omega) (lo 0) q0 (vs 3) 0 (racesC (([] : List RaceL).take 0)) rfl (by rw [e3]; exact hsp.out W hB) (racesC_one' _) (by unfold maxLen; omega) (by omega) (fun m0 n0 => ?_) (fun v1 w1 hown hgrow => ?_)
   ·refine wpList_nil ?_
    refine RegPost.take (.slice (some ⟨lo 0, 0, none⟩) 0 0) ⟨0, .data⟩ rfl (by simp) rfl rfl (Below.refl _ _) ?_
    show OwnInK (lo 0) (hi 0) W 89 4 _ 0 (racesC (([] : List RaceL).take 0))
    rw [n0, m0, ← q0]
    exact q1
   ·refine wpList_nil ?_
    exact RegPost.own v1 rfl ((Below.refl _ _).grown hgrow (Nat.le_refl _) (fun j hj => by cases hj)) (OwnInK.made hown)
  case refine_6 =>
   intro _ _ vs lo hi W hB hv
   obtain ⟨_, _, _, b0, b1', b2, b3⟩ := hRc2.out W hB
   go_wp2
   exact RegPost.own (.agg #[.int .i64 r.t, .int .i64 r.a, .int .i64 r.u, .int .i64 r.b]) rfl (Below.refl _ _) rfl
  case refine_7 =>
   intro _ _ vs lo hi W hB hv
   have e5 : vs 5 = .agg #[.int .i64 r.t, .int .i64 r.a, .int .i64 r.u, .int .i64 r.b] := (hv ⟨5, .data⟩ (by simp) rfl).1
   simp only [e5]
   go_wp2
   exact RegPost.own (.slice (some ⟨W.heap.size, 0, none⟩) 1 1) (by rw [← e5]; rfl) (below_1 _ _) (OwnInK.made (World.ownsRow_lit W #[.int .i64 r.t, .int .i64 r.a, .int .i64 r.u, .int .i64 r.b] 1 (Nat.le_refl _) (by unfold maxLen; omega) rfl))
  case refine_8 => exact fun h => absurd (by decide) h
  case refine_9 =>
   intro _ _ vs lo hi W hB hv
   go_wp2
   exact RegPost.own _ rfl (Below.refl _ _) rfl
  case refine_10 =>
   intro _ _ vs lo hi W hB hv
   go_wp2
   exact RegPost.own _ rfl (Below.refl _ _) rfl
  case refine_11 =>
   intro _ _ vs lo hi W hB hv
   have e8 : vs 8 = .slice none 0 0 := (hv ⟨8, .data⟩ (by simp) rfl).1
   have e9 : vs 9 = .int .i64 0 := (hv ⟨9, .data⟩ (by simp) rfl).1
   simp only [e8, e9]
   go_wp2
   exact RegPost.own (.slice none 0 0) (by rw [← e8, ← e9]; rfl) (Below.refl _ _) rfl
  case refine_12 => exact fun h => absurd (by decide) h
  case refine_13 => exact fun _ h => absurd h (by simp)
  case refine_14 => exact fun h => absurd h (by decide)
  case refine_15 => exact fun h => absurd h (by decide)
  case refine_16 => exact fun h => absurd h (by decide)
  case refine_17 => exact fun h => absurd h (by decide)
  case refine_18 => exact fun h => absurd h (by decide)
  case refine_19 => exact fun h => absurd h (by decide)
  case refine_20 => exact fun h => absurd h (by decide)
  case refine_21 => exact fun h => absurd h (by decide)
  case refine_22 =>
   intro _ _ q vs W hR hv
   go_wp2
   exact PurePost.mk' (.slice none 0 0) rfl rfl
  case refine_23 =>
   intro _ _ q vs W hR hv
   go_wp2
   exact PurePost.mk' (.int .i64 0) rfl rfl
  case refine_24 =>
   intro _ _ q vs W hR hv
   have e8 : vs 8 = .slice none 0 0 := hv ⟨8, .data⟩ (by simp) rfl rfl
   have e9 : vs 9 = .int .i64 0 := hv ⟨9, .data⟩ (by simp) rfl rfl
   simp only [e8, e9]
   go_wp2
   exact PurePost.mk' (.slice none 0 0) (by rw [← e8, ← e9]; rfl) rfl
  case refine_25 => exact fun h => absurd h (by decide)
  case refine_26 => exact fun h => absurd h (by decide)
  case refine_27 =>
   intro o ho vs lo hi W hB hv
   obtain rfl := Option.some.inj ho
   obtain ⟨h4, g4, _, _⟩ := hv ⟨4, .data⟩ (by simp) rfl
   obtain ⟨h6, g6, _, _⟩ := hv ⟨6, .data⟩ (by simp) rfl
   have h4 : W.ownsRow (lo 4) 89 4 (vs 4) 0 (racesC (([] : List RaceL).take 0)) := h4.1
   have h6 : W.ownsRow (lo 6) 89 4 (vs 6) 1 r.v := h6.1
   refine wpList_append_src rfl (.tmp 57) (.tmp 59) 28 rfl V2.heap.size 89 i9 (.agg #[.int .i64 0, .int .i64 0, .int .i64 0, .int .i64 0]) 4 32 Tryz.underlying28 hi9 hz9 hs9 hb9 rfl (by omega) (vs 4) 0 (racesC (([] : List RaceL).take 0)) rfl (own_mono h4 g4) (vs 6) 1 r.v rfl (src_own h6 (by omega)) (by rw [← racesC_one]; exact racesC_one' _) (by unfold maxLen; omega) (by omega) hB.size ?_
   intro v' w' hown hgrow hat
   refine wpList_nil ?_
   refine ⟨v', rfl, hB.grown hgrow hB.size (fun j hj => (World.ownsRow.lt (own_mono h4 g4) j hj).1), ?_⟩
   rw [upd_same, racesC_append, racesC_one]
   exact hown
  case refine_28 =>
   intro q c o hq ho vs W hR hv
   match q, hq with
   | 0, hq =>
    obtain rfl : c = 11 := by simpa using hq.symm
    obtain rfl := Option.some.inj ho
    have e10 : vs 10 = .slice none 0 0 := hv ⟨10, .data⟩ (by simp) rfl rfl
    obtain ⟨hB, hown7⟩ := hR
    refine wpList_append_src rfl (.tmp 60) (.tmp 63) 28 rfl V2.heap.size 89 i9 (.agg #[.int .i64 0, .int .i64 0, .int .i64 0, .int .i64 0]) 4 32 Tryz.underlying28 hi9 hz9 hs9 hb9 rfl (by omega) (vs 7) (0 + 1) _ rfl hown7 (vs 10) (([] : List RaceL).length - 0) (racesC (([] : List RaceL).drop 0)) rfl (by rw [e10]; exact hsq.out W hB) (racesC_one' _) (by unfold maxLen; simp) (by simp) hB.size ?_
    intro v' w' hown hgrow hat
    refine wpList_nil ?_
    refine ChainPost.mk' v' rfl ⟨hB.grown hgrow hB.size (fun j hj => (World.ownsRow.lt hown7 j hj).1), ?_⟩
    rw [upd_same, racesC_append]
    exact hown
   | q + 1, hq => simp at hq
  case refine_29 =>
   intro o ho vs W hR hv
   obtain rfl := Option.some.inj ho
   obtain ⟨hB, hown⟩ := hR
   have hfin : Hid (RacesAt 0 W (vs 11) (insR ([] : List RaceL) r)) := by
    show W.ownsRow _ _ _ _ _ _
    rw [hins.out]
    have e : (([] : List RaceL).take 0 ++ [r] ++ ([] : List RaceL).drop 0).length = 0 + 1 + (([] : List RaceL).length - 0) := by simp
    rw [show (([] : List RaceL).take 0 ++ r :: ([] : List RaceL).drop 0) = ([] : List RaceL).take 0 ++ [r] ++ ([] : List RaceL).drop 0 by simp, e]
    exact own_mono hown (Nat.zero_le _)
   have hfb : Hid (Below w.heap.size w W) := below_on hRV2.out.hb hB
   clear hown hB
   go_wp2
   go_ret
   exact ⟨⟨_, rfl, hfin.out⟩, hfb.out⟩
theorem addRace_calls (v : Value) (rs : List RaceL) (t i u k : Int) (w : World) (h : RacesAt 0 w v rs) (hn : rs.length ≤ 1000) :
  Calls Tryz.prog 23 #[v, .int .i64 t, .int .i64 i, .int .i64 u, .int .i64 k] w fun e w' => (∃ v', e = .returned v' ∧ RacesAt 0 w' v' (insR rs (mkRace t i u k))) ∧ Below w.heap.size w w' := by
 rcases h.2 with ⟨e1, e2⟩ | ⟨b, cap, cur, e1, _⟩
 ·have : rs = [] := List.eq_nil_of_length_eq_zero e2
  subst this
  subst e1
  exact addRace_nil t i u k w
 ·subst e1
  exact addRace_some b cap rs t i u k w h hn
end Go.Proofs.YtknbchheoloaoaaGreat
