/- spec.l11Copy, walked. -/
import Derived.Test.YtknbchheoloaoaaGreatSoA
import Derived.Test.YtknbchheoloaoaaGreatLtD
import Derived.BigQuiet
namespace Go.Proofs.YtknbchheoloaoaaGreat
set_option linter.unusedVariables false
open Go.ChangeShapes Go.WideShapes Go.ChangeAt Go.RowKit

set_option maxRecDepth 1000000 in
set_option maxHeartbeats 4000000 in
theorem copy_calls (p : Value) (s : S11) (w : World) (h : ReadSt w p s) (hp : s.pcs.length ≤ 1000) (hm : s.memory.length ≤ 1000) (hk : s.locks.length ≤ 1000) (hr : s.reads.length ≤ 3) (hrl : ∀ r ∈ s.reads, r.length ≤ 1000) (hb : s.buffers.length ≤ 3) (hbl : ∀ r ∈ s.buffers, r.length ≤ 1000) :
  Calls Tryz.prog 42 #[p] w fun e w' => (∃ p', e = .returned p' ∧ FreshSt w.heap.size w' p' s) ∧ Below w.heap.size w w' := by
 obtain ⟨i2, hi2, hz2, hs2, hb2⟩ := info_parts (show (Tryz.prog.info? 2).map (fun i => (i.zero, i.size, i.bytes)) = some (some (.int .i64 0), 1, 8) by kernel_rfl)
 obtain ⟨g, u0, u1, u2, u3, u4, us1, us4, rfl, h⟩ := h
 obtain ⟨a0, c0, rfl⟩ := own_form h.pcs
 obtain ⟨a1, c1, rfl⟩ := own_form h.reads
 obtain ⟨a2, c2, rfl⟩ := own_form h.memory
 obtain ⟨a3, c3, rfl⟩ := own_form h.locks
 obtain ⟨a4, c4, rfl⟩ := own_form h.buffers
 have hc : Hid (∀ W, Below w.heap.size w W → StAt 0 W g (.slice a0 s.pcs.length c0) (.slice a1 s.reads.length c1) (.slice a2 s.memory.length c2) (.slice a3 s.locks.length c3) (.slice a4 s.buffers.length c4) us1 us4 s) := fun W hW => h.below hW
 have hRd : Hid (∀ W, Below w.heap.size w W → Calls Tryz.prog 64 #[.slice a1 s.reads.length c1] W fun e w' => (∃ u' us', e = .returned u' ∧ RowsOwn W.heap.size w'.heap.size w' u' us' s.reads) ∧ Below W.heap.size W w') := fun W hW => copyRows_calls _ us1 _ W ⟨h.l1, fun r hr => (hc.out W hW).held r (by
  rcases List.mem_cons.1 hr with rfl | hr
  ·simp [stRows]
  ·simp only [stRows, List.mem_append]; exact .inr (.inl hr))⟩ hr hrl
 have hBf : Hid (∀ W, Below w.heap.size w W → Calls Tryz.prog 64 #[.slice a4 s.buffers.length c4] W fun e w' => (∃ u' us', e = .returned u' ∧ RowsOwn W.heap.size w'.heap.size w' u' us' s.buffers) ∧ Below W.heap.size W w') := fun W hW => copyRows_calls _ us4 _ W ⟨h.l4, fun r hr => (hc.out W hW).held r (by
  rcases List.mem_cons.1 hr with rfl | hr
  ·simp [stRows]
  ·simp only [stRows, List.mem_append]; exact .inr (.inr hr))⟩ hb hbl
 clear h
 go_enter Tryz.func42, Tryz.ntmps42
 go_wp2_with fail
 refine wp_region_own2 (by kernel_rfl) (fun vs => { tmps := #[.pointer (some ⟨g, 0, none⟩), undef, vs 30, vs 0, vs 1, vs 2, vs 3, vs 4, vs 5, vs 6, vs 7, vs 8, vs 9, vs 10, vs 11, vs 12, vs 13, vs 14, vs 15, vs 16, vs 17, vs 18, vs 19, vs 20, vs 21, vs 22, vs 23, vs 24, vs 25, vs 26, vs 27, vs 28, vs 29], defers := [] }) (copyVal g (.slice a0 s.pcs.length c0) (.slice a1 s.reads.length c1) (.slice a2 s.memory.length c2) (.slice a3 s.locks.length c3) (.slice a4 s.buffers.length c4) s w.heap.size) copySrc (fun i i' j h h' => by rcases copySrc_cases h with ⟨_, _⟩ | ⟨_, _⟩ | ⟨_, _⟩ <;> rcases copySrc_cases h' with ⟨_, _⟩ | ⟨_, _⟩ | ⟨_, _⟩ <;> omega) (fun i j h => by rcases copySrc_cases h with ⟨_, rfl⟩ | ⟨_, rfl⟩ | ⟨_, rfl⟩ <;> rfl) (fun i => if i = 30 then .pointer none else undef) rfl (copyVal_below g _ _ _ _ _ s w.heap.size) (allAt_all ⟨?_, ?_, ?_, ?_, ?_, ?_, ?_, ?_, ?_, ?_, ?_, ?_, ?_, ?_, ?_, ?_, ?_, ?_, ?_, ?_, ?_, ?_, ?_, ?_, ?_, ?_, ?_, ?_, ?_, ?_, ?_, trivial⟩) ?_ (regForward_done (by kernel_rfl))
 case refine_1 =>
  intro vs lo hi W hB hv
  go_wp2
  exact RegPost.own _ rfl (below_1 _ _) ⟨rfl, OwnIn.made (B := 0) (World.ownsRow_made W #[] 0 (Nat.le_refl _) (by unfold maxLen; omega) rfl)⟩
 case refine_2 =>
  intro vs lo hi W hB hv
  go_wp2
  exact RegPost.own _ rfl (Below.refl _ _) rfl
 case refine_3 =>
  intro vs lo hi W hB hv
  have e0 : vs 1 = .pointer (some ⟨g, 0, none⟩) := (hv ⟨1, .data⟩ (by simp) rfl).1
  simp only [e0]
  go_wp2
  exact RegPost.own (.pointer (some ⟨g, 0, none⟩)) (by rw [← e0]; rfl) (Below.refl _ _) rfl
 case refine_4 =>
  intro vs lo hi W hB hv
  have e0 : vs 2 = .pointer (some ⟨g, 0, none⟩) := (hv ⟨2, .data⟩ (by simp) rfl).1
  simp only [e0]
  go_wp2
  exact RegPost.own (.pointer (some ⟨g, 0, none⟩)) (by rw [← e0]; rfl) (Below.refl _ _) rfl
 case refine_5 =>
  intro vs lo hi W hB hv
  have e0 : vs 3 = .pointer (some ⟨g, 0, none⟩) := (hv ⟨3, .data⟩ (by simp) rfl).1
  have cc := (hc.out W hB).row 0 _ rfl
  simp only [Nat.zero_add] at cc
  simp only [e0]
  go_wp2
  exact RegPost.own (.slice a0 s.pcs.length c0) (by rw [← e0]; rfl) (Below.refl _ _) rfl
 case refine_6 =>
  intro vs lo hi W hB hv
  have e0 := (hv ⟨0, .data⟩ (by simp) rfl)
  have e1 : vs 4 = .slice a0 s.pcs.length c0 := (hv ⟨4, .data⟩ (by simp) rfl).1
  obtain ⟨⟨q0, q1⟩, q2, q3, _⟩ := e0
  have q0 : vs 0 = .slice (some ⟨lo 0, 0, none⟩) 0 0 := q0
  have q1 : OwnIn (lo 0) (hi 0) W 2 (vs 0) [] := q1
  refine wpList_append_fresh rfl (.tmp 3) (.tmp 7) 25 rfl 2 i2 (.int .i64 0) 8 Tryz.underlying25 hi2 hz2 hs2 hb2 rfl (lo 0) q0 (vs 4) 0 _ _ rfl (by rw [e1]; exact (hc.out W hB).pcs) (intsV_one _) (by unfold maxLen; omega) (by omega) (fun m0 n0 => ?_) (fun v1 w1 hown hgrow => ?_)
  ·refine wpList_nil ?_
   refine RegPost.take (.slice (some ⟨lo 0, 0, none⟩) 0 0) ⟨0, .data⟩ rfl (by simp) rfl rfl (Below.refl _ _) ?_
   show OwnIn (lo 0) (hi 0) W 2 _ _
   rw [n0, ← q0]
   exact q1
  ·refine wpList_nil ?_
   exact RegPost.own v1 rfl ((Below.refl _ _).grown hgrow (Nat.le_refl _) (fun j hj => by cases hj)) (OwnIn.made (B := 0) hown)
 case refine_7 =>
  intro vs lo hi W hB hv
  go_wp2
  exact RegPost.own _ rfl (Below.refl _ _) rfl
 case refine_8 =>
  intro vs lo hi W hB hv
  have e0 : vs 6 = .pointer (some ⟨g, 0, none⟩) := (hv ⟨6, .data⟩ (by simp) rfl).1
  simp only [e0]
  go_wp2
  exact RegPost.own (.pointer (some ⟨g, 0, none⟩)) (by rw [← e0]; rfl) (Below.refl _ _) rfl
 case refine_9 =>
  intro vs lo hi W hB hv
  have e0 : vs 7 = .pointer (some ⟨g, 0, none⟩) := (hv ⟨7, .data⟩ (by simp) rfl).1
  simp only [e0]
  go_wp2
  exact RegPost.own (.pointer (some ⟨g, 1, none⟩)) (by rw [← e0]; rfl) (Below.refl _ _) rfl
 case refine_10 =>
  intro vs lo hi W hB hv
  have e0 : vs 8 = .pointer (some ⟨g, 1, none⟩) := (hv ⟨8, .data⟩ (by simp) rfl).1
  have cc := (hc.out W hB).row 1 _ rfl
  simp only [Nat.zero_add] at cc
  simp only [e0]
  go_wp2
  exact RegPost.own (.slice a1 s.reads.length c1) (by rw [← e0]; rfl) (Below.refl _ _) rfl
 case refine_11 =>
  intro vs lo hi W hB hv
  have e0 : vs 9 = .slice a1 s.reads.length c1 := (hv ⟨9, .data⟩ (by simp) rfl).1
  simp only [e0]
  go_wp2_with (go_at_call 64; refine (hRd.out _ hB).mono ?_; rintro e w1 ⟨⟨u', us', rfl, hro⟩, hb1⟩)
  exact RegPost.own u' (by rw [← e0]; rfl) hb1 ⟨us', hro⟩
 case refine_12 =>
  intro vs lo hi W hB hv
  go_wp2
  exact RegPost.own _ rfl (below_1 _ _) ⟨rfl, OwnIn.made (B := 0) (World.ownsRow_made W #[] 0 (Nat.le_refl _) (by unfold maxLen; omega) rfl)⟩
 case refine_13 =>
  intro vs lo hi W hB hv
  go_wp2
  exact RegPost.own _ rfl (Below.refl _ _) rfl
 case refine_14 =>
  intro vs lo hi W hB hv
  have e0 : vs 12 = .pointer (some ⟨g, 0, none⟩) := (hv ⟨12, .data⟩ (by simp) rfl).1
  simp only [e0]
  go_wp2
  exact RegPost.own (.pointer (some ⟨g, 0, none⟩)) (by rw [← e0]; rfl) (Below.refl _ _) rfl
 case refine_15 =>
  intro vs lo hi W hB hv
  have e0 : vs 13 = .pointer (some ⟨g, 0, none⟩) := (hv ⟨13, .data⟩ (by simp) rfl).1
  simp only [e0]
  go_wp2
  exact RegPost.own (.pointer (some ⟨g, 2, none⟩)) (by rw [← e0]; rfl) (Below.refl _ _) rfl
 case refine_16 =>
  intro vs lo hi W hB hv
  have e0 : vs 14 = .pointer (some ⟨g, 2, none⟩) := (hv ⟨14, .data⟩ (by simp) rfl).1
  have cc := (hc.out W hB).row 2 _ rfl
  simp only [Nat.zero_add] at cc
  simp only [e0]
  go_wp2
  exact RegPost.own (.slice a2 s.memory.length c2) (by rw [← e0]; rfl) (Below.refl _ _) rfl
 case refine_17 =>
  intro vs lo hi W hB hv
  have e0 := (hv ⟨11, .data⟩ (by simp) rfl)
  have e1 : vs 15 = .slice a2 s.memory.length c2 := (hv ⟨15, .data⟩ (by simp) rfl).1
  obtain ⟨⟨q0, q1⟩, q2, q3, _⟩ := e0
  have q0 : vs 11 = .slice (some ⟨lo 11, 0, none⟩) 0 0 := q0
  have q1 : OwnIn (lo 11) (hi 11) W 2 (vs 11) [] := q1
  refine wpList_append_fresh rfl (.tmp 14) (.tmp 18) 25 rfl 2 i2 (.int .i64 0) 8 Tryz.underlying25 hi2 hz2 hs2 hb2 rfl (lo 11) q0 (vs 15) 0 _ _ rfl (by rw [e1]; exact (hc.out W hB).memory) (intsV_one _) (by unfold maxLen; omega) (by omega) (fun m0 n0 => ?_) (fun v1 w1 hown hgrow => ?_)
  ·refine wpList_nil ?_
   refine RegPost.take (.slice (some ⟨lo 11, 0, none⟩) 0 0) ⟨11, .data⟩ rfl (by simp) rfl rfl (Below.refl _ _) ?_
   show OwnIn (lo 11) (hi 11) W 2 _ _
   rw [n0, ← q0]
   exact q1
  ·refine wpList_nil ?_
   exact RegPost.own v1 rfl ((Below.refl _ _).grown hgrow (Nat.le_refl _) (fun j hj => by cases hj)) (OwnIn.made (B := 0) hown)
 case refine_18 =>
  intro vs lo hi W hB hv
  go_wp2
  exact RegPost.own _ rfl (below_1 _ _) ⟨rfl, OwnIn.made (B := 0) (World.ownsRow_made W #[] 0 (Nat.le_refl _) (by unfold maxLen; omega) rfl)⟩
 case refine_19 =>
  intro vs lo hi W hB hv
  go_wp2
  exact RegPost.own _ rfl (Below.refl _ _) rfl
 case refine_20 =>
  intro vs lo hi W hB hv
  have e0 : vs 18 = .pointer (some ⟨g, 0, none⟩) := (hv ⟨18, .data⟩ (by simp) rfl).1
  simp only [e0]
  go_wp2
  exact RegPost.own (.pointer (some ⟨g, 0, none⟩)) (by rw [← e0]; rfl) (Below.refl _ _) rfl
 case refine_21 =>
  intro vs lo hi W hB hv
  have e0 : vs 19 = .pointer (some ⟨g, 0, none⟩) := (hv ⟨19, .data⟩ (by simp) rfl).1
  simp only [e0]
  go_wp2
  exact RegPost.own (.pointer (some ⟨g, 3, none⟩)) (by rw [← e0]; rfl) (Below.refl _ _) rfl
 case refine_22 =>
  intro vs lo hi W hB hv
  have e0 : vs 20 = .pointer (some ⟨g, 3, none⟩) := (hv ⟨20, .data⟩ (by simp) rfl).1
  have cc := (hc.out W hB).row 3 _ rfl
  simp only [Nat.zero_add] at cc
  simp only [e0]
  go_wp2
  exact RegPost.own (.slice a3 s.locks.length c3) (by rw [← e0]; rfl) (Below.refl _ _) rfl
 case refine_23 =>
  intro vs lo hi W hB hv
  have e0 := (hv ⟨17, .data⟩ (by simp) rfl)
  have e1 : vs 21 = .slice a3 s.locks.length c3 := (hv ⟨21, .data⟩ (by simp) rfl).1
  obtain ⟨⟨q0, q1⟩, q2, q3, _⟩ := e0
  have q0 : vs 17 = .slice (some ⟨lo 17, 0, none⟩) 0 0 := q0
  have q1 : OwnIn (lo 17) (hi 17) W 2 (vs 17) [] := q1
  refine wpList_append_fresh rfl (.tmp 20) (.tmp 24) 25 rfl 2 i2 (.int .i64 0) 8 Tryz.underlying25 hi2 hz2 hs2 hb2 rfl (lo 17) q0 (vs 21) 0 _ _ rfl (by rw [e1]; exact (hc.out W hB).locks) (intsV_one _) (by unfold maxLen; omega) (by omega) (fun m0 n0 => ?_) (fun v1 w1 hown hgrow => ?_)
  ·refine wpList_nil ?_
   refine RegPost.take (.slice (some ⟨lo 17, 0, none⟩) 0 0) ⟨17, .data⟩ rfl (by simp) rfl rfl (Below.refl _ _) ?_
   show OwnIn (lo 17) (hi 17) W 2 _ _
   rw [n0, ← q0]
   exact q1
  ·refine wpList_nil ?_
   exact RegPost.own v1 rfl ((Below.refl _ _).grown hgrow (Nat.le_refl _) (fun j hj => by cases hj)) (OwnIn.made (B := 0) hown)
 case refine_24 =>
  intro vs lo hi W hB hv
  go_wp2
  exact RegPost.own _ rfl (Below.refl _ _) rfl
 case refine_25 =>
  intro vs lo hi W hB hv
  have e0 : vs 23 = .pointer (some ⟨g, 0, none⟩) := (hv ⟨23, .data⟩ (by simp) rfl).1
  simp only [e0]
  go_wp2
  exact RegPost.own (.pointer (some ⟨g, 0, none⟩)) (by rw [← e0]; rfl) (Below.refl _ _) rfl
 case refine_26 =>
  intro vs lo hi W hB hv
  have e0 : vs 24 = .pointer (some ⟨g, 0, none⟩) := (hv ⟨24, .data⟩ (by simp) rfl).1
  simp only [e0]
  go_wp2
  exact RegPost.own (.pointer (some ⟨g, 4, none⟩)) (by rw [← e0]; rfl) (Below.refl _ _) rfl
 case refine_27 =>
  intro vs lo hi W hB hv
  have e0 : vs 25 = .pointer (some ⟨g, 4, none⟩) := (hv ⟨25, .data⟩ (by simp) rfl).1
  have cc := (hc.out W hB).row 4 _ rfl
  simp only [Nat.zero_add] at cc
  simp only [e0]
  go_wp2
  exact RegPost.own (.slice a4 s.buffers.length c4) (by rw [← e0]; rfl) (Below.refl _ _) rfl
 case refine_28 =>
  intro vs lo hi W hB hv
  have e0 : vs 26 = .slice a4 s.buffers.length c4 := (hv ⟨26, .data⟩ (by simp) rfl).1
  simp only [e0]
  go_wp2_with (go_at_call 64; refine (hBf.out _ hB).mono ?_; rintro e w1 ⟨⟨u', us', rfl, hro⟩, hb1⟩)
  exact RegPost.own u' (by rw [← e0]; rfl) hb1 ⟨us', hro⟩
 case refine_29 =>
  intro vs lo hi W hB hv
  have e5 := hv ⟨5, .data⟩ (by simp) rfl
  have e10 := hv ⟨10, .data⟩ (by simp) rfl
  have e16 := hv ⟨16, .data⟩ (by simp) rfl
  have e22 := hv ⟨22, .data⟩ (by simp) rfl
  have e27 := hv ⟨27, .data⟩ (by simp) rfl
  obtain ⟨h5, g5, l5, f5⟩ := e5
  obtain ⟨⟨us1', h10⟩, g10, l10, f10⟩ := e10
  obtain ⟨h16, g16, l16, f16⟩ := e16
  obtain ⟨h22, g22, l22, f22⟩ := e22
  obtain ⟨⟨us4', h27⟩, g27, l27, f27⟩ := e27
  have hA : Hid (ApartR (stRows (vs 5) (vs 10) (vs 16) (vs 22) (vs 27) us1' us4' s)) := apart_st h5 h10 h16 h22 h27
   (f5 ⟨10, .data⟩ (by simp) rfl (by decide) (by decide) (by decide)) (f5 ⟨16, .data⟩ (by simp) rfl (by decide) (by decide) (by decide)) (f5 ⟨22, .data⟩ (by simp) rfl (by decide) (by decide) (by decide)) (f5 ⟨27, .data⟩ (by simp) rfl (by decide) (by decide) (by decide))
   (f10 ⟨16, .data⟩ (by simp) rfl (by decide) (by decide) (by decide)) (f10 ⟨22, .data⟩ (by simp) rfl (by decide) (by decide) (by decide)) (f10 ⟨27, .data⟩ (by simp) rfl (by decide) (by decide) (by decide))
   (f16 ⟨22, .data⟩ (by simp) rfl (by decide) (by decide) (by decide)) (f16 ⟨27, .data⟩ (by simp) rfl (by decide) (by decide) (by decide)) (f22 ⟨27, .data⟩ (by simp) rfl (by decide) (by decide) (by decide))
  have hH : Hid (Held w.heap.size W (stRows (vs 5) (vs 10) (vs 16) (vs 22) (vs 27) us1' us4' s)) := held_st h5 h10 h16 h22 h27 g5 g10 g16 g22 g27
  have ll1 : Hid (us1'.length = s.reads.length) := h10.len
  have ll4 : Hid (us4'.length = s.buffers.length) := h27.len
  obtain ⟨b5, d5, q5⟩ := own_form h5.1
  obtain ⟨b10, d10, q10⟩ := own_form h10.outer
  obtain ⟨b16, d16, q16⟩ := own_form h16.1
  obtain ⟨b22, d22, q22⟩ := own_form h22.1
  obtain ⟨b27, d27, q27⟩ := own_form h27.outer
  have q5 : vs 5 = .slice b5 (intsV s.pcs).length d5 := q5
  have q10 : vs 10 = .slice b10 s.reads.length d10 := q10
  have q16 : vs 16 = .slice b16 (intsV s.memory).length d16 := q16
  have q22 : vs 22 = .slice b22 (intsV s.locks).length d22 := q22
  have q27 : vs 27 = .slice b27 s.buffers.length d27 := q27
  clear h5 h10 h16 h22 h27 f5 f10 f16 f22 f27 g5 g10 g16 g22 g27 l5 l10 l16 l22 l27
  rw [q5, q10, q16, q22, q27] at hA hH
  simp only [q5, q10, q16, q22, q27]
  go_wp2
  exact RegPost.own (.agg #[.slice b5 _ d5, .slice b10 _ d10, .slice b16 _ d16, .slice b22 _ d22, .slice b27 _ d27]) (by rw [← q5, ← q10, ← q16, ← q22, ← q27]; rfl) (Below.refl _ _) ⟨_, _, _, _, _, us1', us4', rfl, ll1.out, ll4.out, hH.out, hA.out⟩
 case refine_30 =>
  intro vs lo hi W hB hv
  obtain ⟨v0, v1, v2, v3, v4, us1', us4', q0, l1, l4, hH, hA⟩ := (hv ⟨28, .data⟩ (by simp) rfl).1
  have q0 : vs 28 = .agg #[v0, v1, v2, v3, v4] := q0
  simp only [q0]
  go_wp2
  have hs := hB.size
  exact RegPost.own (.pointer (some ⟨W.heap.size, 0, none⟩)) (by rw [← q0]; rfl) (below_1 _ _) ⟨W.heap.size, v0, v1, v2, v3, v4, us1', us4', rfl, ⟨hs, by simp, rangeAt_heap (heap_alloc_new W _), l1, l4, hH.below (below_1 _ _)⟩, hA, fun r hr e => by
   have := (RowD.held.lt (hH r hr) e).2
   omega⟩
 case refine_31 =>
  intro vs lo hi W hB hv
  have e0 : FreshSt w.heap.size W (vs 29) s := (hv ⟨29, .data⟩ (by simp) rfl).1
  go_wp2
  exact RegPost.own _ rfl (Below.refl _ _) e0
 case refine_32 =>
  intro vs lo hi W hB hval _ _
  have e12 : FreshSt w.heap.size W (vs 30) s := hval 30 (by simp)
  go_wp2
  go_ret
  exact ⟨⟨_, rfl, e12⟩, hB⟩
end Go.Proofs.YtknbchheoloaoaaGreat

/- spec.l11See and spec.l11Can on states of serial runs. -/
namespace Go.Proofs.YtknbchheoloaoaaGreat
set_option linter.unusedVariables false
open Go.ChangeShapes Go.WideShapes Go.ChangeAt Go.RowKit

def actAt (x : LitL) (t k : Nat) : Option ActL := (x.thr[t]?).bind (·[k]?)
def pcOf (s : S11) (t : Nat) : Nat := (s.pcs.getD t 0).toNat
def canA (s : S11) (a : ActL) : Bool := !(a.kind == 4 && s.locks.getD a.var.toNat 0 != 0)
def canM (s : S11) : Option ActL → Bool
 | none => false
 | some a => canA s a
def canS (x : LitL) (s : S11) (t : Nat) : Bool := canM s (actAt x t (pcOf s t))
structure OkL (x : LitL) : Prop where
 v0 : 0 ≤ x.vars
 v1 : x.vars ≤ 4
 k0 : 0 ≤ x.locks
 k1 : x.locks ≤ 2
 n0 : 1 ≤ x.thr.length
 n1 : x.thr.length ≤ 3
 len : ∀ acts ∈ x.thr, acts.length ≤ 4
 act : ∀ acts ∈ x.thr, ∀ a ∈ acts, actC x.vars x.locks a = true
structure Wf (x : LitL) (s : S11) : Prop where
 lp : s.pcs.length = x.thr.length
 lr : s.reads.length = x.thr.length
 lm : (s.memory.length : Int) = x.vars
 lk : s.locks.length = 2
 lb : s.buffers = List.replicate x.thr.length []
 pn : ∀ t (h : t < s.pcs.length) (h' : t < x.thr.length), 0 ≤ s.pcs[t] ∧ s.pcs[t] ≤ x.thr[t].length
 rl : ∀ t (h : t < s.reads.length) (h' : t < s.pcs.length), (s.reads[t].length : Int) ≤ s.pcs[t]
theorem actC_var {vars locks : Int} {a : ActL} (h : actC vars locks a = true) : (a.kind = 1 ∨ a.kind = 2 ∨ a.kind = 3 → 0 ≤ a.var ∧ a.var < vars) ∧ (a.kind = 4 ∨ a.kind = 5 → 0 ≤ a.var ∧ a.var < locks) ∧ (a.kind = 1 ∨ a.kind = 2 ∨ a.kind = 3 ∨ a.kind = 4 ∨ a.kind = 5) := by
 obtain ⟨k, v, n⟩ := a
 unfold actC at h
 split at h
 ·rename_i h1
  simp only [Bool.and_eq_true, btw_iff] at h
  refine ⟨fun _ => (show 0 ≤ v ∧ v < vars by omega), fun h' => ?_, .inl h1⟩
  have h1 : k = 1 := h1
  have : k = 4 ∨ k = 5 := h'
  omega
 ·split at h
  ·rename_i h0 h1
   simp only [Bool.and_eq_true, btw_iff] at h
   have h1 : k = 2 ∨ k = 3 := h1
   refine ⟨fun _ => (show 0 ≤ v ∧ v < vars by omega), fun h' => ?_, by rcases h1 with h1 | h1 <;> simp [h1]⟩
   have : k = 4 ∨ k = 5 := h'
   omega
  ·split at h
   ·rename_i h0 h00 h1
    simp only [Bool.and_eq_true, btw_iff] at h
    have h1 : k = 4 ∨ k = 5 := h1
    refine ⟨fun h' => ?_, fun _ => (show 0 ≤ v ∧ v < locks by omega), by rcases h1 with h1 | h1 <;> simp [h1]⟩
    have : k = 1 ∨ k = 2 ∨ k = 3 := h'
    omega
   ·cases h

set_option maxRecDepth 1000000 in
set_option maxHeartbeats 2000000 in
theorem see_calls (g : Nat) (u0 u1 u2 u3 u4 : Value) (us1 us4 : List Value) (s : S11) (t : Nat) (v : Nat) (w : World) (h : StAt 0 w g u0 u1 u2 u3 u4 us1 us4 s) (ht : t < s.buffers.length) (hb : s.buffers[t] = []) (hv : v < s.memory.length) (h3 : s.buffers.length ≤ 3) (h4 : s.memory.length ≤ 4) :
  Calls Tryz.prog 43 #[.pointer (some ⟨g, 0, none⟩), .int .i64 t, .int .i64 v] w fun e w' => e = .returned (.int .i64 s.memory[v]) ∧ w' = w := by
 obtain ⟨x, hx, hxo⟩ := h.buffer ht
 rw [hb] at hxo
 obtain ⟨xa, xc, rfl⟩ := own_form hxo
 obtain ⟨b4, c4, rfl, hc4, _, _, _, q4, _⟩ := rowCell h.buffers hx
 obtain ⟨b2, c2, rfl, hc2, _, _, q2, _⟩ := intCell h.memory hv
 have r2 := h.row 2 _ rfl
 have r4 := h.row 4 _ rfl
 simp only [Nat.zero_add] at r2 r4
 have ht' : (t : Int) < s.buffers.length := by omega
 have hv' : (v : Int) < s.memory.length := by omega
 generalize s.memory[v] = z at *
 clear hx hxo h hb
 go_enter Tryz.func43, Tryz.ntmps43
 go_wp2
 go_loopw [7] (fun i wr => i = .int .i64 (-2) ∧ wr = w) (fun _ _ => 0)
 case atStart => exact ⟨rfl, rfl⟩
 case round =>
  obtain ⟨rfl, rfl⟩ := hrel
  go_wp2
  go_ret
  exact ⟨rfl, rfl⟩
end Go.Proofs.YtknbchheoloaoaaGreat

/- spec.l11Can on states of serial runs. -/
namespace Go.Proofs.YtknbchheoloaoaaGreat
set_option linter.unusedVariables false
open Go.ChangeShapes Go.WideShapes Go.ChangeAt Go.RowKit

structure ThrC (W : World) (ta : Option Addr) (t len : Nat) (b1 o1 : Nat) (ua : Option Addr) (uc : Nat) : Prop where
 ta : ta = some ⟨b1, o1, none⟩
 c : W.cell? ⟨b1, o1 + t, none⟩ = some (.slice ua len uc)
theorem thrC {x : LitL} {ta : Option Addr} {tc lo hi : Nat} {W : World} (h : ListAt ThrR 1 true lo hi W (.slice ta x.thr.length tc) x.thr) {t : Nat} (ht : t < x.thr.length) : ∃ b1 o1 ua uc, ThrC W ta t x.thr[t].length b1 o1 ua uc ∧ ListAt ActR 3 true lo hi W (.slice ua x.thr[t].length uc) x.thr[t] ∧ b1 < hi := by
 obtain ⟨b, off, row, e, hbb, hrl, hrr, ⟨u, rfl, hlu⟩⟩ := h.at t ht
 obtain ⟨ua, uc, rfl⟩ := hlu.form
 exact ⟨b, off, ua, uc, ⟨e, by simpa using hrr 0 _ rfl⟩, hlu, hbb⟩

theorem below_al {a w : World} (h : Below a.heap.size a w) (o : Obj) : Below a.heap.size a (w.alloc o) := h.alloc h.size o
set_option maxRecDepth 1000000 in
set_option maxHeartbeats 4000000 in
theorem can_calls (x : LitL) (s : S11) (t : Nat) (p : Value) (ta : Option Addr) (tc : Nat) (w : World) (lo hi : Nat) (hh : hi ≤ w.heap.size) (hx : ListAt ThrR 1 true lo hi w (.slice ta x.thr.length tc) x.thr) (hs : ReadSt w p s) (ho : OkL x) (hwf : Wf x s) (ht : t < x.thr.length) :
  Calls Tryz.prog 19 #[.agg #[.int .i64 x.vars, .int .i64 x.vol, .int .i64 x.locks, .slice ta x.thr.length tc], p, .int .i64 t, .bool false] w fun e w' => e = .returned (.bool (canS x s t)) ∧ Below w.heap.size w w' := by
 obtain ⟨g, u0, u1, u2, u3, u4, us1, us4, rfl, h⟩ := hs
 have htp : t < s.pcs.length := by rw [hwf.lp]; exact ht
 obtain ⟨b1, o1, ua, uc, ⟨rfl, hc1⟩, hacts, hb1⟩ := thrC hx ht
 obtain ⟨b0, c0, rfl, hcc0, _, hb0, q0, _⟩ := intCell h.pcs htp
 have r0 := h.row 0 _ rfl
 have r3 := h.row 3 _ rfl
 simp only [Nat.zero_add] at r0 r3
 obtain ⟨hp0, hp1⟩ := hwf.pn t htp ht
 obtain ⟨k, hk⟩ : ∃ k : Nat, s.pcs[t] = k := ⟨s.pcs[t].toNat, by omega⟩
 have hpc : pcOf s t = k := by simp [pcOf, htp, hk]
 have hcan : canS x s t = canM s (x.thr[t][k]?) := by simp [canS, actAt, hpc, ht]
 rw [hk] at q0 hp1
 have hkl : k ≤ x.thr[t].length := by omega
 have ht' : (t : Int) < x.thr.length := by omega
 have htp' : (t : Int) < s.pcs.length := by omega
 -- all that is read, in every world behind
 obtain ⟨W0, hW0⟩ : ∃ W0 : World, W0 = w.alloc (.cells #[.int .i64 x.vars, .int .i64 x.vol, .int .i64 x.locks, .slice (some ⟨b1, o1, none⟩) x.thr.length tc] 34) := ⟨_, rfl⟩
 have hbW : Below w.heap.size w W0 := by rw [hW0]; exact below_1 _ _
 have hLW : LitW w W0 x.vars x.vol x.locks (.slice (some ⟨b1, o1, none⟩) x.thr.length tc) := by rw [hW0]; exact LitW.start _ _ _ _ _ _
 have m3 : W0.cell? ⟨w.heap.size, 3, none⟩ = some (.slice (some ⟨b1, o1, none⟩) x.thr.length tc) := hLW.c3
 have n0 : W0.cell? ⟨g, 0, none⟩ = some (.slice (some ⟨b0, 0, none⟩) s.pcs.length c0) := by rw [hbW.cell (p := ⟨g, 0, none⟩) h.hi]; exact r0
 have n1 : W0.cell? ⟨b0, t, none⟩ = some (.int .i64 k) := by rw [hbW.cell (p := ⟨b0, t, none⟩) hb0]; exact q0
 have n2 : W0.cell? ⟨b1, o1 + t, none⟩ = some (.slice ua x.thr[t].length uc) := by rw [hbW.cell (p := ⟨b1, o1 + t, none⟩) (by show b1 < _; omega)]; exact hc1
 by_cases hlt : k < x.thr[t].length
 ·have hlt' : (k : Int) < x.thr[t].length := by omega
  obtain ⟨b2, o2, row, rfl, hb2, hrl, hrr, hrx⟩ := hacts.at k hlt
  have hrx : row = [.int .i64 x.thr[t][k].kind, .int .i64 x.thr[t][k].var, .int .i64 x.thr[t][k].n] := hrx
  have hmem : x.thr[t][k] ∈ x.thr[t] := List.getElem_mem hlt
  have hav := actC_var (ho.act _ (List.getElem_mem ht) _ hmem)
  have hR0 : Hid (canS x s t = canA s x.thr[t][k]) := by show _ = _; rw [hcan, List.getElem?_eq_getElem hlt]; rfl
  generalize x.thr[t][k] = a at *
  subst hrx
  have n3 : W0.rangeAt b2 (o2 + k * 3) [.int .i64 a.kind, .int .i64 a.var, .int .i64 a.n] := rangeAt_same (Same.below hbW) (Nat.zero_le _) (show b2 < w.heap.size by omega) hrr
  have hld : Hid ((Tryz.prog.info? 60).map (·.size) = some 3) := by show _ = _; kernel_rfl
  obtain ⟨v, hv2, hva⟩ : ∃ v : Nat, v < s.locks.length ∧ (a.kind = 4 → a.var = v) := by
   by_cases h4 : a.kind = 4
   ·have := hav.2.1 (.inl h4)
    have := ho.k1
    refine ⟨a.var.toNat, by rw [hwf.lk]; omega, fun _ => by omega⟩
   ·exact ⟨0, by rw [hwf.lk]; omega, fun h => absurd h h4⟩
  obtain ⟨b3, c3, rfl, hcc3, _, hb3, q3, _⟩ := intCell h.locks hv2
  obtain ⟨z, hz⟩ : ∃ z, z = s.locks[v] := ⟨_, rfl⟩
  rw [← hz] at q3
  have hA : Hid (canA s a = !(a.kind == 4 && z != 0)) := by
   show _ = _
   unfold canA
   by_cases h4 : a.kind = 4
   ·simp [h4, hva h4, hz, hv2]
   ·have h4' : (a.kind == 4) = false := by simpa using h4
    rw [h4']; rfl
  have hmk : Hid (∀ W, Below W0.heap.size W0 W → (Hid (Below W0.heap.size W0 W) ∧ W.cell? ⟨w.heap.size, 3, none⟩ = some (.slice (some ⟨b1, o1, none⟩) x.thr.length tc) ∧ W.cell? ⟨g, 0, none⟩ = some (.slice (some ⟨b0, 0, none⟩) s.pcs.length c0) ∧ W.cell? ⟨b0, t, none⟩ = some (.int .i64 k) ∧ W.cell? ⟨b1, o1 + t, none⟩ = some (.slice (some ⟨b2, o2, none⟩) x.thr[t].length uc) ∧ W.cell? ⟨b2, o2 + k * 3, none⟩ = some (.int .i64 a.kind) ∧ W.cell? ⟨b2, o2 + k * 3 + 1, none⟩ = some (.int .i64 a.var) ∧ W.cell? ⟨b2, o2 + k * 3 + 2, none⟩ = some (.int .i64 a.n) ∧ W.cell? ⟨g, 3, none⟩ = some (.slice (some ⟨b3, 0, none⟩) s.locks.length c3) ∧ W.cell? ⟨b3, v, none⟩ = some (.int .i64 z))) := fun W hW => by
   have hz := hbW.size
   have hg := h.hi
   have hz0 : w.heap.size < W0.heap.size := hLW.sz
   refine ⟨hW, ?_, ?_, ?_, ?_, ?_, ?_, ?_, ?_, ?_⟩
   ·rw [hW.cell (p := ⟨w.heap.size, 3, none⟩) hz0]; exact m3
   ·rw [hW.cell (p := ⟨g, 0, none⟩) (by show g < _; omega)]; exact n0
   ·rw [hW.cell (p := ⟨b0, t, none⟩) (by show b0 < _; omega)]; exact n1
   ·rw [hW.cell (p := ⟨b1, o1 + t, none⟩) (by show b1 < _; omega)]; exact n2
   ·rw [hW.cell (p := ⟨b2, o2 + k * 3, none⟩) (by show b2 < _; omega)]; exact n3 0 _ rfl
   ·rw [hW.cell (p := ⟨b2, o2 + k * 3 + 1, none⟩) (by show b2 < _; omega)]; exact n3 1 _ rfl
   ·rw [hW.cell (p := ⟨b2, o2 + k * 3 + 2, none⟩) (by show b2 < _; omega)]; exact n3 2 _ rfl
   ·rw [hW.cell (p := ⟨g, 3, none⟩) (by show g < _; omega), hbW.cell (p := ⟨g, 3, none⟩) (by show g < _; omega)]; exact r3
   ·rw [hW.cell (p := ⟨b3, v, none⟩) (by show b3 < _; omega), hbW.cell (p := ⟨b3, v, none⟩) (by show b3 < _; omega)]; exact q3
  have hbWH : Hid (Below w.heap.size w W0) := hbW
  have hv2' : (v : Int) < s.locks.length := by omega
  generalize x.thr[t].length = ln at *
  have hR : Hid (canS x s t = !(a.kind == 4 && z != 0)) := by show _ = _; rw [hR0.out, hA.out]
  generalize canS x s t = R at hR ⊢
  go_enter Tryz.func19, Tryz.ntmps19
  go_wp2_with fail
  rw [← hW0]
  clear hW0
  go_quiet (fail)
  go_wp2_with fail
  have hS0 := hmk.out (W0.drewN nq) (below_drewN (Below.refl _ _) _)
  generalize W0.drewN nq = W1 at *
  clear m3 n0 n1 n2 n3 hLW hbW h hrr hrl hacts hx hcan q0 r0 r3 hc1 hR0 hA hz q3
  go_region_held3 (fun W => Hid (Below W0.heap.size W0 W) ∧ W.cell? ⟨w.heap.size, 3, none⟩ = some (.slice (some ⟨b1, o1, none⟩) x.thr.length tc) ∧ W.cell? ⟨g, 0, none⟩ = some (.slice (some ⟨b0, 0, none⟩) s.pcs.length c0) ∧ W.cell? ⟨b0, t, none⟩ = some (.int .i64 k) ∧ W.cell? ⟨b1, o1 + t, none⟩ = some (.slice (some ⟨b2, o2, none⟩) ln uc) ∧ W.cell? ⟨b2, o2 + k * 3, none⟩ = some (.int .i64 a.kind) ∧ W.cell? ⟨b2, o2 + k * 3 + 1, none⟩ = some (.int .i64 a.var) ∧ W.cell? ⟨b2, o2 + k * 3 + 2, none⟩ = some (.int .i64 a.n) ∧ W.cell? ⟨g, 3, none⟩ = some (.slice (some ⟨b3, 0, none⟩) s.locks.length c3) ∧ W.cell? ⟨b3, v, none⟩ = some (.int .i64 z))
   (first | assumption | exact hmk.out _ (by repeat (first | exact Hid.out (And.left (by assumption)) | apply Below.drew | apply below_al)))
   (first | fail)
  have hS1 := hmk.out _ (below_al (Hid.out (And.left hS0)) (.cells #[.int .i64 a.kind, .int .i64 a.var, .int .i64 a.n] 60))
  have hrg := rangeAt_heap (heap_alloc_new W1 (.cells #[.int .i64 a.kind, .int .i64 a.var, .int .i64 a.n] 60))
  have e0 : (W1.alloc (.cells #[.int .i64 a.kind, .int .i64 a.var, .int .i64 a.n] 60)).cell? ⟨W1.heap.size, 0, none⟩ = some (.int .i64 a.kind) := hrg 0 _ rfl
  have e1 : (W1.alloc (.cells #[.int .i64 a.kind, .int .i64 a.var, .int .i64 a.n] 60)).cell? ⟨W1.heap.size, 1, none⟩ = some (.int .i64 a.var) := hrg 1 _ rfl
  generalize W1.alloc (.cells #[.int .i64 a.kind, .int .i64 a.var, .int .i64 a.n] 60) = W2 at *
  obtain ⟨hB2, f1, f2, f3, f4, f5, f6, f7, f8, f9⟩ := hS1
  by_cases h4 : a.kind = 4
  ·have hva' := hva h4
   have hk4 : (a.kind == 4) = true := by simp [h4]
   rw [h4] at e0
   rw [hva'] at e1
   by_cases hz0 : z = 0
   ·subst hz0
    have hR2 : Hid (R = true) := by show _ = _; rw [hR.out, hk4]; rfl
    clear hR hS0 hrg
    go_wp2_with fail
    go_quiet (fail)
    go_wp2
    go_ret
    exact ⟨by rw [hR2.out]; rfl, below_on hbWH.out (by repeat (first | exact hB2.out | refine below_drewN ?_ _ | apply Below.drew))⟩
   ·have hzb : (z != 0) = true := by simpa using hz0
    have hR2 : Hid (R = false) := by show _ = _; rw [hR.out, hk4, hzb]; rfl
    clear hR hS0 hrg
    go_wp2_with fail
    go_quiet (fail)
    go_wp2
    go_ret
    exact ⟨by rw [hR2.out]; rfl, below_on hbWH.out (by repeat (first | exact hB2.out | refine below_drewN ?_ _ | apply Below.drew))⟩
  ·have hk4 : (a.kind == 4) = false := by simpa using h4
   have hR2 : Hid (R = true) := by show _ = _; rw [hR.out, hk4]; rfl
   clear hR hS0 hrg
   go_wp2_with fail
   go_quiet (fail)
   go_wp2
   go_ret
   exact ⟨by rw [hR2.out]; rfl, below_on hbWH.out (by repeat (first | exact hB2.out | refine below_drewN ?_ _ | apply Below.drew))⟩
 ·have hr : Hid (canS x s t = false) := by show _ = _; rw [hcan, List.getElem?_eq_none (by omega)]; rfl
  have hge : (x.thr[t].length : Int) ≤ k := by omega
  generalize canS x s t = R at hr ⊢
  clear hcan hpc hacts hLW hx hwf ho q0 r0 r3 hc1
  have hbWH : Hid (Below w.heap.size w W0) := hbW
  clear hbW
  go_enter Tryz.func19, Tryz.ntmps19
  go_wp2_with fail
  rw [← hW0]
  clear hW0
  go_quiet (fail)
  go_wp2
  go_ret
  exact ⟨by rw [hr.out]; rfl, by first | exact hbWH.out | exact below_drewN hbWH.out _⟩
end Go.Proofs.YtknbchheoloaoaaGreat

/- States of their own, changed in place. -/
namespace Go.Proofs.YtknbchheoloaoaaGreat
set_option linter.unusedVariables false
open Go.ChangeShapes Go.WideShapes Go.ChangeAt Go.RowKit

structure Fr (B : Nat) (w : World) (g : Nat) (u0 u1 u2 u3 u4 : Value) (us1 us4 : List Value) (s : S11) : Prop where
 st : StAt B w g u0 u1 u2 u3 u4 us1 us4 s
 ap : ApartR (stRows u0 u1 u2 u3 u4 us1 us4 s)
 gg : ∀ r ∈ stRows u0 u1 u2 u3 u4 us1 us4 s, r.v.ownBlock ≠ some g
theorem Fr.below {B : Nat} {w w' : World} {g : Nat} {u0 u1 u2 u3 u4 : Value} {us1 us4 : List Value} {s : S11} (h : Fr B w g u0 u1 u2 u3 u4 us1 us4 s) (hb : Below w.heap.size w w') : Fr B w' g u0 u1 u2 u3 u4 us1 us4 s := ⟨h.st.below hb, h.ap, h.gg⟩
theorem intsV_set (zs : List Int) (j : Nat) (z : Int) : intsV (zs.set j z) = (intsV zs).set j (.int .i64 z) := by simp [intsV, List.map_set]
theorem row_setCell {w : World} {g b j : Nat} {u : Value} {cs : List Value} (h : w.rangeAt g 0 cs) (hne : b ≠ g) : (w.setCell ⟨b, j, none⟩ u).rangeAt g 0 cs := fun k v hv => by
 rw [World.cell?_setCell_other _ _ _ _ (fun e => hne (by injection e))]; exact h k v hv
theorem apart_same {R : List RowD} (ha : ApartR R) {i : Nat} (hi : i < R.length) {r : RowD} (hr : r.v = R[i].v) : ApartR (R.set i r) := apart_set ha hi fun g hg => .inl (by rw [← hr]; exact hg)
theorem gg_set {R : List RowD} {g : Nat} (hg : ∀ r ∈ R, r.v.ownBlock ≠ some g) {i : Nat} {r : RowD} (hr : r.v.ownBlock ≠ some g) : ∀ q ∈ R.set i r, q.v.ownBlock ≠ some g := fun q hq => by
 rcases List.mem_or_eq_of_mem_set hq with h | h
 ·exact hg q h
 ·rw [h]; exact hr
theorem Fr.pcs {B : Nat} {w : World} {g : Nat} {u1 u2 u3 u4 : Value} {us1 us4 : List Value} {s : S11} {b n c : Nat} (h : Fr B w g (.slice (some ⟨b, 0, none⟩) n c) u1 u2 u3 u4 us1 us4 s) (j : Nat) (z : Int) : Fr B (w.setCell ⟨b, j, none⟩ (.int .i64 z)) g (.slice (some ⟨b, 0, none⟩) n c) u1 u2 u3 u4 us1 us4 { s with pcs := s.pcs.set j z } := by
 have e : (stRows (.slice (some ⟨b, 0, none⟩) n c) u1 u2 u3 u4 us1 us4 s).set 0 ⟨2, .slice (some ⟨b, 0, none⟩) n c, (intsV s.pcs).set j (.int .i64 z)⟩ = stRows (.slice (some ⟨b, 0, none⟩) n c) u1 u2 u3 u4 us1 us4 { s with pcs := s.pcs.set j z } := by
  simp only [stRows, intsV_set]; rfl
 have h1 := Held.store h.st.held h.ap (i := 0) (by simp [stRows]) (g := b) (n := n) (c := c) rfl j (.int .i64 z)
 have hb : b ≠ g := fun q => h.gg ⟨2, .slice (some ⟨b, 0, none⟩) n c, intsV s.pcs⟩ (by simp [stRows]) (by rw [← q]; rfl)
 refine ⟨⟨h.st.lo, by simpa [World.setCell] using h.st.hi, row_setCell h.st.row hb, h.st.l1, h.st.l4, ?_⟩, ?_, ?_⟩
 ·rw [← e]; exact h1
 ·rw [← e]; exact apart_same h.ap (by simp [stRows]) rfl
 ·rw [← e]; exact gg_set h.gg (h.gg ⟨2, .slice (some ⟨b, 0, none⟩) n c, intsV s.pcs⟩ (by simp [stRows]))
theorem Fr.memory {B : Nat} {w : World} {g : Nat} {u0 u1 u3 u4 : Value} {us1 us4 : List Value} {s : S11} {b n c : Nat} (h : Fr B w g u0 u1 (.slice (some ⟨b, 0, none⟩) n c) u3 u4 us1 us4 s) (j : Nat) (z : Int) : Fr B (w.setCell ⟨b, j, none⟩ (.int .i64 z)) g u0 u1 (.slice (some ⟨b, 0, none⟩) n c) u3 u4 us1 us4 { s with memory := s.memory.set j z } := by
 have e : (stRows u0 u1 (.slice (some ⟨b, 0, none⟩) n c) u3 u4 us1 us4 s).set 2 ⟨2, .slice (some ⟨b, 0, none⟩) n c, (intsV s.memory).set j (.int .i64 z)⟩ = stRows u0 u1 (.slice (some ⟨b, 0, none⟩) n c) u3 u4 us1 us4 { s with memory := s.memory.set j z } := by
  simp only [stRows, intsV_set]; rfl
 have h1 := Held.store h.st.held h.ap (i := 2) (by simp [stRows]) (g := b) (n := n) (c := c) rfl j (.int .i64 z)
 have hb : b ≠ g := fun q => h.gg ⟨2, .slice (some ⟨b, 0, none⟩) n c, intsV s.memory⟩ (by simp [stRows]) (by rw [← q]; rfl)
 refine ⟨⟨h.st.lo, by simpa [World.setCell] using h.st.hi, row_setCell h.st.row hb, h.st.l1, h.st.l4, ?_⟩, ?_, ?_⟩
 ·rw [← e]; exact h1
 ·rw [← e]; exact apart_same h.ap (by simp [stRows]) rfl
 ·rw [← e]; exact gg_set h.gg (h.gg ⟨2, .slice (some ⟨b, 0, none⟩) n c, intsV s.memory⟩ (by simp [stRows]))
theorem Fr.locks {B : Nat} {w : World} {g : Nat} {u0 u1 u2 u4 : Value} {us1 us4 : List Value} {s : S11} {b n c : Nat} (h : Fr B w g u0 u1 u2 (.slice (some ⟨b, 0, none⟩) n c) u4 us1 us4 s) (j : Nat) (z : Int) : Fr B (w.setCell ⟨b, j, none⟩ (.int .i64 z)) g u0 u1 u2 (.slice (some ⟨b, 0, none⟩) n c) u4 us1 us4 { s with locks := s.locks.set j z } := by
 have e : (stRows u0 u1 u2 (.slice (some ⟨b, 0, none⟩) n c) u4 us1 us4 s).set 3 ⟨2, .slice (some ⟨b, 0, none⟩) n c, (intsV s.locks).set j (.int .i64 z)⟩ = stRows u0 u1 u2 (.slice (some ⟨b, 0, none⟩) n c) u4 us1 us4 { s with locks := s.locks.set j z } := by
  simp only [stRows, intsV_set]; rfl
 have h1 := Held.store h.st.held h.ap (i := 3) (by simp [stRows]) (g := b) (n := n) (c := c) rfl j (.int .i64 z)
 have hb : b ≠ g := fun q => h.gg ⟨2, .slice (some ⟨b, 0, none⟩) n c, intsV s.locks⟩ (by simp [stRows]) (by rw [← q]; rfl)
 refine ⟨⟨h.st.lo, by simpa [World.setCell] using h.st.hi, row_setCell h.st.row hb, h.st.l1, h.st.l4, ?_⟩, ?_, ?_⟩
 ·rw [← e]; exact h1
 ·rw [← e]; exact apart_same h.ap (by simp [stRows]) rfl
 ·rw [← e]; exact gg_set h.gg (h.gg ⟨2, .slice (some ⟨b, 0, none⟩) n c, intsV s.locks⟩ (by simp [stRows]))
theorem rowsD_set {us : List Value} {rows : List (List Int)} (j : Nat) (v : Value) (zs : List Int) : rowsD (us.set j v) (rows.set j zs) = (rowsD us rows).set j ⟨2, v, intsV zs⟩ := by
 induction us generalizing j rows with
 | nil => simp [rowsD]
 | cons u us ih =>
  cases rows with
  | nil => simp [rowsD]
  | cons r rows =>
   cases j with
   | zero => simp [rowsD]
   | succ j => simpa [rowsD] using ih (rows := rows) j
theorem Fr.read {B : Nat} {w w' : World} {g : Nat} {u0 u2 u3 u4 : Value} {us1 us4 : List Value} {s : S11} {b n c : Nat} (h : Fr B w g u0 (.slice (some ⟨b, 0, none⟩) n c) u2 u3 u4 us1 us4 s) {t : Nat} (ht : t < s.reads.length) {u v' : Value} {zs : List Int} (hu : us1[t]? = some u) (h1 : w'.ownsRow B 2 1 v' zs.length (intsV zs)) (h2 : w.grownBy w' u.ownBlock) (h3 : v'.ownBlock = u.ownBlock ∨ v'.ownBlock = some w.heap.size) :
  Fr B (w'.setCell ⟨b, t, none⟩ v') g u0 (.slice (some ⟨b, 0, none⟩) n c) u2 u3 u4 (us1.set t v') us4 { s with reads := s.reads.set t zs } := by
 have htu : t < us1.length := by rw [h.st.l1]; exact ht
 have hus : us1[t] = u := by simpa [htu] using hu
 have hi5 : 5 + t < (stRows u0 (.slice (some ⟨b, 0, none⟩) n c) u2 u3 u4 us1 us4 s).length := by
  have hl := rowsD_length h.st.l1
  simp only [stRows, List.length_append, List.length_cons, List.length_nil, hl]
  omega
 have hR5 : (stRows u0 (.slice (some ⟨b, 0, none⟩) n c) u2 u3 u4 us1 us4 s)[5 + t] = ⟨2, u, intsV s.reads[t]⟩ := by
  have hl : t < (rowsD us1 s.reads).length := by rw [rowsD_length h.st.l1]; exact ht
  have := rowsD_get htu ht hl
  simp only [stRows]
  rw [List.getElem_append_right (by simp)]
  simp only [List.length_cons, List.length_nil]
  rw [List.getElem_append_left (by simp; omega)]
  simp only [show 5 + t - (0 + 1 + 1 + 1 + 1 + 1) = t by omega]
  rw [this, hus]
 obtain ⟨g1, g2⟩ := Held.grow h.st.held h.ap hi5 (v' := v') (xs' := intsV zs) (by rw [hR5, intsV_length]; exact h1) (by rw [hR5]; exact h2) (by rw [hR5]; exact h3)
 rw [hR5] at g1 g2
 have hi1 : 1 < ((stRows u0 (.slice (some ⟨b, 0, none⟩) n c) u2 u3 u4 us1 us4 s).set (5 + t) ⟨2, v', intsV zs⟩).length := by rw [List.length_set]; omega
 have hR1 : ((stRows u0 (.slice (some ⟨b, 0, none⟩) n c) u2 u3 u4 us1 us4 s).set (5 + t) ⟨2, v', intsV zs⟩)[1] = ⟨25, .slice (some ⟨b, 0, none⟩) n c, us1⟩ := by
  rw [List.getElem_set_ne (by omega)]; rfl
 have g3 := Held.store g1 g2 hi1 (g := b) (n := n) (c := c) (by rw [hR1]) t v'
 rw [hR1] at g3
 have e : ((stRows u0 (.slice (some ⟨b, 0, none⟩) n c) u2 u3 u4 us1 us4 s).set (5 + t) ⟨2, v', intsV zs⟩).set 1 ⟨25, .slice (some ⟨b, 0, none⟩) n c, us1.set t v'⟩ = stRows u0 (.slice (some ⟨b, 0, none⟩) n c) u2 u3 u4 (us1.set t v') us4 { s with reads := s.reads.set t zs } := by
  have e5 : (rowsD us1 s.reads ++ rowsD us4 s.buffers).set t ⟨2, v', intsV zs⟩ = (rowsD us1 s.reads).set t ⟨2, v', intsV zs⟩ ++ rowsD us4 s.buffers := List.set_append_left _ _ (by rw [rowsD_length h.st.l1]; exact ht)
  simp only [stRows, rowsD_set]
  rw [List.set_append_right (h := by simp)]
  simp only [List.length_cons, List.length_nil, show 5 + t - (0 + 1 + 1 + 1 + 1 + 1) = t by omega]
  rw [e5]
  rfl
 have hgr : u.ownBlock ≠ some g := by
  have := h.gg _ (List.getElem_mem hi5)
  rw [hR5] at this; exact this
 have hgv : v'.ownBlock ≠ some g := by
  rcases h3 with q | q
  ·rw [q]; exact hgr
  ·rw [q]; intro q2
   have : w.heap.size = g := by simpa using q2
   have := h.st.hi
   omega
 have hb : b ≠ g := fun q => h.gg ⟨25, .slice (some ⟨b, 0, none⟩) n c, us1⟩ (by simp [stRows]) (by rw [← q]; rfl)
 have hrow : w'.rangeAt g 0 [u0, .slice (some ⟨b, 0, none⟩) n c, u2, u3, u4] := fun j v hv => by
  rw [World.cell?_of_block (h2.block g h.st.hi (fun q => hgr q.symm))]; exact h.st.row j v hv
 refine ⟨⟨h.st.lo, by have := h2.size; have := h.st.hi; simp [World.setCell]; omega, row_setCell hrow hb, by simp [h.st.l1], h.st.l4, ?_⟩, ?_, ?_⟩
 ·rw [← e]; exact g3
 ·rw [← e]; exact apart_same g2 hi1 (by rw [hR1])
 ·rw [← e]
  refine gg_set (gg_set h.gg hgv) ?_
  exact h.gg ⟨25, .slice (some ⟨b, 0, none⟩) n c, us1⟩ (by simp [stRows])
theorem Fr.readSt {B : Nat} {w : World} {g : Nat} {u0 u1 u2 u3 u4 : Value} {us1 us4 : List Value} {s : S11} (h : Fr B w g u0 u1 u2 u3 u4 us1 us4 s) : ReadSt w (.pointer (some ⟨g, 0, none⟩)) s := ⟨g, u0, u1, u2, u3, u4, us1, us4, rfl, ⟨Nat.zero_le _, h.st.hi, h.st.row, h.st.l1, h.st.l4, h.st.held.mono (Nat.zero_le _)⟩⟩
def passN (n : Int) (zs : List Int) : Int := match zs.getLast? with
 | none => n
 | some z => wrap64 (n + z)
def actS (s : S11) (t : Nat) (a : ActL) : S11 :=
 let s1 := { s with pcs := s.pcs.set t (s.pcs.getD t 0 + 1) }
 if a.kind = 1 then { s1 with reads := s.reads.set t (s.reads.getD t [] ++ [s.memory.getD a.var.toNat 0]) }
 else if a.kind = 2 then { s1 with memory := s.memory.set a.var.toNat a.n }
 else if a.kind = 3 then { s1 with memory := s.memory.set a.var.toNat (passN a.n (s.reads.getD t [])) }
 else if a.kind = 4 then { s1 with locks := s.locks.set a.var.toNat ((t : Int) + 1) }
 else { s1 with locks := s.locks.set a.var.toNat 0 }
end Go.Proofs.YtknbchheoloaoaaGreat
