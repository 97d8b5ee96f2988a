/- spec.FloatOp of two noughts: which ops it knows. -/
import Derived.Test.YtcencddbdidjjaaGreatDoorSpC
import Derived.Deep.RegionHeld3
namespace Go.Proofs.YtcencddbdidjjaaGreatDoor
set_option linter.unusedVariables false
open Go.ChangeShapes Go.WideShapes Go.ChangeAt Go.RowKit

theorem elem2 : ∃ i0, Tryz.prog.info? 2 = some i0 ∧ i0.zero = some (.int .i64 0) ∧ i0.size = 1 ∧ i0.bytes = 8 := by
  obtain ⟨i0, hi0⟩ : ∃ i, Tryz.prog.info? 2 = some i := Option.isSome_iff_exists.1 (by kernel_rfl)
  refine ⟨i0, hi0, ?_, ?_, ?_⟩
  · have : (Tryz.prog.info? 2).bind (·.zero) = some (.int .i64 0) := by kernel_rfl
    rw [hi0] at this; exact this
  · have : (Tryz.prog.info? 2).map (·.size) = some 1 := by kernel_rfl
    rw [hi0] at this; exact Option.some.inj this
  · have : (Tryz.prog.info? 2).map (·.bytes) = some 8 := by kernel_rfl
    rw [hi0] at this; exact Option.some.inj this

theorem bits0_below (w : World) : Calls Tryz.prog 48 #[.int .i64 0] w fun e w' => (∃ g, e = .returned (.slice (some ⟨g, 0, none⟩) 0 0)) ∧ Below w.heap.size w w' := by
  refine (bits_zero w).mono ?_
  rintro e w' ⟨rfl, rfl⟩
  exact ⟨⟨_, rfl⟩, below1 _ _⟩
theorem up0_calls (g c : Nat) (w : World) : Calls Tryz.prog 77 #[.slice (some ⟨g, 0, none⟩) 0 c, .int .i64 0] w fun e w' => (∃ a c', e = .returned (.slice a 0 c')) ∧ Below w.heap.size w w' := by
  obtain ⟨i0, hi0, hz0, hz1, hz2⟩ := elem2
  go_enter Tryz.func77, Tryz.ntmps77
  go_wp2_with (first | (refine wpList_make_full _ rfl (.tmp 5) (.tmp 5) 22 rfl w.heap.size 2 i0 (.int .i64 0) 1 Tryz.underlying22 hi0 hz0 hz1 .i64 .i64 0 0 0 rfl rfl rfl rfl (by rw [hz2]; omega) (by unfold maxLen; omega) (Nat.le_refl _) ?_; intro w1 hown1 hgrow1) | (at_builtin; refine wpList_append_own _ rfl (.tmp 6) (.tmp 7) 22 rfl w.heap.size 2 i0 (.int .i64 0) 1 8 Tryz.underlying22 hi0 hz0 hz1 hz2 rfl (by decide) _ _ _ rfl hown1 ⟨g, 0, none⟩ 0 c [] rfl rfl (fun j u hj => by simp at hj) (fun u hu => by simp at hu) (by unfold maxLen; omega) (by omega) hgrow1.size ?_; intro v' w2 hown2 hgrow2 _))
  have hb1 : Below w.heap.size w w1 := (Below.refl _ _).grown hgrow1 (Nat.le_refl _) (fun j hj => by cases hj)
  have hb2 : Below w.heap.size w w2 := hb1.grown hgrow2 hgrow1.size (fun j hj => Nat.le_of_eq (Option.some.inj hj))
  obtain ⟨a, c', rfl⟩ : ∃ a c', v' = .slice a 0 c' := by
    obtain ⟨_, ⟨rfl, _⟩ | ⟨g, cap, cur, rfl, _⟩⟩ := hown2
    · exact ⟨_, _, rfl⟩
    · exact ⟨_, _, rfl⟩
  go_ret
  exact ⟨⟨_, _, rfl⟩, hb2⟩

set_option maxRecDepth 1000000 in
set_option maxHeartbeats 1000000 in
theorem sum0_calls (a a' : Option Addr) (c c' : Nat) (m : Bool) (w : World) : Calls Tryz.prog 78 #[.slice a 0 c, .slice a' 0 c', .bool m] w fun e w' => (∃ g cap, e = .returned (.slice (some ⟨g, 0, none⟩) 1 cap) ∧ w'.cell? ⟨g, 0, none⟩ = some (.int .i64 0)) ∧ Below w.heap.size w w' := by
  obtain ⟨i0, hi0, hz0, hz1, hz2⟩ := elem2
  go_enter Tryz.func78, Tryz.ntmps78
  go_wp2
  refine wp_loop_rounds 1 ?_
  rw [rounds_succ]
  have hown : (w.alloc (.cells #[] 2)).ownsRow w.heap.size 2 1 (.slice (some ⟨w.heap.size, 0, none⟩) 0 0) 0 [] := ⟨rfl, .inr ⟨w.heap.size, 0, #[], rfl, Nat.le_refl _, heap_alloc_last w _, Nat.le_refl _, Nat.zero_le _, rfl, by simp⟩⟩
  go_wp2_with (at_builtin; refine wpList_append_own _ rfl _ _ 22 rfl w.heap.size 2 i0 (.int .i64 0) 1 8 Tryz.underlying22 hi0 hz0 hz1 hz2 rfl (by decide) _ _ _ rfl (hown.alloc _) ⟨w.heap.size + 1, 0, none⟩ 1 1 [.int .i64 0] rfl rfl ?c1 ?c2 ?c3 ?c4 ?c5 ?_)
  try (case c1 =>
    intro j u hj
    match j, hj with
    | 0, hj => simp at hj; subst hj; simp [Addr.add])
  try (case c2 => first | rfl | (intro u hu; simp at hu; subst hu; rfl))
  case c3 => unfold maxLen; omega
  case c4 => omega
  case c5 => simp; omega
  intro v' w1 hown' hgrow _
  have hb1 : Below w.heap.size w w1 := (below2 w _ _).grown hgrow (by simp; omega) (fun j hj => by simp [Value.ownBlock] at hj; omega)
  have hcells := fun g hg => hown'.cells (g := g) hg
  obtain ⟨g, cap, rfl⟩ : ∃ g cap, v' = .slice (some ⟨g, 0, none⟩) 1 cap := by
    obtain ⟨_, ⟨_, h⟩ | ⟨g, cap, cur, rfl, _⟩⟩ := hown'
    · cases h
    · exact ⟨_, _, rfl⟩
  have hc := hcells g rfl 0 (.int .i64 0) rfl
  have hadd : (⟨g, 0, none⟩ : Addr).add 0 = ⟨g, 0, none⟩ := by unfold Addr.add; split <;> simp_all
  rw [hadd] at hc
  clear hcells hown' hgrow hadd hown
  go_wp2
  go_ret
  exact ⟨⟨g, cap, rfl, hc⟩, hb1⟩
theorem less0_calls (a a' : Option Addr) (c c' : Nat) (w : World) : Calls Tryz.prog 79 #[.slice a 0 c, .slice a' 0 c'] w fun e w' => e = .returned (.bool false) ∧ w' = w := by
  go_enter Tryz.func79, Tryz.ntmps79
  go_wp2
  refine wp_loop_rounds 1 ?_
  rw [rounds_succ]
  go_wp2
  go_ret
  exact ⟨rfl, rfl⟩

theorem keep0 {W W' : World} {p : Addr} {v : Value} (h : W.cell? p = some v) (hb : Below W.heap.size W W') : W'.cell? p = some v := by
  rw [hb.cell (p := p) (World.block_lt_of_cell? W p h)]; exact h
theorem belowL0 {B : Nat} {a w : World} (h : Below B a.drew w) : Below B a w := ⟨h.os, h.tape, h.output, h.size, h.block⟩
/-- Two floats taken apart, in two blocks from B on. -/
theorem keepAB {B : Nat} {s t : Bool} {m e n f : Int} {W W' : World}
    (h : W.cell? ⟨B, 0, none⟩ = some (.bool s) ∧ W.cell? ⟨B, 1, none⟩ = some (.int .i64 m) ∧ W.cell? ⟨B, 2, none⟩ = some (.int .i64 e) ∧ W.cell? ⟨B + 1, 0, none⟩ = some (.bool t) ∧ W.cell? ⟨B + 1, 1, none⟩ = some (.int .i64 n) ∧ W.cell? ⟨B + 1, 2, none⟩ = some (.int .i64 f))
    (hb : Below W.heap.size W W') :
    W'.cell? ⟨B, 0, none⟩ = some (.bool s) ∧ W'.cell? ⟨B, 1, none⟩ = some (.int .i64 m) ∧ W'.cell? ⟨B, 2, none⟩ = some (.int .i64 e) ∧ W'.cell? ⟨B + 1, 0, none⟩ = some (.bool t) ∧ W'.cell? ⟨B + 1, 1, none⟩ = some (.int .i64 n) ∧ W'.cell? ⟨B + 1, 2, none⟩ = some (.int .i64 f) := by
  obtain ⟨h1, h2, h3, h4, h5, h6⟩ := h
  have k : ∀ (p : Addr) (v : Value), W.cell? p = some v → W'.cell? p = some v := fun p v hv => by
    rw [hb.cell (p := p) (World.block_lt_of_cell? W p hv)]; exact hv
  exact ⟨k _ _ h1, k _ _ h2, k _ _ h3, k _ _ h4, k _ _ h5, k _ _ h6⟩
theorem startAB {s t : Bool} {m e n f c d : Int} {w W : World} (hW : W = (w.alloc (.cells #[.bool s, .int .i64 m, .int .i64 e, .int .i64 c] 43)).alloc (.cells #[.bool t, .int .i64 n, .int .i64 f, .int .i64 d] 43)) :
    W.cell? ⟨w.heap.size, 0, none⟩ = some (.bool s) ∧ W.cell? ⟨w.heap.size, 1, none⟩ = some (.int .i64 m) ∧ W.cell? ⟨w.heap.size, 2, none⟩ = some (.int .i64 e) ∧ W.cell? ⟨w.heap.size + 1, 0, none⟩ = some (.bool t) ∧ W.cell? ⟨w.heap.size + 1, 1, none⟩ = some (.int .i64 n) ∧ W.cell? ⟨w.heap.size + 1, 2, none⟩ = some (.int .i64 f) := by
  have h1 : W.heap[w.heap.size]? = some (.cells #[.bool s, .int .i64 m, .int .i64 e, .int .i64 c] 43) := by rw [hW]; exact heap_alloc2_old w _ _
  have h2 : W.heap[w.heap.size + 1]? = some (.cells #[.bool t, .int .i64 n, .int .i64 f, .int .i64 d] 43) := by
    have h := heap_alloc_last (w.alloc (.cells #[.bool s, .int .i64 m, .int .i64 e, .int .i64 c] 43)) (.cells #[.bool t, .int .i64 n, .int .i64 f, .int .i64 d] 43)
    rw [hW]
    simpa using h
  refine ⟨?_, ?_, ?_, ?_, ?_, ?_⟩
  · simp [World.cell?, h1]
  · simp [World.cell?, h1]
  · simp [World.cell?, h1]
  · simp [World.cell?, h2]
  · simp [World.cell?, h2]
  · simp [World.cell?, h2]

def SomeInt (w : World) (e : Ending) (w' : World) : Prop := (∃ x, e = .returned (.int .i64 x)) ∧ Below w.heap.size w w'
set_option maxRecDepth 1000000 in
set_option maxHeartbeats 2000000 in
theorem add0_calls (t : Bool) (w : World) : Calls Tryz.prog 52 #[.agg #[.bool false, .int .i64 0, .int .i64 (-1074), .int .i64 0], .agg #[.bool t, .int .i64 0, .int .i64 (-1074), .int .i64 0]] w (SomeInt w) := by
  unfold SomeInt
  go_enter Tryz.func52, Tryz.ntmps52
  go_wp2
  obtain ⟨W, hW⟩ : ∃ W : World, W = ((w.alloc (.cells #[.bool false, .int .i64 0, .int .i64 (-1074), .int .i64 0] 43)).alloc (.cells #[.bool t, .int .i64 0, .int .i64 (-1074), .int .i64 0] 43)) := ⟨_, rfl⟩
  rw [← hW]
  have hbW : Below w.heap.size w W := by rw [hW]; exact below2 _ _ _
  have hS := startAB hW
  obtain ⟨hS1, hS2, hS3, hS4, hS5, hS6⟩ := hS
  clear hW
  go_region_held3 (fun W' => W'.cell? ⟨w.heap.size, 0, none⟩ = some (.bool false) ∧ W'.cell? ⟨w.heap.size, 1, none⟩ = some (.int .i64 0) ∧ W'.cell? ⟨w.heap.size, 2, none⟩ = some (.int .i64 (-1074)) ∧ W'.cell? ⟨w.heap.size + 1, 0, none⟩ = some (.bool t) ∧ W'.cell? ⟨w.heap.size + 1, 1, none⟩ = some (.int .i64 0) ∧ W'.cell? ⟨w.heap.size + 1, 2, none⟩ = some (.int .i64 (-1074))) (first | go_keep | (refine keepAB (by assumption) (by assumption))) (first | (go_at_call 48; refine (bits0_below _).mono ?_; rintro e1 w1 ⟨⟨g1, rfl⟩, hb1⟩) | (go_at_call 77; refine (up0_calls _ _ _).mono ?_; rintro e2 w2 ⟨⟨x, cx, rfl⟩, hb2⟩))
  have hB2 : Below w.heap.size w w2 := (hbW.trans ((belowL0 hb1).mono hbW.size)).trans (hb2.mono (Nat.le_trans hbW.size (belowL0 hb1).size))
  rename_i hHeld
  clear hS1 hS2 hS3 hS4 hS5 hS6 hb1 hb2 hbW
  obtain ⟨hS1, hS2, hS3, hS4, hS5, hS6⟩ := hHeld
  have hBH : Hid (Below w.heap.size w w2) := hB2
  clear hB2
  go_wp2
  go_region_held3 (fun W' => W'.cell? ⟨w.heap.size, 0, none⟩ = some (.bool false) ∧ W'.cell? ⟨w.heap.size, 1, none⟩ = some (.int .i64 0) ∧ W'.cell? ⟨w.heap.size, 2, none⟩ = some (.int .i64 (-1074)) ∧ W'.cell? ⟨w.heap.size + 1, 0, none⟩ = some (.bool t) ∧ W'.cell? ⟨w.heap.size + 1, 1, none⟩ = some (.int .i64 0) ∧ W'.cell? ⟨w.heap.size + 1, 2, none⟩ = some (.int .i64 (-1074))) (first | go_keep | (refine keepAB (by assumption) (by assumption))) (first | (go_at_call 48; refine (bits0_below _).mono ?_; rintro e3 w3 ⟨⟨g3, rfl⟩, hb3⟩) | (go_at_call 77; refine (up0_calls _ _ _).mono ?_; rintro e4 w4 ⟨⟨y, cy, rfl⟩, hb4⟩))
  have hb24 : Below w2.heap.size w2 w4 := (belowL0 hb3).trans (hb4.mono (belowL0 hb3).size)
  have hB4 : Below w.heap.size w w4 := hBH.out.trans (hb24.mono hBH.out.size)
  rename_i hHeld
  clear hS1 hS2 hS3 hS4 hS5 hS6 hb3 hb4 hb24 hBH
  obtain ⟨hS1, hS2, hS3, hS4, hS5, hS6⟩ := hHeld
  have hBH : Hid (Below w.heap.size w w4) := hB4
  clear hB4
  cases t with
  | false =>
    go_wp2
    go_region_held3 (fun W' => W'.cell? ⟨w.heap.size, 0, none⟩ = some (.bool false) ∧ W'.cell? ⟨w.heap.size, 1, none⟩ = some (.int .i64 0) ∧ W'.cell? ⟨w.heap.size, 2, none⟩ = some (.int .i64 (-1074)) ∧ W'.cell? ⟨w.heap.size + 1, 0, none⟩ = some (.bool false) ∧ W'.cell? ⟨w.heap.size + 1, 1, none⟩ = some (.int .i64 0) ∧ W'.cell? ⟨w.heap.size + 1, 2, none⟩ = some (.int .i64 (-1074))) (first | go_keep | (refine keepAB (by assumption) (by assumption))) (first | (go_at_call 78; refine (sum0_calls _ _ _ _ _ _).mono ?_; rintro e5 w5 ⟨⟨g5, c5, rfl, hc5⟩, hb5⟩) | (go_at_call 47; refine (round_one _ _ _ _ _ _ (by first | assumption | exact hc5)).mono ?_; rintro e6 w6 ⟨⟨z, rfl⟩, he6⟩; subst he6))
    go_wp2
    go_ret
    exact ⟨⟨_, rfl⟩, hBH.out.trans ((belowL0 hb5).mono hBH.out.size)⟩
  | true =>
    go_wp2_with (first | (go_at_call 79; refine (less0_calls _ _ _ _ _).mono ?_; rintro e5 w5 ⟨rfl, he⟩; subst he) | (go_at_call 78; refine (sum0_calls _ _ _ _ _ _).mono ?_; rintro e6 w6 ⟨⟨g5, c5, rfl, hc5⟩, hb5⟩; have hm := keep0 hS1 hb5) | (go_at_call 47; refine (round_one _ _ _ _ _ _ (by assumption)).mono ?_; rintro e6 w7 ⟨⟨z, rfl⟩, he6⟩; subst he6))
    go_ret
    exact ⟨⟨_, rfl⟩, hBH.out.trans (hb5.mono hBH.out.size)⟩
set_option maxRecDepth 1000000 in
set_option maxHeartbeats 2000000 in
theorem mul0_calls (w : World) : Calls Tryz.prog 53 #[.agg #[.bool false, .int .i64 0, .int .i64 (-1074), .int .i64 0], .agg #[.bool false, .int .i64 0, .int .i64 (-1074), .int .i64 0]] w (SomeInt w) := by
  unfold SomeInt
  go_enter Tryz.func53, Tryz.ntmps53
  go_wp2_with (first | (go_at_call 48; refine (bits_zero _).mono ?_; rintro e1 w1 ⟨rfl, rfl⟩))
  refine wp_loop_rounds 1 ?_
  rw [rounds_succ]
  go_wp2_with (go_at_call 47; refine (round_none _ _ _ _ _ _).mono ?_; rintro e6 w7 ⟨⟨z, rfl⟩, he6⟩; subst he6)
  go_ret
  exact ⟨⟨_, rfl⟩, by repeat (first | exact below2 _ _ _ | refine below_below ?_ (below1 _ _))⟩
theorem div0_calls (w : World) : Calls Tryz.prog 54 #[.agg #[.bool false, .int .i64 0, .int .i64 (-1074), .int .i64 0], .agg #[.bool false, .int .i64 0, .int .i64 (-1074), .int .i64 0]] w (SomeInt w) := by
  unfold SomeInt
  go_enter Tryz.func54, Tryz.ntmps54
  go_wp2
  go_ret
  exact ⟨⟨_, rfl⟩, below2 _ _ _⟩

theorem open0_calls (w : World) : Calls Tryz.prog 22 #[.int .i64 0] w fun e w' => e = .returned (.agg #[.bool false, .int .i64 0, .int .i64 (-1074), .int .i64 0]) ∧ w' = (w.alloc (.cells #[.bool false, .int .i64 0, .int .i64 (-1074), .int .i64 0] 43)).alloc (.cells #[.bool false, .int .i64 0, .int .i64 (-1074), .int .i64 0] 43) := open_calls 0 w
def flop (o : Int) : Bool := o == 11 || o == 12 || o == 13 || o == 14 || o == 16
def PairB (ok : Bool) (w : World) (e : Ending) (w' : World) : Prop := (∃ x, e = .returned (.tuple #[.int .i64 x, .bool ok])) ∧ Below w.heap.size w w'
theorem below_cells {w W : World} (h : Below w.heap.size w W) (c : Array Value) (t : TypeId) : Below w.heap.size w (W.alloc (.cells c t)) := h.alloc h.size _
set_option maxRecDepth 1000000 in
set_option maxHeartbeats 2000000 in
theorem flop_calls (o : Int) (w : World) : Calls Tryz.prog 28 #[.int .i64 o, .int .i64 0, .int .i64 0] w (PairB (flop o) w) := by
  unfold PairB
  by_cases h1 : o < 11
  · have hr : flop o = false := by simp [flop]; omega
    rw [hr]
    clear hr
    go_enter Tryz.func28, Tryz.ntmps28
    go_wp2
    go_ret2
    exact ⟨⟨_, rfl⟩, Below.refl _ _⟩
  by_cases h2 : 16 < o
  · have hr : flop o = false := by simp [flop]; omega
    rw [hr]
    clear hr
    go_enter Tryz.func28, Tryz.ntmps28
    go_wp2
    go_ret2
    exact ⟨⟨_, rfl⟩, Below.refl _ _⟩
  obtain rfl | rfl | rfl | rfl | rfl | rfl : o = 11 ∨ o = 12 ∨ o = 13 ∨ o = 14 ∨ o = 15 ∨ o = 16 := by omega
  all_goals (
    clear h1 h2
    show Calls Tryz.prog 28 _ w fun e w' => (∃ x, e = .returned (.tuple #[.int .i64 x, .bool _])) ∧ Below w.heap.size w w'
    go_enter Tryz.func28, Tryz.ntmps28
    go_wp2_with (first
      | (go_at_call 22; refine (open0_calls _).mono ?_; rintro e w' ⟨rfl, rfl⟩)
      | (go_at_call 52; refine (add0_calls _ _).mono ?_; rintro e w1 ⟨⟨z, rfl⟩, hb1⟩)
      | (go_at_call 53; refine (mul0_calls _).mono ?_; rintro e w1 ⟨⟨z, rfl⟩, hb1⟩)
      | (go_at_call 54; refine (div0_calls _).mono ?_; rintro e w1 ⟨⟨z, rfl⟩, hb1⟩))
    go_ret2
    refine ⟨⟨_, rfl⟩, ?_⟩
    repeat (first | exact Below.refl _ _ | apply below_cells | refine below_below ?_ (by assumption)))
end Go.Proofs.YtcencddbdidjjaaGreatDoor
