/- spec.Convert of nought: which pairs it knows. -/
import Derived.Test.YtkkfkbcdcdifdaaDoorSpE
namespace Go.Proofs.YtkkfkbcdcdifdaaDoor
set_option linter.unusedVariables false
open Go.ChangeShapes Go.WideShapes Go.ChangeAt Go.RowKit

set_option maxRecDepth 1000000 in
set_option maxHeartbeats 2000000 in
theorem whole0_calls (lo hi : Int) (hlo : ¬ (0 : Int) < lo) (hhi : ¬ hi < (0 : Int)) (w : World) : Calls Tryd.prog 53 #[.int .i64 0, .int .i64 lo, .int .i64 hi] w (SomeInt w) := by
  unfold SomeInt
  go_enter Tryd.func53, Tryd.ntmps53
  go_wp2_with (go_at_call 20; refine (open0_calls _).mono ?_; rintro e w' ⟨rfl, rfl⟩)
  refine wp_loop_rounds 1 ?_
  rw [rounds_succ]
  go_wp2
  refine wp_loop_rounds 1 ?_
  rw [rounds_succ]
  go_wp2
  go_ret
  refine ⟨⟨_, rfl⟩, ?_⟩
  repeat (first | exact Below.refl _ _ | apply below_cells)

theorem beq_no {a b : Int} (h : a ≠ b) : (a == b) = false := by simpa using h
set_option maxRecDepth 1000000 in
set_option maxHeartbeats 2000000 in
theorem specConv_calls (k t : Int) (w : World) : Calls Tryd.prog 21 #[.int .i64 k, .int .i64 t, .int .i64 0] w (PairB (convB k t) w) := by
  unfold PairB
  by_cases hkt : k = t
  · subst hkt
    have hr : convB k k = false := by
      unfold convB; split
      · subst_vars; rfl
      · split
        · subst_vars; rfl
        · split
          · subst_vars; rfl
          · rfl
    rw [hr]
    have hb : (k == k) = true := by simp
    go_enter Tryd.func21, Tryd.ntmps21
    go_wp2
    go_ret2
    exact ⟨⟨_, rfl⟩, Below.refl _ _⟩
  have hkt' := beq_no hkt
  by_cases k1 : k = 1
  · subst k1
    by_cases t3 : t = 3
    · subst t3
      clear hkt
      show Calls Tryd.prog 21 _ w fun e w' => (∃ x, e = .returned (.tuple #[.int .i64 x, .bool true])) ∧ Below w.heap.size w w'
      go_enter Tryd.func21, Tryd.ntmps21
      go_wp2_with (first | (go_at_call 19; refine (specWrap0_calls _).mono ?_; rintro e w' ⟨rfl, he⟩; subst he) | (go_at_call 56; refine (bits_zero _).mono ?_; rintro e1 w1 ⟨rfl, rfl⟩) | (go_at_call 55; refine (round_none _ _ _ _ _ _).mono ?_; rintro e6 w7 ⟨⟨z, rfl⟩, he6⟩; subst he6))
      go_ret2
      exact ⟨⟨_, rfl⟩, below1 _ _⟩
    have t3' : (t != 3) = true := by simpa using t3
    obtain ⟨r, hr⟩ : ∃ r, convB 1 t = r := ⟨_, rfl⟩
    rw [hr]
    have hrH : Hid (convB 1 t = r) := hr
    have t3H : Hid (t ≠ 3) := t3
    clear hr t3 hkt
    go_enter Tryd.func21, Tryd.ntmps21
    go_wp2_with (go_at_call 19; refine (specWrap0_calls _).mono ?_; rintro e w' ⟨rfl, he⟩; subst he)
    all_goals (
      go_ret2
      refine ⟨?_, Below.refl _ _⟩
      go_light
      rw [← hrH.out]
      have t3 := t3H.out
      clear hrH t3H t3'
      simp only [beq_iff_eq, beq_eq_false_iff_ne, ne_eq] at *
      first
        | (exfalso; omega)
        | (subst_vars; exact ⟨_, rfl⟩)
        | (have hr : convB 1 t = false := by simp_all [convB]
           rw [hr]
           exact ⟨_, rfl⟩))
  have k1' := beq_no k1
  by_cases k2 : k = 2
  · subst k2
    by_cases t3 : t = 3
    · subst t3
      clear hkt k1 k1'
      show Calls Tryd.prog 21 _ w fun e w' => (∃ x, e = .returned (.tuple #[.int .i64 x, .bool true])) ∧ Below w.heap.size w w'
      go_enter Tryd.func21, Tryd.ntmps21
      go_wp2_with (first | (go_at_call 56; refine (bits_zero _).mono ?_; rintro e1 w1 ⟨rfl, rfl⟩) | (go_at_call 55; refine (round_none _ _ _ _ _ _).mono ?_; rintro e6 w7 ⟨⟨z, rfl⟩, he6⟩; subst he6))
      go_ret2
      exact ⟨⟨_, rfl⟩, below1 _ _⟩
    have t3' : (t != 3) = true := by simpa using t3
    by_cases t1 : t = 1
    · subst t1
      clear hkt k1 k1' t3 t3'
      show Calls Tryd.prog 21 _ w fun e w' => (∃ x, e = .returned (.tuple #[.int .i64 x, .bool true])) ∧ Below w.heap.size w w'
      go_enter Tryd.func21, Tryd.ntmps21
      go_wp2_with (go_at_call 19; refine (specWrap0_calls _).mono ?_; rintro e w' ⟨rfl, he⟩; subst he)
      go_ret2
      exact ⟨⟨_, rfl⟩, Below.refl _ _⟩
    have t1' := beq_no t1
    have hr : convB 2 t = false := by simp [convB, t1, t3]
    rw [hr]
    clear hkt k1 k1' t3 t1 hr
    go_enter Tryd.func21, Tryd.ntmps21
    go_wp2
    go_ret2
    exact ⟨⟨_, rfl⟩, Below.refl _ _⟩
  have k2' := beq_no k2
  by_cases k3 : k = 3
  · subst k3
    by_cases t1 : t = 1
    · subst t1
      clear hkt k1 k1' k2 k2'
      show Calls Tryd.prog 21 _ w fun e w' => (∃ x, e = .returned (.tuple #[.int .i64 x, .bool true])) ∧ Below w.heap.size w w'
      go_enter Tryd.func21, Tryd.ntmps21
      go_wp2_with (go_at_call 53; refine (whole0_calls _ _ (by omega) (by omega) _).mono ?_; rintro e w1 ⟨⟨z, rfl⟩, hb1⟩)
      go_ret2
      exact ⟨⟨_, rfl⟩, hb1⟩
    by_cases t2 : t = 2
    · subst t2
      clear hkt k1 k1' k2 k2' t1
      show Calls Tryd.prog 21 _ w fun e w' => (∃ x, e = .returned (.tuple #[.int .i64 x, .bool true])) ∧ Below w.heap.size w w'
      go_enter Tryd.func21, Tryd.ntmps21
      go_wp2_with (go_at_call 53; refine (whole0_calls _ _ (by omega) (by omega) _).mono ?_; rintro e w1 ⟨⟨z, rfl⟩, hb1⟩)
      go_ret2
      exact ⟨⟨_, rfl⟩, hb1⟩
    have t1' := beq_no t1
    have t2' := beq_no t2
    have hr : convB 3 t = false := by simp [convB, t1, t2]
    rw [hr]
    clear hkt k1 k1' k2 k2' t1 t2 hr
    go_enter Tryd.func21, Tryd.ntmps21
    go_wp2
    go_ret2
    exact ⟨⟨_, rfl⟩, Below.refl _ _⟩
  have k3' := beq_no k3
  have hr : convB k t = false := by simp [convB, k1, k2, k3]
  rw [hr]
  clear hkt k1 k2 k3 hr
  go_enter Tryd.func21, Tryd.ntmps21
  go_wp2
  go_ret2
  exact ⟨⟨_, rfl⟩, Below.refl _ _⟩
end Go.Proofs.YtkkfkbcdcdifdaaDoor
