/- impl.Convert of nought: which pairs it knows. -/
import Derived.Test.YtkkfkbcdcdifdaaDoorInsD
namespace Go.Proofs.YtkkfkbcdcdifdaaDoor
set_option linter.unusedVariables false
open Go.ChangeShapes Go.WideShapes Go.ChangeAt Go.RowKit

def convB (k t : Int) : Bool :=
  if k = 1 then t == 2 || t == 3 || t == 5 || t == 6 || t == 7 else if k = 2 then t == 1 || t == 3 else if k = 3 then t == 1 || t == 2 else false

theorem order0 : FloatKind.f64.format.order (floatOfInt .f64 0) (floatOfInt .f64 0) = some .eq := by kernel_rfl
theorem bits0_calls (w : World) : Calls Tryd.prog 92 #[.float .f64 (floatOfInt .f64 0)] w fun e w' => e = .returned (.int .i64 (wrap64 (floatOfInt .f64 0 : Nat))) ∧ w' = w := bitsOf_num _ order0 w
def Pair (ok : Bool) (w : World) (e : Ending) (w' : World) : Prop := (∃ x, e = .returned (.tuple #[.int .i64 x, .bool ok])) ∧ w' = w

theorem convInt_calls (t : Int) (w : World) : Calls Tryd.prog 94 #[.int .i64 t, .int .i64 0] w (Pair (convB 1 t) w) := by
  unfold Pair
  by_cases t3 : t = 3
  · subst t3
    go_enter Tryd.func94, Tryd.ntmps94
    go_wp2_with (go_at_call 92; refine (bits0_calls _).mono ?_; rintro e w' ⟨rfl, he⟩; subst he)
    go_ret2
    exact ⟨⟨_, rfl⟩, rfl⟩
  have t3' : (t == 3) = false := by simpa using t3
  obtain ⟨r, hr⟩ : ∃ r, convB 1 t = r := ⟨_, rfl⟩
  rw [hr]
  have hrH : Hid (convB 1 t = r) := hr
  clear hr t3
  go_enter Tryd.func94, Tryd.ntmps94
  go_wp2
  all_goals (
    go_ret2
    refine ⟨?_, rfl⟩
    go_light
    rw [← hrH.out]
    first
      | (rename_i h; have e := eq_of_beq h; subst e; exact ⟨_, rfl⟩)
      | (have hr : convB 1 t = false := by simp_all [convB]
         rw [hr]
         exact ⟨_, rfl⟩))
theorem convLong_calls (t : Int) (w : World) : Calls Tryd.prog 95 #[.int .i64 t, .int .i64 0] w (Pair (convB 2 t) w) := by
  unfold Pair
  by_cases t3 : t = 3
  · subst t3
    go_enter Tryd.func95, Tryd.ntmps95
    go_wp2_with (go_at_call 92; refine (bits0_calls _).mono ?_; rintro e w' ⟨rfl, he⟩; subst he)
    go_ret2
    exact ⟨⟨_, rfl⟩, rfl⟩
  by_cases t1 : t = 1
  · subst t1
    clear t3
    go_enter Tryd.func95, Tryd.ntmps95
    go_wp2_with (go_at_call 91; refine (implWrap_calls _ _).mono ?_; rintro e w' ⟨rfl, he⟩; subst he)
    go_ret2
    exact ⟨⟨_, rfl⟩, rfl⟩
  have t3' : (t == 3) = false := by simpa using t3
  have t1' : (t == 1) = false := by simpa using t1
  have hr : convB 2 t = false := by simp [convB, t3', t1']
  rw [hr]
  clear hr t3 t1
  go_enter Tryd.func95, Tryd.ntmps95
  go_wp2
  go_ret2
  exact ⟨⟨_, rfl⟩, rfl⟩
theorem tz_in (b : Nat) (n : Int) (h : FloatKind.f64.format.order b b = some .eq) (h1 : FloatKind.f64.format.order b 4890909195324358656 = some .lt) (h2 : FloatKind.f64.format.order b 14114281232179134464 = some .gt) (h4 : floatToIntVal .f64 b .i64 = some n) (w : World) :
    Calls Tryd.prog 112 #[.float .f64 b] w fun e w' => e = .returned (.int .i64 n) ∧ w' = w := by
  have h5 := fun w => run_convert_float_int (P := Tryd.prog) w 102 2 .f64 .i64 b n (by kernel_rfl) Tryd.underlying2 h4
  clear h4
  go_enter Tryd.func112, Tryd.ntmps112
  go_wp2_with (go_at_call 109; refine (isNaN_calls _ _).mono ?_; rintro e w' ⟨rfl, he⟩; subst he)
  go_ret
  exact ⟨rfl, rfl⟩
theorem tz0_calls (w : World) : Calls Tryd.prog 112 #[.float .f64 0] w fun e w' => e = .returned (.int .i64 0) ∧ w' = w :=
  tz_in 0 0 (by kernel_rfl) (by kernel_rfl) (by kernel_rfl) (by kernel_rfl) w
theorem convFloat_calls (t : Int) (w : World) : Calls Tryd.prog 96 #[.int .i64 t, .float .f64 0] w (Pair (convB 3 t) w) := by
  unfold Pair
  by_cases t2 : t = 2
  · subst t2
    go_enter Tryd.func96, Tryd.ntmps96
    go_wp2_with (go_at_call 112; refine (tz0_calls _).mono ?_; rintro e w' ⟨rfl, he⟩; subst he)
    go_ret2
    exact ⟨⟨_, rfl⟩, rfl⟩
  by_cases t1 : t = 1
  · subst t1
    clear t2
    go_enter Tryd.func96, Tryd.ntmps96
    go_wp2_with (go_at_call 112; refine (tz0_calls _).mono ?_; rintro e w' ⟨rfl, he⟩; subst he)
    go_ret2
    exact ⟨⟨_, rfl⟩, rfl⟩
  have t2' : (t == 2) = false := by simpa using t2
  have t1' : (t == 1) = false := by simpa using t1
  have hr : convB 3 t = false := by simp [convB, t2', t1']
  rw [hr]
  clear hr t2 t1
  go_enter Tryd.func96, Tryd.ntmps96
  go_wp2
  go_ret2
  exact ⟨⟨_, rfl⟩, rfl⟩
theorem floatOf0_calls (w : World) : Calls Tryd.prog 93 #[.int .i64 0] w fun e w' => e = .returned (.float .f64 0) ∧ w' = w := floatOf_calls 0 w
theorem wrap0_calls (w : World) : Calls Tryd.prog 91 #[.int .i64 0] w fun e w' => e = .returned (.int .i64 0) ∧ w' = w := by
  have h := implWrap_calls 0 w
  rwa [show wrap32 0 = 0 from by unfold wrap32; rfl] at h
theorem conv_calls (k t : Int) (w : World) : Calls Tryd.prog 66 #[.int .i64 k, .int .i64 t, .int .i64 0] w (Pair (convB k t) w) := by
  unfold Pair
  by_cases k1 : k = 1
  · subst k1
    have hi : Hid (∀ w, Calls Tryd.prog 94 #[.int .i64 t, .int .i64 0] w (Pair (convB 1 t) w)) := fun w => convInt_calls t w
    generalize convB 1 t = r at *
    go_enter Tryd.func66, Tryd.ntmps66
    go_wp2_with (first | (go_at_call 91; refine (wrap0_calls _).mono ?_; rintro e w' ⟨rfl, he⟩; subst he) | (go_at_call 94; refine (hi.out _).mono ?_; rintro e w' ⟨⟨x, rfl⟩, he⟩; subst he))
    go_ret2
    exact ⟨⟨_, rfl⟩, rfl⟩
  by_cases k2 : k = 2
  · subst k2
    clear k1
    have hi : Hid (∀ w, Calls Tryd.prog 95 #[.int .i64 t, .int .i64 0] w (Pair (convB 2 t) w)) := fun w => convLong_calls t w
    generalize convB 2 t = r at *
    go_enter Tryd.func66, Tryd.ntmps66
    go_wp2_with (go_at_call 95; refine (hi.out _).mono ?_; rintro e w' ⟨⟨x, rfl⟩, he⟩; subst he)
    go_ret2
    exact ⟨⟨_, rfl⟩, rfl⟩
  by_cases k3 : k = 3
  · subst k3
    clear k1 k2
    have hi : Hid (∀ w, Calls Tryd.prog 96 #[.int .i64 t, .float .f64 0] w (Pair (convB 3 t) w)) := fun w => convFloat_calls t w
    generalize convB 3 t = r at *
    go_enter Tryd.func66, Tryd.ntmps66
    go_wp2_with (first | (go_at_call 93; refine (floatOf0_calls _).mono ?_; rintro e w' ⟨rfl, he⟩; subst he) | (go_at_call 96; refine (hi.out _).mono ?_; rintro e w' ⟨⟨x, rfl⟩, he⟩; subst he))
    go_ret2
    exact ⟨⟨_, rfl⟩, rfl⟩
  have hr : convB k t = false := by simp [convB, k1, k2, k3]
  have k1' : (k == 1) = false := by simpa using k1
  have k2' : (k == 2) = false := by simpa using k2
  have k3' : (k == 3) = false := by simpa using k3
  rw [hr]
  clear hr k1 k2 k3
  go_enter Tryd.func66, Tryd.ntmps66
  go_wp2
  go_ret2
  exact ⟨⟨_, rfl⟩, rfl⟩
end Go.Proofs.YtkkfkbcdcdifdaaDoor
