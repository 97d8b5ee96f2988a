/- impl.Convert of nought: which pairs it knows. -/
import Derived.Test.YtcencddbdidjjaaGreatDoorInsD
import Derived.Test.YtcencddbdidjjaaGreatDoorSig3
namespace Go.Proofs.YtcencddbdidjjaaGreatDoor
set_option linter.unusedVariables false
open Go.ChangeShapes Go.WideShapes Go.ChangeAt Go.RowKit

def convB (k t : Int) : Bool :=
  if k = 1 then t == 2 || t == 3 || t == 5 || t == 6 || t == 7 else if k = 2 then t == 1 || t == 3 else if k = 3 then t == 1 || t == 2 else false

theorem order0 : FloatKind.f64.format.order (floatOfInt .f64 0) (floatOfInt .f64 0) = some .eq := by kernel_rfl
theorem bits0_calls (w : World) : Calls Tryz.prog 81 #[.float .f64 (floatOfInt .f64 0)] w fun e w' => e = .returned (.int .i64 (wrap64 (floatOfInt .f64 0 : Nat))) ∧ w' = w := bitsOf_num _ order0 w
def Pair (ok : Bool) (w : World) (e : Ending) (w' : World) : Prop := (∃ x, e = .returned (.tuple #[.int .i64 x, .bool ok])) ∧ w' = w

theorem convInt_calls (t : Int) (w : World) : Calls Tryz.prog 83 #[.int .i64 t, .int .i64 0] w (Pair (convB 1 t) w) := by
  unfold Pair
  by_cases t3 : t = 3
  · subst t3
    go_enter Tryz.func83, Tryz.ntmps83
    go_wp2_with (go_at_call 81; refine (bits0_calls _).mono ?_; rintro e w' ⟨rfl, he⟩; subst he)
    go_ret2
    exact ⟨⟨_, rfl⟩, rfl⟩
  have t3' : (t == 3) = false := by simpa using t3
  obtain ⟨r, hr⟩ : ∃ r, convB 1 t = r := ⟨_, rfl⟩
  rw [hr]
  have hrH : Hid (convB 1 t = r) := hr
  clear hr t3
  go_enter Tryz.func83, Tryz.ntmps83
  go_wp2
  all_goals (
    go_ret2
    refine ⟨?_, rfl⟩
    go_light
    rw [← hrH.out]
    first
      | (rename_i h; have e := eq_of_beq h; subst e; exact ⟨_, rfl⟩)
      | (have hr : convB 1 t = false := by simp_all [convB]
         rw [hr]
         exact ⟨_, rfl⟩))
theorem convLong_calls (t : Int) (w : World) : Calls Tryz.prog 84 #[.int .i64 t, .int .i64 0] w (Pair (convB 2 t) w) := by
  unfold Pair
  by_cases t3 : t = 3
  · subst t3
    go_enter Tryz.func84, Tryz.ntmps84
    go_wp2_with (go_at_call 81; refine (bits0_calls _).mono ?_; rintro e w' ⟨rfl, he⟩; subst he)
    go_ret2
    exact ⟨⟨_, rfl⟩, rfl⟩
  by_cases t1 : t = 1
  · subst t1
    clear t3
    go_enter Tryz.func84, Tryz.ntmps84
    go_wp2_with (go_at_call 80; refine (implWrap_calls _ _).mono ?_; rintro e w' ⟨rfl, he⟩; subst he)
    go_ret2
    exact ⟨⟨_, rfl⟩, rfl⟩
  have t3' : (t == 3) = false := by simpa using t3
  have t1' : (t == 1) = false := by simpa using t1
  have hr : convB 2 t = false := by simp [convB, t3', t1']
  rw [hr]
  clear hr t3 t1
  go_enter Tryz.func84, Tryz.ntmps84
  go_wp2
  go_ret2
  exact ⟨⟨_, rfl⟩, rfl⟩
theorem tz_in (b : Nat) (n : Int) (h : FloatKind.f64.format.order b b = some .eq) (h1 : FloatKind.f64.format.order b 4890909195324358656 = some .lt) (h2 : FloatKind.f64.format.order b 14114281232179134464 = some .gt) (h4 : floatToIntVal .f64 b .i64 = some n) (w : World) :
    Calls Tryz.prog 102 #[.float .f64 b] w fun e w' => e = .returned (.int .i64 n) ∧ w' = w := by
  have h5 := fun w => run_convert_float_int (P := Tryz.prog) w 90 2 .f64 .i64 b n (by kernel_rfl) Tryz.underlying2 h4
  clear h4
  go_enter Tryz.func102, Tryz.ntmps102
  go_wp2_with (go_at_call 95; refine (isNaN_calls _ _).mono ?_; rintro e w' ⟨rfl, he⟩; subst he)
  go_ret
  exact ⟨rfl, rfl⟩
theorem tz0_calls (w : World) : Calls Tryz.prog 102 #[.float .f64 0] w fun e w' => e = .returned (.int .i64 0) ∧ w' = w :=
  tz_in 0 0 (by kernel_rfl) (by kernel_rfl) (by kernel_rfl) (by kernel_rfl) w
theorem convFloat_calls (t : Int) (w : World) : Calls Tryz.prog 85 #[.int .i64 t, .float .f64 0] w (Pair (convB 3 t) w) := by
  unfold Pair
  by_cases t2 : t = 2
  · subst t2
    go_enter Tryz.func85, Tryz.ntmps85
    go_wp2_with (go_at_call 102; refine (tz0_calls _).mono ?_; rintro e w' ⟨rfl, he⟩; subst he)
    go_ret2
    exact ⟨⟨_, rfl⟩, rfl⟩
  by_cases t1 : t = 1
  · subst t1
    clear t2
    go_enter Tryz.func85, Tryz.ntmps85
    go_wp2_with (go_at_call 102; refine (tz0_calls _).mono ?_; rintro e w' ⟨rfl, he⟩; subst he)
    go_ret2
    exact ⟨⟨_, rfl⟩, rfl⟩
  have t2' : (t == 2) = false := by simpa using t2
  have t1' : (t == 1) = false := by simpa using t1
  have hr : convB 3 t = false := by simp [convB, t2', t1']
  rw [hr]
  clear hr t2 t1
  go_enter Tryz.func85, Tryz.ntmps85
  go_wp2
  go_ret2
  exact ⟨⟨_, rfl⟩, rfl⟩
theorem floatOf0_calls (w : World) : Calls Tryz.prog 82 #[.int .i64 0] w fun e w' => e = .returned (.float .f64 0) ∧ w' = w := floatOf_calls 0 w
theorem wrap0_calls (w : World) : Calls Tryz.prog 80 #[.int .i64 0] w fun e w' => e = .returned (.int .i64 0) ∧ w' = w := by
  have h := implWrap_calls 0 w
  rwa [show wrap32 0 = 0 from by unfold wrap32; rfl] at h
theorem conv_calls (k t : Int) (w : World) : Calls Tryz.prog 58 #[.int .i64 k, .int .i64 t, .int .i64 0] w (Pair (convB k t) w) := by
  unfold Pair
  by_cases k1 : k = 1
  · subst k1
    have hi : Hid (∀ w, Calls Tryz.prog 83 #[.int .i64 t, .int .i64 0] w (Pair (convB 1 t) w)) := fun w => convInt_calls t w
    generalize convB 1 t = r at *
    go_enter Tryz.func58, Tryz.ntmps58
    go_wp2_with (first | (go_at_call 80; refine (wrap0_calls _).mono ?_; rintro e w' ⟨rfl, he⟩; subst he) | (go_at_call 83; refine (hi.out _).mono ?_; rintro e w' ⟨⟨x, rfl⟩, he⟩; subst he))
    go_ret2
    exact ⟨⟨_, rfl⟩, rfl⟩
  by_cases k2 : k = 2
  · subst k2
    clear k1
    have hi : Hid (∀ w, Calls Tryz.prog 84 #[.int .i64 t, .int .i64 0] w (Pair (convB 2 t) w)) := fun w => convLong_calls t w
    generalize convB 2 t = r at *
    go_enter Tryz.func58, Tryz.ntmps58
    go_wp2_with (go_at_call 84; refine (hi.out _).mono ?_; rintro e w' ⟨⟨x, rfl⟩, he⟩; subst he)
    go_ret2
    exact ⟨⟨_, rfl⟩, rfl⟩
  by_cases k3 : k = 3
  · subst k3
    clear k1 k2
    have hi : Hid (∀ w, Calls Tryz.prog 85 #[.int .i64 t, .float .f64 0] w (Pair (convB 3 t) w)) := fun w => convFloat_calls t w
    generalize convB 3 t = r at *
    go_enter Tryz.func58, Tryz.ntmps58
    go_wp2_with (first | (go_at_call 82; refine (floatOf0_calls _).mono ?_; rintro e w' ⟨rfl, he⟩; subst he) | (go_at_call 85; refine (hi.out _).mono ?_; rintro e w' ⟨⟨x, rfl⟩, he⟩; subst he))
    go_ret2
    exact ⟨⟨_, rfl⟩, rfl⟩
  have hr : convB k t = false := by simp [convB, k1, k2, k3]
  have k1' : (k == 1) = false := by simpa using k1
  have k2' : (k == 2) = false := by simpa using k2
  have k3' : (k == 3) = false := by simpa using k3
  rw [hr]
  clear hr k1 k2 k3
  go_enter Tryz.func58, Tryz.ntmps58
  go_wp2
  go_ret2
  exact ⟨⟨_, rfl⟩, rfl⟩
end Go.Proofs.YtcencddbdidjjaaGreatDoor

/- What an instruction's fields must hold. -/
namespace Go.Proofs.YtcencddbdidjjaaGreatDoor
set_option linter.unusedVariables false
open Go.ChangeShapes Go.WideShapes Go.ChangeAt Go.RowKit

/-- What the fields that an op has must hold. -/
def contB (o k a b : Int) (T C N Y : ByteArray) (zs : List Int) (size locals : Int) : Bool :=
  if o = 1 then constB k a
  else if o = 2 then decide ((T.size : Int) ≤ 200)
  else if o = 4 ∨ o = 5 then betw k 1 4 && wthn a locals
  else if o = 6 then wthn a locals && betw b (-32768) 32767
  else if o = 11 ∨ o = 12 ∨ o = 13 ∨ o = 14 ∨ o = 16 then k == 3 || betw k 1 2
  else if 15 ≤ o ∧ o ≤ 22 then betw k 1 2
  else if o = 23 then (k == 2 && b == 0) || (k == 3 && (b == -1 || b == 1))
  else if o = 24 then convB k a
  else if 25 ≤ o ∧ o ≤ 30 then wthn a size && jumpB o b size zs
  else if o = 31 ∨ o = 32 then nameOk C.data.toList && nameOk N.data.toList && typeL Y.data.toList && betw b 0 1
  else if o = 33 then nameOk C.data.toList && nameOk N.data.toList && sigOk Y.data.toList && betw b 1 4
  else if o = 34 then nameOk C.data.toList
  else if o = 35 then typeL (91 :: Y.data.toList)
  else if o = 37 ∨ o = 38 then betw k 1 4
  else if o = 39 ∨ o = 40 then kindL Y.data.toList == 4
  else if o = 44 then betw k 0 4
  else true

theorem keep1 {W W' : World} {p : Addr} {v : Value} (h : W.cell? p = some v) (hb : Below W.heap.size W W') : W'.cell? p = some v := by
  rw [hb.cell (p := p) (World.block_lt_of_cell? W p h)]; exact h

/-- A way that the op's own part rules out. -/
theorem no_way {P : Int → Prop} {o n : Int} (hS : Hid (P o)) (h : (o == n) = true) (hn : ¬ P n) : False := hn (by rw [← eq_of_beq h]; exact hS.out)
end Go.Proofs.YtcencddbdidjjaaGreatDoor
