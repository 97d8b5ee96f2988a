/- Small functions under InsOk: bounds, the parts that an op names. -/
import Derived.Test.YtcencddbdidjjaaGreatDoorType
namespace Go.Proofs.YtcencddbdidjjaaGreatDoor
set_option linter.unusedVariables false
open Go.ChangeShapes Go.WideShapes Go.ChangeAt Go.RowKit

def betw (n lo hi : Int) : Bool := decide (lo ≤ n) && decide (n ≤ hi)
def wthn (n m : Int) : Bool := decide (0 ≤ n) && decide (n < m)

theorem between_calls (n lo hi : Int) (w : World) : Calls Tryz.prog 36 #[.int .i64 n, .int .i64 lo, .int .i64 hi] w fun e w' => e = .returned (.bool (betw n lo hi)) ∧ w' = w := by
  unfold betw
  go_enter Tryz.func36, Tryz.ntmps36
  go_wp2
  all_goals (go_ret; refine ⟨?_, rfl⟩; first | (simp_all; done) | (simp_all; intro _; omega))
theorem l2Between_calls (n lo hi : Int) (w : World) : Calls Tryz.prog 20 #[.int .i64 n, .int .i64 lo, .int .i64 hi] w fun e w' => e = .returned (.bool (betw n lo hi)) ∧ w' = w := by
  unfold betw
  go_enter Tryz.func20, Tryz.ntmps20
  go_wp2
  all_goals (go_ret; refine ⟨?_, rfl⟩; first | (simp_all; done) | (simp_all; intro _; omega))
theorem within_calls (n m : Int) (w : World) : Calls Tryz.prog 57 #[.int .i64 n, .int .i64 m] w fun e w' => e = .returned (.bool (wthn n m)) ∧ w' = w := by
  unfold wthn
  go_enter Tryz.func57, Tryz.ntmps57
  go_wp2
  all_goals (go_ret; refine ⟨?_, rfl⟩; first | (simp_all; done) | (simp_all; intro _; omega))

/-- The fields that the table names of an op: 1 Kind, 2 A, 4 B, 8 Text, 16 Class, 32 Name, 64 Type, 128 Table. -/
def partsI (o : Int) : Int :=
  if o = 30 then 134 else if o = 6 ∨ (26 ≤ o ∧ o ≤ 29) then 6 else if o = 25 then 2 else if o = 1 ∨ o = 24 ∨ o = 4 ∨ o = 5 then 3
  else if (11 ≤ o ∧ o ≤ 22) ∨ o = 37 ∨ o = 38 ∨ o = 44 then 1 else if o = 23 then 5 else if o = 2 then 8 else if 31 ≤ o ∧ o ≤ 33 then 116
  else if o = 35 ∨ o = 39 ∨ o = 40 then 64 else if o = 34 then 16 else 0

set_option maxRecDepth 1000000 in
set_option maxHeartbeats 4000000 in
theorem partsOf_calls (o : Int) (w : World) : Calls Tryz.prog 38 #[.int .i64 o] w fun e w' => e = .returned (.int .i64 (partsI o)) ∧ w' = w := by
  obtain ⟨r, hr⟩ : ∃ r, partsI o = r := ⟨_, rfl⟩
  rw [hr]
  have hrH : Hid (partsI o = r) := hr
  clear hr
  go_enter Tryz.func38, Tryz.ntmps38
  go_wp2
  all_goals (
    go_ret
    refine ⟨?_, rfl⟩
    go_light
    rw [← hrH.out]
    first
      | (rename_i h; have e := eq_of_beq h; subst e; rfl)
      | (simp only [beq_eq_false_iff_ne, ne_eq] at *
         unfold partsI
         rw [if_neg (by omega), if_neg (by omega), if_neg (by omega), if_neg (by omega), if_neg (by omega), if_neg (by omega), if_neg (by omega), if_neg (by omega), if_neg (by omega), if_neg (by omega)]
         rfl))
end Go.Proofs.YtcencddbdidjjaaGreatDoor
