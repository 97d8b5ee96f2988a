/- spec.l1Open: a float taken apart: what it answers. -/
import Derived.Test.YtjbknbinaegpkaaDoorRows
import Derived.WalkKit
import Derived.ProofKit
import Derived.OpenShut
import Derived.Deep.WholeRow
import Derived.WalkLawsBesides
import Derived.Test.YtjbknbinaegpkaaDoorNum
import Derived.Test.YtjbknbinaegpkaaDoorOrder
namespace Go.Proofs.YtjbknbinaegpkaaDoor
open Go.ChangeShapes Go.WideShapes Go.ChangeAt Go.RowKit

def openK (a : Int) : Int := a / 4503599627370496 % 2048
def openF (a : Int) : Int := a % 4503599627370496
theorem and_K (a : Int) : bits .and .i64 (a / 4503599627370496) 2047 = openK a := and_mask _ 11 (by decide)
theorem and_F (a : Int) : bits .and .i64 a 4503599627370495 = openF a := and_mask _ 52 (by decide)

/-- The four cells of a float taken apart. -/
def real (s : Bool) (m e c : Int) : Array Value := #[.bool s, .int .i64 m, .int .i64 e, .int .i64 c]

theorem open_nan (a : Int) (hk : openK a = 2047) (hf : (openF a != 0) = true) (w : World) :
    Calls Tryd.prog 22 #[.int .i64 a] w fun e w' => e = .returned (.agg (real (decide (a < 0)) 0 0 2)) ∧ w' = (w.alloc (.cells (real (decide (a < 0)) 0 0 2) 44)).alloc (.cells (real (decide (a < 0)) 0 0 2) 44) := by
  have h1 := and_K a
  have h2 := and_F a
  rw [hk] at h1
  clear hk
  go_enter Tryd.func22, Tryd.ntmps22
  go_wp2
  exact bodyPost_ret (v := .agg (real (decide (a < 0)) 0 0 2)) (results_cell_row rfl _ _ w.heap.size 44 _ (0, 0) _ rfl (heap_alloc2_old w _ _) Tryd.underlying44 rfl (by kernel_rfl)) rfl ⟨rfl, rfl⟩
theorem open_inf (a : Int) (hk : openK a = 2047) (hf : openF a = 0) (w : World) :
    Calls Tryd.prog 22 #[.int .i64 a] w fun e w' => e = .returned (.agg (real (decide (a < 0)) 0 0 1)) ∧ w' = (w.alloc (.cells (real (decide (a < 0)) 0 0 1) 44)).alloc (.cells (real (decide (a < 0)) 0 0 1) 44) := by
  have h1 := and_K a
  have h2 := and_F a
  rw [hk] at h1
  rw [hf] at h2
  clear hk hf
  go_enter Tryd.func22, Tryd.ntmps22
  go_wp2
  exact bodyPost_ret (v := .agg (real (decide (a < 0)) 0 0 1)) (results_cell_row rfl _ _ w.heap.size 44 _ (0, 0) _ rfl (heap_alloc2_old w _ _) Tryd.underlying44 rfl (by kernel_rfl)) rfl ⟨rfl, rfl⟩
theorem open_sub (a : Int) (hk : openK a = 0) (w : World) :
    Calls Tryd.prog 22 #[.int .i64 a] w fun e w' => e = .returned (.agg (real (decide (a < 0)) (openF a) (-1074) 0)) ∧ w' = (w.alloc (.cells (real (decide (a < 0)) (openF a) (-1074) 0) 44)).alloc (.cells (real (decide (a < 0)) (openF a) (-1074) 0) 44) := by
  have h1 := and_K a
  have h2 := and_F a
  rw [hk] at h1
  clear hk
  go_enter Tryd.func22, Tryd.ntmps22
  go_wp2
  exact bodyPost_ret (v := .agg (real (decide (a < 0)) (openF a) (-1074) 0)) (results_cell_row rfl _ _ w.heap.size 44 _ (0, 0) _ rfl (heap_alloc2_old w _ _) Tryd.underlying44 rfl (by kernel_rfl)) rfl ⟨rfl, rfl⟩
theorem open_nor (a : Int) (hk : (openK a == 2047) = false) (hk0 : (openK a == 0) = false) (b1 : 0 ≤ openK a) (b2 : openK a < 2048) (b3 : 0 ≤ openF a) (b4 : openF a < 4503599627370496) (w : World) :
    Calls Tryd.prog 22 #[.int .i64 a] w fun e w' => e = .returned (.agg (real (decide (a < 0)) (openF a + 4503599627370496) (openK a - 1075) 0)) ∧ w' = (w.alloc (.cells (real (decide (a < 0)) (openF a + 4503599627370496) (openK a - 1075) 0) 44)).alloc (.cells (real (decide (a < 0)) (openF a + 4503599627370496) (openK a - 1075) 0) 44) := by
  have h1 := and_K a
  have h2 := and_F a
  go_enter Tryd.func22, Tryd.ntmps22
  go_wp2
  exact bodyPost_ret (v := .agg (real (decide (a < 0)) (openF a + 4503599627370496) (openK a - 1075) 0)) (results_cell_row rfl _ _ w.heap.size 44 _ (0, 0) _ rfl (heap_alloc2_old w _ _) Tryd.underlying44 rfl (by kernel_rfl)) rfl ⟨rfl, rfl⟩

def openM (a : Int) : Int := if openK a = 2047 then 0 else if openK a = 0 then openF a else openF a + 4503599627370496
def openE (a : Int) : Int := if openK a = 2047 then 0 else if openK a = 0 then -1074 else openK a - 1075
def openC (a : Int) : Int := if openK a = 2047 then (if openF a = 0 then 1 else 2) else 0
def realOf (a : Int) : Array Value := real (decide (a < 0)) (openM a) (openE a) (openC a)

theorem open_calls (a : Int) (w : World) :
    Calls Tryd.prog 22 #[.int .i64 a] w fun e w' => e = .returned (.agg (realOf a)) ∧ w' = (w.alloc (.cells (realOf a) 44)).alloc (.cells (realOf a) 44) := by
  unfold realOf openM openE openC
  by_cases hk : openK a = 2047
  · by_cases hf : openF a = 0
    · simp only [if_pos hk, if_pos hf]; exact open_inf a hk hf w
    · simp only [if_pos hk, if_neg hf]; exact open_nan a hk (by simpa using hf) w
  · by_cases h0 : openK a = 0
    · simp only [if_neg hk, if_pos h0]; exact open_sub a h0 w
    · simp only [if_neg hk, if_neg h0]
      exact open_nor a (by simpa using hk) (by simpa using h0) (by unfold openK; omega) (by unfold openK; omega) (by unfold openF; omega) (by unfold openF; omega) w

/-! What the parts say of the word. -/
theorem rung_parts (a : Int) : (rung a : Int) = openK a * 4503599627370496 + openF a := by unfold rung openK openF; omega
theorem class_no (a : Int) : openC a = 2 ↔ isNo a := by
  have := rung_parts a
  have h1 : 0 ≤ openK a ∧ openK a < 2048 := by unfold openK; omega
  have h2 : 0 ≤ openF a ∧ openF a < 4503599627370496 := by unfold openF; omega
  unfold openC isNo
  split
  · split <;> omega
  · omega
theorem zero_parts (a : Int) : (openC a = 0 ∧ openM a = 0) ↔ rung a = 0 := by
  have := rung_parts a
  have h1 : 0 ≤ openK a ∧ openK a < 2048 := by unfold openK; omega
  have h2 : 0 ≤ openF a ∧ openF a < 4503599627370496 := by unfold openF; omega
  unfold openC openM
  split
  · split <;> omega
  · split <;> omega
theorem key_neg (a : Int) (h : a < 0) : wrap64 (-(bits .and .i64 a 9223372036854775807)) = key a := by
  have e : bits .and .i64 a 9223372036854775807 = a % 9223372036854775808 := and_mask a 63 (by decide)
  have hr := rung_lt a
  rw [e]; unfold key sg rung wrap64; simp [h]; omega
theorem key_pos (a : Int) (h : ¬ a < 0) : bits .and .i64 a 9223372036854775807 = key a := by
  have e : bits .and .i64 a 9223372036854775807 = a % 9223372036854775808 := and_mask a 63 (by decide)
  rw [e]; unfold key sg rung; simp [h]; omega
end Go.Proofs.YtjbknbinaegpkaaDoor
