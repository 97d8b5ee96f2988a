import Derived.Test.YtjjccimeikkogaaGreatDoorInsHA
import Derived.Test.YtjjccimeikkogaaGreatDoorInsHE
import Derived.Test.YtjjccimeikkogaaGreatDoorSpQn
import Derived.Test.YtjjccimeikkogaaGreatDoorSpO
namespace Go.Proofs.YtjjccimeikkogaaGreatDoor
set_option linter.unusedVariables false
open Go.ChangeShapes Go.WideShapes Go.ChangeAt Go.RowKit
theorem any_all (p : Int → Bool) : ∀ l : List Int, (!(l.any fun z => !p z)) = l.all p
 | [] => rfl
 | x :: t => by have := any_all p t; simp only [List.any_cons, List.all_cons, Bool.not_or, Bool.not_not, this]
theorem len_nil (zs : List Int) : (((zs.length : Nat) : Int) == 0) = (zs == []) := by
 cases zs with
 | nil => rfl
 | cons x t => simp; omega
theorem bt_split (x : Int) : betw x 1 2 = (x == 1 || x == 2) := by
 unfold betw
 by_cases h1 : x = 1
 ·subst h1; rfl
 by_cases h2 : x = 2
 ·subst h2; rfl
 have e1 : (x == 1) = false := by simpa using h1
 have e2 : (x == 2) = false := by simpa using h2
 rw [e1, e2, Bool.or_false, Bool.and_eq_false_iff, decide_eq_false_iff_not, decide_eq_false_iff_not]; omega
theorem betw_len (n : Nat) : betw n 1 100 = (decide ((0 : Int) < n) && decide ((n : Int) ≤ 100)) := by
 unfold betw
 rw [show decide ((1 : Int) ≤ n) = decide ((0 : Int) < n) from decide_eq_decide.2 (by omega)]
theorem bit_134_1 (em : Bool) : nn 134 1 em = em := by unfold nn; rw [show (bits .and .i64 134 1 != 0) = false from by kernel_rfl]; simp
theorem bit_134_2 (em : Bool) : nn 134 2 em = true := by unfold nn; rw [show (bits .and .i64 134 2 != 0) = true from by kernel_rfl]; simp
theorem bit_134_4 (em : Bool) : nn 134 4 em = true := by unfold nn; rw [show (bits .and .i64 134 4 != 0) = true from by kernel_rfl]; simp
theorem bit_134_8 (em : Bool) : nn 134 8 em = em := by unfold nn; rw [show (bits .and .i64 134 8 != 0) = false from by kernel_rfl]; simp
theorem bit_134_16 (em : Bool) : nn 134 16 em = em := by unfold nn; rw [show (bits .and .i64 134 16 != 0) = false from by kernel_rfl]; simp
theorem bit_134_32 (em : Bool) : nn 134 32 em = em := by unfold nn; rw [show (bits .and .i64 134 32 != 0) = false from by kernel_rfl]; simp
theorem bit_134_64 (em : Bool) : nn 134 64 em = em := by unfold nn; rw [show (bits .and .i64 134 64 != 0) = false from by kernel_rfl]; simp
theorem bit_134_128 (em : Bool) : nn 134 128 em = true := by unfold nn; rw [show (bits .and .i64 134 128 != 0) = true from by kernel_rfl]; simp
theorem bit_6_1 (em : Bool) : nn 6 1 em = em := by unfold nn; rw [show (bits .and .i64 6 1 != 0) = false from by kernel_rfl]; simp
theorem bit_6_2 (em : Bool) : nn 6 2 em = true := by unfold nn; rw [show (bits .and .i64 6 2 != 0) = true from by kernel_rfl]; simp
theorem bit_6_4 (em : Bool) : nn 6 4 em = true := by unfold nn; rw [show (bits .and .i64 6 4 != 0) = true from by kernel_rfl]; simp
theorem bit_6_8 (em : Bool) : nn 6 8 em = em := by unfold nn; rw [show (bits .and .i64 6 8 != 0) = false from by kernel_rfl]; simp
theorem bit_6_16 (em : Bool) : nn 6 16 em = em := by unfold nn; rw [show (bits .and .i64 6 16 != 0) = false from by kernel_rfl]; simp
theorem bit_6_32 (em : Bool) : nn 6 32 em = em := by unfold nn; rw [show (bits .and .i64 6 32 != 0) = false from by kernel_rfl]; simp
theorem bit_6_64 (em : Bool) : nn 6 64 em = em := by unfold nn; rw [show (bits .and .i64 6 64 != 0) = false from by kernel_rfl]; simp
theorem bit_6_128 (em : Bool) : nn 6 128 em = em := by unfold nn; rw [show (bits .and .i64 6 128 != 0) = false from by kernel_rfl]; simp
theorem bit_2_1 (em : Bool) : nn 2 1 em = em := by unfold nn; rw [show (bits .and .i64 2 1 != 0) = false from by kernel_rfl]; simp
theorem bit_2_2 (em : Bool) : nn 2 2 em = true := by unfold nn; rw [show (bits .and .i64 2 2 != 0) = true from by kernel_rfl]; simp
theorem bit_2_4 (em : Bool) : nn 2 4 em = em := by unfold nn; rw [show (bits .and .i64 2 4 != 0) = false from by kernel_rfl]; simp
theorem bit_2_8 (em : Bool) : nn 2 8 em = em := by unfold nn; rw [show (bits .and .i64 2 8 != 0) = false from by kernel_rfl]; simp
theorem bit_2_16 (em : Bool) : nn 2 16 em = em := by unfold nn; rw [show (bits .and .i64 2 16 != 0) = false from by kernel_rfl]; simp
theorem bit_2_32 (em : Bool) : nn 2 32 em = em := by unfold nn; rw [show (bits .and .i64 2 32 != 0) = false from by kernel_rfl]; simp
theorem bit_2_64 (em : Bool) : nn 2 64 em = em := by unfold nn; rw [show (bits .and .i64 2 64 != 0) = false from by kernel_rfl]; simp
theorem bit_2_128 (em : Bool) : nn 2 128 em = em := by unfold nn; rw [show (bits .and .i64 2 128 != 0) = false from by kernel_rfl]; simp
theorem bit_3_1 (em : Bool) : nn 3 1 em = true := by unfold nn; rw [show (bits .and .i64 3 1 != 0) = true from by kernel_rfl]; simp
theorem bit_3_2 (em : Bool) : nn 3 2 em = true := by unfold nn; rw [show (bits .and .i64 3 2 != 0) = true from by kernel_rfl]; simp
theorem bit_3_4 (em : Bool) : nn 3 4 em = em := by unfold nn; rw [show (bits .and .i64 3 4 != 0) = false from by kernel_rfl]; simp
theorem bit_3_8 (em : Bool) : nn 3 8 em = em := by unfold nn; rw [show (bits .and .i64 3 8 != 0) = false from by kernel_rfl]; simp
theorem bit_3_16 (em : Bool) : nn 3 16 em = em := by unfold nn; rw [show (bits .and .i64 3 16 != 0) = false from by kernel_rfl]; simp
theorem bit_3_32 (em : Bool) : nn 3 32 em = em := by unfold nn; rw [show (bits .and .i64 3 32 != 0) = false from by kernel_rfl]; simp
theorem bit_3_64 (em : Bool) : nn 3 64 em = em := by unfold nn; rw [show (bits .and .i64 3 64 != 0) = false from by kernel_rfl]; simp
theorem bit_3_128 (em : Bool) : nn 3 128 em = em := by unfold nn; rw [show (bits .and .i64 3 128 != 0) = false from by kernel_rfl]; simp
theorem bit_1_1 (em : Bool) : nn 1 1 em = true := by unfold nn; rw [show (bits .and .i64 1 1 != 0) = true from by kernel_rfl]; simp
theorem bit_1_2 (em : Bool) : nn 1 2 em = em := by unfold nn; rw [show (bits .and .i64 1 2 != 0) = false from by kernel_rfl]; simp
theorem bit_1_4 (em : Bool) : nn 1 4 em = em := by unfold nn; rw [show (bits .and .i64 1 4 != 0) = false from by kernel_rfl]; simp
theorem bit_1_8 (em : Bool) : nn 1 8 em = em := by unfold nn; rw [show (bits .and .i64 1 8 != 0) = false from by kernel_rfl]; simp
theorem bit_1_16 (em : Bool) : nn 1 16 em = em := by unfold nn; rw [show (bits .and .i64 1 16 != 0) = false from by kernel_rfl]; simp
theorem bit_1_32 (em : Bool) : nn 1 32 em = em := by unfold nn; rw [show (bits .and .i64 1 32 != 0) = false from by kernel_rfl]; simp
theorem bit_1_64 (em : Bool) : nn 1 64 em = em := by unfold nn; rw [show (bits .and .i64 1 64 != 0) = false from by kernel_rfl]; simp
theorem bit_1_128 (em : Bool) : nn 1 128 em = em := by unfold nn; rw [show (bits .and .i64 1 128 != 0) = false from by kernel_rfl]; simp
theorem bit_5_1 (em : Bool) : nn 5 1 em = true := by unfold nn; rw [show (bits .and .i64 5 1 != 0) = true from by kernel_rfl]; simp
theorem bit_5_2 (em : Bool) : nn 5 2 em = em := by unfold nn; rw [show (bits .and .i64 5 2 != 0) = false from by kernel_rfl]; simp
theorem bit_5_4 (em : Bool) : nn 5 4 em = true := by unfold nn; rw [show (bits .and .i64 5 4 != 0) = true from by kernel_rfl]; simp
theorem bit_5_8 (em : Bool) : nn 5 8 em = em := by unfold nn; rw [show (bits .and .i64 5 8 != 0) = false from by kernel_rfl]; simp
theorem bit_5_16 (em : Bool) : nn 5 16 em = em := by unfold nn; rw [show (bits .and .i64 5 16 != 0) = false from by kernel_rfl]; simp
theorem bit_5_32 (em : Bool) : nn 5 32 em = em := by unfold nn; rw [show (bits .and .i64 5 32 != 0) = false from by kernel_rfl]; simp
theorem bit_5_64 (em : Bool) : nn 5 64 em = em := by unfold nn; rw [show (bits .and .i64 5 64 != 0) = false from by kernel_rfl]; simp
theorem bit_5_128 (em : Bool) : nn 5 128 em = em := by unfold nn; rw [show (bits .and .i64 5 128 != 0) = false from by kernel_rfl]; simp
theorem bit_8_1 (em : Bool) : nn 8 1 em = em := by unfold nn; rw [show (bits .and .i64 8 1 != 0) = false from by kernel_rfl]; simp
theorem bit_8_2 (em : Bool) : nn 8 2 em = em := by unfold nn; rw [show (bits .and .i64 8 2 != 0) = false from by kernel_rfl]; simp
theorem bit_8_4 (em : Bool) : nn 8 4 em = em := by unfold nn; rw [show (bits .and .i64 8 4 != 0) = false from by kernel_rfl]; simp
theorem bit_8_8 (em : Bool) : nn 8 8 em = true := by unfold nn; rw [show (bits .and .i64 8 8 != 0) = true from by kernel_rfl]; simp
theorem bit_8_16 (em : Bool) : nn 8 16 em = em := by unfold nn; rw [show (bits .and .i64 8 16 != 0) = false from by kernel_rfl]; simp
theorem bit_8_32 (em : Bool) : nn 8 32 em = em := by unfold nn; rw [show (bits .and .i64 8 32 != 0) = false from by kernel_rfl]; simp
theorem bit_8_64 (em : Bool) : nn 8 64 em = em := by unfold nn; rw [show (bits .and .i64 8 64 != 0) = false from by kernel_rfl]; simp
theorem bit_8_128 (em : Bool) : nn 8 128 em = em := by unfold nn; rw [show (bits .and .i64 8 128 != 0) = false from by kernel_rfl]; simp
theorem bit_116_1 (em : Bool) : nn 116 1 em = em := by unfold nn; rw [show (bits .and .i64 116 1 != 0) = false from by kernel_rfl]; simp
theorem bit_116_2 (em : Bool) : nn 116 2 em = em := by unfold nn; rw [show (bits .and .i64 116 2 != 0) = false from by kernel_rfl]; simp
theorem bit_116_4 (em : Bool) : nn 116 4 em = true := by unfold nn; rw [show (bits .and .i64 116 4 != 0) = true from by kernel_rfl]; simp
theorem bit_116_8 (em : Bool) : nn 116 8 em = em := by unfold nn; rw [show (bits .and .i64 116 8 != 0) = false from by kernel_rfl]; simp
theorem bit_116_16 (em : Bool) : nn 116 16 em = true := by unfold nn; rw [show (bits .and .i64 116 16 != 0) = true from by kernel_rfl]; simp
theorem bit_116_32 (em : Bool) : nn 116 32 em = true := by unfold nn; rw [show (bits .and .i64 116 32 != 0) = true from by kernel_rfl]; simp
theorem bit_116_64 (em : Bool) : nn 116 64 em = true := by unfold nn; rw [show (bits .and .i64 116 64 != 0) = true from by kernel_rfl]; simp
theorem bit_116_128 (em : Bool) : nn 116 128 em = em := by unfold nn; rw [show (bits .and .i64 116 128 != 0) = false from by kernel_rfl]; simp
theorem bit_64_1 (em : Bool) : nn 64 1 em = em := by unfold nn; rw [show (bits .and .i64 64 1 != 0) = false from by kernel_rfl]; simp
theorem bit_64_2 (em : Bool) : nn 64 2 em = em := by unfold nn; rw [show (bits .and .i64 64 2 != 0) = false from by kernel_rfl]; simp
theorem bit_64_4 (em : Bool) : nn 64 4 em = em := by unfold nn; rw [show (bits .and .i64 64 4 != 0) = false from by kernel_rfl]; simp
theorem bit_64_8 (em : Bool) : nn 64 8 em = em := by unfold nn; rw [show (bits .and .i64 64 8 != 0) = false from by kernel_rfl]; simp
theorem bit_64_16 (em : Bool) : nn 64 16 em = em := by unfold nn; rw [show (bits .and .i64 64 16 != 0) = false from by kernel_rfl]; simp
theorem bit_64_32 (em : Bool) : nn 64 32 em = em := by unfold nn; rw [show (bits .and .i64 64 32 != 0) = false from by kernel_rfl]; simp
theorem bit_64_64 (em : Bool) : nn 64 64 em = true := by unfold nn; rw [show (bits .and .i64 64 64 != 0) = true from by kernel_rfl]; simp
theorem bit_64_128 (em : Bool) : nn 64 128 em = em := by unfold nn; rw [show (bits .and .i64 64 128 != 0) = false from by kernel_rfl]; simp
theorem bit_16_1 (em : Bool) : nn 16 1 em = em := by unfold nn; rw [show (bits .and .i64 16 1 != 0) = false from by kernel_rfl]; simp
theorem bit_16_2 (em : Bool) : nn 16 2 em = em := by unfold nn; rw [show (bits .and .i64 16 2 != 0) = false from by kernel_rfl]; simp
theorem bit_16_4 (em : Bool) : nn 16 4 em = em := by unfold nn; rw [show (bits .and .i64 16 4 != 0) = false from by kernel_rfl]; simp
theorem bit_16_8 (em : Bool) : nn 16 8 em = em := by unfold nn; rw [show (bits .and .i64 16 8 != 0) = false from by kernel_rfl]; simp
theorem bit_16_16 (em : Bool) : nn 16 16 em = true := by unfold nn; rw [show (bits .and .i64 16 16 != 0) = true from by kernel_rfl]; simp
theorem bit_16_32 (em : Bool) : nn 16 32 em = em := by unfold nn; rw [show (bits .and .i64 16 32 != 0) = false from by kernel_rfl]; simp
theorem bit_16_64 (em : Bool) : nn 16 64 em = em := by unfold nn; rw [show (bits .and .i64 16 64 != 0) = false from by kernel_rfl]; simp
theorem bit_16_128 (em : Bool) : nn 16 128 em = em := by unfold nn; rw [show (bits .and .i64 16 128 != 0) = false from by kernel_rfl]; simp
theorem bit_0_1 (em : Bool) : nn 0 1 em = em := by unfold nn; rw [show (bits .and .i64 0 1 != 0) = false from by kernel_rfl]; simp
theorem bit_0_2 (em : Bool) : nn 0 2 em = em := by unfold nn; rw [show (bits .and .i64 0 2 != 0) = false from by kernel_rfl]; simp
theorem bit_0_4 (em : Bool) : nn 0 4 em = em := by unfold nn; rw [show (bits .and .i64 0 4 != 0) = false from by kernel_rfl]; simp
theorem bit_0_8 (em : Bool) : nn 0 8 em = em := by unfold nn; rw [show (bits .and .i64 0 8 != 0) = false from by kernel_rfl]; simp
theorem bit_0_16 (em : Bool) : nn 0 16 em = em := by unfold nn; rw [show (bits .and .i64 0 16 != 0) = false from by kernel_rfl]; simp
theorem bit_0_32 (em : Bool) : nn 0 32 em = em := by unfold nn; rw [show (bits .and .i64 0 32 != 0) = false from by kernel_rfl]; simp
theorem bit_0_64 (em : Bool) : nn 0 64 em = em := by unfold nn; rw [show (bits .and .i64 0 64 != 0) = false from by kernel_rfl]; simp
theorem bit_0_128 (em : Bool) : nn 0 128 em = em := by unfold nn; rw [show (bits .and .i64 0 128 != 0) = false from by kernel_rfl]; simp
theorem parts_1 : partsI 1 = 3 := by decide
theorem parts_2 : partsI 2 = 8 := by decide
theorem parts_3 : partsI 3 = 0 := by decide
theorem parts_4 : partsI 4 = 3 := by decide
theorem parts_5 : partsI 5 = 3 := by decide
theorem parts_6 : partsI 6 = 6 := by decide
theorem parts_7 : partsI 7 = 0 := by decide
theorem parts_8 : partsI 8 = 0 := by decide
theorem parts_9 : partsI 9 = 0 := by decide
theorem parts_10 : partsI 10 = 0 := by decide
theorem parts_11 : partsI 11 = 1 := by decide
theorem parts_12 : partsI 12 = 1 := by decide
theorem parts_13 : partsI 13 = 1 := by decide
theorem parts_14 : partsI 14 = 1 := by decide
theorem parts_15 : partsI 15 = 1 := by decide
theorem parts_16 : partsI 16 = 1 := by decide
theorem parts_17 : partsI 17 = 1 := by decide
theorem parts_18 : partsI 18 = 1 := by decide
theorem parts_19 : partsI 19 = 1 := by decide
theorem parts_20 : partsI 20 = 1 := by decide
theorem parts_21 : partsI 21 = 1 := by decide
theorem parts_22 : partsI 22 = 1 := by decide
theorem parts_23 : partsI 23 = 5 := by decide
theorem parts_24 : partsI 24 = 3 := by decide
theorem parts_25 : partsI 25 = 2 := by decide
theorem parts_26 : partsI 26 = 6 := by decide
theorem parts_27 : partsI 27 = 6 := by decide
theorem parts_28 : partsI 28 = 6 := by decide
theorem parts_29 : partsI 29 = 6 := by decide
theorem parts_30 : partsI 30 = 134 := by decide
theorem parts_31 : partsI 31 = 116 := by decide
theorem parts_32 : partsI 32 = 116 := by decide
theorem parts_33 : partsI 33 = 116 := by decide
theorem parts_34 : partsI 34 = 16 := by decide
theorem parts_35 : partsI 35 = 64 := by decide
theorem parts_36 : partsI 36 = 0 := by decide
theorem parts_37 : partsI 37 = 1 := by decide
theorem parts_38 : partsI 38 = 1 := by decide
theorem parts_39 : partsI 39 = 64 := by decide
theorem parts_40 : partsI 40 = 64 := by decide
theorem parts_41 : partsI 41 = 0 := by decide
theorem parts_42 : partsI 42 = 0 := by decide
theorem parts_43 : partsI 43 = 0 := by decide
theorem parts_44 : partsI 44 = 1 := by decide
theorem betw_in {o : Int} (h1 : 1 ≤ o) (h2 : o ≤ 44) : betw o 1 44 = true := by unfold betw; simp [h1, h2]
theorem beq_turn (x y : Int) : (x == y) = (y == x) := by
 rw [Bool.eq_iff_iff, beq_iff_eq, beq_iff_eq]; exact eq_comm
theorem const_eq (k a : Int) (f : Bool) : (if k = 1 then a == wrap32 a else decide (k = 2) || decide (k = 3) && f) = (k == 1 && wrap32 a == a || k == 2 || k == 3 && f) := by
 rw [beq_turn a]
 by_cases h1 : k = 1
 ·subst h1; simp
 ·by_cases h2 : k = 2
  ·subst h2; simp
  ·by_cases h3 : k = 3
   ·subst h3; simp
   ·simp [h1, h2, h3]
theorem or_turn (x y z : Bool) : (x || (y || z)) = (y || z || x) := by cases x <;> cases y <;> cases z <;> rfl
theorem cmp_eq (k b : Int) (p q r s t u : Bool) : (p && q && r && s && t && u && (k == 2 && b == 0 || k == 3 && (b == -1 || b == 1))) = ((if k = 3 then p && q && r && s && t && u else p && b == 0 && q && r && s && t && u) && (k == 2 || k == 3 && (b == -1 || b == 1))) := by
 by_cases h3 : k = 3
 ·subst h3; simp
 ·by_cases h2 : k = 2
  ·subst h2; simp
   cases p <;> cases q <;> cases r <;> cases s <;> cases t <;> cases u <;> simp
  ·have e2 : (k == 2) = false := by simpa using h2
   have e3 : (k == 3) = false := by simpa using h3
   simp [e2, e3]
theorem agree (o k a b : Int) (T C N Y : ByteArray) (zs : List Int) (size locals : Int) :
  (betw o 1 44 && noneB (partsI o) k a b T C N Y zs.length && contB o k a b T C N Y zs size locals) = (keptB o k a b T C N Y zs && contS o k a b T C N Y zs size locals) := by
 by_cases ho : 1 ≤ o ∧ o ≤ 44
 ·obtain rfl | rfl | rfl | rfl | rfl | rfl | rfl | rfl | rfl | rfl | rfl | rfl | rfl | rfl | rfl | rfl | rfl | rfl | rfl | rfl | rfl | rfl | rfl | rfl | rfl | rfl | rfl | rfl | rfl | rfl | rfl | rfl | rfl | rfl | rfl | rfl | rfl | rfl | rfl | rfl | rfl | rfl | rfl | rfl :
   o = 1 ∨ o = 2 ∨ o = 3 ∨ o = 4 ∨ o = 5 ∨ o = 6 ∨ o = 7 ∨ o = 8 ∨ o = 9 ∨ o = 10 ∨ o = 11 ∨ o = 12 ∨ o = 13 ∨ o = 14 ∨ o = 15 ∨ o = 16 ∨ o = 17 ∨ o = 18 ∨ o = 19 ∨ o = 20 ∨ o = 21 ∨ o = 22 ∨ o = 23 ∨ o = 24 ∨ o = 25 ∨ o = 26 ∨ o = 27 ∨ o = 28 ∨ o = 29 ∨ o = 30 ∨ o = 31 ∨ o = 32 ∨ o = 33 ∨ o = 34 ∨ o = 35 ∨ o = 36 ∨ o = 37 ∨ o = 38 ∨ o = 39 ∨ o = 40 ∨ o = 41 ∨ o = 42 ∨ o = 43 ∨ o = 44 := by omega
  all_goals (rw [betw_in (by omega) (by omega)])
  all_goals (simp [noneB, keptB, sameB, contB, contS, jumpB, constB, len_nil, any_all, bt_split, betw_len, flop, bit_134_1, bit_134_2, bit_134_4, bit_134_8, bit_134_16, bit_134_32, bit_134_64, bit_134_128, bit_6_1, bit_6_2, bit_6_4, bit_6_8, bit_6_16, bit_6_32, bit_6_64, bit_6_128, bit_2_1, bit_2_2, bit_2_4, bit_2_8, bit_2_16, bit_2_32, bit_2_64, bit_2_128, bit_3_1, bit_3_2, bit_3_4, bit_3_8, bit_3_16, bit_3_32, bit_3_64, bit_3_128, bit_1_1, bit_1_2, bit_1_4, bit_1_8, bit_1_16, bit_1_32, bit_1_64, bit_1_128, bit_5_1, bit_5_2, bit_5_4, bit_5_8, bit_5_16, bit_5_32, bit_5_64, bit_5_128, bit_8_1, bit_8_2, bit_8_4, bit_8_8, bit_8_16, bit_8_32, bit_8_64, bit_8_128, bit_116_1, bit_116_2, bit_116_4, bit_116_8, bit_116_16, bit_116_32, bit_116_64, bit_116_128, bit_64_1, bit_64_2, bit_64_4, bit_64_8, bit_64_16, bit_64_32, bit_64_64, bit_64_128, bit_16_1, bit_16_2, bit_16_4, bit_16_8, bit_16_16, bit_16_32, bit_16_64, bit_16_128, bit_0_1, bit_0_2, bit_0_4, bit_0_8, bit_0_16, bit_0_32, bit_0_64, bit_0_128, parts_1, parts_2, parts_3, parts_4, parts_5, parts_6, parts_7, parts_8, parts_9, parts_10, parts_11, parts_12, parts_13, parts_14, parts_15, parts_16, parts_17, parts_18, parts_19, parts_20, parts_21, parts_22, parts_23, parts_24, parts_25, parts_26, parts_27, parts_28, parts_29, parts_30, parts_31, parts_32, parts_33, parts_34, parts_35, parts_36, parts_37, parts_38, parts_39, parts_40, parts_41, parts_42, parts_43, parts_44])
  ·rw [const_eq]
  ·rw [or_turn]
  ·rw [or_turn]
  ·rw [or_turn]
  ·rw [or_turn]
  ·rw [or_turn]
  ·exact cmp_eq _ _ _ _ _ _ _ _
  ·rw [beq_turn b]; simp only [Bool.and_assoc]
 ·have h1 : betw o 1 44 = false := by unfold betw; simp; omega
  have h2 : contS o k a b T C N Y zs size locals = false := by
   unfold contS
   rw [if_neg (by omega), if_neg (by omega), if_neg (by omega), if_neg (by omega), if_neg (by omega), if_neg (by omega), if_neg (by omega), if_neg (by omega), if_neg (by omega), if_neg (by omega), if_neg (by omega), if_neg (by omega), if_neg (by omega), if_neg (by omega), if_neg (by omega), if_neg (by omega), if_neg (by omega), if_neg (by omega), if_neg (by omega)]
  rw [h1, h2]; simp
def insB (o k a b : Int) (T C N Y : ByteArray) (zs : List Int) (size locals : Int) : Bool := keptB o k a b T C N Y zs && contS o k a b T C N Y zs size locals
theorem contents_calls (o k a b size locals : Int) (T C N Y : ByteArray) (v : Value) (zs : List Int) (w : World) (ht : Tab w v zs) (hz : zs.length ≤ 1048576)
  (ha1 : -9223372036854775808 ≤ a) (ha2 : a < 9223372036854775808) (hT : T.size ≤ 1048576) (hC : C.size ≤ 1048576) (hN : N.size ≤ 1048576) (hY : Y.size ≤ 1048576) (hsh : w.ShapedOpen Tryz.prog) :
  Calls Tryz.prog 215 #[insV o k a b T C N Y v, .int .i64 size, .int .i64 locals] w fun e w' => e = .returned (.bool (contB o k a b T C N Y zs size locals)) ∧ Below w.heap.size w w' := by
 rcases parts_allP o with h | h | h | h | h | h | h | h
 ·exact contents_A o k a b size locals T C N Y v zs w ht hz ha1 ha2 hT hC hN hY hsh h
 ·exact contents_B o k a b size locals T C N Y v zs w ht hz ha1 ha2 hT hC hN hY hsh h
 ·exact contents_C o k a b size locals T C N Y v zs w ht hz ha1 ha2 hT hC hN hY hsh h
 ·exact contents_D o k a b size locals T C N Y v zs w ht hz ha1 ha2 hT hC hN hY hsh h
 ·exact contents_E o k a b size locals T C N Y v zs w ht hz ha1 ha2 hT hC hN hY hsh h
 ·exact contents_F o k a b size locals T C N Y v zs w ht hz ha1 ha2 hT hC hN hY hsh h
 ·exact contents_G o k a b size locals T C N Y v zs w ht hz ha1 ha2 hT hC hN hY hsh h
 ·exact contents_H o k a b size locals T C N Y v zs w ht hz ha1 ha2 hT hC hN hY hsh h
theorem implIns_calls (o k a b size locals : Int) (T C N Y : ByteArray) (v : Value) (zs : List Int) (w : World) (ht : Tab w v zs) (hz : zs.length ≤ 1048576)
  (ha1 : -9223372036854775808 ≤ a) (ha2 : a < 9223372036854775808) (hT : T.size ≤ 1048576) (hC : C.size ≤ 1048576) (hN : N.size ≤ 1048576) (hY : Y.size ≤ 1048576) (hsh : w.ShapedOpen Tryz.prog) :
  Calls Tryz.prog 195 #[insV o k a b T C N Y v, .int .i64 size, .int .i64 locals] w fun e w' => e = .returned (.bool (insB o k a b T C N Y zs size locals)) ∧ Below w.heap.size w w' := by
 unfold insB
 rw [← agree]
 obtain ⟨ta, c, rfl⟩ := ht.form
 exact insRegion _ _ _ o k a b _ size locals T C N Y ta zs.length c w (fun W => between_calls _ _ _ W) (fun W => partsOf_calls o W) (fun W => noneBeside_calls o k a b _ T C N Y ta zs.length c W)
  (fun W hW => contents_calls o k a b size locals T C N Y _ zs W (ht.kept hW) hz ha1 ha2 hT hC hN hY (shaped_below hsh hW))
theorem specIns_calls (o k a b size locals : Int) (T C N Y : ByteArray) (v : Value) (zs : List Int) (w : World) (ht : Tab w v zs) (hz : zs.length ≤ 1048576)
  (hT : T.size ≤ 1048576) (hC : C.size ≤ 1048576) (hN : N.size ≤ 1048576) (hY : Y.size ≤ 1048576) :
  SpecSays o k a b T C N Y v size locals w (insB o k a b T C N Y zs size locals) := by
 unfold insB
 cases hk : keptB o k a b T C N Y zs with
 | false => rw [Bool.false_and]; exact spec_not o k a b size locals T C N Y v zs w ht hz hk
 | true =>
  rw [Bool.true_and]
  rcases (show o = 1 ∨ o = 23 ∨ o = 30 ∨ QZ o by unfold QZ; omega) with h | h | h | h
  ·subst h
   show SpecSays 1 k a b T C N Y v size locals w ((k == 1 && wrap32 a == a) || k == 2 || (k == 3 && fltOk a))
   cases h1 : (k == 1) with
   | true =>
    have e := eq_of_beq h1
    have h2 : (k == 2) = false := by rw [e]; rfl
    have h3 : (k == 3) = false := by rw [e]; rfl
    cases hw : (wrap32 a == a) with
    | true => exact specOne_a k a b size locals T C N Y v zs w ht hz hk h1 hw
    | false => rw [h2, h3]; exact specOne_b k a b size locals T C N Y v zs w ht hz hk h1 hw h2 h3
   | false =>
    cases h2 : (k == 2) with
    | true => rw [Bool.false_and, Bool.false_or, Bool.true_or]; exact specOne_c k a b size locals T C N Y v zs w ht hz hk h1 h2
    | false =>
     rw [Bool.false_and, Bool.false_or, Bool.false_or]
     cases h3 : (k == 3) with
     | true =>
      rw [Bool.true_and]
      unfold fltOk
      cases ho : decide (openC a < 2) with
      | true => exact specOne_d k a b size locals T C N Y v zs w ht hz hk h1 h2 h3 ho
      | false => exact specOne_e k a b size locals T C N Y v zs w ht hz hk h1 h2 h3 ho
     | false => exact specOne_f k a b size locals T C N Y v zs w ht hz hk h1 h2 h3
  ·subst h
   show SpecSays 23 k a b T C N Y v size locals w (k == 2 || (k == 3 && (b == -1 || b == 1)))
   by_cases hsg : 0 ≤ a
   ·cases h2 : (k == 2) with
    | true => exact specCmp_ap k a b size locals T C N Y v zs w ht hz hk hsg h2
    | false =>
     cases h3 : (k == 3) with
     | false => exact specCmp_bp k a b size locals T C N Y v zs w ht hz hk hsg h2 h3
     | true =>
      cases hb : (b == -1) with
      | true => exact specCmp_cp k a b size locals T C N Y v zs w ht hz hk hsg h2 h3 hb
      | false => exact specCmp_dp k a b size locals T C N Y v zs w ht hz hk hsg h2 h3 hb
   ·have hsg : a < 0 := by omega
    cases h2 : (k == 2) with
    | true => exact specCmp_an k a b size locals T C N Y v zs w ht hz hk hsg h2
    | false =>
     cases h3 : (k == 3) with
     | false => exact specCmp_bn k a b size locals T C N Y v zs w ht hz hk hsg h2 h3
     | true =>
      cases hb : (b == -1) with
      | true => exact specCmp_cn k a b size locals T C N Y v zs w ht hz hk hsg h2 h3 hb
      | false => exact specCmp_dn k a b size locals T C N Y v zs w ht hz hk hsg h2 h3 hb
  ·subst h
   show SpecSays 30 k a b T C N Y v size locals w (wthn a size && (wrap32 b == b) && decide ((0 : Int) < zs.length) && decide ((zs.length : Int) ≤ 100) && zs.all fun z => wthn z size)
   by_cases hsg : 0 ≤ a
   ·have hwt : wthn a size = decide (a < size) := by unfold wthn; simp [hsg]
    rw [hwt]
    cases h7 : decide (a < size) with
    | false => exact specSw_b k a b size locals T C N Y v zs w ht hz hk hsg h7
    | true =>
     cases hw : (wrap32 b == b) with
     | false => exact specSw_c k a b size locals T C N Y v zs w ht hz hk hsg h7 hw
     | true =>
      by_cases hn : 0 < zs.length
      ·have : decide ((0 : Int) < zs.length) = true := decide_eq_true (by omega)
       rw [this]
       exact specSw_d k a b size locals T C N Y v zs w ht hz hk hsg h7 hw hn
      ·have : decide ((0 : Int) < zs.length) = false := decide_eq_false (by omega)
       rw [this]
       exact specSw_e k a b size locals T C N Y v zs w ht hz hk hsg h7 hw (by omega)
   ·have hwt : wthn a size = false := by unfold wthn; simp [hsg]
    rw [hwt]
    exact specSw_a k a b size locals T C N Y v zs w ht hz hk (by omega)
  all_goals (by_cases hsg : 0 ≤ a)
  ·exact spec_Qp o k a b size locals T C N Y v zs w ht hz hT hC hN hY hk h hsg
  ·exact spec_Qn o k a b size locals T C N Y v zs w ht hz hT hC hN hY hk h (by omega)
end Go.Proofs.YtjjccimeikkogaaGreatDoor
