/- Names of letters, digits, _, . and $, as lists of bytes: what both sides say of a name. -/
import Derived.Test.YtkfbgghkcojdpaaDoorRows
import Derived.WalkKit
import Derived.ProofKit
import Derived.OpenShut
import Derived.ShutString
import Derived.Laws.RangeAny
namespace Go.Proofs.YtkfbgghkcojdpaaDoor
open Go.RowKit

def letterI (n : Int) : Bool := decide (97 ≤ n) && decide (n ≤ 122) || decide (65 ≤ n) && decide (n ≤ 90)
def innerI (n : Int) : Bool := decide (48 ≤ n) && decide (n ≤ 57) || n == 95 || n == 46 || n == 36
def partB (b : UInt8) : Bool := letterI (b.toNat : Int) || innerI (b.toNat : Int)
def nameOk (l : List UInt8) : Bool := match l with
  | [] => false
  | b :: t => decide (t.length < 40) && letterI (b.toNat : Int) && t.all partB

theorem all_take_succ {p : UInt8 → Bool} {l : List UInt8} {i : Nat} (h : i < l.length) (h1 : (l.take i).all p = true) (h2 : p l[i] = true) : (l.take (i + 1)).all p = true := by
  rw [List.take_succ_eq_append_getElem h, List.all_append, h1]; simp [h2]
theorem all_false_at {p : UInt8 → Bool} {l : List UInt8} {i : Nat} (h : i < l.length) (h2 : p l[i] = false) : l.all p = false := by
  rw [List.all_eq_false]; exact ⟨l[i], List.getElem_mem h, by simp [h2]⟩
theorem nameOk_nil {l : List UInt8} (h : l.length = 0) : nameOk l = false := by cases l <;> simp_all [nameOk]
theorem nameOk_long {l : List UInt8} (h : 40 < l.length) : nameOk l = false := by cases l <;> simp_all [nameOk]; omega
theorem nameOk_head {l : List UInt8} (h : 0 < l.length) (h2 : letterI (l[0].toNat : Int) = false) : nameOk l = false := by cases l <;> simp_all [nameOk]
theorem nameOk_part {l : List UInt8} {i : Nat} (h : i < l.length) (h2 : partB l[i] = false) : nameOk l = false := by
  cases l with
  | nil => rfl
  | cons b t =>
    cases i with
    | zero => simp [partB] at h2; simp [nameOk, h2.1]
    | succ k =>
      simp at h h2
      have := all_false_at (p := partB) h h2
      simp [nameOk, this]
theorem nameOk_whole {l : List UInt8} (h : 0 < l.length) (h4 : l.length ≤ 40) (h2 : letterI (l[0].toNat : Int) = true) (h3 : l.all partB = true) : nameOk l = true := by
  cases l with
  | nil => simp at h
  | cons b t => simp_all [nameOk]; omega

set_option maxRecDepth 1000000 in
theorem specLetter_calls (n : Int) (w : World) : Calls Tryd.prog 50 #[.int .u8 n] w fun e w' => e = .returned (.bool (letterI n)) ∧ w' = w := by
  go_enter Tryd.func50, Tryd.ntmps50
  go_wp2
  all_goals (go_ret; refine ⟨?_, rfl⟩; simp_all [letterI])
  all_goals omega
set_option maxRecDepth 1000000 in
theorem isLetter_calls (n : Int) (w : World) : Calls Tryd.prog 45 #[.int .i32 n] w fun e w' => e = .returned (.bool (letterI n)) ∧ w' = w := by
  go_enter Tryd.func45, Tryd.ntmps45
  go_wp2
  all_goals (go_ret; refine ⟨?_, rfl⟩; simp_all [letterI])
  all_goals omega
set_option maxRecDepth 1000000 in
theorem isInner_calls (n : Int) (w : World) : Calls Tryd.prog 46 #[.int .i32 n] w fun e w' => e = .returned (.bool (innerI n)) ∧ w' = w := by
  go_enter Tryd.func46, Tryd.ntmps46
  go_wp2
  all_goals (go_ret; refine ⟨?_, rfl⟩; simp_all [innerI])
  all_goals (have h48 : ¬ 48 ≤ n := by omega)
  all_goals simp [h48]
end Go.Proofs.YtkfbgghkcojdpaaDoor
