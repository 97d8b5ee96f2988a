import Derived.WalkKit
import Derived.ProofKit
import Derived.Laws.FloatArith
import Derived.KernelRfl
import Derived.Test.YtjjccimeikkogaaGreatDoorRows
import Derived.OpenShut
import Derived.Deep.WholeRow
import Derived.WalkLawsBesides
namespace Go.Proofs.YtjjccimeikkogaaGreatDoor
open Go.ChangeShapes Go.WideShapes Go.ChangeAt Go.RowKit
theorem wrap_i64 (n : Int) : IntKind.i64.wrap n = wrap64 n := by
 simp only [IntKind.wrap, IntKind.bits, IntKind.signed, wrap64]
 simp
 split <;> omega
theorem wrap64_id (n : Int) (h1 : -9223372036854775808 ≤ n) (h2 : n < 9223372036854775808) : wrap64 n = n := by
 unfold wrap64; omega
theorem and_mask (n : Int) (k : Nat) (hk : k < 64) : bits .and .i64 n (2 ^ k - 1) = n % 2 ^ k := by
 have hp : (2 : Nat) ^ k ≤ 2 ^ 63 := Nat.pow_le_pow_right (by decide) (by omega)
 have h1 : 0 < (2 : Nat) ^ k := Nat.pow_pos (by decide)
 have e2 : (BitVec.ofInt 64 ((2 : Int) ^ k - 1)).toNat = 2 ^ k - 1 := by
  have : ((2 : Int) ^ k - 1) = ((2 ^ k - 1 : Nat) : Int) := by
   rw [Int.ofNat_sub h1]; simp
  rw [this, BitVec.ofInt_natCast, BitVec.toNat_ofNat]
  apply Nat.mod_eq_of_lt; omega
 show IntKind.i64.wrap ((BitVec.ofInt 64 n &&& BitVec.ofInt 64 ((2 : Int) ^ k - 1)).toNat) = _
 rw [wrap_i64, BitVec.toNat_and, e2, Nat.and_two_pow_sub_one_eq_mod, BitVec.toNat_ofInt]
 have hd : ((2 ^ k : Nat) : Int) ∣ ((2 ^ 64 : Nat) : Int) := by
  refine Int.natCast_dvd_natCast.2 (Nat.pow_dvd_pow 2 (by omega))
 have e3 : (((n % (2 ^ 64 : Nat)).toNat % 2 ^ k : Nat) : Int) = n % 2 ^ k := by
  have h0 : 0 ≤ n % ((2 ^ 64 : Nat) : Int) := Int.emod_nonneg _ (by decide)
  rw [Int.natCast_emod, Int.toNat_of_nonneg h0, Int.emod_emod_of_dvd _ hd]
  simp
 rw [e3]
 have hb : n % 2 ^ k < 2 ^ k := Int.emod_lt_of_pos _ (by exact_mod_cast h1)
 have hb0 : 0 ≤ n % 2 ^ k := Int.emod_nonneg _ (by have : (0 : Int) < 2 ^ k := by exact_mod_cast h1
                                                   omega)
 have hp' : (2 : Int) ^ k ≤ 2 ^ 63 := by exact_mod_cast hp
 exact wrap64_id _ (by omega) (by omega)
theorem and32 (n : Int) : bits .and .i64 n 4294967295 = n % 4294967296 := and_mask n 32 (by decide)
open Ieee
theorem sign_d : double.signWeight = 9223372036854775808 := by kernel_rfl
theorem binade_d : double.binade = 4503599627370496 := by kernel_rfl
theorem inf_d : double.infRung = 9218868437227405312 := by kernel_rfl
theorem least_d : double.leastPlace = -1074 := by kernel_rfl
theorem read_word (neg : Bool) (r : Nat) (h : r < 9223372036854775808) :
  double.read (double.word neg r) = if r < 4503599627370496 then .number neg r (-1074) else if r < 9218868437227405312 then .number neg (4503599627370496 + r % 4503599627370496) (-1074 + (r / 4503599627370496 - 1 : Nat)) else if r = 9218868437227405312 then .infinity neg else .nan neg (r - 9218868437227405312) := by
 unfold Format.read Format.word
 rw [sign_d, binade_d, inf_d, least_d]
 cases neg
 ·have h1 : r / 9223372036854775808 % 2 = 0 := by omega
  have h2 : r % 9223372036854775808 = r := by omega
  simp only [Bool.false_eq_true, if_false, h1, h2]
  rfl
 ·have h1 : (9223372036854775808 + r) / 9223372036854775808 % 2 = 1 := by omega
  have h2 : (9223372036854775808 + r) % 9223372036854775808 = r := by omega
  rw [if_pos rfl]
  simp only [h1, h2]
  rfl
def sig (r : Nat) : Nat := if r < 4503599627370496 then r else 4503599627370496 + r % 4503599627370496
def ex (r : Nat) : Nat := r / 4503599627370496 - 1
def val (r : Nat) : Nat := sig r * 2 ^ ex r
theorem read_finite (neg : Bool) (r : Nat) (h : r < 9218868437227405312) : double.read (double.word neg r) = .number neg (sig r) (-1074 + (ex r : Nat)) := by
 rw [read_word neg r (by omega)]
 unfold sig ex
 by_cases h1 : r < 4503599627370496
 ·have : r / 4503599627370496 - 1 = 0 := by omega
  rw [if_pos h1, if_pos h1, this]; rfl
 ·rw [if_neg h1, if_pos h, if_neg h1]
theorem val_lt {r s : Nat} (h : r < s) : val r < val s := by
 unfold val sig ex
 by_cases hr : r < 4503599627370496
 ·have e0 : r / 4503599627370496 - 1 = 0 := by omega
  rw [if_pos hr, e0, Nat.pow_zero, Nat.mul_one]
  by_cases hs : s < 4503599627370496
  ·have e1 : s / 4503599627370496 - 1 = 0 := by omega
   rw [if_pos hs, e1]; omega
  ·rw [if_neg hs]
   have : 1 ≤ 2 ^ (s / 4503599627370496 - 1) := Nat.two_pow_pos _
   have := Nat.mul_le_mul_left (4503599627370496 + s % 4503599627370496) this
   omega
 ·have hs : ¬ s < 4503599627370496 := by omega
  rw [if_neg hr, if_neg hs]
  by_cases he : r / 4503599627370496 = s / 4503599627370496
  ·rw [he]
   exact Nat.mul_lt_mul_of_pos_right (by omega) (Nat.two_pow_pos _)
  ·have hk : r / 4503599627370496 - 1 + 1 ≤ s / 4503599627370496 - 1 := by omega
   have h1 : (4503599627370496 + r % 4503599627370496) * 2 ^ (r / 4503599627370496 - 1) < 4503599627370496 * 2 ^ (r / 4503599627370496 - 1 + 1) := by
    rw [Nat.pow_succ, Nat.mul_comm (2 ^ _) 2, ← Nat.mul_assoc]
    exact Nat.mul_lt_mul_of_pos_right (by omega) (Nat.two_pow_pos _)
   have h2 : 4503599627370496 * 2 ^ (r / 4503599627370496 - 1 + 1) ≤ 4503599627370496 * 2 ^ (s / 4503599627370496 - 1) :=
    Nat.mul_le_mul_left _ (Nat.pow_le_pow_right (by decide) hk)
   have h3 : 4503599627370496 * 2 ^ (s / 4503599627370496 - 1) ≤ (4503599627370496 + s % 4503599627370496) * 2 ^ (s / 4503599627370496 - 1) :=
    Nat.mul_le_mul_right _ (by omega)
   omega
def sg (neg : Bool) (r : Nat) : Int := if neg then -(r : Int) else (r : Int)
theorem compare_int (a b c d : Int) (h1 : a < b ↔ c < d) (h2 : a = b ↔ c = d) : compare a b = compare c d := by
 simp only [compare, compareOfLessAndEq, h1, h2]
theorem signed_shift (s : Bool) (m x k : Nat) (hk : k ≤ x) : signed s m (x - k) * (2 : Int) ^ k = sg s (m * 2 ^ x) := by
 unfold signed sg
 have e : (m <<< (x - k)) * 2 ^ k = m * 2 ^ x := by
  rw [Nat.shiftLeft_eq, Nat.mul_assoc, ← Nat.pow_add, show x - k + k = x by omega]
 have e' : ((m <<< (x - k) : Nat) : Int) * 2 ^ k = ((m * 2 ^ x : Nat) : Int) := by rw [← e]; simp
 cases s
 ·simpa using e'
 ·simp only [if_true]
  rw [Int.neg_mul, e']
theorem mul_pow_lt (a b : Int) (k : Nat) : a * 2 ^ k < b * 2 ^ k ↔ a < b := by
 have hp : (0 : Int) < 2 ^ k := Int.pow_pos (by decide)
 exact ⟨fun h => Int.lt_of_mul_lt_mul_right h (Int.le_of_lt hp), fun h => Int.mul_lt_mul_of_pos_right h hp⟩
theorem sg_val_lt (s t : Bool) (a b : Nat) : (sg s (val a) < sg t (val b)) ↔ (sg s a < sg t b) := by
 have z : val 0 = 0 := by decide
 have mono : ∀ x y : Nat, val x < val y ↔ x < y := fun x y => ⟨fun h => by
  rcases Nat.lt_trichotomy x y with h' | h' | h'
  ·exact h'
  ·subst h'; omega
  ·have := val_lt h'; omega, val_lt⟩
 have p1 := mono 0 a
 have p2 := mono 0 b
 have p3 := mono a b
 have p4 := mono b a
 rw [z] at p1 p2
 unfold sg
 cases s <;> cases t <;> simp <;> omega
theorem order_finite (s t : Bool) (a b : Nat) : (Datum.number s (sig a) (-1074 + (ex a : Nat))).order (.number t (sig b) (-1074 + (ex b : Nat))) = some (compare (sg s a) (sg t b)) := by
 have hb : min (-1074 + (ex a : Int)) (-1074 + (ex b : Int)) = -1074 + ((min (ex a) (ex b) : Nat) : Int) := by omega
 have h1 : (-1074 + (ex a : Int) - (-1074 + ((min (ex a) (ex b) : Nat) : Int))).toNat = ex a - min (ex a) (ex b) := by omega
 have h2 : (-1074 + (ex b : Int) - (-1074 + ((min (ex a) (ex b) : Nat) : Int))).toNat = ex b - min (ex a) (ex b) := by omega
 simp only [Datum.order, hb, h1, h2]
 congr 1
 have m1 := signed_shift s (sig a) (ex a) (min (ex a) (ex b)) (Nat.min_le_left _ _)
 have m2 := signed_shift t (sig b) (ex b) (min (ex a) (ex b)) (Nat.min_le_right _ _)
 have hlt := mul_pow_lt (signed s (sig a) (ex a - min (ex a) (ex b))) (signed t (sig b) (ex b - min (ex a) (ex b))) (min (ex a) (ex b))
 have hgt := mul_pow_lt (signed t (sig b) (ex b - min (ex a) (ex b))) (signed s (sig a) (ex a - min (ex a) (ex b))) (min (ex a) (ex b))
 rw [m1, m2] at hlt
 rw [m1, m2] at hgt
 have v1 := sg_val_lt s t a b
 have v2 := sg_val_lt t s b a
 unfold val at v1 v2
 apply compare_int
 ·rw [← hlt, v1]
 ·constructor
  ·intro h; rcases Int.lt_trichotomy (sg s a) (sg t b) with h' | h' | h'
   ·have := hlt.1 (v1.2 h'); omega
   ·exact h'
   ·have := hgt.1 (v2.2 h'); omega
  ·intro h
   rcases Int.lt_trichotomy (signed s (sig a) (ex a - min (ex a) (ex b))) (signed t (sig b) (ex b - min (ex a) (ex b))) with h' | h' | h'
   ·have := v1.1 (hlt.2 h'); omega
   ·exact h'
   ·have := v2.1 (hgt.2 h'); omega
theorem read_inf (neg : Bool) : double.read (double.word neg 9218868437227405312) = .infinity neg := by
 rw [read_word neg _ (by decide), if_neg (by decide), if_neg (by decide), if_pos rfl]
theorem read_nan (neg : Bool) (r : Nat) (h : 9218868437227405312 < r) (h2 : r < 9223372036854775808) : double.read (double.word neg r) = .nan neg (r - 9218868437227405312) := by
 rw [read_word neg _ h2, if_neg (by omega), if_neg (by omega), if_neg (by omega)]
theorem compare_lt {x y : Int} (h : x < y) : compare x y = .lt := by simp [compare, compareOfLessAndEq, h]
theorem compare_gt {x y : Int} (h : y < x) : compare x y = .gt := by
 have h1 : ¬ x < y := by omega
 have h2 : ¬ x = y := by omega
 simp [compare, compareOfLessAndEq, h1, h2]
theorem compare_eq {x y : Int} (h : x = y) : compare x y = .eq := by subst h; simp [compare, compareOfLessAndEq]
theorem order_words (s t : Bool) (a b : Nat) (ha : a < 9223372036854775808) (hb : b < 9223372036854775808) :
  double.order (double.word s a) (double.word t b) = if 9218868437227405312 < a ∨ 9218868437227405312 < b then none else some (compare (sg s a) (sg t b)) := by
 unfold Format.order
 by_cases h : 9218868437227405312 < a ∨ 9218868437227405312 < b
 ·rw [if_pos h]
  rcases h with h | h
  ·rw [read_nan s a h ha]; rfl
  ·rw [read_nan t b h hb]
   cases double.read (double.word s a) <;> rfl
 ·rw [if_neg h]
  by_cases h1 : a = 9218868437227405312
  ·subst h1
   rw [read_inf]
   by_cases h2 : b = 9218868437227405312
   ·subst h2
    rw [read_inf]
    cases s <;> cases t <;> decide
   ·rw [read_finite t b (by omega)]
    show some _ = some _
    congr 1
    unfold sg
    cases s
    ·symm; apply compare_gt; cases t <;> simp <;> omega
    ·symm; apply compare_lt; cases t <;> simp <;> omega
  ·rw [read_finite s a (by omega)]
   by_cases h2 : b = 9218868437227405312
   ·subst h2
    rw [read_inf]
    show some _ = some _
    congr 1
    unfold sg
    cases t
    ·symm; apply compare_lt; cases s <;> simp <;> omega
    ·symm; apply compare_gt; cases s <;> simp <;> omega
   ·rw [read_finite t b (by omega)]
    exact order_finite s t a b
def rung (a : Int) : Nat := (a % 9223372036854775808).toNat
theorem rung_lt (a : Int) : rung a < 9223372036854775808 := by unfold rung; omega
theorem word_of (a : Int) (h1 : -9223372036854775808 ≤ a) (h2 : a < 9223372036854775808) : (IntKind.u64.wrap a).toNat = double.word (decide (a < 0)) (rung a) := by
 have e : IntKind.u64.wrap a = a % 18446744073709551616 := by
  simp only [IntKind.wrap, IntKind.bits, IntKind.signed]
  simp
 rw [e]
 unfold Format.word rung
 rw [sign_d]
 by_cases h : a < 0
 ·simp [h]; omega
 ·simp [h]; omega
def key (a : Int) : Int := sg (decide (a < 0)) (rung a)
def isNo (a : Int) : Prop := 9218868437227405312 < rung a
instance (a : Int) : Decidable (isNo a) := inferInstanceAs (Decidable (_ < _))
theorem order_bits (a b : Int) (h1 : -9223372036854775808 ≤ a) (h2 : a < 9223372036854775808) (h3 : -9223372036854775808 ≤ b) (h4 : b < 9223372036854775808) :
  FloatKind.f64.format.order (IntKind.u64.wrap a).toNat (IntKind.u64.wrap b).toNat = if isNo a ∨ isNo b then none else some (compare (key a) (key b)) := by
 rw [word_of a h1 h2, word_of b h3 h4]
 exact order_words _ _ _ _ (rung_lt a) (rung_lt b)
def openK (a : Int) : Int := a / 4503599627370496 % 2048
def openF (a : Int) : Int := a % 4503599627370496
theorem and_K (a : Int) : bits .and .i64 (a / 4503599627370496) 2047 = openK a := and_mask _ 11 (by decide)
theorem and_F (a : Int) : bits .and .i64 a 4503599627370495 = openF a := and_mask _ 52 (by decide)
def real (s : Bool) (m e c : Int) : Array Value := #[.bool s, .int .i64 m, .int .i64 e, .int .i64 c]
theorem open_nan (a : Int) (hk : openK a = 2047) (hf : (openF a != 0) = true) (w : World) :
  Calls Tryz.prog 205 #[.int .i64 a] w fun e w' => e = .returned (.agg (real (decide (a < 0)) 0 0 2)) ∧ w' = (w.alloc (.cells (real (decide (a < 0)) 0 0 2) 214)).alloc (.cells (real (decide (a < 0)) 0 0 2) 214) := by
 have h1 := and_K a
 have h2 := and_F a
 rw [hk] at h1
 clear hk
 go_enter Tryz.func205, Tryz.ntmps205
 go_wp2
 exact bodyPost_ret (v := .agg (real (decide (a < 0)) 0 0 2)) (results_cell_row rfl _ _ w.heap.size 214 _ (0, 0) _ rfl (heap_alloc2_old w _ _) Tryz.underlying214 rfl (by kernel_rfl)) rfl ⟨rfl, rfl⟩
theorem open_inf (a : Int) (hk : openK a = 2047) (hf : openF a = 0) (w : World) :
  Calls Tryz.prog 205 #[.int .i64 a] w fun e w' => e = .returned (.agg (real (decide (a < 0)) 0 0 1)) ∧ w' = (w.alloc (.cells (real (decide (a < 0)) 0 0 1) 214)).alloc (.cells (real (decide (a < 0)) 0 0 1) 214) := by
 have h1 := and_K a
 have h2 := and_F a
 rw [hk] at h1
 rw [hf] at h2
 clear hk hf
 go_enter Tryz.func205, Tryz.ntmps205
 go_wp2
 exact bodyPost_ret (v := .agg (real (decide (a < 0)) 0 0 1)) (results_cell_row rfl _ _ w.heap.size 214 _ (0, 0) _ rfl (heap_alloc2_old w _ _) Tryz.underlying214 rfl (by kernel_rfl)) rfl ⟨rfl, rfl⟩
theorem open_sub (a : Int) (hk : openK a = 0) (w : World) :
  Calls Tryz.prog 205 #[.int .i64 a] w fun e w' => e = .returned (.agg (real (decide (a < 0)) (openF a) (-1074) 0)) ∧ w' = (w.alloc (.cells (real (decide (a < 0)) (openF a) (-1074) 0) 214)).alloc (.cells (real (decide (a < 0)) (openF a) (-1074) 0) 214) := by
 have h1 := and_K a
 have h2 := and_F a
 rw [hk] at h1
 clear hk
 go_enter Tryz.func205, Tryz.ntmps205
 go_wp2
 exact bodyPost_ret (v := .agg (real (decide (a < 0)) (openF a) (-1074) 0)) (results_cell_row rfl _ _ w.heap.size 214 _ (0, 0) _ rfl (heap_alloc2_old w _ _) Tryz.underlying214 rfl (by kernel_rfl)) rfl ⟨rfl, rfl⟩
theorem open_nor (a : Int) (hk : (openK a == 2047) = false) (hk0 : (openK a == 0) = false) (b1 : 0 ≤ openK a) (b2 : openK a < 2048) (b3 : 0 ≤ openF a) (b4 : openF a < 4503599627370496) (w : World) :
  Calls Tryz.prog 205 #[.int .i64 a] w fun e w' => e = .returned (.agg (real (decide (a < 0)) (openF a + 4503599627370496) (openK a - 1075) 0)) ∧ w' = (w.alloc (.cells (real (decide (a < 0)) (openF a + 4503599627370496) (openK a - 1075) 0) 214)).alloc (.cells (real (decide (a < 0)) (openF a + 4503599627370496) (openK a - 1075) 0) 214) := by
 have h1 := and_K a
 have h2 := and_F a
 go_enter Tryz.func205, Tryz.ntmps205
 go_wp2
 exact bodyPost_ret (v := .agg (real (decide (a < 0)) (openF a + 4503599627370496) (openK a - 1075) 0)) (results_cell_row rfl _ _ w.heap.size 214 _ (0, 0) _ rfl (heap_alloc2_old w _ _) Tryz.underlying214 rfl (by kernel_rfl)) rfl ⟨rfl, rfl⟩
def openM (a : Int) : Int := if openK a = 2047 then 0 else if openK a = 0 then openF a else openF a + 4503599627370496
def openE (a : Int) : Int := if openK a = 2047 then 0 else if openK a = 0 then -1074 else openK a - 1075
def openC (a : Int) : Int := if openK a = 2047 then (if openF a = 0 then 1 else 2) else 0
def realOf (a : Int) : Array Value := real (decide (a < 0)) (openM a) (openE a) (openC a)
theorem open_calls (a : Int) (w : World) :
  Calls Tryz.prog 205 #[.int .i64 a] w fun e w' => e = .returned (.agg (realOf a)) ∧ w' = (w.alloc (.cells (realOf a) 214)).alloc (.cells (realOf a) 214) := by
 unfold realOf openM openE openC
 by_cases hk : openK a = 2047
 ·by_cases hf : openF a = 0
  ·simp only [if_pos hk, if_pos hf]; exact open_inf a hk hf w
  ·simp only [if_pos hk, if_neg hf]; exact open_nan a hk (by simpa using hf) w
 ·by_cases h0 : openK a = 0
  ·simp only [if_neg hk, if_pos h0]; exact open_sub a h0 w
  ·simp only [if_neg hk, if_neg h0]
   exact open_nor a (by simpa using hk) (by simpa using h0) (by unfold openK; omega) (by unfold openK; omega) (by unfold openF; omega) (by unfold openF; omega) w
theorem rung_parts (a : Int) : (rung a : Int) = openK a * 4503599627370496 + openF a := by unfold rung openK openF; omega
theorem class_no (a : Int) : openC a = 2 ↔ isNo a := by
 have := rung_parts a
 have h1 : 0 ≤ openK a ∧ openK a < 2048 := by unfold openK; omega
 have h2 : 0 ≤ openF a ∧ openF a < 4503599627370496 := by unfold openF; omega
 unfold openC isNo
 split
 ·split <;> omega
 ·omega
end Go.Proofs.YtjjccimeikkogaaGreatDoor
