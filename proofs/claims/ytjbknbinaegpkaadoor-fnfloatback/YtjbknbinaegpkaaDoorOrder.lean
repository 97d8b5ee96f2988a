/- How two words of 64 bits stand to each other as floats: by their signs and their lower 63 bits. -/
import Derived.Test.YtjbknbinaegpkaaDoorFlt
namespace Go.Proofs.YtjbknbinaegpkaaDoor
open Ieee

def sig (r : Nat) : Nat := if r < 4503599627370496 then r else 4503599627370496 + r % 4503599627370496
def ex (r : Nat) : Nat := r / 4503599627370496 - 1
/-- What a finite rung stands for, in the smallest unit. -/
def val (r : Nat) : Nat := sig r * 2 ^ ex r

theorem read_finite (neg : Bool) (r : Nat) (h : r < 9218868437227405312) : double.read (double.word neg r) = .number neg (sig r) (-1074 + (ex r : Nat)) := by
  rw [read_word neg r (by omega)]
  unfold sig ex
  by_cases h1 : r < 4503599627370496
  · have : r / 4503599627370496 - 1 = 0 := by omega
    rw [if_pos h1, if_pos h1, this]; rfl
  · rw [if_neg h1, if_pos h, if_neg h1]

theorem val_lt {r s : Nat} (h : r < s) : val r < val s := by
  unfold val sig ex
  by_cases hr : r < 4503599627370496
  · have e0 : r / 4503599627370496 - 1 = 0 := by omega
    rw [if_pos hr, e0, Nat.pow_zero, Nat.mul_one]
    by_cases hs : s < 4503599627370496
    · have e1 : s / 4503599627370496 - 1 = 0 := by omega
      rw [if_pos hs, e1]; omega
    · rw [if_neg hs]
      have : 1 ≤ 2 ^ (s / 4503599627370496 - 1) := Nat.two_pow_pos _
      have := Nat.mul_le_mul_left (4503599627370496 + s % 4503599627370496) this
      omega
  · have hs : ¬ s < 4503599627370496 := by omega
    rw [if_neg hr, if_neg hs]
    by_cases he : r / 4503599627370496 = s / 4503599627370496
    · rw [he]
      exact Nat.mul_lt_mul_of_pos_right (by omega) (Nat.two_pow_pos _)
    · have hk : r / 4503599627370496 - 1 + 1 ≤ s / 4503599627370496 - 1 := by omega
      have h1 : (4503599627370496 + r % 4503599627370496) * 2 ^ (r / 4503599627370496 - 1) < 4503599627370496 * 2 ^ (r / 4503599627370496 - 1 + 1) := by
        rw [Nat.pow_succ, Nat.mul_comm (2 ^ _) 2, ← Nat.mul_assoc]
        exact Nat.mul_lt_mul_of_pos_right (by omega) (Nat.two_pow_pos _)
      have h2 : 4503599627370496 * 2 ^ (r / 4503599627370496 - 1 + 1) ≤ 4503599627370496 * 2 ^ (s / 4503599627370496 - 1) :=
        Nat.mul_le_mul_left _ (Nat.pow_le_pow_right (by decide) hk)
      have h3 : 4503599627370496 * 2 ^ (s / 4503599627370496 - 1) ≤ (4503599627370496 + s % 4503599627370496) * 2 ^ (s / 4503599627370496 - 1) :=
        Nat.mul_le_mul_right _ (by omega)
      omega

def sg (neg : Bool) (r : Nat) : Int := if neg then -(r : Int) else (r : Int)

theorem compare_int (a b c d : Int) (h1 : a < b ↔ c < d) (h2 : a = b ↔ c = d) : compare a b = compare c d := by
  simp only [compare, compareOfLessAndEq, h1, h2]

theorem signed_shift (s : Bool) (m x k : Nat) (hk : k ≤ x) : signed s m (x - k) * (2 : Int) ^ k = sg s (m * 2 ^ x) := by
  unfold signed sg
  have e : (m <<< (x - k)) * 2 ^ k = m * 2 ^ x := by
    rw [Nat.shiftLeft_eq, Nat.mul_assoc, ← Nat.pow_add, show x - k + k = x by omega]
  have e' : ((m <<< (x - k) : Nat) : Int) * 2 ^ k = ((m * 2 ^ x : Nat) : Int) := by rw [← e]; simp
  cases s
  · simpa using e'
  · simp only [if_true]
    rw [Int.neg_mul, e']

theorem mul_pow_lt (a b : Int) (k : Nat) : a * 2 ^ k < b * 2 ^ k ↔ a < b := by
  have hp : (0 : Int) < 2 ^ k := Int.pow_pos (by decide)
  exact ⟨fun h => Int.lt_of_mul_lt_mul_right h (Int.le_of_lt hp), fun h => Int.mul_lt_mul_of_pos_right h hp⟩

theorem sg_val_lt (s t : Bool) (a b : Nat) : (sg s (val a) < sg t (val b)) ↔ (sg s a < sg t b) := by
  have z : val 0 = 0 := by decide
  have mono : ∀ x y : Nat, val x < val y ↔ x < y := fun x y => ⟨fun h => by
    rcases Nat.lt_trichotomy x y with h' | h' | h'
    · exact h'
    · subst h'; omega
    · have := val_lt h'; omega, val_lt⟩
  have p1 := mono 0 a
  have p2 := mono 0 b
  have p3 := mono a b
  have p4 := mono b a
  rw [z] at p1 p2
  unfold sg
  cases s <;> cases t <;> simp <;> omega
theorem sg_val_eq (s t : Bool) (a b : Nat) : (sg s (val a) = sg t (val b)) ↔ (sg s a = sg t b) := by
  have h1 := sg_val_lt s t a b
  have h2 := sg_val_lt t s b a
  omega

theorem order_finite (s t : Bool) (a b : Nat) : (Datum.number s (sig a) (-1074 + (ex a : Nat))).order (.number t (sig b) (-1074 + (ex b : Nat))) = some (compare (sg s a) (sg t b)) := by
  have hb : min (-1074 + (ex a : Int)) (-1074 + (ex b : Int)) = -1074 + ((min (ex a) (ex b) : Nat) : Int) := by omega
  have h1 : (-1074 + (ex a : Int) - (-1074 + ((min (ex a) (ex b) : Nat) : Int))).toNat = ex a - min (ex a) (ex b) := by omega
  have h2 : (-1074 + (ex b : Int) - (-1074 + ((min (ex a) (ex b) : Nat) : Int))).toNat = ex b - min (ex a) (ex b) := by omega
  simp only [Datum.order, hb, h1, h2]
  congr 1
  have m1 := signed_shift s (sig a) (ex a) (min (ex a) (ex b)) (Nat.min_le_left _ _)
  have m2 := signed_shift t (sig b) (ex b) (min (ex a) (ex b)) (Nat.min_le_right _ _)
  have hlt := mul_pow_lt (signed s (sig a) (ex a - min (ex a) (ex b))) (signed t (sig b) (ex b - min (ex a) (ex b))) (min (ex a) (ex b))
  have hgt := mul_pow_lt (signed t (sig b) (ex b - min (ex a) (ex b))) (signed s (sig a) (ex a - min (ex a) (ex b))) (min (ex a) (ex b))
  rw [m1, m2] at hlt
  rw [m1, m2] at hgt
  have v1 := sg_val_lt s t a b
  have v2 := sg_val_lt t s b a
  unfold val at v1 v2
  apply compare_int
  · rw [← hlt, v1]
  · constructor
    · intro h; rcases Int.lt_trichotomy (sg s a) (sg t b) with h' | h' | h'
      · have := hlt.1 (v1.2 h'); omega
      · exact h'
      · have := hgt.1 (v2.2 h'); omega
    · intro h
      rcases Int.lt_trichotomy (signed s (sig a) (ex a - min (ex a) (ex b))) (signed t (sig b) (ex b - min (ex a) (ex b))) with h' | h' | h'
      · have := v1.1 (hlt.2 h'); omega
      · exact h'
      · have := v2.1 (hgt.2 h'); omega

theorem read_inf (neg : Bool) : double.read (double.word neg 9218868437227405312) = .infinity neg := by
  rw [read_word neg _ (by decide), if_neg (by decide), if_neg (by decide), if_pos rfl]
theorem read_nan (neg : Bool) (r : Nat) (h : 9218868437227405312 < r) (h2 : r < 9223372036854775808) : double.read (double.word neg r) = .nan neg (r - 9218868437227405312) := by
  rw [read_word neg _ h2, if_neg (by omega), if_neg (by omega), if_neg (by omega)]

theorem compare_lt {x y : Int} (h : x < y) : compare x y = .lt := by simp [compare, compareOfLessAndEq, h]
theorem compare_gt {x y : Int} (h : y < x) : compare x y = .gt := by
  have h1 : ¬ x < y := by omega
  have h2 : ¬ x = y := by omega
  simp [compare, compareOfLessAndEq, h1, h2]
theorem compare_eq {x y : Int} (h : x = y) : compare x y = .eq := by subst h; simp [compare, compareOfLessAndEq]

theorem order_words (s t : Bool) (a b : Nat) (ha : a < 9223372036854775808) (hb : b < 9223372036854775808) :
    double.order (double.word s a) (double.word t b) = if 9218868437227405312 < a ∨ 9218868437227405312 < b then none else some (compare (sg s a) (sg t b)) := by
  unfold Format.order
  by_cases h : 9218868437227405312 < a ∨ 9218868437227405312 < b
  · rw [if_pos h]
    rcases h with h | h
    · rw [read_nan s a h ha]; rfl
    · rw [read_nan t b h hb]
      cases double.read (double.word s a) <;> rfl
  · rw [if_neg h]
    by_cases h1 : a = 9218868437227405312
    · subst h1
      rw [read_inf]
      by_cases h2 : b = 9218868437227405312
      · subst h2
        rw [read_inf]
        cases s <;> cases t <;> decide
      · rw [read_finite t b (by omega)]
        show some _ = some _
        congr 1
        unfold sg
        cases s
        · symm; apply compare_gt; cases t <;> simp <;> omega
        · symm; apply compare_lt; cases t <;> simp <;> omega
    · rw [read_finite s a (by omega)]
      by_cases h2 : b = 9218868437227405312
      · subst h2
        rw [read_inf]
        show some _ = some _
        congr 1
        unfold sg
        cases t
        · symm; apply compare_lt; cases s <;> simp <;> omega
        · symm; apply compare_gt; cases s <;> simp <;> omega
      · rw [read_finite t b (by omega)]
        exact order_finite s t a b

/-- The lower 63 bits of an int64. -/
def rung (a : Int) : Nat := (a % 9223372036854775808).toNat
theorem rung_lt (a : Int) : rung a < 9223372036854775808 := by unfold rung; omega
theorem word_of (a : Int) (h1 : -9223372036854775808 ≤ a) (h2 : a < 9223372036854775808) : (IntKind.u64.wrap a).toNat = double.word (decide (a < 0)) (rung a) := by
  have e : IntKind.u64.wrap a = a % 18446744073709551616 := by
    simp only [IntKind.wrap, IntKind.bits, IntKind.signed]
    simp
  rw [e]
  unfold Format.word rung
  rw [sign_d]
  by_cases h : a < 0
  · simp [h]; omega
  · simp [h]; omega

/-- The number by which two words are held against each other. -/
def key (a : Int) : Int := sg (decide (a < 0)) (rung a)
def isNo (a : Int) : Prop := 9218868437227405312 < rung a
instance (a : Int) : Decidable (isNo a) := inferInstanceAs (Decidable (_ < _))

theorem order_bits (a b : Int) (h1 : -9223372036854775808 ≤ a) (h2 : a < 9223372036854775808) (h3 : -9223372036854775808 ≤ b) (h4 : b < 9223372036854775808) :
    FloatKind.f64.format.order (IntKind.u64.wrap a).toNat (IntKind.u64.wrap b).toNat = if isNo a ∨ isNo b then none else some (compare (key a) (key b)) := by
  rw [word_of a h1 h2, word_of b h3 h4]
  exact order_words _ _ _ _ (rung_lt a) (rung_lt b)
end Go.Proofs.YtjbknbinaegpkaaDoor
