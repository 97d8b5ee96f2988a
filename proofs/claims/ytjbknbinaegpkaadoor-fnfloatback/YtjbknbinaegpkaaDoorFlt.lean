/- Floats of 64 bits that hold a whole number of at most 53 bits: what is read back from them. -/
import Derived.Laws.FloatArith
import Derived.KernelRfl
namespace Go.Proofs.YtjbknbinaegpkaaDoor
open Ieee

theorem sign_d : double.signWeight = 9223372036854775808 := by kernel_rfl
theorem binade_d : double.binade = 4503599627370496 := by kernel_rfl
theorem inf_d : double.infRung = 9218868437227405312 := by kernel_rfl
theorem least_d : double.leastPlace = -1074 := by kernel_rfl

theorem cut_none (way : Toward) (neg : Bool) (n : Nat) : way.cut neg n 0 = n := by
  unfold Toward.cut
  cases way <;> simp [Nat.mod_one]

/-- The word of a rung, read. -/
theorem read_word (neg : Bool) (r : Nat) (h : r < 9223372036854775808) :
    double.read (double.word neg r) = if r < 4503599627370496 then .number neg r (-1074) else if r < 9218868437227405312 then .number neg (4503599627370496 + r % 4503599627370496) (-1074 + (r / 4503599627370496 - 1 : Nat)) else if r = 9218868437227405312 then .infinity neg else .nan neg (r - 9218868437227405312) := by
  unfold Format.read Format.word
  rw [sign_d, binade_d, inf_d, least_d]
  cases neg
  · have h1 : r / 9223372036854775808 % 2 = 0 := by omega
    have h2 : r % 9223372036854775808 = r := by omega
    simp only [Bool.false_eq_true, if_false, h1, h2]
    rfl
  · have h1 : (9223372036854775808 + r) / 9223372036854775808 % 2 = 1 := by omega
    have h2 : (9223372036854775808 + r) % 9223372036854775808 = r := by omega
    rw [if_pos rfl]
    simp only [h1, h2]
    rfl

theorem log_small (m : Nat) (h0 : m ≠ 0) (hm : m < 9007199254740992) :
    m.log2 ≤ 52 ∧ 4503599627370496 ≤ m * 2 ^ (52 - m.log2) ∧ m * 2 ^ (52 - m.log2) < 9007199254740992 := by
  have hm' : m < 2 ^ 53 := Nat.lt_of_lt_of_eq hm (by decide)
  have hl : m.log2 < 53 := (Nat.log2_lt h0).2 hm'
  have hlo : 2 ^ m.log2 ≤ m := Nat.log2_self_le h0
  have hhi : m < 2 ^ (m.log2 + 1) := Nat.lt_log2_self
  have e1 : 2 ^ m.log2 * 2 ^ (52 - m.log2) = 2 ^ 52 := by
    rw [← Nat.pow_add]; congr 1; omega
  have e2 : 2 ^ (m.log2 + 1) * 2 ^ (52 - m.log2) = 2 ^ 53 := by
    rw [← Nat.pow_add]; congr 1; omega
  have hp : 0 < 2 ^ (52 - m.log2) := Nat.two_pow_pos _
  have b1 : 2 ^ 52 ≤ m * 2 ^ (52 - m.log2) := by rw [← e1]; exact Nat.mul_le_mul_right _ hlo
  have b2 : m * 2 ^ (52 - m.log2) < 2 ^ 53 := by rw [← e2]; exact Nat.mul_lt_mul_of_pos_right hhi hp
  exact ⟨by omega, Nat.le_trans (by decide) b1, Nat.lt_of_lt_of_eq b2 (by decide)⟩

/-- A whole number of at most 53 bits, written: its word. -/
theorem nearest_small (neg : Bool) (m : Nat) (h0 : m ≠ 0) (hm : m < 9007199254740992) :
    m.log2 ≤ 52 ∧ 4503599627370496 ≤ m * 2 ^ (52 - m.log2) ∧ m * 2 ^ (52 - m.log2) < 9007199254740992 ∧
    double.nearest neg m 0 = double.word neg ((m.log2 + 1022) * 4503599627370496 + m * 2 ^ (52 - m.log2)) := by
  obtain ⟨hl, b1, b2⟩ := log_small m h0 hm
  refine ⟨hl, b1, b2, ?_⟩
  have hf : ((double.fractionBits : Nat) : Int) = 52 := rfl
  have hlast : max ((0 : Int) + (m.log2 : Nat) - 52) (-1074) = (m.log2 : Int) - 52 := by omega
  have s1 : ((0 : Int) - ((m.log2 : Int) - 52)).toNat = 52 - m.log2 := by omega
  have s2 : ((m.log2 : Int) - 52 - 0).toNat = 0 := by omega
  have s3 : ((m.log2 : Int) - 52 - -1074).toNat = m.log2 + 1022 := by omega
  have h5 : min ((m.log2 + 1022) * 4503599627370496 + m * 2 ^ (52 - m.log2)) 9218868437227405312 = (m.log2 + 1022) * 4503599627370496 + m * 2 ^ (52 - m.log2) := Nat.min_eq_left (by omega)
  unfold Format.nearest
  rw [if_neg h0]
  simp only [least_d, binade_d, inf_d, hf, hlast, s1, s2, s3, cut_none, Nat.shiftLeft_eq, h5]

theorem read_small (neg : Bool) (m : Nat) (h0 : m ≠ 0) (hm : m < 9007199254740992) :
    double.read (double.nearest neg m 0) = .number neg (m * 2 ^ (52 - m.log2)) ((m.log2 : Int) - 52) := by
  obtain ⟨hl, b1, b2, e⟩ := nearest_small neg m h0 hm
  rw [e, read_word neg _ (by omega), if_neg (by omega), if_pos (by omega)]
  congr 1 <;> omega

theorem floor_small (neg : Bool) (m : Nat) (h0 : m ≠ 0) (hm : m < 9007199254740992) :
    (Datum.number neg (m * 2 ^ (52 - m.log2)) ((m.log2 : Int) - 52)).toInt .zero = some (if neg then -(m : Int) else (m : Int)) := by
  obtain ⟨hl, b1, b2, -⟩ := nearest_small neg m h0 hm
  have hlog : (m * 2 ^ (52 - m.log2)).log2 = 52 := by
    apply Nat.le_antisymm
    · have : (m * 2 ^ (52 - m.log2)).log2 < 53 := (Nat.log2_lt (by omega)).2 b2
      omega
    · exact (Nat.le_log2 (by omega)).2 b1
  have t1 : ((m.log2 : Int) - 52).toNat = 0 := by omega
  have t2 : (-((m.log2 : Int) - 52)).toNat = 52 - m.log2 := by omega
  have hp : 0 < 2 ^ (52 - m.log2) := Nat.two_pow_pos _
  simp only [Datum.toInt, Datum.integral, t1, t2, Toward.cut, Nat.shiftLeft_zero, hlog, signed]
  have hmin : min (52 - m.log2) (52 + 2) = 52 - m.log2 := by omega
  rw [hmin, Nat.one_shiftLeft, Nat.mul_div_cancel _ hp]
  simp

theorem read_int (n : Int) (hn : n.natAbs < 9007199254740992) (h0 : n ≠ 0) :
    double.read (floatOfInt .f64 n) = .number (n < 0) (n.natAbs * 2 ^ (52 - n.natAbs.log2)) ((n.natAbs.log2 : Int) - 52) :=
  read_small (decide (n < 0)) n.natAbs (by omega) hn
theorem read_zero : double.read (floatOfInt .f64 0) = .number false 0 (-1074) := by kernel_rfl

/-- Cut towards zero it is the whole number again. -/
theorem back_int (n : Int) (hn : n.natAbs < 9007199254740992) : (FloatKind.f64.decode (floatOfInt .f64 n)).toInt .zero = some n := by
  by_cases h0 : n = 0
  · subst h0; show (double.read (floatOfInt .f64 0)).toInt .zero = some 0; rw [read_zero]; kernel_rfl
  · show (double.read (floatOfInt .f64 n)).toInt .zero = some n
    rw [read_int n hn h0, floor_small _ _ (by omega) hn]
    by_cases h : n < 0
    · simp [h]; omega
    · simp [h]; omega

theorem order_self (s : Bool) (m : Nat) (e : Int) : (Datum.number s m e).order (.number s m e) = some .eq := by
  simp [Datum.order, compare, compareOfLessAndEq]

theorem order_int (n : Int) (hn : n.natAbs < 9007199254740992) : FloatKind.f64.format.order (floatOfInt .f64 n) (floatOfInt .f64 n) = some .eq := by
  show ((double.read (floatOfInt .f64 n)).order (double.read (floatOfInt .f64 n))) = some .eq
  by_cases h0 : n = 0
  · subst h0; rw [read_zero]; exact order_self ..
  · rw [read_int n hn h0]; exact order_self ..

theorem read_top : double.read 4890909195324358656 = .number false 4503599627370496 11 := by kernel_rfl
theorem read_low : double.read 14114281232179134464 = .number true 4503599627370496 11 := by kernel_rfl
theorem pow_split (l : Nat) (hl : l ≤ 52) : (4503599627370496 : Nat) <<< (63 - l) = 9223372036854775808 * 2 ^ (52 - l) := by
  rw [Nat.shiftLeft_eq, show 63 - l = 11 + (52 - l) by omega, Nat.pow_add, ← Nat.mul_assoc]

theorem order_top (n : Int) (hn : n.natAbs < 9007199254740992) : FloatKind.f64.format.order (floatOfInt .f64 n) 4890909195324358656 = some .lt := by
  show ((double.read (floatOfInt .f64 n)).order (double.read 4890909195324358656)) = some .lt
  rw [read_top]
  by_cases h0 : n = 0
  · subst h0; rw [read_zero]; kernel_rfl
  · rw [read_int n hn h0]
    obtain ⟨hl, b1, b2, -⟩ := nearest_small true n.natAbs (by omega) hn
    have hmin : min ((n.natAbs.log2 : Int) - 52) 11 = (n.natAbs.log2 : Int) - 52 := by omega
    have t1 : ((n.natAbs.log2 : Int) - 52 - ((n.natAbs.log2 : Int) - 52)).toNat = 0 := by omega
    have t2 : ((11 : Int) - ((n.natAbs.log2 : Int) - 52)).toNat = 63 - n.natAbs.log2 := by omega
    have hp : 0 < 2 ^ (52 - n.natAbs.log2) := Nat.two_pow_pos _
    simp only [Datum.order, hmin, t1, t2, signed, pow_split _ hl, Nat.shiftLeft_zero]
    generalize n.natAbs * 2 ^ (52 - n.natAbs.log2) = A at b1 b2 ⊢
    generalize 2 ^ (52 - n.natAbs.log2) = B at hp ⊢
    simp only [compare, compareOfLessAndEq]
    by_cases h : n < 0 <;> simp [h] <;> omega
theorem order_low (n : Int) (hn : n.natAbs < 9007199254740992) : FloatKind.f64.format.order (floatOfInt .f64 n) 14114281232179134464 = some .gt := by
  show ((double.read (floatOfInt .f64 n)).order (double.read 14114281232179134464)) = some .gt
  rw [read_low]
  by_cases h0 : n = 0
  · subst h0; rw [read_zero]; kernel_rfl
  · rw [read_int n hn h0]
    obtain ⟨hl, b1, b2, -⟩ := nearest_small true n.natAbs (by omega) hn
    have hmin : min ((n.natAbs.log2 : Int) - 52) 11 = (n.natAbs.log2 : Int) - 52 := by omega
    have t1 : ((n.natAbs.log2 : Int) - 52 - ((n.natAbs.log2 : Int) - 52)).toNat = 0 := by omega
    have t2 : ((11 : Int) - ((n.natAbs.log2 : Int) - 52)).toNat = 63 - n.natAbs.log2 := by omega
    have hp : 0 < 2 ^ (52 - n.natAbs.log2) := Nat.two_pow_pos _
    simp only [Datum.order, hmin, t1, t2, signed, pow_split _ hl, Nat.shiftLeft_zero]
    generalize n.natAbs * 2 ^ (52 - n.natAbs.log2) = A at b1 b2 ⊢
    generalize 2 ^ (52 - n.natAbs.log2) = B at hp ⊢
    simp only [compare, compareOfLessAndEq]
    by_cases h : n < 0
    · simp [h]
      rw [if_neg (by omega), if_neg (by omega)]
    · simp [h]
      rw [if_neg (by omega), if_neg (by omega)]
end Go.Proofs.YtjbknbinaegpkaaDoor
