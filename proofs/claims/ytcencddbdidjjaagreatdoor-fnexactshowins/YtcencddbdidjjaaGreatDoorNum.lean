/- Plain facts on numbers of 32 and 64 bits: wraps, masks, shifts. -/
import Derived.WalkKit
import Derived.ProofKit
import Derived.Laws.FloatArith
import Derived.KernelRfl
import Derived.Test.YtcencddbdidjjaaGreatDoorRows
import Derived.OpenShut
import Derived.Deep.WholeRow
import Derived.WalkLawsBesides
namespace Go.Proofs.YtcencddbdidjjaaGreatDoor
open Go.ChangeShapes Go.WideShapes Go.ChangeAt Go.RowKit

theorem wrap_i64 (n : Int) : IntKind.i64.wrap n = wrap64 n := by
  simp only [IntKind.wrap, IntKind.bits, IntKind.signed, wrap64]
  simp
  split <;> omega
theorem wrap64_id (n : Int) (h1 : -9223372036854775808 ≤ n) (h2 : n < 9223372036854775808) : wrap64 n = n := by
  unfold wrap64; omega
theorem wrap64_in (n : Int) : -9223372036854775808 ≤ wrap64 n ∧ wrap64 n < 9223372036854775808 := by
  unfold wrap64; omega
theorem wrap32_in (n : Int) : -2147483648 ≤ wrap32 n ∧ wrap32 n < 2147483648 := by
  unfold wrap32; omega

/-- 'n & (2^k - 1)' of an int64 is the remainder by 2^k. -/
theorem and_mask (n : Int) (k : Nat) (hk : k < 64) : bits .and .i64 n (2 ^ k - 1) = n % 2 ^ k := by
  have hp : (2 : Nat) ^ k ≤ 2 ^ 63 := Nat.pow_le_pow_right (by decide) (by omega)
  have h1 : 0 < (2 : Nat) ^ k := Nat.pow_pos (by decide)
  have e2 : (BitVec.ofInt 64 ((2 : Int) ^ k - 1)).toNat = 2 ^ k - 1 := by
    have : ((2 : Int) ^ k - 1) = ((2 ^ k - 1 : Nat) : Int) := by
      rw [Int.ofNat_sub h1]; simp
    rw [this, BitVec.ofInt_natCast, BitVec.toNat_ofNat]
    apply Nat.mod_eq_of_lt; omega
  show IntKind.i64.wrap ((BitVec.ofInt 64 n &&& BitVec.ofInt 64 ((2 : Int) ^ k - 1)).toNat) = _
  rw [wrap_i64, BitVec.toNat_and, e2, Nat.and_two_pow_sub_one_eq_mod, BitVec.toNat_ofInt]
  have hd : ((2 ^ k : Nat) : Int) ∣ ((2 ^ 64 : Nat) : Int) := by
    refine Int.natCast_dvd_natCast.2 (Nat.pow_dvd_pow 2 (by omega))
  have e3 : (((n % (2 ^ 64 : Nat)).toNat % 2 ^ k : Nat) : Int) = n % 2 ^ k := by
    have h0 : 0 ≤ n % ((2 ^ 64 : Nat) : Int) := Int.emod_nonneg _ (by decide)
    rw [Int.natCast_emod, Int.toNat_of_nonneg h0, Int.emod_emod_of_dvd _ hd]
    simp
  rw [e3]
  have hb : n % 2 ^ k < 2 ^ k := Int.emod_lt_of_pos _ (by exact_mod_cast h1)
  have hb0 : 0 ≤ n % 2 ^ k := Int.emod_nonneg _ (by have : (0 : Int) < 2 ^ k := by exact_mod_cast h1
                                                    omega)
  have hp' : (2 : Int) ^ k ≤ 2 ^ 63 := by exact_mod_cast hp
  exact wrap64_id _ (by omega) (by omega)

theorem and63 (n : Int) : bits .and .i64 n 63 = n % 64 := and_mask n 6 (by decide)
theorem and31 (n : Int) : bits .and .i64 n 31 = n % 32 := and_mask n 5 (by decide)
theorem and32 (n : Int) : bits .and .i64 n 4294967295 = n % 4294967296 := and_mask n 32 (by decide)

def shl64 (a b : Int) : Int := wrap64 (a * 2 ^ (b % 64).toNat)
def shr64 (a b : Int) : Int := a.fdiv (2 ^ (b % 64).toNat)
def ushr64 (a b : Int) : Int := wrap64 ((a % 18446744073709551616).fdiv (2 ^ (b % 64).toNat))

theorem shift_shl (a b : Int) : Op.shift .shl .i64 a .i64 (bits .and .i64 b 63) = pure (.int .i64 (shl64 a b)) := by
  have h0 : ¬ b % 64 < 0 := by omega
  have h1 : min (b % 64).toNat 64 = (b % 64).toNat := by omega
  simp only [Op.shift, and63, if_neg h0, IntKind.bits, h1, wrap_i64, shl64]
theorem shift_shr (a b : Int) : Op.shift .shr .i64 a .i64 (bits .and .i64 b 63) = pure (.int .i64 (shr64 a b)) := by
  have h0 : ¬ b % 64 < 0 := by omega
  have h1 : min (b % 64).toNat 64 = (b % 64).toNat := by omega
  simp only [Op.shift, and63, if_neg h0, IntKind.bits, h1, shr64]
theorem shift_ushr (a b : Int) : Op.shift .shr .u64 (IntKind.u64.wrap a) .i64 (bits .and .i64 b 63) = pure (.int .u64 ((IntKind.u64.wrap a).fdiv (2 ^ (b % 64).toNat))) := by
  have h0 : ¬ b % 64 < 0 := by omega
  have h1 : min (b % 64).toNat 64 = (b % 64).toNat := by omega
  simp only [Op.shift, and63, if_neg h0, IntKind.bits, h1]
theorem u64_small (n : Int) (h0 : 0 ≤ n) (h1 : n < 18446744073709551616) : IntKind.u64.wrap n = n := by
  simp only [IntKind.wrap, IntKind.bits, IntKind.signed]
  simp
  omega
theorem shift_shl_u (a b : Int) : Op.shift .shl .i64 a .u64 (IntKind.u64.wrap (bits .and .i64 b 63)) = pure (.int .i64 (shl64 a b)) := by
  have h0 : ¬ b % 64 < 0 := by omega
  have h1 : min (b % 64).toNat 64 = (b % 64).toNat := by omega
  simp only [Op.shift, and63, u64_small _ (by omega : 0 ≤ b % 64) (by omega : b % 64 < 18446744073709551616), if_neg h0, IntKind.bits, h1, wrap_i64, shl64]
theorem shift_shr_u (a b : Int) : Op.shift .shr .i64 a .u64 (IntKind.u64.wrap (bits .and .i64 b 63)) = pure (.int .i64 (shr64 a b)) := by
  have h0 : ¬ b % 64 < 0 := by omega
  have h1 : min (b % 64).toNat 64 = (b % 64).toNat := by omega
  simp only [Op.shift, and63, u64_small _ (by omega : 0 ≤ b % 64) (by omega : b % 64 < 18446744073709551616), if_neg h0, IntKind.bits, h1, shr64]
theorem shift_ushr_u (a b : Int) : Op.shift .shr .u64 (IntKind.u64.wrap a) .u64 (IntKind.u64.wrap (bits .and .i64 b 63)) = pure (.int .u64 ((IntKind.u64.wrap a).fdiv (2 ^ (b % 64).toNat))) := by
  have h0 : ¬ b % 64 < 0 := by omega
  have h1 : min (b % 64).toNat 64 = (b % 64).toNat := by omega
  simp only [Op.shift, and63, u64_small _ (by omega : 0 ≤ b % 64) (by omega : b % 64 < 18446744073709551616), if_neg h0, IntKind.bits, h1]

theorem wrap64_sub (x y : Int) : wrap64 (x - wrap64 y) = wrap64 (x - y) := by unfold wrap64; omega
theorem wrap64_add (x y : Int) : wrap64 (wrap64 x + y) = wrap64 (x + y) := by unfold wrap64; omega
theorem wrap64_mul (x y : Int) : wrap64 (wrap64 x * y) = wrap64 (x * y) := by
  have e : wrap64 x = x - (x + 9223372036854775808) / 18446744073709551616 * 18446744073709551616 := by unfold wrap64; omega
  have e2 : wrap64 x * y = x * y - 18446744073709551616 * ((x + 9223372036854775808) / 18446744073709551616 * y) := by
    rw [e, Int.sub_mul]
    have : (x + 9223372036854775808) / 18446744073709551616 * 18446744073709551616 * y = 18446744073709551616 * ((x + 9223372036854775808) / 18446744073709551616 * y) := by ac_rfl
    rw [this]
  rw [e2]; unfold wrap64; omega

theorem sub_div_mul (a b : Int) (h1 : -9223372036854775808 ≤ a) (h2 : a < 9223372036854775808) : wrap64 (a - wrap64 (wrap64 (a.tdiv b) * b)) = a.tmod b := by
  rw [wrap64_sub, ← wrap64_sub, wrap64_mul, wrap64_sub]
  have e : a - a.tdiv b * b = a.tmod b := by
    have := Int.tmod_add_mul_tdiv a b
    rw [Int.mul_comm] at this
    omega
  rw [e]
  have ha : (a.tmod b).natAbs ≤ a.natAbs := by
    rw [Int.natAbs_tmod]; exact Nat.mod_le _ _
  have hs : 0 ≤ a → 0 ≤ a.tmod b := fun h => Int.tmod_nonneg b h
  have hn : a < 0 → a.tmod b ≤ 0 := fun h => by
    have := Int.tmod_nonneg b (by omega : 0 ≤ -a)
    rw [Int.neg_tmod] at this
    omega
  exact wrap64_id _ (by omega) (by omega)
end Go.Proofs.YtcencddbdidjjaaGreatDoor

/- Floats of 64 bits that hold a whole number of at most 53 bits: what is read back from them. -/
namespace Go.Proofs.YtcencddbdidjjaaGreatDoor
open Ieee

theorem sign_d : double.signWeight = 9223372036854775808 := by kernel_rfl
theorem binade_d : double.binade = 4503599627370496 := by kernel_rfl
theorem inf_d : double.infRung = 9218868437227405312 := by kernel_rfl
theorem least_d : double.leastPlace = -1074 := by kernel_rfl

theorem fcut_none (way : Toward) (neg : Bool) (n : Nat) : way.cut neg n 0 = n := by
  unfold Toward.cut
  cases way <;> simp [Nat.mod_one]

/-- The word of a rung, read. -/
theorem read_word (neg : Bool) (r : Nat) (h : r < 9223372036854775808) :
    double.read (double.word neg r) = if r < 4503599627370496 then .number neg r (-1074) else if r < 9218868437227405312 then .number neg (4503599627370496 + r % 4503599627370496) (-1074 + (r / 4503599627370496 - 1 : Nat)) else if r = 9218868437227405312 then .infinity neg else .nan neg (r - 9218868437227405312) := by
  unfold Format.read Format.word
  rw [sign_d, binade_d, inf_d, least_d]
  cases neg
  · have h1 : r / 9223372036854775808 % 2 = 0 := by omega
    have h2 : r % 9223372036854775808 = r := by omega
    simp only [Bool.false_eq_true, if_false, h1, h2]
    rfl
  · have h1 : (9223372036854775808 + r) / 9223372036854775808 % 2 = 1 := by omega
    have h2 : (9223372036854775808 + r) % 9223372036854775808 = r := by omega
    rw [if_pos rfl]
    simp only [h1, h2]
    rfl

theorem log_small (m : Nat) (h0 : m ≠ 0) (hm : m < 9007199254740992) :
    m.log2 ≤ 52 ∧ 4503599627370496 ≤ m * 2 ^ (52 - m.log2) ∧ m * 2 ^ (52 - m.log2) < 9007199254740992 := by
  have hm' : m < 2 ^ 53 := Nat.lt_of_lt_of_eq hm (by decide)
  have hl : m.log2 < 53 := (Nat.log2_lt h0).2 hm'
  have hlo : 2 ^ m.log2 ≤ m := Nat.log2_self_le h0
  have hhi : m < 2 ^ (m.log2 + 1) := Nat.lt_log2_self
  have e1 : 2 ^ m.log2 * 2 ^ (52 - m.log2) = 2 ^ 52 := by
    rw [← Nat.pow_add]; congr 1; omega
  have e2 : 2 ^ (m.log2 + 1) * 2 ^ (52 - m.log2) = 2 ^ 53 := by
    rw [← Nat.pow_add]; congr 1; omega
  have hp : 0 < 2 ^ (52 - m.log2) := Nat.two_pow_pos _
  have b1 : 2 ^ 52 ≤ m * 2 ^ (52 - m.log2) := by rw [← e1]; exact Nat.mul_le_mul_right _ hlo
  have b2 : m * 2 ^ (52 - m.log2) < 2 ^ 53 := by rw [← e2]; exact Nat.mul_lt_mul_of_pos_right hhi hp
  exact ⟨by omega, Nat.le_trans (by decide) b1, Nat.lt_of_lt_of_eq b2 (by decide)⟩

/-- A whole number of at most 53 bits, written: its word. -/
theorem nearest_small (neg : Bool) (m : Nat) (h0 : m ≠ 0) (hm : m < 9007199254740992) :
    m.log2 ≤ 52 ∧ 4503599627370496 ≤ m * 2 ^ (52 - m.log2) ∧ m * 2 ^ (52 - m.log2) < 9007199254740992 ∧
    double.nearest neg m 0 = double.word neg ((m.log2 + 1022) * 4503599627370496 + m * 2 ^ (52 - m.log2)) := by
  obtain ⟨hl, b1, b2⟩ := log_small m h0 hm
  refine ⟨hl, b1, b2, ?_⟩
  have hf : ((double.fractionBits : Nat) : Int) = 52 := rfl
  have hlast : max ((0 : Int) + (m.log2 : Nat) - 52) (-1074) = (m.log2 : Int) - 52 := by omega
  have s1 : ((0 : Int) - ((m.log2 : Int) - 52)).toNat = 52 - m.log2 := by omega
  have s2 : ((m.log2 : Int) - 52 - 0).toNat = 0 := by omega
  have s3 : ((m.log2 : Int) - 52 - -1074).toNat = m.log2 + 1022 := by omega
  have h5 : min ((m.log2 + 1022) * 4503599627370496 + m * 2 ^ (52 - m.log2)) 9218868437227405312 = (m.log2 + 1022) * 4503599627370496 + m * 2 ^ (52 - m.log2) := Nat.min_eq_left (by omega)
  unfold Format.nearest
  rw [if_neg h0]
  simp only [least_d, binade_d, inf_d, hf, hlast, s1, s2, s3, fcut_none, Nat.shiftLeft_eq, h5]

theorem read_small (neg : Bool) (m : Nat) (h0 : m ≠ 0) (hm : m < 9007199254740992) :
    double.read (double.nearest neg m 0) = .number neg (m * 2 ^ (52 - m.log2)) ((m.log2 : Int) - 52) := by
  obtain ⟨hl, b1, b2, e⟩ := nearest_small neg m h0 hm
  rw [e, read_word neg _ (by omega), if_neg (by omega), if_pos (by omega)]
  congr 1 <;> omega

theorem floor_small (neg : Bool) (m : Nat) (h0 : m ≠ 0) (hm : m < 9007199254740992) :
    (Datum.number neg (m * 2 ^ (52 - m.log2)) ((m.log2 : Int) - 52)).toInt .zero = some (if neg then -(m : Int) else (m : Int)) := by
  obtain ⟨hl, b1, b2, -⟩ := nearest_small neg m h0 hm
  have hlog : (m * 2 ^ (52 - m.log2)).log2 = 52 := by
    apply Nat.le_antisymm
    · have : (m * 2 ^ (52 - m.log2)).log2 < 53 := (Nat.log2_lt (by omega)).2 b2
      omega
    · exact (Nat.le_log2 (by omega)).2 b1
  have t1 : ((m.log2 : Int) - 52).toNat = 0 := by omega
  have t2 : (-((m.log2 : Int) - 52)).toNat = 52 - m.log2 := by omega
  have hp : 0 < 2 ^ (52 - m.log2) := Nat.two_pow_pos _
  simp only [Datum.toInt, Datum.integral, t1, t2, Toward.cut, Nat.shiftLeft_zero, hlog, signed]
  have hmin : min (52 - m.log2) (52 + 2) = 52 - m.log2 := by omega
  rw [hmin, Nat.one_shiftLeft, Nat.mul_div_cancel _ hp]
  simp

theorem read_int (n : Int) (hn : n.natAbs < 9007199254740992) (h0 : n ≠ 0) :
    double.read (floatOfInt .f64 n) = .number (n < 0) (n.natAbs * 2 ^ (52 - n.natAbs.log2)) ((n.natAbs.log2 : Int) - 52) :=
  read_small (decide (n < 0)) n.natAbs (by omega) hn
theorem read_zero : double.read (floatOfInt .f64 0) = .number false 0 (-1074) := by kernel_rfl

/-- Cut towards zero it is the whole number again. -/
theorem back_int (n : Int) (hn : n.natAbs < 9007199254740992) : (FloatKind.f64.decode (floatOfInt .f64 n)).toInt .zero = some n := by
  by_cases h0 : n = 0
  · subst h0; show (double.read (floatOfInt .f64 0)).toInt .zero = some 0; rw [read_zero]; kernel_rfl
  · show (double.read (floatOfInt .f64 n)).toInt .zero = some n
    rw [read_int n hn h0, floor_small _ _ (by omega) hn]
    by_cases h : n < 0
    · simp [h]; omega
    · simp [h]; omega

theorem order_self (s : Bool) (m : Nat) (e : Int) : (Datum.number s m e).order (.number s m e) = some .eq := by
  simp [Datum.order, compare, compareOfLessAndEq]

theorem order_int (n : Int) (hn : n.natAbs < 9007199254740992) : FloatKind.f64.format.order (floatOfInt .f64 n) (floatOfInt .f64 n) = some .eq := by
  show ((double.read (floatOfInt .f64 n)).order (double.read (floatOfInt .f64 n))) = some .eq
  by_cases h0 : n = 0
  · subst h0; rw [read_zero]; exact order_self ..
  · rw [read_int n hn h0]; exact order_self ..

theorem read_top : double.read 4890909195324358656 = .number false 4503599627370496 11 := by kernel_rfl
theorem read_low : double.read 14114281232179134464 = .number true 4503599627370496 11 := by kernel_rfl
theorem pow_split (l : Nat) (hl : l ≤ 52) : (4503599627370496 : Nat) <<< (63 - l) = 9223372036854775808 * 2 ^ (52 - l) := by
  rw [Nat.shiftLeft_eq, show 63 - l = 11 + (52 - l) by omega, Nat.pow_add, ← Nat.mul_assoc]

theorem order_top (n : Int) (hn : n.natAbs < 9007199254740992) : FloatKind.f64.format.order (floatOfInt .f64 n) 4890909195324358656 = some .lt := by
  show ((double.read (floatOfInt .f64 n)).order (double.read 4890909195324358656)) = some .lt
  rw [read_top]
  by_cases h0 : n = 0
  · subst h0; rw [read_zero]; kernel_rfl
  · rw [read_int n hn h0]
    obtain ⟨hl, b1, b2, -⟩ := nearest_small true n.natAbs (by omega) hn
    have hmin : min ((n.natAbs.log2 : Int) - 52) 11 = (n.natAbs.log2 : Int) - 52 := by omega
    have t1 : ((n.natAbs.log2 : Int) - 52 - ((n.natAbs.log2 : Int) - 52)).toNat = 0 := by omega
    have t2 : ((11 : Int) - ((n.natAbs.log2 : Int) - 52)).toNat = 63 - n.natAbs.log2 := by omega
    have hp : 0 < 2 ^ (52 - n.natAbs.log2) := Nat.two_pow_pos _
    simp only [Datum.order, hmin, t1, t2, signed, pow_split _ hl, Nat.shiftLeft_zero]
    generalize n.natAbs * 2 ^ (52 - n.natAbs.log2) = A at b1 b2 ⊢
    generalize 2 ^ (52 - n.natAbs.log2) = B at hp ⊢
    simp only [compare, compareOfLessAndEq]
    by_cases h : n < 0 <;> simp [h] <;> omega
theorem order_low (n : Int) (hn : n.natAbs < 9007199254740992) : FloatKind.f64.format.order (floatOfInt .f64 n) 14114281232179134464 = some .gt := by
  show ((double.read (floatOfInt .f64 n)).order (double.read 14114281232179134464)) = some .gt
  rw [read_low]
  by_cases h0 : n = 0
  · subst h0; rw [read_zero]; kernel_rfl
  · rw [read_int n hn h0]
    obtain ⟨hl, b1, b2, -⟩ := nearest_small true n.natAbs (by omega) hn
    have hmin : min ((n.natAbs.log2 : Int) - 52) 11 = (n.natAbs.log2 : Int) - 52 := by omega
    have t1 : ((n.natAbs.log2 : Int) - 52 - ((n.natAbs.log2 : Int) - 52)).toNat = 0 := by omega
    have t2 : ((11 : Int) - ((n.natAbs.log2 : Int) - 52)).toNat = 63 - n.natAbs.log2 := by omega
    have hp : 0 < 2 ^ (52 - n.natAbs.log2) := Nat.two_pow_pos _
    simp only [Datum.order, hmin, t1, t2, signed, pow_split _ hl, Nat.shiftLeft_zero]
    generalize n.natAbs * 2 ^ (52 - n.natAbs.log2) = A at b1 b2 ⊢
    generalize 2 ^ (52 - n.natAbs.log2) = B at hp ⊢
    simp only [compare, compareOfLessAndEq]
    by_cases h : n < 0
    · simp [h]
      rw [if_neg (by omega), if_neg (by omega)]
    · simp [h]
      rw [if_neg (by omega), if_neg (by omega)]
end Go.Proofs.YtcencddbdidjjaaGreatDoor

/- How two words of 64 bits stand to each other as floats: by their signs and their lower 63 bits. -/
namespace Go.Proofs.YtcencddbdidjjaaGreatDoor
open Ieee

def sig (r : Nat) : Nat := if r < 4503599627370496 then r else 4503599627370496 + r % 4503599627370496
def ex (r : Nat) : Nat := r / 4503599627370496 - 1
/-- What a finite rung stands for, in the smallest unit. -/
def val (r : Nat) : Nat := sig r * 2 ^ ex r

theorem read_finite (neg : Bool) (r : Nat) (h : r < 9218868437227405312) : double.read (double.word neg r) = .number neg (sig r) (-1074 + (ex r : Nat)) := by
  rw [read_word neg r (by omega)]
  unfold sig ex
  by_cases h1 : r < 4503599627370496
  · have : r / 4503599627370496 - 1 = 0 := by omega
    rw [if_pos h1, if_pos h1, this]; rfl
  · rw [if_neg h1, if_pos h, if_neg h1]

theorem val_lt {r s : Nat} (h : r < s) : val r < val s := by
  unfold val sig ex
  by_cases hr : r < 4503599627370496
  · have e0 : r / 4503599627370496 - 1 = 0 := by omega
    rw [if_pos hr, e0, Nat.pow_zero, Nat.mul_one]
    by_cases hs : s < 4503599627370496
    · have e1 : s / 4503599627370496 - 1 = 0 := by omega
      rw [if_pos hs, e1]; omega
    · rw [if_neg hs]
      have : 1 ≤ 2 ^ (s / 4503599627370496 - 1) := Nat.two_pow_pos _
      have := Nat.mul_le_mul_left (4503599627370496 + s % 4503599627370496) this
      omega
  · have hs : ¬ s < 4503599627370496 := by omega
    rw [if_neg hr, if_neg hs]
    by_cases he : r / 4503599627370496 = s / 4503599627370496
    · rw [he]
      exact Nat.mul_lt_mul_of_pos_right (by omega) (Nat.two_pow_pos _)
    · have hk : r / 4503599627370496 - 1 + 1 ≤ s / 4503599627370496 - 1 := by omega
      have h1 : (4503599627370496 + r % 4503599627370496) * 2 ^ (r / 4503599627370496 - 1) < 4503599627370496 * 2 ^ (r / 4503599627370496 - 1 + 1) := by
        rw [Nat.pow_succ, Nat.mul_comm (2 ^ _) 2, ← Nat.mul_assoc]
        exact Nat.mul_lt_mul_of_pos_right (by omega) (Nat.two_pow_pos _)
      have h2 : 4503599627370496 * 2 ^ (r / 4503599627370496 - 1 + 1) ≤ 4503599627370496 * 2 ^ (s / 4503599627370496 - 1) :=
        Nat.mul_le_mul_left _ (Nat.pow_le_pow_right (by decide) hk)
      have h3 : 4503599627370496 * 2 ^ (s / 4503599627370496 - 1) ≤ (4503599627370496 + s % 4503599627370496) * 2 ^ (s / 4503599627370496 - 1) :=
        Nat.mul_le_mul_right _ (by omega)
      omega

def sg (neg : Bool) (r : Nat) : Int := if neg then -(r : Int) else (r : Int)

theorem compare_int (a b c d : Int) (h1 : a < b ↔ c < d) (h2 : a = b ↔ c = d) : compare a b = compare c d := by
  simp only [compare, compareOfLessAndEq, h1, h2]

theorem signed_shift (s : Bool) (m x k : Nat) (hk : k ≤ x) : signed s m (x - k) * (2 : Int) ^ k = sg s (m * 2 ^ x) := by
  unfold signed sg
  have e : (m <<< (x - k)) * 2 ^ k = m * 2 ^ x := by
    rw [Nat.shiftLeft_eq, Nat.mul_assoc, ← Nat.pow_add, show x - k + k = x by omega]
  have e' : ((m <<< (x - k) : Nat) : Int) * 2 ^ k = ((m * 2 ^ x : Nat) : Int) := by rw [← e]; simp
  cases s
  · simpa using e'
  · simp only [if_true]
    rw [Int.neg_mul, e']

theorem mul_pow_lt (a b : Int) (k : Nat) : a * 2 ^ k < b * 2 ^ k ↔ a < b := by
  have hp : (0 : Int) < 2 ^ k := Int.pow_pos (by decide)
  exact ⟨fun h => Int.lt_of_mul_lt_mul_right h (Int.le_of_lt hp), fun h => Int.mul_lt_mul_of_pos_right h hp⟩

theorem sg_val_lt (s t : Bool) (a b : Nat) : (sg s (val a) < sg t (val b)) ↔ (sg s a < sg t b) := by
  have z : val 0 = 0 := by decide
  have mono : ∀ x y : Nat, val x < val y ↔ x < y := fun x y => ⟨fun h => by
    rcases Nat.lt_trichotomy x y with h' | h' | h'
    · exact h'
    · subst h'; omega
    · have := val_lt h'; omega, val_lt⟩
  have p1 := mono 0 a
  have p2 := mono 0 b
  have p3 := mono a b
  have p4 := mono b a
  rw [z] at p1 p2
  unfold sg
  cases s <;> cases t <;> simp <;> omega
theorem sg_val_eq (s t : Bool) (a b : Nat) : (sg s (val a) = sg t (val b)) ↔ (sg s a = sg t b) := by
  have h1 := sg_val_lt s t a b
  have h2 := sg_val_lt t s b a
  omega

theorem order_finite (s t : Bool) (a b : Nat) : (Datum.number s (sig a) (-1074 + (ex a : Nat))).order (.number t (sig b) (-1074 + (ex b : Nat))) = some (compare (sg s a) (sg t b)) := by
  have hb : min (-1074 + (ex a : Int)) (-1074 + (ex b : Int)) = -1074 + ((min (ex a) (ex b) : Nat) : Int) := by omega
  have h1 : (-1074 + (ex a : Int) - (-1074 + ((min (ex a) (ex b) : Nat) : Int))).toNat = ex a - min (ex a) (ex b) := by omega
  have h2 : (-1074 + (ex b : Int) - (-1074 + ((min (ex a) (ex b) : Nat) : Int))).toNat = ex b - min (ex a) (ex b) := by omega
  simp only [Datum.order, hb, h1, h2]
  congr 1
  have m1 := signed_shift s (sig a) (ex a) (min (ex a) (ex b)) (Nat.min_le_left _ _)
  have m2 := signed_shift t (sig b) (ex b) (min (ex a) (ex b)) (Nat.min_le_right _ _)
  have hlt := mul_pow_lt (signed s (sig a) (ex a - min (ex a) (ex b))) (signed t (sig b) (ex b - min (ex a) (ex b))) (min (ex a) (ex b))
  have hgt := mul_pow_lt (signed t (sig b) (ex b - min (ex a) (ex b))) (signed s (sig a) (ex a - min (ex a) (ex b))) (min (ex a) (ex b))
  rw [m1, m2] at hlt
  rw [m1, m2] at hgt
  have v1 := sg_val_lt s t a b
  have v2 := sg_val_lt t s b a
  unfold val at v1 v2
  apply compare_int
  · rw [← hlt, v1]
  · constructor
    · intro h; rcases Int.lt_trichotomy (sg s a) (sg t b) with h' | h' | h'
      · have := hlt.1 (v1.2 h'); omega
      · exact h'
      · have := hgt.1 (v2.2 h'); omega
    · intro h
      rcases Int.lt_trichotomy (signed s (sig a) (ex a - min (ex a) (ex b))) (signed t (sig b) (ex b - min (ex a) (ex b))) with h' | h' | h'
      · have := v1.1 (hlt.2 h'); omega
      · exact h'
      · have := v2.1 (hgt.2 h'); omega

theorem read_inf (neg : Bool) : double.read (double.word neg 9218868437227405312) = .infinity neg := by
  rw [read_word neg _ (by decide), if_neg (by decide), if_neg (by decide), if_pos rfl]
theorem read_nan (neg : Bool) (r : Nat) (h : 9218868437227405312 < r) (h2 : r < 9223372036854775808) : double.read (double.word neg r) = .nan neg (r - 9218868437227405312) := by
  rw [read_word neg _ h2, if_neg (by omega), if_neg (by omega), if_neg (by omega)]

theorem compare_lt {x y : Int} (h : x < y) : compare x y = .lt := by simp [compare, compareOfLessAndEq, h]
theorem compare_gt {x y : Int} (h : y < x) : compare x y = .gt := by
  have h1 : ¬ x < y := by omega
  have h2 : ¬ x = y := by omega
  simp [compare, compareOfLessAndEq, h1, h2]
theorem compare_eq {x y : Int} (h : x = y) : compare x y = .eq := by subst h; simp [compare, compareOfLessAndEq]

theorem order_words (s t : Bool) (a b : Nat) (ha : a < 9223372036854775808) (hb : b < 9223372036854775808) :
    double.order (double.word s a) (double.word t b) = if 9218868437227405312 < a ∨ 9218868437227405312 < b then none else some (compare (sg s a) (sg t b)) := by
  unfold Format.order
  by_cases h : 9218868437227405312 < a ∨ 9218868437227405312 < b
  · rw [if_pos h]
    rcases h with h | h
    · rw [read_nan s a h ha]; rfl
    · rw [read_nan t b h hb]
      cases double.read (double.word s a) <;> rfl
  · rw [if_neg h]
    by_cases h1 : a = 9218868437227405312
    · subst h1
      rw [read_inf]
      by_cases h2 : b = 9218868437227405312
      · subst h2
        rw [read_inf]
        cases s <;> cases t <;> decide
      · rw [read_finite t b (by omega)]
        show some _ = some _
        congr 1
        unfold sg
        cases s
        · symm; apply compare_gt; cases t <;> simp <;> omega
        · symm; apply compare_lt; cases t <;> simp <;> omega
    · rw [read_finite s a (by omega)]
      by_cases h2 : b = 9218868437227405312
      · subst h2
        rw [read_inf]
        show some _ = some _
        congr 1
        unfold sg
        cases t
        · symm; apply compare_lt; cases s <;> simp <;> omega
        · symm; apply compare_gt; cases s <;> simp <;> omega
      · rw [read_finite t b (by omega)]
        exact order_finite s t a b

/-- The lower 63 bits of an int64. -/
def rung (a : Int) : Nat := (a % 9223372036854775808).toNat
theorem rung_lt (a : Int) : rung a < 9223372036854775808 := by unfold rung; omega
theorem word_of (a : Int) (h1 : -9223372036854775808 ≤ a) (h2 : a < 9223372036854775808) : (IntKind.u64.wrap a).toNat = double.word (decide (a < 0)) (rung a) := by
  have e : IntKind.u64.wrap a = a % 18446744073709551616 := by
    simp only [IntKind.wrap, IntKind.bits, IntKind.signed]
    simp
  rw [e]
  unfold Format.word rung
  rw [sign_d]
  by_cases h : a < 0
  · simp [h]; omega
  · simp [h]; omega

/-- The number by which two words are held against each other. -/
def key (a : Int) : Int := sg (decide (a < 0)) (rung a)
def isNo (a : Int) : Prop := 9218868437227405312 < rung a
instance (a : Int) : Decidable (isNo a) := inferInstanceAs (Decidable (_ < _))

theorem order_bits (a b : Int) (h1 : -9223372036854775808 ≤ a) (h2 : a < 9223372036854775808) (h3 : -9223372036854775808 ≤ b) (h4 : b < 9223372036854775808) :
    FloatKind.f64.format.order (IntKind.u64.wrap a).toNat (IntKind.u64.wrap b).toNat = if isNo a ∨ isNo b then none else some (compare (key a) (key b)) := by
  rw [word_of a h1 h2, word_of b h3 h4]
  exact order_words _ _ _ _ (rung_lt a) (rung_lt b)
end Go.Proofs.YtcencddbdidjjaaGreatDoor

/- spec.l1Open: a float taken apart: what it answers. -/
namespace Go.Proofs.YtcencddbdidjjaaGreatDoor
open Go.ChangeShapes Go.WideShapes Go.ChangeAt Go.RowKit

def openK (a : Int) : Int := a / 4503599627370496 % 2048
def openF (a : Int) : Int := a % 4503599627370496
theorem and_K (a : Int) : bits .and .i64 (a / 4503599627370496) 2047 = openK a := and_mask _ 11 (by decide)
theorem and_F (a : Int) : bits .and .i64 a 4503599627370495 = openF a := and_mask _ 52 (by decide)

/-- The four cells of a float taken apart. -/
def real (s : Bool) (m e c : Int) : Array Value := #[.bool s, .int .i64 m, .int .i64 e, .int .i64 c]

theorem open_nan (a : Int) (hk : openK a = 2047) (hf : (openF a != 0) = true) (w : World) :
    Calls Tryz.prog 22 #[.int .i64 a] w fun e w' => e = .returned (.agg (real (decide (a < 0)) 0 0 2)) ∧ w' = (w.alloc (.cells (real (decide (a < 0)) 0 0 2) 43)).alloc (.cells (real (decide (a < 0)) 0 0 2) 43) := by
  have h1 := and_K a
  have h2 := and_F a
  rw [hk] at h1
  clear hk
  go_enter Tryz.func22, Tryz.ntmps22
  go_wp2
  exact bodyPost_ret (v := .agg (real (decide (a < 0)) 0 0 2)) (results_cell_row rfl _ _ w.heap.size 43 _ (0, 0) _ rfl (heap_alloc2_old w _ _) Tryz.underlying43 rfl (by kernel_rfl)) rfl ⟨rfl, rfl⟩
theorem open_inf (a : Int) (hk : openK a = 2047) (hf : openF a = 0) (w : World) :
    Calls Tryz.prog 22 #[.int .i64 a] w fun e w' => e = .returned (.agg (real (decide (a < 0)) 0 0 1)) ∧ w' = (w.alloc (.cells (real (decide (a < 0)) 0 0 1) 43)).alloc (.cells (real (decide (a < 0)) 0 0 1) 43) := by
  have h1 := and_K a
  have h2 := and_F a
  rw [hk] at h1
  rw [hf] at h2
  clear hk hf
  go_enter Tryz.func22, Tryz.ntmps22
  go_wp2
  exact bodyPost_ret (v := .agg (real (decide (a < 0)) 0 0 1)) (results_cell_row rfl _ _ w.heap.size 43 _ (0, 0) _ rfl (heap_alloc2_old w _ _) Tryz.underlying43 rfl (by kernel_rfl)) rfl ⟨rfl, rfl⟩
theorem open_sub (a : Int) (hk : openK a = 0) (w : World) :
    Calls Tryz.prog 22 #[.int .i64 a] w fun e w' => e = .returned (.agg (real (decide (a < 0)) (openF a) (-1074) 0)) ∧ w' = (w.alloc (.cells (real (decide (a < 0)) (openF a) (-1074) 0) 43)).alloc (.cells (real (decide (a < 0)) (openF a) (-1074) 0) 43) := by
  have h1 := and_K a
  have h2 := and_F a
  rw [hk] at h1
  clear hk
  go_enter Tryz.func22, Tryz.ntmps22
  go_wp2
  exact bodyPost_ret (v := .agg (real (decide (a < 0)) (openF a) (-1074) 0)) (results_cell_row rfl _ _ w.heap.size 43 _ (0, 0) _ rfl (heap_alloc2_old w _ _) Tryz.underlying43 rfl (by kernel_rfl)) rfl ⟨rfl, rfl⟩
theorem open_nor (a : Int) (hk : (openK a == 2047) = false) (hk0 : (openK a == 0) = false) (b1 : 0 ≤ openK a) (b2 : openK a < 2048) (b3 : 0 ≤ openF a) (b4 : openF a < 4503599627370496) (w : World) :
    Calls Tryz.prog 22 #[.int .i64 a] w fun e w' => e = .returned (.agg (real (decide (a < 0)) (openF a + 4503599627370496) (openK a - 1075) 0)) ∧ w' = (w.alloc (.cells (real (decide (a < 0)) (openF a + 4503599627370496) (openK a - 1075) 0) 43)).alloc (.cells (real (decide (a < 0)) (openF a + 4503599627370496) (openK a - 1075) 0) 43) := by
  have h1 := and_K a
  have h2 := and_F a
  go_enter Tryz.func22, Tryz.ntmps22
  go_wp2
  exact bodyPost_ret (v := .agg (real (decide (a < 0)) (openF a + 4503599627370496) (openK a - 1075) 0)) (results_cell_row rfl _ _ w.heap.size 43 _ (0, 0) _ rfl (heap_alloc2_old w _ _) Tryz.underlying43 rfl (by kernel_rfl)) rfl ⟨rfl, rfl⟩

def openM (a : Int) : Int := if openK a = 2047 then 0 else if openK a = 0 then openF a else openF a + 4503599627370496
def openE (a : Int) : Int := if openK a = 2047 then 0 else if openK a = 0 then -1074 else openK a - 1075
def openC (a : Int) : Int := if openK a = 2047 then (if openF a = 0 then 1 else 2) else 0
def realOf (a : Int) : Array Value := real (decide (a < 0)) (openM a) (openE a) (openC a)

theorem open_calls (a : Int) (w : World) :
    Calls Tryz.prog 22 #[.int .i64 a] w fun e w' => e = .returned (.agg (realOf a)) ∧ w' = (w.alloc (.cells (realOf a) 43)).alloc (.cells (realOf a) 43) := by
  unfold realOf openM openE openC
  by_cases hk : openK a = 2047
  · by_cases hf : openF a = 0
    · simp only [if_pos hk, if_pos hf]; exact open_inf a hk hf w
    · simp only [if_pos hk, if_neg hf]; exact open_nan a hk (by simpa using hf) w
  · by_cases h0 : openK a = 0
    · simp only [if_neg hk, if_pos h0]; exact open_sub a h0 w
    · simp only [if_neg hk, if_neg h0]
      exact open_nor a (by simpa using hk) (by simpa using h0) (by unfold openK; omega) (by unfold openK; omega) (by unfold openF; omega) (by unfold openF; omega) w

/-! What the parts say of the word. -/
theorem rung_parts (a : Int) : (rung a : Int) = openK a * 4503599627370496 + openF a := by unfold rung openK openF; omega
theorem class_no (a : Int) : openC a = 2 ↔ isNo a := by
  have := rung_parts a
  have h1 : 0 ≤ openK a ∧ openK a < 2048 := by unfold openK; omega
  have h2 : 0 ≤ openF a ∧ openF a < 4503599627370496 := by unfold openF; omega
  unfold openC isNo
  split
  · split <;> omega
  · omega
theorem zero_parts (a : Int) : (openC a = 0 ∧ openM a = 0) ↔ rung a = 0 := by
  have := rung_parts a
  have h1 : 0 ≤ openK a ∧ openK a < 2048 := by unfold openK; omega
  have h2 : 0 ≤ openF a ∧ openF a < 4503599627370496 := by unfold openF; omega
  unfold openC openM
  split
  · split <;> omega
  · split <;> omega
theorem key_neg (a : Int) (h : a < 0) : wrap64 (-(bits .and .i64 a 9223372036854775807)) = key a := by
  have e : bits .and .i64 a 9223372036854775807 = a % 9223372036854775808 := and_mask a 63 (by decide)
  have hr := rung_lt a
  rw [e]; unfold key sg rung wrap64; simp [h]; omega
theorem key_pos (a : Int) (h : ¬ a < 0) : bits .and .i64 a 9223372036854775807 = key a := by
  have e : bits .and .i64 a 9223372036854775807 = a % 9223372036854775808 := and_mask a 63 (by decide)
  rw [e]; unfold key sg rung; simp [h]; omega
end Go.Proofs.YtcencddbdidjjaaGreatDoor
