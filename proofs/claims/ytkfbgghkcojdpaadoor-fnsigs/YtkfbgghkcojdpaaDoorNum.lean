/- Plain facts on numbers of 32 and 64 bits: wraps, masks, shifts. -/
import Derived.WalkKit
import Derived.ProofKit
namespace Go.Proofs.YtkfbgghkcojdpaaDoor
open Go.ChangeShapes Go.WideShapes Go.ChangeAt Go.RowKit

theorem wrap_i64 (n : Int) : IntKind.i64.wrap n = wrap64 n := by
  simp only [IntKind.wrap, IntKind.bits, IntKind.signed, wrap64]
  simp
  split <;> omega
theorem wrap64_id (n : Int) (h1 : -9223372036854775808 ≤ n) (h2 : n < 9223372036854775808) : wrap64 n = n := by
  unfold wrap64; omega
theorem wrap64_in (n : Int) : -9223372036854775808 ≤ wrap64 n ∧ wrap64 n < 9223372036854775808 := by
  unfold wrap64; omega
theorem wrap32_in (n : Int) : -2147483648 ≤ wrap32 n ∧ wrap32 n < 2147483648 := by
  unfold wrap32; omega

/-- 'n & (2^k - 1)' of an int64 is the remainder by 2^k. -/
theorem and_mask (n : Int) (k : Nat) (hk : k < 64) : bits .and .i64 n (2 ^ k - 1) = n % 2 ^ k := by
  have hp : (2 : Nat) ^ k ≤ 2 ^ 63 := Nat.pow_le_pow_right (by decide) (by omega)
  have h1 : 0 < (2 : Nat) ^ k := Nat.pow_pos (by decide)
  have e2 : (BitVec.ofInt 64 ((2 : Int) ^ k - 1)).toNat = 2 ^ k - 1 := by
    have : ((2 : Int) ^ k - 1) = ((2 ^ k - 1 : Nat) : Int) := by
      rw [Int.ofNat_sub h1]; simp
    rw [this, BitVec.ofInt_natCast, BitVec.toNat_ofNat]
    apply Nat.mod_eq_of_lt; omega
  show IntKind.i64.wrap ((BitVec.ofInt 64 n &&& BitVec.ofInt 64 ((2 : Int) ^ k - 1)).toNat) = _
  rw [wrap_i64, BitVec.toNat_and, e2, Nat.and_two_pow_sub_one_eq_mod, BitVec.toNat_ofInt]
  have hd : ((2 ^ k : Nat) : Int) ∣ ((2 ^ 64 : Nat) : Int) := by
    refine Int.natCast_dvd_natCast.2 (Nat.pow_dvd_pow 2 (by omega))
  have e3 : (((n % (2 ^ 64 : Nat)).toNat % 2 ^ k : Nat) : Int) = n % 2 ^ k := by
    have h0 : 0 ≤ n % ((2 ^ 64 : Nat) : Int) := Int.emod_nonneg _ (by decide)
    rw [Int.natCast_emod, Int.toNat_of_nonneg h0, Int.emod_emod_of_dvd _ hd]
    simp
  rw [e3]
  have hb : n % 2 ^ k < 2 ^ k := Int.emod_lt_of_pos _ (by exact_mod_cast h1)
  have hb0 : 0 ≤ n % 2 ^ k := Int.emod_nonneg _ (by have : (0 : Int) < 2 ^ k := by exact_mod_cast h1
                                                    omega)
  have hp' : (2 : Int) ^ k ≤ 2 ^ 63 := by exact_mod_cast hp
  exact wrap64_id _ (by omega) (by omega)

theorem and63 (n : Int) : bits .and .i64 n 63 = n % 64 := and_mask n 6 (by decide)
theorem and31 (n : Int) : bits .and .i64 n 31 = n % 32 := and_mask n 5 (by decide)
theorem and32 (n : Int) : bits .and .i64 n 4294967295 = n % 4294967296 := and_mask n 32 (by decide)

def shl64 (a b : Int) : Int := wrap64 (a * 2 ^ (b % 64).toNat)
def shr64 (a b : Int) : Int := a.fdiv (2 ^ (b % 64).toNat)
def ushr64 (a b : Int) : Int := wrap64 ((a % 18446744073709551616).fdiv (2 ^ (b % 64).toNat))

theorem shift_shl (a b : Int) : Op.shift .shl .i64 a .i64 (bits .and .i64 b 63) = pure (.int .i64 (shl64 a b)) := by
  have h0 : ¬ b % 64 < 0 := by omega
  have h1 : min (b % 64).toNat 64 = (b % 64).toNat := by omega
  simp only [Op.shift, and63, if_neg h0, IntKind.bits, h1, wrap_i64, shl64]
theorem shift_shr (a b : Int) : Op.shift .shr .i64 a .i64 (bits .and .i64 b 63) = pure (.int .i64 (shr64 a b)) := by
  have h0 : ¬ b % 64 < 0 := by omega
  have h1 : min (b % 64).toNat 64 = (b % 64).toNat := by omega
  simp only [Op.shift, and63, if_neg h0, IntKind.bits, h1, shr64]
theorem shift_ushr (a b : Int) : Op.shift .shr .u64 (IntKind.u64.wrap a) .i64 (bits .and .i64 b 63) = pure (.int .u64 ((IntKind.u64.wrap a).fdiv (2 ^ (b % 64).toNat))) := by
  have h0 : ¬ b % 64 < 0 := by omega
  have h1 : min (b % 64).toNat 64 = (b % 64).toNat := by omega
  simp only [Op.shift, and63, if_neg h0, IntKind.bits, h1]
theorem u64_small (n : Int) (h0 : 0 ≤ n) (h1 : n < 18446744073709551616) : IntKind.u64.wrap n = n := by
  simp only [IntKind.wrap, IntKind.bits, IntKind.signed]
  simp
  omega
theorem shift_shl_u (a b : Int) : Op.shift .shl .i64 a .u64 (IntKind.u64.wrap (bits .and .i64 b 63)) = pure (.int .i64 (shl64 a b)) := by
  have h0 : ¬ b % 64 < 0 := by omega
  have h1 : min (b % 64).toNat 64 = (b % 64).toNat := by omega
  simp only [Op.shift, and63, u64_small _ (by omega : 0 ≤ b % 64) (by omega : b % 64 < 18446744073709551616), if_neg h0, IntKind.bits, h1, wrap_i64, shl64]
theorem shift_shr_u (a b : Int) : Op.shift .shr .i64 a .u64 (IntKind.u64.wrap (bits .and .i64 b 63)) = pure (.int .i64 (shr64 a b)) := by
  have h0 : ¬ b % 64 < 0 := by omega
  have h1 : min (b % 64).toNat 64 = (b % 64).toNat := by omega
  simp only [Op.shift, and63, u64_small _ (by omega : 0 ≤ b % 64) (by omega : b % 64 < 18446744073709551616), if_neg h0, IntKind.bits, h1, shr64]
theorem shift_ushr_u (a b : Int) : Op.shift .shr .u64 (IntKind.u64.wrap a) .u64 (IntKind.u64.wrap (bits .and .i64 b 63)) = pure (.int .u64 ((IntKind.u64.wrap a).fdiv (2 ^ (b % 64).toNat))) := by
  have h0 : ¬ b % 64 < 0 := by omega
  have h1 : min (b % 64).toNat 64 = (b % 64).toNat := by omega
  simp only [Op.shift, and63, u64_small _ (by omega : 0 ≤ b % 64) (by omega : b % 64 < 18446744073709551616), if_neg h0, IntKind.bits, h1]

theorem wrap64_sub (x y : Int) : wrap64 (x - wrap64 y) = wrap64 (x - y) := by unfold wrap64; omega
theorem wrap64_add (x y : Int) : wrap64 (wrap64 x + y) = wrap64 (x + y) := by unfold wrap64; omega
theorem wrap64_mul (x y : Int) : wrap64 (wrap64 x * y) = wrap64 (x * y) := by
  have e : wrap64 x = x - (x + 9223372036854775808) / 18446744073709551616 * 18446744073709551616 := by unfold wrap64; omega
  have e2 : wrap64 x * y = x * y - 18446744073709551616 * ((x + 9223372036854775808) / 18446744073709551616 * y) := by
    rw [e, Int.sub_mul]
    have : (x + 9223372036854775808) / 18446744073709551616 * 18446744073709551616 * y = 18446744073709551616 * ((x + 9223372036854775808) / 18446744073709551616 * y) := by ac_rfl
    rw [this]
  rw [e2]; unfold wrap64; omega

theorem sub_div_mul (a b : Int) (h1 : -9223372036854775808 ≤ a) (h2 : a < 9223372036854775808) : wrap64 (a - wrap64 (wrap64 (a.tdiv b) * b)) = a.tmod b := by
  rw [wrap64_sub, ← wrap64_sub, wrap64_mul, wrap64_sub]
  have e : a - a.tdiv b * b = a.tmod b := by
    have := Int.tmod_add_mul_tdiv a b
    rw [Int.mul_comm] at this
    omega
  rw [e]
  have ha : (a.tmod b).natAbs ≤ a.natAbs := by
    rw [Int.natAbs_tmod]; exact Nat.mod_le _ _
  have hs : 0 ≤ a → 0 ≤ a.tmod b := fun h => Int.tmod_nonneg b h
  have hn : a < 0 → a.tmod b ≤ 0 := fun h => by
    have := Int.tmod_nonneg b (by omega : 0 ≤ -a)
    rw [Int.neg_tmod] at this
    omega
  exact wrap64_id _ (by omega) (by omega)
end Go.Proofs.YtkfbgghkcojdpaaDoor
