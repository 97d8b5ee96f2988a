/- Plain facts on whole numbers of 32 and 64 bits: sums, products and bits as the laws ask them. -/
import Derived.Test.YtgofchcbeiiieaaNum
namespace Go.Proofs.Ytgofchcbeiiieaa
open Go.RowKit

theorem wrap64_toNat (v : BitVec 64) : IntKind.i64.wrap (v.toNat : Int) = v.toInt := by
  rw [wrap_i64, BitVec.toInt_eq_toNat_cond]
  have := v.isLt
  unfold wrap64
  split <;> omega
theorem bits_xor (x y : Int) : bits .xor .i64 x y = (BitVec.ofInt 64 x ^^^ BitVec.ofInt 64 y).toInt := wrap64_toNat _
theorem bits_and (x y : Int) : bits .and .i64 x y = (BitVec.ofInt 64 x &&& BitVec.ofInt 64 y).toInt := wrap64_toNat _
theorem bits_or (x y : Int) : bits .or .i64 x y = (BitVec.ofInt 64 x ||| BitVec.ofInt 64 y).toInt := wrap64_toNat _
theorem toInt_ofInt64 (x : Int) : (BitVec.ofInt 64 x).toInt = wrap64 x := by
  rw [BitVec.toInt_ofInt]; unfold Int.bmod wrap64; dsimp only; split <;> omega
theorem toInt_ofInt32 (x : Int) : (BitVec.ofInt 32 x).toInt = wrap32 x := by
  rw [BitVec.toInt_ofInt]; unfold Int.bmod wrap32; dsimp only; split <;> omega

theorem xor_xor64 (x y : Int) (h1 : -9223372036854775808 ≤ x) (h2 : x < 9223372036854775808) : bits .xor .i64 (bits .xor .i64 x y) y = x := by
  rw [bits_xor, bits_xor, BitVec.ofInt_toInt, BitVec.xor_assoc, BitVec.xor_self, BitVec.xor_zero, toInt_ofInt64, wrap64_id x h1 h2]

theorem wrap32_toInt (v : BitVec 64) : wrap32 v.toInt = (v.setWidth 32).toInt := by
  rw [BitVec.toInt_setWidth, BitVec.toInt_eq_toNat_cond]
  have := v.isLt
  unfold wrap32 Int.bmod
  dsimp only
  split <;> split <;> omega
theorem setWidth_ofInt (x : Int) : (BitVec.ofInt 64 x).setWidth 32 = BitVec.ofInt 32 x := by
  apply BitVec.eq_of_toNat_eq
  rw [BitVec.toNat_setWidth, BitVec.toNat_ofInt, BitVec.toNat_ofInt]
  omega
theorem wrap32_xor (x y : Int) : wrap32 (bits .xor .i64 x y) = (BitVec.ofInt 32 x ^^^ BitVec.ofInt 32 y).toInt := by
  rw [bits_xor, wrap32_toInt, BitVec.setWidth_xor, setWidth_ofInt, setWidth_ofInt]
theorem wrap32_and (x y : Int) : wrap32 (bits .and .i64 x y) = (BitVec.ofInt 32 x &&& BitVec.ofInt 32 y).toInt := by
  rw [bits_and, wrap32_toInt, BitVec.setWidth_and, setWidth_ofInt, setWidth_ofInt]
theorem wrap32_or (x y : Int) : wrap32 (bits .or .i64 x y) = (BitVec.ofInt 32 x ||| BitVec.ofInt 32 y).toInt := by
  rw [bits_or, wrap32_toInt, BitVec.setWidth_or, setWidth_ofInt, setWidth_ofInt]

theorem wrap32_idem (x : Int) : wrap32 (wrap32 x) = wrap32 x := by unfold wrap32; omega
theorem wrap32_64 (x : Int) : wrap32 (wrap64 x) = wrap32 x := by unfold wrap32 wrap64; omega
theorem ofInt_wrap32 (x : Int) : BitVec.ofInt 32 (wrap32 x) = BitVec.ofInt 32 x := by
  apply BitVec.eq_of_toNat_eq
  rw [BitVec.toNat_ofInt, BitVec.toNat_ofInt]
  unfold wrap32; omega

theorem xor_xor32 (x y : Int) : wrap32 (bits .xor .i64 (wrap32 (wrap32 (bits .xor .i64 (wrap32 x) (wrap32 y)))) (wrap32 y)) = wrap32 x := by
  have e : wrap32 (bits .xor .i64 (wrap32 x) (wrap32 y)) = (BitVec.ofInt 32 x ^^^ BitVec.ofInt 32 y).toInt := by rw [wrap32_xor, ofInt_wrap32, ofInt_wrap32]
  rw [wrap32_idem, e, wrap32_xor, BitVec.ofInt_toInt, ofInt_wrap32, BitVec.xor_assoc, BitVec.xor_self, BitVec.xor_zero, toInt_ofInt32]

theorem nat_and_or : ∀ (n a b : Nat), a < 2 ^ n → b < 2 ^ n → (a &&& b) + (a ||| b) = a + b
  | 0, a, b, ha, hb => by
    have : a = 0 := by omega
    have : b = 0 := by omega
    subst a b; rfl
  | n + 1, a, b, ha, hb => by
    have ih := nat_and_or n (a / 2) (b / 2) (by rw [Nat.pow_succ] at ha; omega) (by rw [Nat.pow_succ] at hb; omega)
    have d1 : (a &&& b) / 2 = a / 2 &&& b / 2 := by simpa using Nat.and_div_two_pow (a := a) (b := b) (n := 1)
    have d2 : (a ||| b) / 2 = a / 2 ||| b / 2 := by simpa using Nat.or_div_two_pow (a := a) (b := b) (n := 1)
    have m1 : (a &&& b) % 2 = (a % 2) &&& (b % 2) := by simpa using Nat.and_mod_two_pow (a := a) (b := b) (n := 1)
    have m2 : (a ||| b) % 2 = (a % 2) ||| (b % 2) := by simpa using Nat.or_mod_two_pow (a := a) (b := b) (n := 1)
    rw [← d1, ← d2] at ih
    have hm : ((a % 2) &&& (b % 2)) + ((a % 2) ||| (b % 2)) = a % 2 + b % 2 := by
      have h1 : a % 2 = 0 ∨ a % 2 = 1 := by omega
      have h2 : b % 2 = 0 ∨ b % 2 = 1 := by omega
      rcases h1 with h1 | h1 <;> rcases h2 with h2 | h2 <;> rw [h1, h2] <;> rfl
    omega

theorem and_or32 (x y : Int) : wrap32 (wrap64 (wrap32 (bits .and .i64 x y) + wrap32 (bits .or .i64 x y))) = wrap32 (wrap64 (x + y)) := by
  rw [wrap32_64, wrap32_64, wrap32_and, wrap32_or]
  have hs := nat_and_or 32 (BitVec.ofInt 32 x).toNat (BitVec.ofInt 32 y).toNat (BitVec.isLt _) (BitVec.isLt _)
  rw [← BitVec.toNat_and, ← BitVec.toNat_or] at hs
  have ex := toInt_ofInt32 x
  have ey := toInt_ofInt32 y
  rw [BitVec.toInt_eq_toNat_cond] at ex ey ⊢
  rw [BitVec.toInt_eq_toNat_cond]
  unfold wrap32 at *
  split at ex <;> split at ey <;> split <;> split <;> omega

theorem shl_mod64 (x y : Int) : shl64 x (y % 64) = shl64 x y := by
  have e : y % 64 % 64 = y % 64 := by omega
  unfold shl64; rw [e]
theorem ushr_zero64 (x : Int) (h1 : -9223372036854775808 ≤ x) (h2 : x < 9223372036854775808) : ushr64 x 0 = x := by
  unfold ushr64
  simp
  unfold wrap64; omega
theorem add_sub64 (x y : Int) (h1 : -9223372036854775808 ≤ x) (h2 : x < 9223372036854775808) : wrap64 (wrap64 (x + y) - y) = x := by
  unfold wrap64; omega
theorem add_sub32 (x y : Int) : wrap32 (wrap64 (wrap32 (wrap32 (wrap64 (wrap32 x + wrap32 y))) - wrap32 y)) = wrap32 x := by
  unfold wrap32 wrap64; omega
theorem ushr_zero32 (x : Int) : wrap32 (ushr64 (wrap32 x % 4294967296) 0) = wrap32 x := by
  unfold ushr64
  simp
  unfold wrap64 wrap32; omega

theorem wrap32_mul (x y : Int) : wrap32 (wrap32 x * y) = wrap32 (x * y) := by
  have e : wrap32 x = x - (x + 2147483648) / 4294967296 * 4294967296 := by unfold wrap32; omega
  have e2 : wrap32 x * y = x * y - 4294967296 * ((x + 2147483648) / 4294967296 * y) := by
    rw [e, Int.sub_mul]
    have : (x + 2147483648) / 4294967296 * 4294967296 * y = 4294967296 * ((x + 2147483648) / 4294967296 * y) := by ac_rfl
    rw [this]
  rw [e2]; unfold wrap32; omega
theorem tdiv_tmod (x y : Int) : x.tdiv y * y + x.tmod y = x := by
  have := Int.tmod_add_mul_tdiv x y
  rw [Int.mul_comm] at this
  omega
theorem div_back64 (x y : Int) (h1 : -9223372036854775808 ≤ x) (h2 : x < 9223372036854775808) : wrap64 (wrap64 (wrap64 (x.tdiv y) * y) + x.tmod y) = x := by
  rw [wrap64_add, ← wrap64_add, wrap64_mul, wrap64_add, tdiv_tmod, wrap64_id x h1 h2]
theorem wrap32_add (x y : Int) : wrap32 (wrap32 x + wrap32 y) = wrap32 (x + y) := by unfold wrap32; omega
theorem div_back32 (x y : Int) : wrap32 (wrap64 (wrap32 (wrap32 (wrap64 (wrap32 (wrap32 (wrap64 ((wrap32 x).tdiv y))) * y))) + wrap32 (wrap32 ((wrap32 x).tmod y)))) = wrap32 x := by
  rw [wrap32_64, wrap32_idem, wrap32_64, wrap32_idem, wrap32_64, wrap32_mul, wrap32_idem, wrap32_add, tdiv_tmod, wrap32_idem]
end Go.Proofs.Ytgofchcbeiiieaa
